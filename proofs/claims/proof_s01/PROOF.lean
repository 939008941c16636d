import PyProof.Rows.All
import Wide.All
import OpenK.AllK
import Wide.FinOn
import PyProof.EqAt
import PyProof.EqKinds
import PyProof.TupleCall
import KE.BitLaws
import Open.SpecLaws
import KE.OsHead
import KE.OsGo
import KE.KSortKey
import PySem.Challenge.RW_stretchindex_s01_answers
import KE.KSortTupG
import KE.KDictSum
set_option Elab.async false
set_option linter.all false
set_option maxRecDepth 100000
set_option maxHeartbeats 2000000
section
namespace L2
open PySem PySem.Spec PyProof.Rows
abbrev Key := Sum Int Str
def keyIs : Key → Value → Bool
 | .inl k, v => Value.isInt k v
 | .inr x, v => Value.isStrOf x v
def keyH (w : World) : Key → Int
 | .inl k => hashInt k
 | .inr x => hashStr w x
theorem keyIs_shape : ∀ {k : Key} {v : Value}, keyIs k v = true → (∃ i t, k = Sum.inl i ∧ v = Value.int i t) ∨ (∃ x t, k = Sum.inr x ∧ v = Value.str x t)
 | .inl i, v, h => by
  obtain ⟨t, e⟩ := Value.isInt_shape (k := i) (v := v) h
  exact .inl ⟨i, t, rfl, e⟩
 | .inr x, v, h => by
  obtain ⟨t, e⟩ := Value.isStrOf_shape (x := x) (v := v) h
  exact .inr ⟨x, t, rfl, e⟩
theorem keyIs_int (i : Int) (t : Tok) : keyIs (.inl i) (.int i t) = true := by simp [keyIs, Value.isInt]
theorem keyIs_str (x : Str) (t : Tok) : keyIs (.inr x) (.str x t) = true := by simp [keyIs, Value.isStrOf]
theorem key_ll (a b : Int) : decide ((Sum.inl a : Key) = Sum.inl b) = (a == b) := by
 by_cases e : a = b
 ·subst e; simp
 ·have h : ¬ (Sum.inl a : Key) = Sum.inl b := fun q => e (Sum.inl.inj q)
  rw [decide_eq_false h]
  exact (beq_eq_false_iff_ne.mpr e).symm
theorem key_rr (a b : Str) : decide ((Sum.inr a : Key) = Sum.inr b) = decide (a = b) := by
 by_cases e : a = b
 ·subst e; simp
 ·have h : ¬ (Sum.inr a : Key) = Sum.inr b := fun q => e (Sum.inr.inj q)
  rw [decide_eq_false h, decide_eq_false e]
theorem key_lr (a : Int) (b : Str) : decide ((Sum.inl a : Key) = Sum.inr b) = false := decide_eq_false (fun q => nomatch q)
theorem key_rl (a : Str) (b : Int) : decide ((Sum.inr a : Key) = Sum.inl b) = false := decide_eq_false (fun q => nomatch q)
def mixKind (prog : Program) (w : World) : PySem.KeyKind prog w Key where
 is := keyIs
 hash := keyH w
 inj := fun v a b ha hb => by
  rcases keyIs_shape ha with ⟨i, t, rfl, rfl⟩ | ⟨x, t, rfl, rfl⟩
  ·rcases keyIs_shape hb with ⟨j, u, rfl, e⟩ | ⟨y, u, rfl, e⟩
   ·injection e with e1 _; rw [e1]
   ·exact nomatch e
  ·rcases keyIs_shape hb with ⟨j, u, rfl, e⟩ | ⟨y, u, rfl, e⟩
   ·exact nomatch e
   ·injection e with e1 _; rw [e1]
 byValue := fun k v h => by
  rcases keyIs_shape h with ⟨i, t, rfl, rfl⟩ | ⟨x, t, rfl, rfl⟩ <;> rfl
 pyHash := fun hv h => by
  rcases keyIs_shape hv with ⟨i, t, rfl, rfl⟩ | ⟨x, t, rfl, rfl⟩
  ·exact wpAny_pyHash_int h
  ·exact wpAny_pyHash_str h
 eqBool := fun hu hv h => by
  rcases keyIs_shape hu with ⟨i, t, rfl, rfl⟩ | ⟨x, t, rfl, rfl⟩
  ·rcases keyIs_shape hv with ⟨j, u, rfl, rfl⟩ | ⟨y, u, rfl, rfl⟩
   ·rw [key_ll] at h; exact wpAny_eqBool_int h
   ·rw [key_lr] at h; exact SeqAt.EqAt.int_str i t y u _ _ _ _ h
  ·rcases keyIs_shape hv with ⟨j, u, rfl, rfl⟩ | ⟨y, u, rfl, rfl⟩
   ·rw [key_rl] at h; exact SeqAt.EqAt.str_int x t j u _ _ _ _ h
   ·rw [key_rr] at h; exact wpAny_eqBool_str h
 «strs» := fun k x t v h => by
  rcases keyIs_shape h with ⟨i, u, rfl, e⟩ | ⟨y, u, rfl, e⟩
  ·exact nomatch e
  ·injection e with e1 _
   subst e1
   cases v <;> rfl
theorem mixKind_int (prog : Program) (w : World) (i : Int) (t : Tok) : (mixKind prog w).is (.inl i) (.int i t) = true := keyIs_int i t
theorem mixKind_str (prog : Program) (w : World) (x : Str) (t : Tok) : (mixKind prog w).is (.inr x) (.str x t) = true := keyIs_str x t
end L2
namespace L2
open PySem PySem.Spec PyProof.Rows
inductive V where
 | non | bl (b : Bool) | int (i : Int) | str (x : Str) | byt (b : Array UInt8) | flt (b : UInt64) | ref (a : Addr) | ty (n : String)
 deriving DecidableEq
def RelV : V → Value → Prop
 | .non, u => u = Value.none
 | .bl b, u => u = Value.bool b
 | .int i, u => ∃ t, u = Value.int i t
 | .str x, u => ∃ t, u = Value.str x t
 | .byt b, u => ∃ t, u = Value.bytes b t
 | .flt b, u => ∃ t, u = Value.float b t
 | .ref a, u => u = Value.ref a
 | .ty n, u => u = Value.type n
abbrev Vals : List V → List Value → Prop := Paired RelV
theorem Vals.length {xs : List V} {us : List Value} (r : Vals xs us) : xs.length = us.length := Paired.length r
theorem Vals.get : ∀ {xs : List V} {us : List Value} {i : Nat} {x : V}, Vals xs us → xs[i]? = some x → ∃ u, us[i]? = some u ∧ RelV x u
 | _, _, _, _, .nil, e => by simp at e
 | _, _, 0, _, .cons r _, e => by simp at e; subst e; exact ⟨_, rfl, r⟩
 | _, _, i + 1, x, .cons _ t, e => by
  obtain ⟨u, h1, h2⟩ := Vals.get (i := i) (x := x) t (by simpa using e)
  exact ⟨u, by simpa using h1, h2⟩
theorem Vals.append : ∀ {xs ys : List V} {us ws : List Value}, Vals xs us → Vals ys ws → Vals (xs ++ ys) (us ++ ws)
 | _, _, _, _, .nil, s => s
 | _, _, _, _, .cons r t, s => .cons r (Vals.append t s)
theorem Vals.take : ∀ {xs : List V} {us : List Value} (n : Nat), Vals xs us → Vals (xs.take n) (us.take n)
 | _, _, 0, _ => .nil
 | _, _, _ + 1, .nil => .nil
 | _, _, n + 1, .cons r t => .cons r (Vals.take n t)
theorem Vals.drop : ∀ {xs : List V} {us : List Value} (n : Nat), Vals xs us → Vals (xs.drop n) (us.drop n)
 | _, _, 0, r => r
 | _, _, _ + 1, .nil => .nil
 | _, _, n + 1, .cons _ t => Vals.drop n t
def RelO : Option V → Option Value → Prop
 | some v, some u => RelV v u
 | none, none => True
 | _, _ => False
def KV {κ : Type} : List (κ × V) → List (κ × Value) → Prop := Paired fun (p : κ × V) (q : κ × Value) => p.1 = q.1 ∧ RelV p.2 q.2
def kV : Key → V
 | .inl i => .int i
 | .inr x => .str x
inductive HO where
  | lst (xs : List V)
  | tup (xs : List V)
  | dK (kvs : List (Key × V)) | dT (kvs : List (List Key × V))
  | set (S : Int → Bool) (n : Nat)
  | ins (C dx : Addr) (fs : List (Str × V))
  | own (x : Addr)
  | xd (fs : List (Str × V))
  | met (f x : Addr)
  | rng (lo hi : Int)
  | frz (o : Obj) (u : HO)
  | tbl (ps : Array Value)
  | ext (φ : Heap → Prop)
abbrev Hp := Addr → Option HO
def upd (H : Hp) (a : Addr) (o : HO) : Hp := fun b => if b = a then some o else H b
theorem upd_same {H : Hp} {a : Addr} {o : HO} : upd H a o a = some o := by unfold upd; rw [if_pos rfl]
theorem upd_ne {H : Hp} {a b : Addr} {o : HO} (h : b ≠ a) : upd H a o b = H b := by unfold upd; rw [if_neg h]
theorem upd_upd {H : Hp} {a : Addr} {o u : HO} : upd (upd H a o) a u = upd H a u := by
 funext b; unfold upd; split <;> rfl
theorem ne_of {H : Hp} {a b : Addr} {o u : HO} (h : H a = some o) (h' : H b = some u) (d : o ≠ u) : a ≠ b := by
 intro e; subst e; rw [h] at h'; exact d (Option.some.inj h')
theorem ne_of_none {H : Hp} {a b : Addr} {o : HO} (h : H a = some o) (h' : H b = none) : a ≠ b := by
 intro e; subst e; rw [h] at h'; cases h'
section
variable (P : Program) (w : World)
def ObjOk (H : Hp) (h : Heap) (a : Addr) : HO → Prop
 | .lst xs => xs.length ≤ sizeLine ∧ ∃ (its : List Value) (n : Nat), Vals xs its ∧ h.get? a = some { cls := .type "list", data := .seq its.toArray n }
 | .tup xs => xs.length ≤ sizeLine ∧ ∃ its : List Value, Vals xs its ∧ IsTup h a its.toArray
 | .dK kvs => kvs.length ≤ sizeLine ∧ (a == sysModules) = false ∧ ∃ vs, KV kvs vs ∧ h.DictOf (mixKind P w) a vs
 | .dT kvs => kvs.length ≤ sizeLine ∧ (a == sysModules) = false ∧ ∃ xs : List (List Key × Addr × Value),
   Paired (fun (p : List Key × V) (q : List Key × Addr × Value) => p.1 = q.1 ∧ H q.2.1 = some (.tup (p.1.map kV)) ∧ RelV p.2 q.2.2) kvs xs ∧
   ∃ o es ep, h.get? a = some o ∧ o.ExactDict ∧ o.data = .dict es ep ∧ es.toList = xs.map (entryOfKey (tupleKind (mixKind P w))) ∧ (xs.map (·.1)).Nodup
 | .set S n => h.SetOf (intKind P w) a S n
 | .ins C dx fs => H dx = some (.own a) ∧ fs.length ≤ 1000 ∧ dx ≠ a ∧ h.get? a = some (PySem.W.instObj C dx) ∧
   ∃ mA, h.Ns1 dx mA ∧ (∀ f, RelO (fs.lookup f) (mA f)) ∧ PySem.Within mA (fs.map (·.1))
 | .own _ => ∃ o, h.get? a = some o
 | .xd fs => ∃ mA, h.Ns1 a mA ∧ ∀ f, RelO (fs.lookup f) (mA f)
 | .rng lo hi => ∃ t u v, h.get? a = some { cls := .type "range", data := .fields #[.int lo t, .int hi u, .int 1 v] }
 | .frz o u => h.get? a = some o ∧ ObjOk H h a u
 | .tbl ps => h.get? a = some { cls := .none, data := .fields ps }
 | .met f x => h.get? a = some (PySem.W.methodObj (.ref f) (.ref x))
 | .ext φ => φ h ∧ (∃ o, h.get? a = some o) ∧ ∀ h1 h2 : Heap, φ h1 → (∀ o, h1.get? a = some o → h2.get? a = some o) → φ h2
def HOk (H : Hp) (h : Heap) : Prop := ∀ a o, H a = some o → ObjOk P w H h a o
end
section
variable {P : Program} {w : World} {H H' : Hp} {h h' : Heap} {a : Addr} {o : HO}
theorem ObjOk.lt (x : ObjOk P w H h a o) : a < h.objs.size := by
 cases o with
 | lst xs => obtain ⟨_, _, _, _, e⟩ := x; exact Heap.lt_size e
 | tup xs => obtain ⟨_, _, _, p⟩ := x; exact p.lt
 | dK kvs => obtain ⟨_, _, _, _, o, _, _, e, _⟩ := x; exact Heap.lt_size e
 | dT kvs => obtain ⟨_, _, _, _, o, _, _, e, _⟩ := x; exact Heap.lt_size e
 | set S n => obtain ⟨o, _, _, _, e, _⟩ := x; exact Heap.lt_size e
 | ins C dx fs => obtain ⟨_, _, _, e, _⟩ := x; exact Heap.lt_size e
 | own y => obtain ⟨_, e⟩ := x; exact Heap.lt_size e
 | xd fs => obtain ⟨_, ⟨_, _, _, e, _⟩, _⟩ := x; exact Heap.lt_size e
 | rng lo hi => obtain ⟨_, _, _, e⟩ := x; exact Heap.lt_size e
 | frz ob u => obtain ⟨e, _⟩ := x; exact Heap.lt_size e
 | tbl ps => exact Heap.lt_size (show h.get? a = some _ from x)
 | met f y => exact Heap.lt_size (show h.get? a = some _ from x)
 | ext φ => obtain ⟨_, ⟨_, e⟩, _⟩ := x; exact Heap.lt_size e
theorem Paired.mapP {α β : Type} {F G : α → β → Prop} : ∀ {l₁ : List α} {l₂ : List β}, Paired F l₁ l₂ → (∀ a b, F a b → G a b) → Paired G l₁ l₂
 | _, _, .nil, _ => .nil
 | _, _, .cons r t, f => .cons (f _ _ r) (Paired.mapP t f)
theorem ObjOk.stay (x : ObjOk P w H h a o) (k : ∀ b u, (b = a ∨ H b = some (.own a)) → h.get? b = some u → h'.get? b = some u)
  (ho : ∀ b, H b = some (.own a) → H' b = some (.own a)) (ht : ∀ b xs, H b = some (.tup xs) → H' b = some (.tup xs)) : ObjOk P w H' h' a o := by
 induction o with
 | lst xs => obtain ⟨z, its, n, r, e⟩ := x; exact ⟨z, its, n, r, k _ _ (.inl rfl) e⟩
 | tup xs => obtain ⟨z, its, r, ob, e, c⟩ := x; exact ⟨z, its, r, ob, k _ _ (.inl rfl) e, c⟩
 | dK kvs => obtain ⟨z, y, vs, r, ob, es, ep, e, c⟩ := x; exact ⟨z, y, vs, r, ob, es, ep, k _ _ (.inl rfl) e, c⟩
 | dT kvs =>
  obtain ⟨z, y, xs, r, ob, es, ep, e, c⟩ := x
  exact ⟨z, y, xs, Paired.mapP r fun p q z => ⟨z.1, ht _ _ z.2.1, z.2.2⟩, ob, es, ep, k _ _ (.inl rfl) e, c⟩
 | set S n => obtain ⟨ob, es, ep, t, e, c⟩ := x; exact ⟨ob, es, ep, t, k _ _ (.inl rfl) e, c⟩
 | ins C dx fs =>
  obtain ⟨d, z, ne, e, mA, ⟨od, es, ep, e2, c⟩, r⟩ := x
  exact ⟨ho _ d, z, ne, k _ _ (.inl rfl) e, mA, ⟨od, es, ep, k _ _ (.inr d) e2, c⟩, r⟩
 | own y => obtain ⟨ob, e⟩ := x; exact ⟨ob, k _ _ (.inl rfl) e⟩
 | xd fs => obtain ⟨mA, ⟨od, es, ep, e, c⟩, r⟩ := x; exact ⟨mA, ⟨od, es, ep, k _ _ (.inl rfl) e, c⟩, r⟩
 | rng lo hi => obtain ⟨t, u, v, e⟩ := x; exact ⟨t, u, v, k _ _ (.inl rfl) e⟩
 | frz ob u ih => obtain ⟨e, q⟩ := x; exact ⟨k _ _ (.inl rfl) e, ih q⟩
 | tbl ps =>
  have e : h.get? a = some { cls := .none, data := .fields ps } := x
  show h'.get? a = some { cls := .none, data := .fields ps }
  exact k a _ (.inl rfl) e
 | met f y =>
  have e : h.get? a = some (PySem.W.methodObj (.ref f) (.ref y)) := x
  show h'.get? a = some (PySem.W.methodObj (.ref f) (.ref y))
  exact k a _ (.inl rfl) e
 | ext φ => obtain ⟨p, ⟨o, e⟩, st⟩ := x; exact ⟨st _ _ p fun o q => k _ _ (.inl rfl) q, ⟨o, k _ _ (.inl rfl) e⟩, st⟩
theorem HOk.lt (x : HOk P w H h) (e : H a = some o) : a < h.objs.size := (x a o e).lt
theorem HOk.fresh (x : HOk P w H h) (e : h.objs.size ≤ a) : H a = none := by
 cases q : H a with
 | none => rfl
 | some u => exact absurd (Nat.lt_of_lt_of_le (x.lt q) e) (Nat.lt_irrefl _)
theorem HOk.kept (x : HOk P w H h) (k : ∀ b u, h.get? b = some u → h'.get? b = some u) : HOk P w H h' := fun a o e =>
 (x a o e).stay (fun b u _ q => k b u q) (fun _ q => q) fun _ _ q => q
theorem HOk.laid (x : HOk P w H h) (k : ∀ b u, h.get? b = some u → h'.get? b = some u) (hp : h.objs.size ≤ a) (new : ObjOk P w (upd H a o) h' a o) : HOk P w (upd H a o) h' := fun b u e => by
 have hn := x.fresh hp
 by_cases hb : b = a
 ·subst hb; rw [upd_same] at e; cases e; exact new
 ·rw [upd_ne hb] at e
  exact (x b u e).stay (fun c v _ q => k c v q) (fun c q => by rw [upd_ne (ne_of_none q hn)]; exact q) fun c xs q => by rw [upd_ne (ne_of_none q hn)]; exact q
end
def Rd (H : Hp) (a : Addr) (u : HO) : Prop := H a = some u ∨ ∃ o, H a = some (.frz o u)
theorem Rd.ok {P : Program} {w : World} {H : Hp} {h : Heap} {a : Addr} {u : HO} (r : Rd H a u) (x : HOk P w H h) : ObjOk P w H h a u := by
 rcases r with r | ⟨o, r⟩
 ·exact x a u r
 ·obtain ⟨_, q⟩ := x a _ r
  exact q
def Mut : Option HO → Prop
 | some (.lst _) => True
 | some (.dK _) => True
 | some (.dT _) => True
 | some (.set _ _) => True
 | some (.ins _ _ _) => True
 | some (.ext _) => True
 | _ => False
section
variable {P : Program} {w : World} {H : Hp} {h h' : Heap} {x e : Addr} {o' : HO}
theorem HOk.write (ok : HOk P w H h) (mu : Mut (H x)) (he : e = x ∨ H e = some (.own x)) (k : ∀ b u, b ≠ e → h.get? b = some u → h'.get? b = some u) (heo : ∃ u, h'.get? e = some u)
  (new : ObjOk P w (upd H x o') h' x o') : HOk P w (upd H x o') h' := fun b u q => by
 have nown : ∀ c y, H c = some (.own y) → c ≠ x := fun c y r z => by subst z; rw [r] at mu; exact mu
 have ntup : ∀ c xs, H c = some (.tup xs) → c ≠ x := fun c xs r z => by subst z; rw [r] at mu; exact mu
 by_cases hb : b = x
 ·subst hb; rw [upd_same] at q; cases q; exact new
 ·rw [upd_ne hb] at q
  by_cases hbe : b = e
  ·have q' : H b = some (.own x) := by
    rcases he with z | z
    ·exact absurd (hbe.trans z) hb
    ·rw [hbe]; exact z
   rw [q] at q'; cases q'
   obtain ⟨v, hv⟩ := heo
   exact ⟨v, by rw [hbe]; exact hv⟩
  ·refine (ok b u q).stay (fun c v hc r => k c v ?_ r) (fun c r => by rw [upd_ne (nown c b r)]; exact r) fun c xs r => by rw [upd_ne (ntup c xs r)]; exact r
   rcases hc with rfl | hc
   ·exact hbe
   ·rintro rfl
    rcases he with z | z
    ·exact nown c b hc z
    ·rw [hc] at z; cases z; exact hb rfl
end
structure Un (fs ex : List Addr) (H H' : Hp) (h h' : Heap) : Prop where
 keep : ∀ b o, h.get? b = some o → H b = none → b ∉ fs → b ∉ ex → h'.get? b = some o
 slot : ∀ b o, h.get? b = some o → H b = none → b ∈ fs → b ∉ ex → ∃ sl, h'.get? b = some { o with slots := sl }
 free : ∀ b o, h.get? b = some o → H b = none → b ∉ ex → H' b = none
 there : ∀ b o, h.get? b = some o → b ∉ ex → ∃ o', h'.get? b = some o'
 tups : ∀ b xs, H b = some (.tup xs) → H' b = some (.tup xs)
 frzs : ∀ b o u, H b = some (.frz o u) → H' b = some (.frz o u)
 tbls : ∀ b ps, H b = some (.tbl ps) → ∃ more, H' b = some (.tbl (ps ++ more))
section
variable {fs fs' ex ex' : List Addr} {H H1 H2 : Hp} {h h1 h2 h' : Heap} {a x e : Addr} {o : HO}
theorem Un.any (u : Un fs ex H H1 h h1) {b : Addr} {ob : Obj} (q : h.get? b = some ob) (n : H b = none) (hx : b ∉ ex) : ∃ sl, h1.get? b = some { ob with slots := sl } := by
 by_cases hb : b ∈ fs
 ·exact u.slot b ob q n hb hx
 ·exact ⟨ob.slots, u.keep b ob q n hb hx⟩
theorem Un.kept (k : ∀ b u, h.get? b = some u → h'.get? b = some u) : Un fs ex H H h h' :=
 ⟨fun b ob q _ _ _ => k b ob q, fun b ob q _ _ _ => ⟨ob.slots, k b ob q⟩, fun _ _ _ n _ => n, fun b ob q _ => ⟨ob, k b ob q⟩, fun _ _ q => q, fun _ _ _ q => q, fun _ ps q => ⟨#[], by rw [q]; simp⟩⟩
theorem Un.refl : Un fs ex H H h h := Un.kept fun _ _ q => q
theorem Un.laid (k : ∀ b u, h.get? b = some u → h'.get? b = some u) (hp : h.objs.size ≤ a) (hn : H a = none) : Un fs ex H (upd H a o) h h' where
 keep := fun b u q _ _ _ => k b u q
 slot := fun b u q _ _ _ => ⟨u.slots, k b u q⟩
 free := fun b u q n _ => by rw [upd_ne (Nat.ne_of_lt (Nat.lt_of_lt_of_le (Heap.lt_size q) hp))]; exact n
 there := fun b u q _ => ⟨u, k b u q⟩
 tups := fun b xs q => by rw [upd_ne (ne_of_none q hn)]; exact q
 frzs := fun b u xs q => by rw [upd_ne (ne_of_none q hn)]; exact q
 tbls := fun b ps q => ⟨#[], by rw [upd_ne (ne_of_none q hn), q]; simp⟩
theorem Un.write (mu : Mut (H x)) (he : e = x ∨ H e = some (.own x)) (k : ∀ b u, b ≠ e → h.get? b = some u → h'.get? b = some u) (heo : ∃ u, h'.get? e = some u) : Un fs ex H (upd H x o) h h' := by
 have hx : ∀ b, H b = none → b ≠ x := fun b n z => by subst z; rw [n] at mu; exact mu
 have hb : ∀ b, H b = none → b ≠ e := fun b n z => by
  subst z
  rcases he with r | r
  ·exact hx b n r
  ·rw [n] at r; cases r
 have hm : ∀ b u, H b = some u → ¬ Mut (some u) → b ≠ x := fun b u q nm z => by subst z; rw [q] at mu; exact nm mu
 refine ⟨fun b u q n _ _ => k b u (hb b n) q, fun b u q n _ _ => ⟨u.slots, k b u (hb b n) q⟩, fun b u q n _ => by rw [upd_ne (hx b n)]; exact n, fun b u q _ => ?_,
  fun b xs q => by rw [upd_ne (hm b _ q fun z => z)]; exact q, fun b u xs q => by rw [upd_ne (hm b _ q fun z => z)]; exact q, fun b ps q => ⟨#[], by rw [upd_ne (hm b _ q fun z => z), q]; simp⟩⟩
 by_cases hbe : b = e
 ·subst hbe; exact heo
 ·exact ⟨u, k b u hbe q⟩
end
def trk (h : Heap) (H : Hp) : List Addr := (List.range h.objs.size).filter fun a => (H a).isSome
def hidT (h : Heap) (H : Hp) : Heap := PySem.W.hideAll h (trk h H)
theorem hidT_size (h : Heap) (H : Hp) : (hidT h H).objs.size = h.objs.size := PySem.W.hideAll_size _ _
theorem hidT_get {h : Heap} {H : Hp} {b : Addr} {o : Obj} (e : h.get? b = some o) (n : H b = none) : (hidT h H).get? b = some o :=
 PySem.W.hideAll_get _ e fun hm => by
  have q : (H b).isSome = true := (List.mem_filter.mp hm).2
  rw [n] at q; simp at q
theorem of_hidT {h : Heap} {H : Hp} {b : Addr} {o : Obj} (e : (hidT h H).get? b = some o) : h.get? b = some o ∧ H b = none := by
 have e' : h.get? b = some o := PySem.W.of_hideAll (trk h H) e
 refine ⟨e', ?_⟩
 cases q : H b with
 | none => rfl
 | some x =>
  have hm : b ∈ trk h H := List.mem_filter.mpr ⟨List.mem_range.mpr (Heap.lt_size e'), by simp [q]⟩
  have z : (hidT h H).get? b = none := PySem.W.hideAll_none (trk h H) hm
  rw [z] at e; cases e
end L2
namespace L2
open PySem PySem.Spec PyProof.Rows
structure Mod (K : PySem.W.Frag) (mg : Str → Option Value) (base : Heap) : Prop where
 kin : K.In base
 glob : base.Ns mainGlobals mg
 blt : ∃ mb, base.Ns builtinsNs mb ∧ ∀ x : Str, x ≠ "__name__" → mb x = bootBuiltins x
 nolimit : base.NoLimit
structure Cx where
 prog : Program
 w : World
 K : PySem.W.Frag
 mg : Str → Option Value
 base : Heap
 A : Around
 N : List Str
 s_0 : Shared
 H_0 : Hp
 env : Env
 outer : List Env
 stack : List Env
 ex : List Addr
 fn : Str → Bool
 calm : Bool
 pn : List (Addr × Obj)
 xe : Value → Shared → Prop
def frs (l : List Env) : List Addr := l.filterMap (·.frame)
abbrev Cx.fs (X : Cx) : List Addr := frs X.outer
def Vis (sc : Scope) (x : Str) : Prop := sc.names.lookup x = some .local ∨ sc.names.lookup x = some .cell ∨ sc.names.lookup x = some .free
def Loc (sc : Scope) (x : Str) : Prop := sc.names.lookup x = some .local ∨ sc.names.lookup x = some .cell
def Look (env : Env) (h : Heap) (m : Str → Option Value) (x : Str) (u : Value) : Prop :=
 (env.kindOf x = some .local ∧ m x = some u) ∨ ((env.kindOf x = some .cell ∨ env.kindOf x = some .free) ∧ ∃ c, env.cells.lookup x = some c ∧ h.IsCell c (some u))
structure Cx.Ok (X : Cx) : Prop where
 mod : Mod X.K X.mg X.base
 kind : X.env.scope.kind = .function
 glob : X.env.globals = mainGlobals
 blt : X.env.builtins = builtinsNs
 above : X.s_0.heap.objs.size ≤ X.env.locals
 inj : ∀ x y c, X.env.cells.lookup x = some c → X.env.cells.lookup y = some c → x = y
 has : ∀ x, (X.env.kindOf x = some .cell ∨ X.env.kindOf x = some .free) → ∃ c, X.env.cells.lookup x = some c
 cab : ∀ x c, X.fn x = true → X.env.cells.lookup x = some c → X.s_0.heap.objs.size ≤ c
 hd : X.calm = true → X.A.handled = none
 frames : X.A.frames = some X.stack
 stk : X.stack = X.outer ∨ (X.stack = X.env :: X.outer ∧ X.env.frame = some X.env.locals)
 exf : ∀ b ∈ X.ex, b ≠ X.env.locals ∧ ∀ x c, X.env.cells.lookup x = some c → c ≠ b
 bs : ∀ b o, X.base.get? b = some o → X.s_0.heap.get? b = some o ∧ X.H_0 b = none
 bsz : X.base.objs.size ≤ X.s_0.heap.objs.size
 noex : ∀ b o, X.base.get? b = some o → b ∉ X.ex
 exfs : ∀ b ∈ X.ex, b ∉ X.fs
 funs : X.s_0.heap.FunFrames X.base X.outer
 frf : ∀ b ∈ X.fs, X.H_0 b = none
structure Inv (X : Cx) (pins : List (Addr × Obj)) (σ : List (Option V)) (H : Hp) (s : Shared) : Prop where
 ok : X.Ok
 os : s.os = X.s_0.os
 bare : AllBare s.gens
 base : Un X.fs X.ex X.H_0 H X.s_0.heap s.heap
 loc : ∃ m, s.heap.Ns X.env.locals m ∧ ∀ (i : Nat) (x : Str) (v : V), X.N[i]? = some x → σ[i]? = some (some v) → Vis X.env.scope x → ∃ u, RelV v u ∧ Look X.env s.heap m x u
 cell : ∀ x c, X.env.cells.lookup x = some c → ∃ v, s.heap.IsCell c v
 free : H X.env.locals = none
 freeC : ∀ x c, X.env.cells.lookup x = some c → H c = none
 pin : ∀ p ∈ X.pn ++ pins, s.heap.get? p.1 = some p.2 ∧ H p.1 = none ∧ p.1 ≠ X.env.locals ∧ p.1 ∉ X.fs ∧ ∀ v, p.2.data ≠ .cell v
 hok : HOk X.prog X.w H s.heap
 len : σ.length = X.N.length
section
variable {X : Cx} {pins : List (Addr × Obj)} {σ : List (Option V)} {H H' : Hp} {s : Shared} {h' : Heap}
theorem Cx.Ok.nofr (ok : X.Ok) {b : Addr} {o : Obj} (e : X.base.get? b = some o) : b ∉ X.fs := fun hb => by
 have := (ok.funs.mem hb).1
 rw [e] at this; cases this
theorem Inv.bs (I : Inv X pins σ H s) : ∀ b o, X.base.get? b = some o → s.heap.get? b = some o ∧ H b = none := fun b o e =>
 ⟨I.base.keep b o (I.ok.bs b o e).1 (I.ok.bs b o e).2 (I.ok.nofr e) (I.ok.noex b o e), I.base.free b o (I.ok.bs b o e).1 (I.ok.bs b o e).2 (I.ok.noex b o e)⟩
theorem Inv.bk (I : Inv X pins σ H s) : ∀ b o, X.base.get? b = some o → s.heap.get? b = some o := fun b o e => (I.bs b o e).1
theorem Inv.mod (I : Inv X pins σ H s) : Mod X.K X.mg X.base := I.ok.mod
theorem Inv.kIn (I : Inv X pins σ H s) : X.K.In s.heap := I.ok.mod.kin.keeps I.bk
theorem Inv.fr (I : Inv X pins σ H s) : ∃ m, Fr X.base X.env.locals s.heap m :=
 let ⟨m, hn, _⟩ := I.loc
 ⟨m, hn, I.bk, Nat.le_trans I.ok.bsz I.ok.above⟩
theorem Inv.lt (I : Inv X pins σ H s) : X.env.locals < s.heap.objs.size := let ⟨_, hn, _⟩ := I.loc; hn.lt
theorem Inv.sz (I : Inv X pins σ H s) : X.s_0.heap.objs.size ≤ s.heap.objs.size := Nat.le_trans I.ok.above (Nat.le_of_lt I.lt)
theorem Inv.nofs (I : Inv X pins σ H s) {a : Addr} (h : s.heap.objs.size ≤ a) : a ∉ X.fs := fun hb => by
 obtain ⟨_, o, ho, _⟩ := I.ok.funs.mem hb
 exact absurd (Nat.lt_of_lt_of_le (Heap.lt_size ho) (Nat.le_trans I.sz h)) (Nat.lt_irrefl _)
theorem Inv.cne (I : Inv X pins σ H s) : ∀ x c, X.env.cells.lookup x = some c → c ≠ X.env.locals := fun x c e z => by
 obtain ⟨v, o, ho, hd⟩ := I.cell x c e
 obtain ⟨m, ⟨o', es, ep, ho', hd', _⟩, _⟩ := I.loc
 rw [z, ho'] at ho; cases ho; rw [hd'] at hd; cases hd
theorem Inv.funs (I : Inv X pins σ H s) : s.heap.FunFrames X.base X.outer := by
 have all : ∀ (l : List Env), (∀ b ∈ frs l, b ∈ X.fs) → X.s_0.heap.FunFrames X.base l → s.heap.FunFrames X.base l := by
  intro l
  induction l with
  | nil => intro _ _; trivial
  | cons env r ih =>
   intro hs hl
   obtain ⟨hk, ⟨L, o, hf, hn, ho, hd⟩, hr⟩ := hl
   have hL : L ∈ X.fs := hs L (by unfold frs; rw [List.filterMap_cons, hf]; exact List.mem_cons_self)
   obtain ⟨sl, e⟩ := I.base.slot L o ho (I.ok.frf L hL) hL fun z => I.ok.exfs L z hL
   exact ⟨hk, ⟨L, _, hf, hn, e, hd⟩, ih (fun b hb => hs b (by unfold frs; rw [List.filterMap_cons, hf]; exact List.mem_cons_of_mem _ hb)) hr⟩
 exact all X.outer (fun _ hb => hb) I.ok.funs
theorem Inv.stack (I : Inv X pins σ H s) : s.heap.FunFrames X.base X.stack := by
 rcases I.ok.stk with e | ⟨e, hf⟩
 ·rw [e]; exact I.funs
 ·rw [e]
  obtain ⟨m, hn, _⟩ := I.loc
  refine .cons (by rw [I.ok.kind]; decide) hf hn ?_ I.funs
  exact Heap.get?_none_of_le (Nat.le_trans I.ok.bsz I.ok.above)
theorem Inv.stkSub (I : Inv X pins σ H s) : ∀ b ∈ frs X.stack, b ∈ X.env.locals :: X.fs := fun b hb => by
 rcases I.ok.stk with e | ⟨e, hf⟩
 ·rw [e] at hb; exact List.mem_cons_of_mem _ hb
 ·rw [e] at hb
  unfold frs at hb
  rw [List.filterMap_cons, hf] at hb
  exact hb
theorem Inv.stkFree (I : Inv X pins σ H s) : ∀ b ∈ frs X.stack, H b = none := fun b hb => by
 rcases List.mem_cons.mp (I.stkSub b hb) with e | hb
 ·rw [e]; exact I.free
 ·obtain ⟨_, o, ho, _⟩ := I.ok.funs.mem hb
  exact I.base.free b o ho (I.ok.frf b hb) fun z => I.ok.exfs b z hb
theorem Inv.step {g' : Array GenState} {t' : Nat} {d' : Drawn} {ch : List Addr} (I : Inv X pins σ H s)
  (hch : ∀ b ∈ ch, (b ∈ X.ex ∨ X.s_0.heap.objs.size ≤ b) ∧ b ≠ X.env.locals ∧ (∀ x c, X.env.cells.lookup x = some c → c ≠ b) ∧ ∀ p ∈ X.pn ++ pins, p.1 ≠ b)
  (keep : ∀ b o, b ≠ X.env.locals → b ∉ X.fs → b ∉ ch → s.heap.get? b = some o → H b = none → h'.get? b = some o)
  (slot : ∀ b o, b ≠ X.env.locals → b ∈ X.fs → b ∉ ch → s.heap.get? b = some o → H b = none → ∃ sl, h'.get? b = some { o with slots := sl }) (free : ∀ b o, b ∉ ch → s.heap.get? b = some o → H b = none → H' b = none)
  (there : ∀ b o, b ∉ ch → s.heap.get? b = some o → ∃ o', h'.get? b = some o')
  (tups : ∀ b xs, H b = some (.tup xs) → H' b = some (.tup xs)) (frzs : ∀ b o u, H b = some (.frz o u) → H' b = some (.frz o u)) (tbls : ∀ b ps, H b = some (.tbl ps) → ∃ more, H' b = some (.tbl (ps ++ more)))
  (ns : ∀ m, s.heap.Ns X.env.locals m → h'.Ns X.env.locals m) (hok : HOk X.prog X.w H' h') (hg : AllBare g') :
  Inv X pins σ H' { s with heap := h', gens := g', drawn := d', toks := t' } := by
 have neL : ∀ b o, X.s_0.heap.get? b = some o → b ≠ X.env.locals := fun b o e => Nat.ne_of_lt (Nat.lt_of_lt_of_le (Heap.lt_size e) I.ok.above)
 have neC : ∀ b o, X.s_0.heap.get? b = some o → b ∉ X.ex → b ∉ ch := fun b o e hx hb => by
  rcases (hch b hb).1 with z | z
  ·exact hx z
  ·exact absurd (Nat.lt_of_lt_of_le (Heap.lt_size e) z) (Nat.lt_irrefl _)
 have cellK : ∀ x c, X.env.cells.lookup x = some c → ∀ v, s.heap.IsCell c v → h'.IsCell c v := fun x c e v ⟨o, ho, hd⟩ => by
  have nch : c ∉ ch := fun z => (hch c z).2.2.1 x c e rfl
  by_cases hc : c ∈ X.fs
  ·obtain ⟨sl, q⟩ := slot c o (I.cne x c e) hc nch ho (I.freeC x c e)
   exact ⟨_, q, hd⟩
  ·exact ⟨o, keep c o (I.cne x c e) hc nch ho (I.freeC x c e), hd⟩
 refine ⟨I.ok, I.os, hg, ⟨fun b o e n hb hx => ?_, fun b o e n hb hx => ?_, fun b o e n hx => ?_, fun b o e hx => ?_, fun b xs e => tups b xs (I.base.tups b xs e), fun b o xs e => frzs b o xs (I.base.frzs b o xs e), fun b ps e => ?_⟩, ?_, fun x c e => ?_, ?_, fun x c e => ?_, fun p hp => ?_, hok, I.len⟩
 ·exact keep b o (neL b o e) hb (neC b o e hx) (I.base.keep b o e n hb hx) (I.base.free b o e n hx)
 ·obtain ⟨sl, e1⟩ := I.base.slot b o e n hb hx
  obtain ⟨sl', e2⟩ := slot b _ (neL b o e) hb (neC b o e hx) e1 (I.base.free b o e n hx)
  exact ⟨sl', e2⟩
 ·obtain ⟨o', e1⟩ := I.base.there b o e hx
  exact free b o' (neC b o e hx) e1 (I.base.free b o e n hx)
 ·obtain ⟨o', e1⟩ := I.base.there b o e hx
  exact there b o' (neC b o e hx) e1
 ·obtain ⟨m1, e1⟩ := I.base.tbls b ps e
  obtain ⟨m2, e2⟩ := tbls b _ e1
  exact ⟨m1 ++ m2, by rw [e2, Array.append_assoc]⟩
 ·obtain ⟨m, hn, hl⟩ := I.loc
  refine ⟨m, ns m hn, fun i x v e1 e2 e3 => ?_⟩
  obtain ⟨u, r, l⟩ := hl i x v e1 e2 e3
  refine ⟨u, r, ?_⟩
  rcases l with l | ⟨k, c, e, z⟩
  ·exact .inl l
  ·exact .inr ⟨k, c, e, cellK x c e _ z⟩
 ·obtain ⟨v, z⟩ := I.cell x c e
  exact ⟨v, cellK x c e v z⟩
 ·obtain ⟨m, ⟨o, _, _, ho, _⟩, _⟩ := I.loc
  exact free _ o (fun z => (hch _ z).2.1 rfl) ho I.free
 ·obtain ⟨v, o, ho, hd⟩ := I.cell x c e
  exact free c o (fun z => (hch c z).2.2.1 x c e rfl) ho (I.freeC x c e)
 ·obtain ⟨e, n, ne, nf, d⟩ := I.pin p hp
  have nch : p.1 ∉ ch := fun z => (hch p.1 z).2.2.2 p hp rfl
  exact ⟨keep p.1 p.2 ne nf nch e n, free p.1 p.2 nch e n, ne, nf, d⟩
theorem Inv.un {t' : Nat} (I : Inv X pins σ H s) (u : Un X.fs [] H H' s.heap h') (hok : HOk X.prog X.w H' h') : Inv X pins σ H' { s with heap := h', toks := t' } := by
 obtain ⟨m, ⟨o, es, ep, ho, r⟩, _⟩ := id I.loc
 obtain ⟨sl, hL⟩ := u.any ho I.free (by simp)
 exact I.step (g' := s.gens) (d' := s.drawn) (ch := []) (fun _ z => nomatch z) (fun b o _ hb _ e n => u.keep b o e n hb (by simp)) (fun b o _ hb _ e n => u.slot b o e n hb (by simp)) (fun b o _ e n => u.free b o e n (by simp)) (fun b o _ e => u.there b o e (by simp)) u.tups u.frzs u.tbls (fun m' hm => by
  obtain ⟨o', es', ep', ho', r'⟩ := hm
  rw [ho] at ho'; cases ho'
  exact ⟨_, es', ep', hL, r'⟩) hok I.bare
theorem Inv.call {g' : Array GenState} {t' : Nat} {d' : Drawn} {ch : List Addr} (I : Inv X pins σ H s) (u : Un (frs X.stack) ch H H' s.heap h') (hok : HOk X.prog X.w H' h') (hg : AllBare g')
  (hch : ∀ b ∈ ch, (b ∈ X.ex ∨ X.s_0.heap.objs.size ≤ b) ∧ b ≠ X.env.locals ∧ (∀ x c, X.env.cells.lookup x = some c → c ≠ b) ∧ ∀ p ∈ X.pn ++ pins, p.1 ≠ b) :
  Inv X pins σ H' { s with heap := h', gens := g', drawn := d', toks := t' } := by
 obtain ⟨m, ⟨o, es, ep, ho, r⟩, _⟩ := id I.loc
 obtain ⟨sl, hL⟩ := u.any ho I.free fun z => (hch _ z).2.1 rfl
 exact I.step (ch := ch) hch (fun b o hL hb hc e n => u.keep b o e n (fun z => (List.mem_cons.mp (I.stkSub b z)).elim hL hb) hc) (fun b o _ _ hc e n => u.any e n hc) (fun b o hc e n => u.free b o e n hc) (fun b o hc e => u.there b o e hc) u.tups u.frzs u.tbls (fun m' hm => by
  obtain ⟨o', es', ep', ho', r'⟩ := hm
  rw [ho] at ho'; cases ho'
  exact ⟨_, es', ep', hL, r'⟩) hok hg
theorem Inv.turned {t' : Nat} {it : Addr} (I : Inv X pins σ H s) (k : ∀ b o, b ≠ it → s.heap.get? b = some o → h'.get? b = some o) (hn : H it = none) (hL : it ≠ X.env.locals)
  (h1 : it ∈ X.ex ∨ X.s_0.heap.objs.size ≤ it) (h2 : ∀ x c, X.env.cells.lookup x = some c → c ≠ it) (h3 : ∀ p ∈ X.pn ++ pins, p.1 ≠ it) : Inv X pins σ H { s with heap := h', toks := t' } := by
 have nit : ∀ b u, H b = some u → b ≠ it := fun b u e z => by rw [z, hn] at e; cases e
 refine I.step (g' := s.gens) (d' := s.drawn) (ch := [it]) (fun b hb => ?_) (fun b o _ _ hc e _ => k b o (fun z => hc (by simp [z])) e) (fun b o _ _ hc e _ => ⟨o.slots, k b o (fun z => hc (by simp [z])) e⟩) (fun _ _ _ _ n => n)
  (fun b o hc e => ⟨o, k b o (fun z => hc (by simp [z])) e⟩) (fun _ _ e => e) (fun _ _ _ e => e) (fun b ps e => ⟨#[], by rw [e]; simp⟩) (fun m hm => ?_) (fun b u e => ?_) I.bare
 ·have e : b = it := by simpa using hb
  subst e
  exact ⟨h1, hL, h2, h3⟩
 ·obtain ⟨o, es, ep, ho, r⟩ := hm
  exact ⟨o, es, ep, k _ o (Ne.symm hL) ho, r⟩
 ·refine (I.hok b u e).stay (fun c v hc q => k c v ?_ q) (fun _ q => q) fun _ _ q => q
  rcases hc with z | z
  ·rw [z]; exact nit b u e
  ·exact nit c _ z
theorem Inv.tok (I : Inv X pins σ H s) (t : Nat) : Inv X pins σ H { s with toks := t } := I.un (h' := s.heap) (t' := t) Un.refl I.hok
theorem Inv.kept {t' : Nat} (I : Inv X pins σ H s) (k : ∀ b u, s.heap.get? b = some u → h'.get? b = some u) : Inv X pins σ H { s with heap := h', toks := t' } := I.un (Un.kept k) (I.hok.kept k)
theorem Inv.laid {a : Addr} {o : HO} {t' : Nat} (I : Inv X pins σ H s) (k : ∀ b u, s.heap.get? b = some u → h'.get? b = some u) (hp : s.heap.objs.size ≤ a) (new : ObjOk X.prog X.w (upd H a o) h' a o) :
  Inv X pins σ (upd H a o) { s with heap := h', toks := t' } := I.un (Un.laid k hp (I.hok.fresh hp)) (I.hok.laid k hp new)
theorem Inv.write {x e : Addr} {o : HO} {t' : Nat} (I : Inv X pins σ H s) (mu : Mut (H x)) (he : e = x ∨ H e = some (.own x)) (k : ∀ b u, b ≠ e → s.heap.get? b = some u → h'.get? b = some u) (heo : ∃ u, h'.get? e = some u)
  (new : ObjOk X.prog X.w (upd H x o) h' x o) : Inv X pins σ (upd H x o) { s with heap := h', toks := t' } := I.un (Un.write mu he k heo) (I.hok.write mu he k heo new)
theorem Inv.weak {σ' : List (Option V)} (I : Inv X pins σ H s) (hl : σ'.length = σ.length) (w : ∀ (i : Nat) v, σ'[i]? = some (some v) → σ[i]? = some (some v)) : Inv X pins σ' H s :=
 ⟨I.ok, I.os, I.bare, I.base, let ⟨m, hn, hl'⟩ := I.loc; ⟨m, hn, fun i x v e1 e2 e3 => hl' i x v e1 (w i v e2) e3⟩, I.cell, I.free, I.freeC, I.pin, I.hok, hl.trans I.len⟩
theorem Inv.pins_of {pins' : List (Addr × Obj)} (I : Inv X pins σ H s) (h : ∀ p ∈ pins', s.heap.get? p.1 = some p.2 ∧ H p.1 = none ∧ p.1 ≠ X.env.locals ∧ p.1 ∉ X.fs ∧ ∀ v, p.2.data ≠ .cell v) : Inv X pins' σ H s :=
 ⟨I.ok, I.os, I.bare, I.base, I.loc, I.cell, I.free, I.freeC, fun p hp => (List.mem_append.mp hp).elim (fun z => I.pin p (List.mem_append_left _ z)) (h p), I.hok, I.len⟩
theorem nodup_ix {N : List Str} (hN : N.Nodup) {i j : Nat} {x : Str} (a : N[i]? = some x) (b : N[j]? = some x) : i = j := by
 obtain ⟨h1, e1⟩ := List.getElem?_eq_some_iff.mp a
 obtain ⟨h2, e2⟩ := List.getElem?_eq_some_iff.mp b
 exact (List.getElem_inj hN).mp (e1.trans e2.symm)
theorem store_ok2 {M : Model} {A : Around} {E : Value → Shared → Prop} {i : Nat} {x : Str} {v : V} {u : Value} {Q : Unit → Shared → Prop} (I : Inv X pins σ H s) (hN : X.N.Nodup) (hi : X.N[i]? = some x) (hx : Loc X.env.scope x) (r : RelV v u)
  (h : ∀ s', Inv X pins (σ.set i (some v)) H s' → (∃ a, Heap.SameBut a s.heap s'.heap ∧ (a = X.env.locals ∨ X.env.cells.lookup x = some a)) → Q () s') (hf : X.fn x = true ∨ X.env.scope.names.lookup x = some .local := by first | exact .inl rfl | exact .inr rfl | assumption) : wpAny M A (storeName X.env x u) Q E s := by
 obtain ⟨m, hn, hl⟩ := id I.loc
 have hcls : (X.env.scope.kind == .class || (X.env.scope.kind == .module && X.env.locals != X.env.globals)) = false := by rw [I.ok.kind]; rfl
 have hiσ : i < σ.length := by rw [I.len]; exact (List.getElem?_eq_some_iff.mp hi).1
 have cne := I.cne
 have tracked : ∀ {a : Addr} {h' : Heap}, (∃ o, s.heap.get? a = some o ∧ H a = none) → Heap.SameBut a s.heap h' → HOk X.prog X.w H h' := fun {a h'} ha hs b ob e => by
  obtain ⟨_, _, hfree⟩ := ha
  refine (I.hok b ob e).stay (fun c w' hc q => (hs.2 c ?_).trans q) (fun _ q => q) fun _ _ q => q
  rintro rfl
  rcases hc with rfl | hc
  ·rw [hfree] at e; cases e
  ·rw [hfree] at hc; cases hc
 rcases hx with hk | hk
 ·refine wpAny_storeName_local hk hn (fun h' hn' hs => ?_) hcls
  obtain ⟨oL, _, _, hoL, _⟩ := id hn
  refine h _ ⟨I.ok, I.os, I.bare, ⟨fun b o e n hb hx => ?_, fun b o e n hb hx => ?_, I.base.free, fun b o e hx => ?_, I.base.tups, I.base.frzs, I.base.tbls⟩, ⟨_, hn', fun j y v' e1 e2 e3 => ?_⟩, fun y c e => ?_, I.free, I.freeC, fun p hp => ?_, tracked ⟨oL, hoL, I.free⟩ hs, by simpa using I.len⟩ ⟨_, hs, .inl rfl⟩
  ·exact (hs.2 b (Nat.ne_of_lt (Nat.lt_of_lt_of_le (Heap.lt_size e) I.ok.above))).trans (I.base.keep b o e n hb hx)
  ·obtain ⟨sl, e1⟩ := I.base.slot b o e n hb hx
   exact ⟨sl, (hs.2 b (Nat.ne_of_lt (Nat.lt_of_lt_of_le (Heap.lt_size e) I.ok.above))).trans e1⟩
  ·obtain ⟨o', e1⟩ := I.base.there b o e hx
   exact ⟨o', (hs.2 b (Nat.ne_of_lt (Nat.lt_of_lt_of_le (Heap.lt_size e) I.ok.above))).trans e1⟩
  ·by_cases hj : j = i
   ·subst hj
    rw [hi] at e1; cases e1
    rw [List.getElem?_set_self hiσ] at e2
    cases e2
    exact ⟨u, r, .inl ⟨hk, by simp⟩⟩
   ·rw [List.getElem?_set_ne (Ne.symm hj)] at e2
    obtain ⟨u', r', q⟩ := hl j y v' e1 e2 e3
    refine ⟨u', r', ?_⟩
    rcases q with ⟨k, e⟩ | ⟨k, c, e, z⟩
    ·refine .inl ⟨k, ?_⟩
     have : y ≠ x := fun e => hj (nodup_ix hN e1 (e ▸ hi))
     simp [this, e]
    ·exact .inr ⟨k, c, e, z.sameBut hs (cne y c e)⟩
  ·obtain ⟨w', z⟩ := I.cell y c e
   exact ⟨w', z.sameBut hs (cne y c e)⟩
  ·obtain ⟨e, n, ne, nf, d⟩ := I.pin p hp
   exact ⟨(hs.2 p.1 ne).trans e, n, ne, nf, d⟩
 ·have hfn : X.fn x = true := by
   rcases hf with z | z
   ·exact z
   ·rw [z] at hk; cases hk
  obtain ⟨c, hc⟩ := I.ok.has x (.inl hk)
  obtain ⟨w', z⟩ := I.cell x c hc
  refine wpAny_storeName_cell I.ok.kind hk hc z (fun h' hc' hs => ?_)
  obtain ⟨oc, hoc, hocd⟩ := id z
  refine h { s with heap := h' } ⟨I.ok, I.os, I.bare, ⟨fun b o e n hb hx => ?_, fun b o e n hb hx => ?_, I.base.free, fun b o e hx => ?_, I.base.tups, I.base.frzs, I.base.tbls⟩, ⟨m, hn.sameBut hs (Ne.symm (cne x c hc)), fun j y v' e1 e2 e3 => ?_⟩, fun y c' e => ?_, I.free, I.freeC, fun p hp => ?_, tracked ⟨oc, hoc, I.freeC x c hc⟩ hs, by simpa using I.len⟩ ⟨c, hs, .inr hc⟩
  ·exact (hs.2 b (Nat.ne_of_lt (Nat.lt_of_lt_of_le (Heap.lt_size e) (I.ok.cab x c hfn hc)))).trans (I.base.keep b o e n hb hx)
  ·obtain ⟨sl, e1⟩ := I.base.slot b o e n hb hx
   exact ⟨sl, (hs.2 b (Nat.ne_of_lt (Nat.lt_of_lt_of_le (Heap.lt_size e) (I.ok.cab x c hfn hc)))).trans e1⟩
  ·obtain ⟨o', e1⟩ := I.base.there b o e hx
   exact ⟨o', (hs.2 b (Nat.ne_of_lt (Nat.lt_of_lt_of_le (Heap.lt_size e) (I.ok.cab x c hfn hc)))).trans e1⟩
  ·by_cases hj : j = i
   ·subst hj
    rw [hi] at e1; cases e1
    rw [List.getElem?_set_self hiσ] at e2
    cases e2
    exact ⟨u, r, .inr ⟨.inl hk, c, hc, hc'⟩⟩
   ·rw [List.getElem?_set_ne (Ne.symm hj)] at e2
    obtain ⟨u', r', q⟩ := hl j y v' e1 e2 e3
    refine ⟨u', r', ?_⟩
    rcases q with q | ⟨k, c', e, z'⟩
    ·exact .inl q
    ·refine .inr ⟨k, c', e, z'.sameBut hs ?_⟩
     rintro rfl
     exact hj (nodup_ix hN e1 (I.ok.inj _ _ _ e hc ▸ hi))
  ·by_cases hcc : c' = c
   ·subst hcc; exact ⟨_, hc'⟩
   ·obtain ⟨w2, z2⟩ := I.cell y c' e
    exact ⟨w2, z2.sameBut hs hcc⟩
  ·obtain ⟨e, n, ne, nf, d⟩ := I.pin p hp
   refine ⟨(hs.2 p.1 ?_).trans e, n, ne, nf, d⟩
   intro q
   rw [q, hoc] at e
   have q' : oc = p.2 := Option.some.inj e
   exact d w' (by rw [← q']; exact hocd)
theorem store_ok {M : Model} {A : Around} {E : Value → Shared → Prop} {i : Nat} {x : Str} {v : V} {u : Value} {Q : Unit → Shared → Prop} (I : Inv X pins σ H s) (hN : X.N.Nodup) (hi : X.N[i]? = some x) (hx : Loc X.env.scope x) (r : RelV v u)
  (h : ∀ s', Inv X pins (σ.set i (some v)) H s' → Q () s') (hf : X.fn x = true ∨ X.env.scope.names.lookup x = some .local := by first | exact .inl rfl | exact .inr rfl | assumption) : wpAny M A (storeName X.env x u) Q E s :=
 store_ok2 I hN hi hx r (fun s' I' _ => h s' I') hf
theorem Inv.call' {s' : Shared} {ch : List Addr} (I : Inv X pins σ H s) (ho : s'.os = s.os) (u : Un (frs X.stack) ch H H' s.heap s'.heap) (hok : HOk X.prog X.w H' s'.heap) (hg : AllBare s'.gens)
  (hch : ∀ b ∈ ch, (b ∈ X.ex ∨ X.s_0.heap.objs.size ≤ b) ∧ b ≠ X.env.locals ∧ (∀ x c, X.env.cells.lookup x = some c → c ≠ b) ∧ ∀ p ∈ X.pn ++ pins, p.1 ≠ b) : Inv X pins σ H' s' := by
 obtain ⟨h', g', d', t', o'⟩ := s'
 have e : o' = s.os := ho
 subst e
 exact I.call (g' := g') (t' := t') (d' := d') u hok hg hch
end
abbrev XK := Value → Option Addr → Hp → Prop
abbrev St := List (Option V)
abbrev VK := V → Hp → Prop
abbrev TE := St → Hp → VK → Prop
abbrev TT := St → Hp → (Bool → Hp → Prop) → Prop
abbrev TA := St → Hp → (List V → Hp → Prop) → Prop
structure Ends where
 nx : St → Hp → Prop
 rt : VK
 bk : St → Hp → Prop := fun _ _ => False
 ct : St → Hp → Prop := fun _ _ => False
abbrev TS := Ends → St → Hp → Prop
def EP (X : Cx) (pins : List (Addr × Obj)) (σ : St) (Q : VK) (u : Value) (s' : Shared) : Prop := ∃ v H', Inv X pins σ H' s' ∧ RelV v u ∧ Q v H'
def TP (X : Cx) (pins : List (Addr × Obj)) (σ : St) (Q : Bool → Hp → Prop) (b : Bool) (s' : Shared) : Prop := ∃ H', Inv X pins σ H' s' ∧ Q b H'
def AP (X : Cx) (pins : List (Addr × Obj)) (σ : St) (Q : List V → Hp → Prop) (us : List Value) (s' : Shared) : Prop := ∃ vs H', Inv X pins σ H' s' ∧ Vals vs us ∧ Q vs H'
def SP (X : Cx) (pins : List (Addr × Obj)) (D : Ends) (f : Flow) (s' : Shared) : Prop :=
 match f with
 | .next => ∃ σ' H', Inv X pins σ' H' s' ∧ D.nx σ' H'
 | .brk => ∃ σ' H', Inv X pins σ' H' s' ∧ D.bk σ' H'
 | .cont => ∃ σ' H', Inv X pins σ' H' s' ∧ D.ct σ' H'
 | .ret u => ∃ v σ' H', Inv X pins σ' H' s' ∧ RelV v u ∧ D.rt v H'
def PE (X : Cx) (e : Expr) (t : TE) : Prop :=
 ∀ (pins : List (Addr × Obj)) (s : Shared) (σ : St) (H : Hp) (Q : VK), Inv X pins σ H s → t σ H Q → wpAny (model X.prog X.w) X.A (eval e X.env) (EP X pins σ Q) X.xe s
def PT (X : Cx) (e : Expr) (t : TT) : Prop :=
 ∀ (pins : List (Addr × Obj)) (s : Shared) (σ : St) (H : Hp) (Q : Bool → Hp → Prop), Inv X pins σ H s → t σ H Q → wpAny (model X.prog X.w) X.A (isTrue e X.env (eval e X.env)) (TP X pins σ Q) X.xe s
def PW (X : Cx) (e : Expr) (t : TT) : Prop :=
 ∀ (whole : Sem Value) (pins : List (Addr × Obj)) (s : Shared) (σ : St) (H : Hp) (Q : Bool → Hp → Prop), Inv X pins σ H s → t σ H Q → wpAny (model X.prog X.w) X.A (isTrue e X.env whole) (TP X pins σ Q) X.xe s
theorem PW.pt {X : Cx} {e : Expr} {t : TT} (h : PW X e t) : PT X e t := h _
def PA (X : Cx) (es : List Expr) (t : TA) : Prop :=
 ∀ (pos : Pos) (pins : List (Addr × Obj)) (s : Shared) (σ : St) (H : Hp) (Q : List V → Hp → Prop), Inv X pins σ H s → t σ H Q → wpAny (model X.prog X.w) X.A (spliced (backTo pos (starEach es X.env))) (AP X pins σ Q) X.xe s
def PS (X : Cx) (st : Stmt) (t : TS) : Prop :=
 ∀ (pins : List (Addr × Obj)) (s : Shared) (σ : St) (H : Hp) (D : Ends), Inv X pins σ H s → t D σ H → wpAny (model X.prog X.w) X.A (exec st X.env) (SP X pins D) X.xe s
def PSs (X : Cx) (st : List Stmt) (t : TS) : Prop :=
 ∀ (pins : List (Addr × Obj)) (s : Shared) (σ : St) (H : Hp) (D : Ends), Inv X pins σ H s → t D σ H → wpAny (model X.prog X.w) X.A (execs st X.env) (SP X pins D) X.xe s
theorem thn {α : Type} {t : Sem α} {Q Q' : α → Shared → Prop} {M : Model} {A : Around} {E : Value → Shared → Prop} {s : Shared} (h : wpAny M A t Q E s) (hQ : ∀ a s, Q a s → Q' a s) : wpAny M A t Q' E s := wpAny_mono h hQ fun _ _ x => x
end L2
namespace L2
open PySem PySem.Spec PyProof.Rows
section
variable {X : Cx}
theorem bin {a b : Expr} {ta tb : TE} (ha : PE X a ta) (hb : PE X b tb) {pins : List (Addr × Obj)} {s : Shared} {σ : St} {H : Hp} {R : V → V → Hp → Prop} (I : Inv X pins σ H s) (h : ta σ H fun x H1 => tb σ H1 fun y H2 => R x y H2)
  {α : Type} {Q : α → Shared → Prop} {f : Value → Value → Sem α}
  (hf : ∀ v u s2 x y H2, Inv X pins σ H2 s2 → RelV x v → RelV y u → R x y H2 → wpAny (model X.prog X.w) X.A (f v u) Q X.xe s2) :
  wpAny (model X.prog X.w) X.A (eval a X.env) (fun v s₁ => wpAny (model X.prog X.w) X.A (eval b X.env) (fun u s₂ => wpAny (model X.prog X.w) X.A (f v u) Q X.xe s₂) X.xe s₁) X.xe s := by
 refine thn (ha pins s σ H _ I h) fun v s1 ⟨x, H1, I1, r1, q1⟩ => ?_
 refine thn (hb pins s1 σ H1 _ I1 q1) fun u s2 ⟨y, H2, I2, r2, q2⟩ => ?_
 exact hf v u s2 x y H2 I2 r1 r2 q2
def tVar (i : Nat) : TE := fun σ H Q => ∃ v, σ[i]? = some (some v) ∧ Q v H
def tC (v : V) : TE := fun _ H Q => Q v H
theorem pe_var {i : Nat} {x : Str} {pos : Pos} (hN : X.N[i]? = some x) (hv : Vis X.env.scope x) (hd : (x == ("__debug__" : Str)) = false := by decide) (hcd : (x == ("__classdict__" : Str)) = false := by decide) : PE X (.Name x pos) (tVar i) := by
 intro pins s σ H Q I h
 obtain ⟨v, e, h⟩ := h
 obtain ⟨m, hn, hl⟩ := I.loc
 obtain ⟨u, r, l⟩ := hl i x v hN e hv
 have fin : EP X pins σ Q u s := ⟨v, H, I, r, h⟩
 rcases l with ⟨hk, hm⟩ | ⟨hk, c, hc, hcell⟩
 ·exact wpAny_Name (wpAny_loadName_local I.ok.kind hk hn hm fin) hd
 ·rcases hk with hk | hk
  ·exact wpAny_Name (wpAny_loadName_cell I.ok.kind hk hc hcell fin) hd
  ·exact wpAny_Name (wpAny_loadName_free I.ok.kind hk hc hcell fin hcd) hd
theorem pe_int {i j pos} : PE X (.Constant (.int i) j pos) (tC (.int i)) := fun _ _ _ H _ I h => wpAny_Constant_int ⟨.int i, H, I.tok _, ⟨_, rfl⟩, h⟩
theorem pe_bl {b j pos} : PE X (.Constant (.bool b) j pos) (tC (.bl b)) := fun _ _ _ H _ I h => Constant_bool ⟨.bl b, H, I, rfl, h⟩
theorem pe_non {j pos} : PE X (.Constant .none j pos) (tC .non) := fun _ _ _ H _ I h => Constant_none ⟨.non, H, I, rfl, h⟩
theorem pe_str {x j pos} : PE X (.Constant (.str x) j pos) (tC (.str x)) := fun _ _ _ H _ I h => Calls.Constant_str ⟨.str x, H, I.tok _, ⟨_, rfl⟩, h⟩
def Gl (X : Cx) (x : Str) : Prop := X.env.kindOf x = some .globalImplicit
theorem ld_glob {E : Value → Shared → Prop} {pins : List (Addr × Obj)} {s : Shared} {σ : St} {H : Hp} {x : Str} {u : Value} {pos : Pos} {Q : Value → Shared → Prop} (I : Inv X pins σ H s) (hg : Gl X x) (hm : X.mg x = some u) (h : Q u s)
  (hd : (x == ("__debug__" : Str)) = false := by decide) : wpAny (model X.prog X.w) X.A (eval (.Name x pos) X.env) Q E s :=
 Calls.Name_function_global I.ok.kind hg (Calls.loadGlobal_global (by rw [I.ok.glob]; exact I.mod.glob.keeps I.bk) hm h) hd
theorem ld_blt {E : Value → Shared → Prop} {pins : List (Addr × Obj)} {s : Shared} {σ : St} {H : Hp} {x : Str} {u : Value} {pos : Pos} {Q : Value → Shared → Prop} (I : Inv X pins σ H s) (hg : Gl X x) (hm : X.mg x = none) (hv : bootBuiltins x = some u) (h : Q u s)
  (hn : x ≠ "__name__" := by decide) (hd : (x == ("__debug__" : Str)) = false := by decide) : wpAny (model X.prog X.w) X.A (eval (.Name x pos) X.env) Q E s := by
 obtain ⟨mb, h1, h2⟩ := I.mod.blt
 exact Calls.Name_function_global I.ok.kind hg (Calls.loadGlobal_builtin (by rw [I.ok.glob]; exact I.mod.glob.keeps I.bk) hm (by rw [I.ok.blt]; exact h1.keeps I.bk) ((h2 x hn).trans hv) h) hd
theorem pe_glob {x : Str} {v : V} {u : Value} {pos : Pos} (hg : Gl X x) (hm : X.mg x = some u) (r : RelV v u) (hd : (x == ("__debug__" : Str)) = false := by decide) : PE X (.Name x pos) (tC v) :=
 fun _ _ _ H _ I h => ld_glob I hg hm ⟨v, H, I, r, h⟩ hd
variable {a b : Expr} {ta tb : TE} {pos : Pos}
def PC (X : Cx) (op : CmpOp) (a b : Expr) (t : TE) : Prop :=
 ∀ (pins : List (Addr × Obj)) (s : Shared) (σ : St) (H : Hp) (Q : VK), Inv X pins σ H s → t σ H Q →
  wpAny (model X.prog X.w) X.A (eval a X.env) (fun v s₁ => wpAny (model X.prog X.w) X.A (eval b X.env) (fun u s₂ => wpAny (model X.prog X.w) X.A (compareOp op v u) (EP X pins σ Q) X.xe s₂) X.xe s₁) X.xe s
def tB (t : TE) : TT := fun σ H Q => t σ H fun x H1 => ∃ c, x = .bl c ∧ Q c H1
theorem pe_cmp {op : CmpOp} {t : TE} (h : PC X op a b t) (h1 : behindInMarks op b = false := by first | exact nobehind _ (by decide) (by decide) | rfl) : PE X (.Compare a [op] [b] pos) t := fun pins s σ H Q I hw => wpAny_Compare1 (h pins s σ H Q I hw) h1
theorem pt_cmp {op : CmpOp} {t : TE} (h : PC X op a b t) (h1 : behindInMarks op b = false := by first | exact nobehind _ (by decide) (by decide) | rfl) : PT X (.Compare a [op] [b] pos) (tB t) := by
 intro pins s σ H Q I hw
 refine wpAny_isTrue_Compare1 (thn (h pins s σ H _ I hw) fun v s1 h1 => thn h1 fun u s2 h2 => thn h2 fun c s3 ⟨x, H1, I1, r1, q1⟩ => ?_) h1
 obtain ⟨d, rfl, q⟩ := q1
 cases r1
 exact wpAny_truthy_bool ⟨H1, I1, q⟩
variable {tA tB' : TT} {rest : List Expr}
def tAnd (t u : TT) : TT := fun σ H Q => t σ H fun c H1 => if c = true then u σ H1 Q else Q false H1
def tOr (t u : TT) : TT := fun σ H Q => t σ H fun c H1 => if c = true then Q true H1 else u σ H1 Q
def tNot (t : TT) : TT := fun σ H Q => t σ H fun c H1 => Q (!c) H1
theorem pw_and1 (ha : PT X a tA) : PW X (.BoolOp .And [a] pos) tA := by
 intro wh pins s σ H Q I h
 refine isTrue_and (thn (ha pins s σ H Q I h) fun c s1 e => ?_)
 cases c with
 | true => exact isTrue_and_nil e
 | false => exact e
theorem pw_or1 (ha : PT X a tA) : PW X (.BoolOp .Or [a] pos) tA := by
 intro wh pins s σ H Q I h
 refine isTrue_or (thn (ha pins s σ H Q I h) fun c s1 e => ?_)
 cases c with
 | false => exact isTrue_or_nil e
 | true => exact e
theorem pw_and (ha : PT X a tA) (hb : PW X (.BoolOp .And (b :: rest) pos) tB') : PW X (.BoolOp .And (a :: b :: rest) pos) (tAnd tA tB') := by
 intro wh pins s σ H Q I h
 refine isTrue_and (thn (ha pins s σ H _ I h) fun c s1 ⟨H1, I1, q1⟩ => ?_)
 cases c with
 | true => exact hb wh pins s1 σ H1 Q I1 q1
 | false => exact ⟨H1, I1, q1⟩
theorem pw_or (ha : PT X a tA) (hb : PW X (.BoolOp .Or (b :: rest) pos) tB') : PW X (.BoolOp .Or (a :: b :: rest) pos) (tOr tA tB') := by
 intro wh pins s σ H Q I h
 refine isTrue_or (thn (ha pins s σ H _ I h) fun c s1 ⟨H1, I1, q1⟩ => ?_)
 cases c with
 | true => exact ⟨H1, I1, q1⟩
 | false => exact hb wh pins s1 σ H1 Q I1 q1
theorem pt_not (ha : PT X a tA) : PT X (.UnaryOp .Not a pos) (tNot tA) := by
 intro pins s σ H Q I h
 exact isTrue_not (ha pins s σ H (fun c H1 => Q (!c) H1) I h)
def tAndV (ta tb : TE) : TE := fun σ H Q => ta σ H fun x H1 => ∃ c, x = .bl c ∧ if c = true then tb σ H1 Q else Q (.bl false) H1
def tOrV (ta tb : TE) : TE := fun σ H Q => ta σ H fun x H1 => ∃ c, x = .bl c ∧ if c = true then Q (.bl true) H1 else tb σ H1 Q
theorem pe_one {op} {t : TE} (h : PE X a t) : PE X (.BoolOp op [a] pos) t := fun pins s σ H Q I hw => BoolOp_one (h pins s σ H Q I hw)
theorem pe_and (ha : PE X a ta) (hb : PE X (.BoolOp .And (b :: rest) pos) tb) : PE X (.BoolOp .And (a :: b :: rest) pos) (tAndV ta tb) := by
 intro pins s σ H Q I h
 refine BoolOp_and (thn (ha pins s σ H _ I h) fun v s1 ⟨x, H1, I1, r1, q1⟩ => ?_)
 obtain ⟨c, rfl, q1⟩ := q1
 cases r1
 refine wpAny_truthy_bool ?_
 cases c with
 | true => exact hb pins s1 σ H1 Q I1 q1
 | false => exact ⟨.bl false, H1, I1, rfl, q1⟩
theorem pe_or (ha : PE X a ta) (hb : PE X (.BoolOp .Or (b :: rest) pos) tb) : PE X (.BoolOp .Or (a :: b :: rest) pos) (tOrV ta tb) := by
 intro pins s σ H Q I h
 refine BoolOp_or (thn (ha pins s σ H _ I h) fun v s1 ⟨x, H1, I1, r1, q1⟩ => ?_)
 obtain ⟨c, rfl, q1⟩ := q1
 cases r1
 refine wpAny_truthy_bool ?_
 cases c with
 | false => exact hb pins s1 σ H1 Q I1 q1
 | true => exact ⟨.bl true, H1, I1, rfl, q1⟩
def tIf (t : TT) (ta tb : TE) : TE := fun σ H Q => t σ H fun c H1 => if c = true then ta σ H1 Q else tb σ H1 Q
theorem pe_ifExp {c : Expr} (hc : PT X c tA) (ha : PE X a ta) (hb : PE X b tb) : PE X (.IfExp c a b pos) (tIf tA ta tb) := by
 intro pins s σ H Q I h
 refine wpAny_IfExp (thn (hc pins s σ H _ I h) fun d s1 ⟨H1, I1, q1⟩ => ?_)
 cases d with
 | true => exact ha pins s1 σ H1 Q I1 q1
 | false => exact hb pins s1 σ H1 Q I1 q1
end
end L2
namespace L2
open PySem PySem.Spec PyProof.Rows
def SqL (K : PySem.W.Frag) (H : Hp) (a : Addr) (xs : List V) : Prop :=
 Rd H a (.lst xs) ∨
  ∃ (o : Obj) (its : Array Value) (n : Nat), K.lookup a = some o ∧ o.cls = .type "list" ∧ o.dict = none ∧ o.data = .seq its n ∧ its.size ≤ sizeLine ∧ Vals xs its.toList
def SqT (K : PySem.W.Frag) (H : Hp) (a : Addr) (xs : List V) : Prop :=
 Rd H a (.tup xs) ∨
  ∃ (o : Obj) (its : Array Value) (n : Nat), K.lookup a = some o ∧ o.cls = .type "tuple" ∧ o.data = .seq its n ∧ its.size ≤ sizeLine ∧ Vals xs its.toList
def absV : Value → Option V
 | .none => some .non
 | .bool b => some (.bl b)
 | .int i _ => some (.int i)
 | .str x _ => some (.str x)
 | .bytes b _ => some (.byt b)
 | .float b _ => some (.flt b)
 | .ref a => some (.ref a)
 | .type n => some (.ty n)
 | _ => none
theorem RelV.abs {x : V} {u : Value} (r : RelV x u) : absV u = some x := by
 cases x with
 | non => cases r; rfl
 | bl _ => cases r; rfl
 | int _ => obtain ⟨t, rfl⟩ := r; rfl
 | str _ => obtain ⟨t, rfl⟩ := r; rfl
 | byt _ => obtain ⟨t, rfl⟩ := r; rfl
 | flt _ => obtain ⟨t, rfl⟩ := r; rfl
 | ref _ => cases r; rfl
 | ty _ => cases r; rfl
theorem RelV.inj {x y : V} {u : Value} (r : RelV x u) (q : RelV y u) : x = y := Option.some.inj (r.abs.symm.trans q.abs)
theorem Vals.inj : ∀ {xs ys : List V} {us : List Value}, Vals xs us → Vals ys us → xs = ys
 | _, _, _, .nil, .nil => rfl
 | _, _, _, .cons r t, .cons r' t' => by rw [r.inj r', Vals.inj t t']
section
variable {X : Cx} {pins : List (Addr × Obj)} {σ : St} {H : Hp} {s : Shared} {a : Addr} {xs ys : List V}
theorem SqL.of {K : PySem.W.Frag} (h : H a = some (.lst xs)) : SqL K H a xs := .inl (.inl h)
theorem SqT.of {K : PySem.W.Frag} (h : H a = some (.tup xs)) : SqT K H a xs := .inl (.inl h)
theorem Inv.list (I : Inv X pins σ H s) (h : SqL X.K H a xs) : ∃ its : List Value, Vals xs its ∧ PlainL s.heap a its.toArray ∧ xs.length ≤ sizeLine := by
 rcases h with h | ⟨o, its, n, hk, hc, hd, hs, hz, r⟩
 ·obtain ⟨z, its, n, r, e⟩ := h.ok I.hok
  exact ⟨its, r, ⟨_, n, e, rfl, rfl, rfl⟩, z⟩
 ·refine ⟨its.toList, r, ⟨o, n, I.kIn a o hk, hc, hd, by simpa using hs⟩, ?_⟩
  have e := r.length
  simp only [Array.length_toList] at e
  omega
theorem Inv.tuple (I : Inv X pins σ H s) (h : SqT X.K H a xs) : ∃ its : List Value, Vals xs its ∧ IsTup s.heap a its.toArray ∧ xs.length ≤ sizeLine := by
 rcases h with h | ⟨o, its, n, hk, hc, hs, hz, r⟩
 ·obtain ⟨z, its, r, p⟩ := h.ok I.hok
  exact ⟨its, r, p, z⟩
 ·refine ⟨its.toList, r, ⟨o, I.kIn a o hk, hc, n, by simpa using hs⟩, ?_⟩
  have e := r.length
  simp only [Array.length_toList] at e
  omega
theorem Inv.list_inj (I : Inv X pins σ H s) (h : SqL X.K H a xs) (h' : SqL X.K H a ys) : xs = ys := by
 obtain ⟨its, r, ⟨o, n, e, _, _, d⟩, _⟩ := I.list h
 obtain ⟨its', r', ⟨o', n', e', _, _, d'⟩, _⟩ := I.list h'
 rw [e] at e'; cases e'
 rw [d] at d'
 injection d' with d1 _
 have : its = its' := by simpa using congrArg Array.toList d1
 subst this
 exact r.inj r'
theorem Inv.tuple_inj (I : Inv X pins σ H s) (h : SqT X.K H a xs) (h' : SqT X.K H a ys) : xs = ys := by
 obtain ⟨its, r, ⟨o, e, _, n, d⟩, _⟩ := I.tuple h
 obtain ⟨its', r', ⟨o', e', _, n', d'⟩, _⟩ := I.tuple h'
 rw [e] at e'; cases e'
 rw [d] at d'
 injection d' with d1 _
 have : its = its' := by simpa using congrArg Array.toList d1
 subst this
 exact r.inj r'
end
abbrev Cx.wish (X : Cx) (E : Value → Shared → Prop) : Cx := { X with xe := E }
abbrev Cx.nox (X : Cx) : Cx := X.wish fun _ _ => False
theorem Cx.Ok.wish {X : Cx} (ok : X.Ok) (E : Value → Shared → Prop) : (X.wish E).Ok :=
 ⟨ok.mod, ok.kind, ok.glob, ok.blt, ok.above, ok.inj, ok.has, ok.cab, ok.hd, ok.frames, ok.stk, ok.exf, ok.bs, ok.bsz, ok.noex, ok.exfs, ok.funs, ok.frf⟩
theorem Cx.Ok.unwish {X : Cx} {E : Value → Shared → Prop} (ok : (X.wish E).Ok) : X.Ok :=
 ⟨ok.mod, ok.kind, ok.glob, ok.blt, ok.above, ok.inj, ok.has, ok.cab, ok.hd, ok.frames, ok.stk, ok.exf, ok.bs, ok.bsz, ok.noex, ok.exfs, ok.funs, ok.frf⟩
section
variable {X : Cx} {pins : List (Addr × Obj)} {σ : St} {H : Hp} {s : Shared} {E : Value → Shared → Prop}
theorem Inv.wish (I : Inv X pins σ H s) (E : Value → Shared → Prop) : Inv (X.wish E) pins σ H s := ⟨I.ok.wish E, I.os, I.bare, I.base, I.loc, I.cell, I.free, I.freeC, I.pin, I.hok, I.len⟩
theorem Inv.unwish (I : Inv (X.wish E) pins σ H s) : Inv X pins σ H s := ⟨I.ok.unwish, I.os, I.bare, I.base, I.loc, I.cell, I.free, I.freeC, I.pin, I.hok, I.len⟩
theorem SP.unwish {D : Ends} {f : Flow} {s' : Shared} (h : SP (X.wish E) pins D f s') : SP X pins D f s' := by
 cases f with
 | next => obtain ⟨σ', H', I, q⟩ := h; exact ⟨σ', H', I.unwish, q⟩
 | brk => obtain ⟨σ', H', I, q⟩ := h; exact ⟨σ', H', I.unwish, q⟩
 | cont => obtain ⟨σ', H', I, q⟩ := h; exact ⟨σ', H', I.unwish, q⟩
 | ret u => obtain ⟨v, σ', H', I, r, q⟩ := h; exact ⟨v, σ', H', I.unwish, r, q⟩
theorem PSs.nox {st : List Stmt} {t : TS} (h : PSs X.nox st t) : PSs X st t := fun pins s σ H D I hw =>
 wpAny_mono (h pins s σ H D (I.wish _) hw) (fun _ _ q => q.unwish) fun _ _ z => False.elim z
end
section
variable {X : Cx} {st : Stmt} {rest : List Stmt} {t u : TS} {e : Expr} {te : TE} {pos : Pos}
def tNext : TS := fun D σ H => D.nx σ H
def tSeq (t u : TS) : TS := fun D σ H => t { D with nx := u D } σ H
theorem pss_nil : PSs X [] tNext := fun _ _ σ H _ I h => wpAny_execs_nil ⟨σ, H, I, h⟩
theorem pss_cons (h1 : PS X st t) (h2 : PSs X rest u) : PSs X (st :: rest) (tSeq t u) := by
 intro pins s σ H D I h
 refine wpAny_execs_cons (thn (h1 pins s σ H { D with nx := u D } I h) fun f s1 q => ?_)
 cases f with
 | next =>
  obtain ⟨σ', H', I', q⟩ := q
  exact h2 pins s1 σ' H' D I' q
 | ret v => exact q
 | brk => exact q
 | cont => exact q
theorem pss_one (h1 : PS X st t) : PSs X [st] t := by
 intro pins s σ H D I h
 refine wpAny_execs_cons (thn (h1 pins s σ H D I h) fun f s1 q => ?_)
 cases f with
 | next => exact wpAny_execs_nil q
 | ret v => exact q
 | brk => exact q
 | cont => exact q
theorem Inv.quiet {pins : List (Addr × Obj)} {σ : St} {H : Hp} {s : Shared} (I : Inv X pins σ H s) : interactive X.env = false := by simp [interactive, I.ok.kind]
def tDrop (te : TE) : TS := fun D σ H => te σ H fun _ H1 => D.nx σ H1
theorem ps_expr (he : PE X e te) (hs : swapsWith e none pos.line X.env = pure false := by rfl) : PS X (.Expr e pos) (tDrop te) := by
 intro pins s σ H D I h
 exact wpAny_Expr_any (thn (he pins s σ H _ I h) fun v s1 ⟨x, H1, I1, r1, q1⟩ => ⟨σ, H1, I1, q1⟩) I.quiet hs
def tRet (te : TE) : TS := fun D σ H => te σ H D.rt
theorem ps_ret (he : PE X e te) : PS X (.Return (some e) pos) (tRet te) := by
 intro pins s σ H D I h
 exact wpAny_Return_some (thn (he pins s σ H _ I h) fun v s1 ⟨x, H1, I1, r1, q1⟩ => ⟨x, σ, H1, I1, r1, q1⟩)
def tIfS (c : TT) (t u : TS) : TS := fun D σ H => c σ H fun b H1 => if b = true then t D σ H1 else u D σ H1
theorem ps_if {c : Expr} {a b : List Stmt} {tc : TT} (hc : PT X c tc) (ha : PSs X a t) (hb : PSs X b u) : PS X (.If c a b pos) (tIfS tc t u) := by
 intro pins s σ H D I h
 refine wpAny_If (thn (hc pins s σ H _ I h) fun d s1 ⟨H1, I1, q1⟩ => ?_)
 cases d with
 | true => exact ha pins s1 σ H1 D I1 q1
 | false => exact hb pins s1 σ H1 D I1 q1
end
abbrev TG := V → St → Hp → (St → Hp → Prop) → Prop
def PG (X : Cx) (target : Expr) (t : TG) : Prop :=
 ∀ (pins : List (Addr × Obj)) (s : Shared) (σ : St) (H : Hp) (v : V) (u : Value) (Q : St → Hp → Prop), Inv X pins σ H s → RelV v u → t v σ H Q →
  wpAny (model X.prog X.w) X.A (assign target X.env u) (fun _ s' => ∃ σ' H', Inv X pins σ' H' s' ∧ Q σ' H') X.xe s
abbrev TIp := V → V → Hp → VK → Prop
def PIp (X : Cx) (op : Operator) (t : TIp) : Prop :=
 ∀ (pins : List (Addr × Obj)) (s : Shared) (σ : St) (H : Hp) (x y : V) (v u : Value) (Q : VK), Inv X pins σ H s → RelV x v → RelV y u → t x y H Q →
  wpAny (model X.prog X.w) X.A (inplaceOp op v u) (EP X pins σ Q) X.xe s
section
variable {X : Cx} {pos : Pos}
def gName (i : Nat) : TG := fun v σ H Q => Q (σ.set i (some v)) H
theorem pg_name {i : Nat} {x : Str} (hN : X.N.Nodup) (hi : X.N[i]? = some x) (hx : Loc X.env.scope x) (hf : X.fn x = true ∨ X.env.scope.names.lookup x = some .local := by first | exact .inl rfl | exact .inr rfl | assumption) : PG X (.Name x pos) (gName i) := by
 intro pins s σ H v u Q I r h
 exact wpAny_assign_Name (store_ok I hN hi hx r (fun s' I' => ⟨_, H, I', h⟩) hf)
def tAsg (te : TE) (g : TG) : TS := fun D σ H => te σ H fun x H1 => g x σ H1 D.nx
theorem ps_set {i : Nat} {x : Str} {e : Expr} {te : TE} {pos' : Pos} (hN : X.N.Nodup) (hi : X.N[i]? = some x) (hx : Loc X.env.scope x) (he : PE X e te) (hs : swapsWith e (some (.Name x pos')) pos.line X.env = pure false := by rfl) (hf : X.fn x = true ∨ X.env.scope.names.lookup x = some .local := by first | exact .inl rfl | exact .inr rfl | assumption) :
  PS X (.Assign [.Name x pos'] e pos) (tAsg te (gName i)) := by
 intro pins s σ H D I h
 refine wpAny_Assign_Name (thn (he pins s σ H _ I h) fun v s1 ⟨y, H1, I1, r1, q1⟩ => ?_) hs
 exact store_ok I1 hN hi hx r1 (fun s2 I2 => ⟨_, H1, I2, q1⟩) hf
def tAug (i : Nat) (te : TE) (ti : TIp) : TS := fun D σ H => ∃ x, σ[i]? = some (some x) ∧ te σ H fun y H1 => ti x y H1 fun z H2 => D.nx (σ.set i (some z)) H2
theorem ps_aug {i : Nat} {x : Str} {e : Expr} {te : TE} {op : Operator} {ti : TIp} {pos' : Pos} (hN : X.N.Nodup) (hi : X.N[i]? = some x) (hx : Loc X.env.scope x) (he : PE X e te) (ho : PIp X op ti) (hf : X.fn x = true ∨ X.env.scope.names.lookup x = some .local := by first | exact .inl rfl | exact .inr rfl | assumption) :
  PS X (.AugAssign (.Name x pos') op e pos) (tAug i te ti) := by
 intro pins s σ H D I h
 obtain ⟨v, e1, h⟩ := h
 obtain ⟨m, hn, hl⟩ := I.loc
 have vis : Vis X.env.scope x := by rcases hx with k | k; exact .inl k; exact .inr (.inl k)
 obtain ⟨u, r, l⟩ := hl i x v hi e1 vis
 refine wpAny_AugAssign_Name ?_
 have go : wpAny (model X.prog X.w) X.A (eval e X.env) (fun w s₂ => wpAny (model X.prog X.w) X.A (inplaceOp op u w) (fun r s₃ => wpAny (model X.prog X.w) X.A (storeName X.env x r) (fun _ => SP X pins D .next) X.xe s₃) X.xe s₂) X.xe s := by
  refine thn (he pins s σ H _ I h) fun w s1 ⟨y, H1, I1, r1, q1⟩ => ?_
  refine thn (ho pins s1 σ H1 v y u w _ I1 r r1 q1) fun z s2 ⟨zv, H2, I2, r2, q2⟩ => ?_
  exact store_ok I2 hN hi hx r2 (fun s3 I3 => ⟨_, H2, I3, q2⟩) hf
 rcases l with ⟨hk, hm⟩ | ⟨hk, c, hc, hcell⟩
 ·exact wpAny_loadName_local I.ok.kind hk hn hm go
 ·rcases hk with hk | hk
  ·exact wpAny_loadName_cell I.ok.kind hk hc hcell go
  ·rcases hx with k | k
   ·have : X.env.scope.names.lookup x = some .free := hk
    rw [k] at this; cases this
   ·have : X.env.scope.names.lookup x = some .free := hk
    rw [k] at this; cases this
def ipI (f : Int → Int → Int) : TIp := fun x y H Q => ∃ i j, x = .int i ∧ y = .int j ∧ Q (.int (f i j)) H
theorem ip_add : PIp X .Add (ipI fun i j => i + j) := by
 intro pins s σ H x y v u Q I r1 r2 h
 obtain ⟨i, j, e1, e2, q⟩ := h
 subst e1; subst e2
 obtain ⟨t, rfl⟩ := r1
 obtain ⟨t', rfl⟩ := r2
 exact iadd_int ⟨.int _, H, I.tok _, ⟨_, rfl⟩, q⟩
end
section
variable {X : Cx} {pos : Pos}
def tWhile (c : TT) (tb : TS) : TS := fun D σ H => ∃ W : Nat → St → Hp → Prop, (∃ m, W m σ H) ∧ ∀ m σ H, W m σ H →
 c σ H fun b H1 => if b = true then ∃ N : St → Hp → Prop, (∀ σ' H', N σ' H' → ∃ m', m' < m ∧ W m' σ' H') ∧ tb { D with nx := N, ct := N, bk := D.nx } σ H1 else D.nx σ H1
theorem ps_while {c : Expr} {body : List Stmt} {tc : TT} {tb : TS} (hp : PassesOwn (model X.prog X.w) X.A X.env X.xe) (hc : PT X c tc) (hb : PSs X body tb) : PS X (.While c body [] pos) (tWhile tc tb) := by
 intro pins s σ H D I h
 obtain ⟨W, ⟨m0, w0⟩, turn⟩ := h
 refine wpAny_While (codeAny_whileLoop (fun n s' => ∃ σ' H', Inv X pins σ' H' s' ∧ W n σ' H') ?_ m0 ⟨σ, H, I, w0⟩)
 rintro n s1 ⟨σ1, H1, I1, w1⟩
 refine wpAny_passesOwn hp (thn (hc pins s1 σ1 H1 _ I1 (turn n σ1 H1 w1)) fun b s2 ⟨H2, I2, q2⟩ => ?_)
 cases b with
 | true =>
  obtain ⟨N, hN, q2⟩ := q2
  rw [if_pos rfl]
  refine wpAny_passesOwn hp (thn (hb pins s2 σ1 H2 _ I2 q2) fun f s3 q3 => ?_)
  cases f with
  | next =>
   obtain ⟨σ3, H3, I3, n3⟩ := q3
   obtain ⟨m', hm, w3⟩ := hN σ3 H3 n3
   exact ⟨m', hm, σ3, H3, I3, w3⟩
  | cont =>
   obtain ⟨σ3, H3, I3, n3⟩ := q3
   obtain ⟨m', hm, w3⟩ := hN σ3 H3 n3
   exact ⟨m', hm, σ3, H3, I3, w3⟩
  | brk => exact q3
  | ret v => exact q3
 | false =>
  rw [if_neg Bool.false_ne_true]
  exact wpAny_execs_nil ⟨σ1, H2, I2, q2⟩
end
structure It where
 go : Nat → Hp → Prop
 yld : Nat → Hp → V → Hp → Prop
 stop : Nat → Hp → Prop
def FpOk (X : Cx) (pins : List (Addr × Obj)) (H : Hp) (b : Addr) : Prop :=
 H b = none ∧ b ≠ X.env.locals ∧ b ∉ X.fs ∧ (b ∈ X.ex ∨ X.s_0.heap.objs.size ≤ b) ∧ (∀ x c, X.env.cells.lookup x = some c → c ≠ b) ∧ ∀ p ∈ X.pn ++ pins, p.1 ≠ b
theorem Inv.fpOk {X : Cx} {pins : List (Addr × Obj)} {σ : St} {H H' : Hp} {s : Shared} {b : Addr} (I : Inv X pins σ H s) (hb : s.heap.objs.size ≤ b) (hn : H' b = none) : FpOk X pins H' b := by
 refine ⟨hn, Nat.ne_of_gt (Nat.lt_of_lt_of_le I.lt hb), I.nofs hb, .inr (Nat.le_trans I.sz hb), fun x c e z => ?_, fun p hp z => ?_⟩
 ·obtain ⟨v, q⟩ := I.cell x c e
  exact absurd (Nat.lt_of_lt_of_le q.lt (by rw [z]; exact hb)) (Nat.lt_irrefl _)
 ·exact absurd (Nat.lt_of_lt_of_le (Heap.lt_size (I.pin p hp).1) (by rw [z]; exact hb)) (Nat.lt_irrefl _)
structure Turn (P : Program) (w : World) (K : PySem.W.Frag) (tg : Expr) (J : It) (fp : List Addr) (it : Addr) (tn : Nat → Heap → Prop) : Prop where
 mem : it ∈ fp
 obj : ∀ i h, tn i h → ∀ b ∈ fp, ∃ o, h.get? b = some o ∧ ∀ v, o.data ≠ .cell v
 keep : ∀ i h h', tn i h → (∀ b ∈ fp, ∀ o, h.get? b = some o → h'.get? b = some o) → tn i h'
 item : ∀ (X : Cx), X.prog = P → X.w = w → X.K = K → X.calm = true → ∀ (i : Nat) (pins : List (Addr × Obj)) (s : Shared) (σ : St) (H : Hp) (E : Value → Shared → Prop), Inv X pins σ H s → (∀ b ∈ fp, FpOk X pins H b) → tn i s.heap → J.go i H →
  wpAny (model P w) X.A (pyNext (.ref it)) (fun r s1 => ∃ u, r = some u ∧
   wpAny (model P w) X.A (letOwnedTupleGo tg (.ref it) u) (fun _ s2 => ∃ x H', Inv X pins σ H' s2 ∧ RelV x u ∧ J.yld i H x H' ∧ tn (i + 1) s2.heap ∧ ∀ b ∈ fp, H' b = none) E s1) E s
 done : ∀ (X : Cx), X.prog = P → X.w = w → X.K = K → X.calm = true → ∀ (i : Nat) (pins : List (Addr × Obj)) (s : Shared) (σ : St) (H : Hp) (E : Value → Shared → Prop), Inv X pins σ H s → (∀ b ∈ fp, FpOk X pins H b) → tn i s.heap → J.stop i H →
  wpAny (model P w) X.A (pyNext (.ref it)) (fun r s1 => r = none ∧ Inv X pins σ H s1) E s
 self : ∀ (A : Around) (i : Nat) (s : Shared) (Q : Value → Shared → Prop) (E : Value → Shared → Prop), tn i s.heap → Q (.ref it) s → wpAny (model P w) A (pyIter (.ref it)) Q E s
abbrev TI := St → Hp → (It → Hp → Prop) → Prop
def PIE (X : Cx) (pins : List (Addr × Obj)) (σ : St) (tg : Expr) (R : It → Hp → Prop) (itv : Value) (s2 : Shared) : Prop :=
 ∃ (it : Addr) (fp : List Addr) (tn : Nat → Heap → Prop) (J : It) (H' : Hp), itv = .ref it ∧ Inv X pins σ H' s2 ∧ Turn X.prog X.w X.K tg J fp it tn ∧ tn 0 s2.heap ∧ (∀ b ∈ fp, FpOk X pins H' b) ∧ R J H'
def PI (X : Cx) (tg iter : Expr) (wi : TI) : Prop :=
 ∀ (pins : List (Addr × Obj)) (s : Shared) (σ : St) (H : Hp) (R : It → Hp → Prop), Inv X pins σ H s → wi σ H R →
  wpAny (model X.prog X.w) X.A (eval iter X.env) (fun v s1 => wpAny (model X.prog X.w) X.A (pyIter v) (PIE X pins σ tg R) X.xe s1) X.xe s
theorem go_of {M : Model} {A : Around} {E : Value → Shared → Prop} {s : Shared} {tg : Expr} {it : Addr} {u : Value} {o : Obj} {n : String} {vs : Array Value} {Q : Unit → Shared → Prop} (ho : s.heap.get? it = some o) (hc : o.cls = .type n) (hd : o.data = .fields vs)
    (hn : ["enumerate", "zip", "dict_itemiterator", "dict_reverseitemiterator", "odict_iterator", "itertools.zip_longest", "itertools.pairwise"].contains n = false) (hQ : Q () s) : wpAny M A (letOwnedTupleGo tg (.ref it) u) Q E s := by
  unfold letOwnedTupleGo
  cases tg <;> first
    | exact wpAny_pure hQ
    | (cases u <;> first
        | exact wpAny_pure hQ
        | (refine wpAny_bind (wpAny_load ho ?_)
           rw [hc, hd]
           show wpAny M A (if (["enumerate", "zip", "dict_itemiterator", "dict_reverseitemiterator", "odict_iterator", "itertools.zip_longest", "itertools.pairwise"].contains n && vs[0]? == some (rawInt _)) = true then _ else _) Q E s
           rw [if_neg (by intro h; rw [hn, Bool.false_and] at h; cases h)]
           exact wpAny_pure hQ))
def Itl (K : PySem.W.Frag) (a : Addr) : It :=
 ⟨fun i H => ∃ xs x, SqL K H a xs ∧ xs[i]? = some x, fun i H x H' => H' = H ∧ ∀ xs, SqL K H a xs → xs[i]? = some x, fun i H => ∃ xs, SqL K H a xs ∧ xs.length ≤ i⟩
def Itt (K : PySem.W.Frag) (a : Addr) : It :=
 ⟨fun i H => ∃ xs x, SqT K H a xs ∧ xs[i]? = some x, fun i H x H' => H' = H ∧ ∀ xs, SqT K H a xs → xs[i]? = some x, fun i H => ∃ xs, SqT K H a xs ∧ xs.length ≤ i⟩
theorem turn_list {P : Program} {w : World} {K : PySem.W.Frag} {tg : Expr} (a it : Addr) : Turn P w K tg (Itl K a) [it] it (fun i h => h.IsListIter it a i) where
 mem := by simp
 obj := fun i h st b hb => by
  have e : b = it := by simpa using hb
  subst e
  obtain ⟨o, e, c, d⟩ := st
  exact ⟨o, e, fun v z => by rw [d] at z; cases z⟩
 keep := fun i h h' st k => st.at fun o e => k it (by simp) o e
 item := by
  intro X hP hw hK hc i pins s σ H E I hf st hg
  subst hP hw hK
  obtain ⟨xs, x, hq, hx⟩ := hg
  obtain ⟨its, rv, p, hz⟩ := I.list hq
  obtain ⟨u, hu, ru⟩ := rv.get hx
  obtain ⟨f0, f1, f2, f3, f4, f5⟩ := hf it (by simp)
  refine wpAny_pyNext_list_item st p.isList (x := u) (by simpa using hu) fun h' st' sb => ?_
  have I1 : Inv X pins σ H { s with heap := h' } := I.turned (t' := s.toks) (fun b o hb e => (sb.2 b hb).trans e) f0 f1 f3 f4 f5
  obtain ⟨o, e, c, d⟩ := id st'
  exact ⟨u, rfl, go_of (s := { s with heap := h' }) e c d (by decide) ⟨x, H, I1, ru, ⟨rfl, fun ys hy => by rw [I.list_inj hy hq]; exact hx⟩, st', fun b hb => (hf b hb).1⟩⟩
 done := by
  intro X hP hw hK hc i pins s σ H E I hf st hg
  subst hP hw hK
  obtain ⟨xs, hq, hx⟩ := hg
  obtain ⟨its, rv, p, hz⟩ := I.list hq
  obtain ⟨f0, f1, f2, f3, f4, f5⟩ := hf it (by simp)
  have hl := rv.length
  exact wpAny_pyNext_list_end (I.ok.hd hc) st p.isList (by simp; omega) fun h' eb => ⟨rfl, I.turned (t' := s.toks) (fun b o hb e => eb b o hb e) f0 f1 f3 f4 f5⟩
 self := fun _ _ _ _ _ st h => wpAny_pyIter_listiter st h
theorem turn_tuple {P : Program} {w : World} {K : PySem.W.Frag} {tg : Expr} (a it : Addr) : Turn P w K tg (Itt K a) [it] it (fun i h => h.IsTupleIter it a i) where
 mem := by simp
 obj := fun i h st b hb => by
  have e : b = it := by simpa using hb
  subst e
  obtain ⟨o, e, c, d⟩ := st
  exact ⟨o, e, fun v z => by rw [d] at z; cases z⟩
 keep := fun i h h' st k => st.at fun o e => k it (by simp) o e
 item := by
  intro X hP hw hK hc i pins s σ H E I hf st hg
  subst hP hw hK
  obtain ⟨xs, x, hq, hx⟩ := hg
  obtain ⟨its, rv, p, hz⟩ := I.tuple hq
  obtain ⟨u, hu, ru⟩ := rv.get hx
  obtain ⟨f0, f1, f2, f3, f4, f5⟩ := hf it (by simp)
  refine wpAny_pyNext_tuple_item st (show s.heap.IsTuple a its.toArray from p) (x := u) (by simpa using hu) fun h' st' sb => ?_
  have I1 : Inv X pins σ H { s with heap := h' } := I.turned (t' := s.toks) (fun b o hb e => (sb.2 b hb).trans e) f0 f1 f3 f4 f5
  obtain ⟨o, e, c, d⟩ := id st'
  exact ⟨u, rfl, go_of (s := { s with heap := h' }) e c d (by decide) ⟨x, H, I1, ru, ⟨rfl, fun ys hy => by rw [I.tuple_inj hy hq]; exact hx⟩, st', fun b hb => (hf b hb).1⟩⟩
 done := by
  intro X hP hw hK hc i pins s σ H E I hf st hg
  subst hP hw hK
  obtain ⟨xs, hq, hx⟩ := hg
  obtain ⟨its, rv, p, hz⟩ := I.tuple hq
  obtain ⟨f0, f1, f2, f3, f4, f5⟩ := hf it (by simp)
  have hl := rv.length
  exact wpAny_pyNext_tuple_end (I.ok.hd hc) st (show s.heap.IsTuple a its.toArray from p) (by simp; omega) fun h' eb => ⟨rfl, I.turned (t' := s.toks) (fun b o hb e => eb b o hb e) f0 f1 f3 f4 f5⟩
 self := fun _ _ _ _ _ st h => wpAny_pyIter_tupleiter st h
end L2
namespace L2
open PySem PySem.Spec PyProof.Rows
section
variable {X : Cx} {tg : Expr}
def iList (K : PySem.W.Frag) (tl : TE) : TI := fun σ H R => tl σ H fun x H1 => ∃ a, x = .ref a ∧ (∃ xs, SqL K H1 a xs) ∧ R (Itl K a) H1
def iTup (K : PySem.W.Frag) (tl : TE) : TI := fun σ H R => tl σ H fun x H1 => ∃ a, x = .ref a ∧ (∃ xs, SqT K H1 a xs) ∧ R (Itt K a) H1
theorem pi_list {l : Expr} {tl : TE} (hl : PE X l tl) : PI X tg l (iList X.K tl) := by
 intro pins s σ H R I h
 refine thn (hl pins s σ H _ I h) fun v s1 ⟨x, H1, I1, r1, q1⟩ => ?_
 obtain ⟨a, e, ⟨xs, hq⟩, q⟩ := q1
 subst e
 cases r1
 obtain ⟨its, rv, p, hz⟩ := I1.list hq
 refine wpAny_pyIter_list p.isList ?_
 refine ⟨s1.heap.objs.size, [s1.heap.objs.size], _, _, H1, rfl, I1.kept (t' := s1.toks) fun b o e => Heap.get?_push_of_some _ e, turn_list a _, ⟨_, Heap.get?_push_size _ rfl, rfl, rfl⟩, fun b hb => ?_, q⟩
 have e : b = s1.heap.objs.size := by simpa using hb
 subst e
 exact I1.fpOk (Nat.le_refl _) (I1.hok.fresh (Nat.le_refl _))
theorem pi_tup {l : Expr} {tl : TE} (hl : PE X l tl) : PI X tg l (iTup X.K tl) := by
 intro pins s σ H R I h
 refine thn (hl pins s σ H _ I h) fun v s1 ⟨x, H1, I1, r1, q1⟩ => ?_
 obtain ⟨a, e, ⟨xs, hq⟩, q⟩ := q1
 subst e
 cases r1
 obtain ⟨its, rv, p, hz⟩ := I1.tuple hq
 refine wpAny_pyIter_tuple (show s1.heap.IsTuple a its.toArray from p) ?_
 refine ⟨s1.heap.objs.size, [s1.heap.objs.size], _, _, H1, rfl, I1.kept (t' := s1.toks) fun b o e => Heap.get?_push_of_some _ e, turn_tuple a _, ⟨_, Heap.get?_push_size _ rfl, rfl, rfl⟩, fun b hb => ?_, q⟩
 have e : b = s1.heap.objs.size := by simpa using hb
 subst e
 exact I1.fpOk (Nat.le_refl _) (I1.hok.fresh (Nat.le_refl _))
def tFor (wi : TI) (g : TG) (tb : TS) : TS := fun D σ H => wi σ H fun J H1 => ∃ W : Nat → Nat → St → Hp → Prop, (∃ m, W 0 m σ H1) ∧ ∀ i m σ H, W i m σ H →
 (J.stop i H ∧ D.nx σ H) ∨ (J.go i H ∧ ∃ N : St → Hp → Prop, (∀ σ' H', N σ' H' → ∃ m', m' < m ∧ W (i + 1) m' σ' H') ∧ ∀ x H', J.yld i H x H' → g x σ H' fun σ2 H2 => tb { D with nx := N, ct := N, bk := D.nx } σ2 H2)
def pinsAt (fp : List Addr) (h : Heap) : List (Addr × Obj) := fp.filterMap fun b => (h.get? b).map fun o => (b, o)
theorem mem_pinsAt {fp : List Addr} {h : Heap} {b : Addr} {o : Obj} (hb : b ∈ fp) (e : h.get? b = some o) : (b, o) ∈ pinsAt fp h := List.mem_filterMap.mpr ⟨b, hb, by rw [e]; rfl⟩
theorem of_pinsAt {fp : List Addr} {h : Heap} {p : Addr × Obj} (hp : p ∈ pinsAt fp h) : p.1 ∈ fp ∧ h.get? p.1 = some p.2 := by
 obtain ⟨b, hb, e⟩ := List.mem_filterMap.mp hp
 cases q : h.get? b with
 | none => rw [q] at e; cases e
 | some o =>
  rw [q] at e
  have e' : (b, o) = p := Option.some.inj e
  subst e'
  exact ⟨hb, q⟩
theorem Inv.pinned {pins : List (Addr × Obj)} {σ : St} {H : Hp} {s : Shared} {fp : List Addr} (I : Inv X pins σ H s) (hf : ∀ b ∈ fp, FpOk X pins H b) (ho : ∀ b ∈ fp, ∃ o, s.heap.get? b = some o ∧ ∀ v, o.data ≠ .cell v) : Inv X (pins ++ pinsAt fp s.heap) σ H s :=
 I.pins_of fun p hp => (List.mem_append.mp hp).elim (fun z => I.pin p (List.mem_append_right _ z)) fun z => by
  obtain ⟨hb, e⟩ := of_pinsAt z
  obtain ⟨f0, f1, f2, _⟩ := hf p.1 hb
  obtain ⟨o, e', d⟩ := ho p.1 hb
  rw [e] at e'; cases e'
  exact ⟨e, f0, f1, f2, d⟩
theorem Inv.unpinned {pins pl : List (Addr × Obj)} {σ : St} {H : Hp} {s : Shared} (I : Inv X (pins ++ pl) σ H s) : Inv X pins σ H s := I.pins_of fun p hp => I.pin p (List.mem_append_right _ (List.mem_append_left _ hp))
theorem ps_for {iter : Expr} {body : List Stmt} {wi : TI} {g : TG} {tb : TS} {pos : Pos} (hp : PassesOwn (model X.prog X.w) X.A X.env X.xe) (hc : X.calm = true) (hi : PI X tg iter wi) (hg : PG X tg g) (hb : PSs X body tb)
  (hs : ∀ x, foldedSetIterable iter X.env x = pure x := by intro _; rfl) : PS X (.For tg iter body [] pos) (tFor wi g tb) := by
 intro pins s σ H D I h
 refine wpAny_For (thn (hi pins s σ H _ I h) fun v s1 h1 => thn h1 fun itv s2 h2 => ?_) hs
 obtain ⟨it, fp, tn, J, H2, e, I2, T, st2, f2, W, ⟨m0, w0⟩, turn⟩ := h2
 subst e
 have stat : ∀ {H' : Hp}, (∀ b ∈ fp, H' b = none) → ∀ b ∈ fp, FpOk X pins H' b := fun hn b hb => ⟨hn b hb, (f2 b hb).2⟩
 refine codeAny_forLoop_any (fun n s' => ∃ i σ' H', Inv X pins σ' H' s' ∧ tn i s'.heap ∧ (∀ b ∈ fp, H' b = none) ∧ W i n σ' H') ?_ m0 ⟨0, σ, H2, I2, st2, fun b hb => (f2 b hb).1, w0⟩
 rintro n s3 ⟨i, σ3, H3, I3, st3, fr3, w3⟩
 rcases turn i n σ3 H3 w3 with ⟨stop, qn⟩ | ⟨go, N, hN, step⟩
 ·refine wpAny_passesOwn hp (thn (T.done X rfl rfl rfl hc i pins s3 σ3 H3 X.xe I3 (stat fr3) st3 stop) fun r s4 ⟨hr, I4⟩ => ?_)
  subst hr
  exact wpAny_execs_nil ⟨σ3, H3, I4, qn⟩
 ·refine wpAny_passesOwn hp (thn (T.item X rfl rfl rfl hc i pins s3 σ3 H3 X.xe I3 (stat fr3) st3 go) fun r s4 ⟨u, hr, h4⟩ => ?_)
  subst hr
  refine wpAny_passesOwn hp (thn h4 fun _ s5 ⟨x, H5, I5, r5, y5, st5, fr5⟩ => ?_)
  have I5' := I5.pinned (stat fr5) (T.obj _ _ st5)
  refine wpAny_passesOwn hp (thn (hg _ s5 σ3 H5 x u _ I5' r5 (step x H5 y5)) fun _ s6 ⟨σ6, H6, I6, q6⟩ => ?_)
  refine wpAny_passesOwn hp (thn (hb _ s6 σ6 H6 _ I6 q6) fun f s7 q7 => ?_)
  have again : ∀ {σ7 : St} {H7 : Hp}, Inv X (pins ++ pinsAt fp s5.heap) σ7 H7 s7 → N σ7 H7 → ∃ m, m < n ∧ ∃ i σ' H', Inv X pins σ' H' s7 ∧ tn i s7.heap ∧ (∀ b ∈ fp, H' b = none) ∧ W i m σ' H' := fun {σ7 H7} I7 n7 => by
   obtain ⟨m', hm, w7⟩ := hN σ7 H7 n7
   refine ⟨m', hm, i + 1, σ7, H7, I7.unpinned, T.keep _ _ _ st5 fun b hb o e => (I7.pin (b, o) (List.mem_append_right _ (List.mem_append_right _ (mem_pinsAt hb e)))).1, fun b hb => ?_, w7⟩
   obtain ⟨o, e, d⟩ := T.obj _ _ st5 b hb
   exact (I7.pin (b, o) (List.mem_append_right _ (List.mem_append_right _ (mem_pinsAt hb e)))).2.1
  cases f with
  | next => obtain ⟨σ7, H7, I7, n7⟩ := q7; exact again I7 n7
  | cont => obtain ⟨σ7, H7, I7, n7⟩ := q7; exact again I7 n7
  | brk => obtain ⟨σ7, H7, I7, q7⟩ := q7; exact ⟨σ7, H7, I7.unpinned, q7⟩
  | ret v => obtain ⟨x7, σ7, H7, I7, r7, q7⟩ := q7; exact ⟨x7, σ7, H7, I7.unpinned, r7, q7⟩
end
end L2
namespace L2
open PySem PySem.Spec PyProof.Rows
abbrev R2 := V → V → Hp → VK → Prop
def OpR (X : Cx) (f : Value → Value → Sem Value) (r : R2) : Prop :=
 ∀ (pins : List (Addr × Obj)) (s : Shared) (σ : St) (H : Hp) (x y : V) (v u : Value) (Q : VK), Inv X pins σ H s → RelV x v → RelV y u → r x y H Q →
  wpAny (model X.prog X.w) X.A (f v u) (EP X pins σ Q) X.xe s
def UnR (X : Cx) (f : Value → Sem Value) (r : V → Hp → VK → Prop) : Prop :=
 ∀ (pins : List (Addr × Obj)) (s : Shared) (σ : St) (H : Hp) (x : V) (v : Value) (Q : VK), Inv X pins σ H s → RelV x v → r x H Q →
  wpAny (model X.prog X.w) X.A (f v) (EP X pins σ Q) X.xe s
def CallR (X : Cx) (f : Value) (r : List V → Hp → VK → Prop) : Prop :=
 ∀ (pins : List (Addr × Obj)) (s : Shared) (σ : St) (H : Hp) (xs : List V) (us : List Value) (Q : VK), Inv X pins σ H s → Vals xs us → r xs H Q →
  wpAny (model X.prog X.w) X.A (call f us) (EP X pins σ Q) X.xe s
def TruR (X : Cx) (r : V → Hp → (Bool → Hp → Prop) → Prop) : Prop :=
 ∀ (pins : List (Addr × Obj)) (s : Shared) (σ : St) (H : Hp) (x : V) (v : Value) (Q : Bool → Hp → Prop), Inv X pins σ H s → RelV x v → r x H Q →
  wpAny (model X.prog X.w) X.A (truthy v) (TP X pins σ Q) X.xe s
def tOp (r : R2) (ta tb : TE) : TE := fun σ H Q => ta σ H fun x H1 => tb σ H1 fun y H2 => r x y H2 Q
def tUn (r : V → Hp → VK → Prop) (ta : TE) : TE := fun σ H Q => ta σ H fun x H1 => r x H1 Q
def rI (C : Int → Int → Prop) (g : Int → Int → V) : R2 := fun x y H Q => ∃ i j, x = .int i ∧ y = .int j ∧ C i j ∧ Q (g i j) H
def rI0 (g : Int → Int → V) : R2 := fun x y H Q => ∃ i j, x = .int i ∧ y = .int j ∧ Q (g i j) H
def rU (g : Int → V) : V → Hp → VK → Prop := fun x H Q => ∃ i, x = .int i ∧ Q (g i) H
section
variable {X : Cx} {a b c : Expr} {ta tb tc : TE} {pos : Pos}
theorem binT (ha : PE X a ta) (hb : PE X b tb) {pins : List (Addr × Obj)} {s : Shared} {σ : St} {H : Hp} {R : V → V → Hp → Prop} (I : Inv X pins σ H s)
  (h : ta σ H fun x H1 => tb σ H1 fun y H2 => R x y H2) {Q : Value → Shared → Prop} {f : Value → Value → Sem Value}
  (hf : ∀ v u s2 x y H2, Inv X pins σ H2 s2 → RelV x v → RelV y u → R x y H2 → wpAny (model X.prog X.w) X.A (f v u) Q X.xe s2) :
  wpAny (model X.prog X.w) X.A (eval a X.env) (fun v s₁ => wpAny (model X.prog X.w) X.A (eval b X.env) (fun u s₂ => wpAny (model X.prog X.w) X.A (f v u) Q X.xe s₂) X.xe s₁) X.xe s := by
 refine thn (ha pins s σ H _ I h) fun v s1 ⟨x, H1, I1, r1, q1⟩ => ?_
 refine thn (hb pins s1 σ H1 _ I1 q1) fun u s2 ⟨y, H2, I2, r2, q2⟩ => ?_
 exact hf v u s2 x y H2 I2 r1 r2 q2
theorem pe_op {op : Operator} {r : R2} (ho : OpR X (binaryOp op) r) (ha : PE X a ta) (hb : PE X b tb) : PE X (.BinOp a op b pos) (tOp r ta tb) := by
 intro pins s σ H Q I h
 exact wpAny_BinOp (binT ha hb I h fun v u s2 x y H2 I2 rx ry q => ho pins s2 σ H2 x y v u Q I2 rx ry q)
theorem pe_un {op : UnaryOp} {r : V → Hp → VK → Prop} (ho : UnR X (unaryOp op) r) (ha : PE X a ta) : PE X (.UnaryOp op a pos) (tUn r ta) := by
 intro pins s σ H Q I h
 exact UnaryOp_ (thn (ha pins s σ H _ I h) fun v s1 ⟨x, H1, I1, r1, q1⟩ => ho pins s1 σ H1 x v Q I1 r1 q1)
theorem opI {f : Value → Value → Sem Value} {C : Int → Int → Prop} {g : Int → Int → Int}
  (rule : ∀ (i j : Int) (t u : Tok) (s : Shared) (Q : Value → Shared → Prop) (E : Value → Shared → Prop), C i j → Q (.int (g i j) s.toks) { s with toks := s.toks + 1 } → wpAny (model X.prog X.w) X.A (f (.int i t) (.int j u)) Q E s) :
  OpR X f (rI C fun i j => .int (g i j)) := by
 intro pins s σ H x y v u Q I rx ry h
 obtain ⟨i, j, rfl, rfl, hc, q⟩ := h
 obtain ⟨t, rfl⟩ := rx
 obtain ⟨t', rfl⟩ := ry
 exact rule i j t t' s _ _ hc ⟨.int (g i j), H, I.tok _, ⟨_, rfl⟩, q⟩
theorem opI0 {f : Value → Value → Sem Value} {g : Int → Int → Int}
  (rule : ∀ (i j : Int) (t u : Tok) (s : Shared) (Q : Value → Shared → Prop) (E : Value → Shared → Prop), Q (.int (g i j) s.toks) { s with toks := s.toks + 1 } → wpAny (model X.prog X.w) X.A (f (.int i t) (.int j u)) Q E s) :
  OpR X f (rI0 fun i j => .int (g i j)) := by
 intro pins s σ H x y v u Q I rx ry h
 obtain ⟨i, j, rfl, rfl, q⟩ := h
 obtain ⟨t, rfl⟩ := rx
 obtain ⟨t', rfl⟩ := ry
 exact rule i j t t' s _ _ ⟨.int (g i j), H, I.tok _, ⟨_, rfl⟩, q⟩
theorem opB0 {f : Value → Value → Sem Value} {g : Int → Int → Bool}
  (rule : ∀ (i j : Int) (t u : Tok) (s : Shared) (Q : Value → Shared → Prop) (E : Value → Shared → Prop), Q (.bool (g i j)) s → wpAny (model X.prog X.w) X.A (f (.int i t) (.int j u)) Q E s) :
  OpR X f (rI0 fun i j => .bl (g i j)) := by
 intro pins s σ H x y v u Q I rx ry h
 obtain ⟨i, j, rfl, rfl, q⟩ := h
 obtain ⟨t, rfl⟩ := rx
 obtain ⟨t', rfl⟩ := ry
 exact rule i j t t' s _ _ ⟨.bl (g i j), H, I, rfl, q⟩
def CMul (i j : Int) : Prop := (-(2 ^ 64) < i ∧ i < 2 ^ 64) ∨ (-(2 ^ 64) < j ∧ j < 2 ^ 64)
theorem CMul.ok {i j : Int} (h : CMul i j) : IntMulOk i j := by
 rcases h with ⟨h1, h2⟩ | ⟨h1, h2⟩
 ·exact .of_left (intBits_le_64 h1 h2)
 ·exact .of_right (intBits_le_64 h1 h2)
theorem op_add : OpR X (binaryOp .Add) (rI0 fun i j => .int (i + j)) := opI0 fun _ _ _ _ _ _ _ q => add_int q
theorem op_sub : OpR X (binaryOp .Sub) (rI0 fun i j => .int (i - j)) := opI0 fun _ _ _ _ _ _ _ q => sub_int q
theorem op_mul : OpR X (binaryOp .Mult) (rI CMul fun i j => .int (i * j)) := opI fun _ _ _ _ _ _ _ hc q => mul_int q hc.ok
theorem op_mod : OpR X (binaryOp .Mod) (rI (fun _ j => 0 < j) fun i j => .int (i % j)) := opI fun i j _ _ _ _ _ hc q => by
 have h1 : (0 : Int) < j := hc
 exact mod_int' (by omega) (by rw [Int.fmod_eq_emod_of_nonneg i (by omega)]; exact q)
theorem unI {f : Value → Sem Value} {g : Int → Int}
  (rule : ∀ (i : Int) (t : Tok) (s : Shared) (Q : Value → Shared → Prop) (E : Value → Shared → Prop), Q (.int (g i) s.toks) { s with toks := s.toks + 1 } → wpAny (model X.prog X.w) X.A (f (.int i t)) Q E s) :
  UnR X f (rU fun i => .int (g i)) := by
 intro pins s σ H x v Q I rx h
 obtain ⟨i, rfl, q⟩ := h
 obtain ⟨t, rfl⟩ := rx
 exact rule i t s _ _ ⟨.int (g i), H, I.tok _, ⟨_, rfl⟩, q⟩
theorem un_neg : UnR X (unaryOp .USub) (rU fun i => .int (-i)) := unI fun _ _ _ _ _ q => neg_int q
end
def scal : V → V → Bool
 | .non, .non => true | .non, .int _ => true | .int _, .non => true | .non, .bl _ => true | .bl _, .non => true | .non, .str _ => true | .str _, .non => true
 | .int _, .int _ => true | .bl _, .bl _ => true | .str _, .str _ => true | .byt _, .byt _ => true
 | .int _, .str _ => true | .str _, .int _ => true | .bl _, .str _ => true | .str _, .bl _ => true
 | _, _ => false
def rEq : R2 := fun x y H Q => scal x y = true ∧ Q (.bl (decide (x = y))) H
def rNe : R2 := fun x y H Q => scal x y = true ∧ Q (.bl (!decide (x = y))) H
theorem dec_int {i j : Int} : decide (V.int i = V.int j) = (i == j) := by
 rw [Bool.eq_iff_iff]
 simp
theorem dec_bl {i j : Bool} : decide (V.bl i = V.bl j) = (i == j) := by
 rw [Bool.eq_iff_iff]
 simp
theorem dec_str {i j : Str} : decide (V.str i = V.str j) = (i == j) := by
 rw [Bool.eq_iff_iff]
 simp
theorem dec_byt {i j : Array UInt8} : decide (V.byt i = V.byt j) = (i.toList == j.toList) := by
 rw [Bool.eq_iff_iff]
 cases i
 cases j
 simp
section
variable {X : Cx} {a b c : Expr} {ta tb tc : TE} {pos : Pos}
theorem fin_bl {pins : List (Addr × Obj)} {σ : St} {H : Hp} {s : Shared} {Q : VK} {k k' : Bool} (I : Inv X pins σ H s) (q : Q (.bl k) H) (e : k = k') : EP X pins σ Q (.bool k') s := by
 subst e
 exact ⟨.bl k, H, I, rfl, q⟩
theorem op_eq : OpR X (compareOp .Eq) rEq := by
 intro pins s σ H x y v u Q I rx ry h
 obtain ⟨hs, q⟩ := h
 cases x with
 | non =>
  cases rx
  cases y with
  | non => cases ry; exact PySem.EqNone.eq_none_none (fin_bl I q (by simp))
  | bl j => cases ry; exact PySem.EqNone.eq_none_bool (fin_bl I q (by simp))
  | int j => obtain ⟨t', rfl⟩ := ry; exact PySem.EqNone.eq_none_int (fin_bl I q (by simp))
  | str j => obtain ⟨t', rfl⟩ := ry; exact PySem.EqNone.eq_none_str (fin_bl I q (by simp))
  | _ => exact absurd (show false = true from hs) Bool.false_ne_true
 | bl i =>
  cases rx
  cases y with
  | non => cases ry; exact PySem.EqNone.eq_bool_none (fin_bl I q (by simp))
  | bl j => cases ry; exact eq_bool (fin_bl I q dec_bl)
  | str j => obtain ⟨t', rfl⟩ := ry; exact PySem.EqMixed.eq_bool_str (fin_bl I q (by simp))
  | _ => exact absurd (show false = true from hs) Bool.false_ne_true
 | int i =>
  obtain ⟨t, rfl⟩ := rx
  cases y with
  | non => cases ry; exact PySem.EqNone.eq_int_none (fin_bl I q (by simp))
  | int j => obtain ⟨t', rfl⟩ := ry; exact eq_int (fin_bl I q dec_int)
  | str j => obtain ⟨t', rfl⟩ := ry; exact PySem.EqMixed.eq_int_str (fin_bl I q (by simp))
  | _ => exact absurd (show false = true from hs) Bool.false_ne_true
 | str i =>
  obtain ⟨t, rfl⟩ := rx
  cases y with
  | non => cases ry; exact PySem.EqNone.eq_str_none (fin_bl I q (by simp))
  | bl j => cases ry; exact PySem.EqMixed.eq_str_bool (fin_bl I q (by simp))
  | int j => obtain ⟨t', rfl⟩ := ry; exact PySem.EqMixed.eq_str_int (fin_bl I q (by simp))
  | str j => obtain ⟨t', rfl⟩ := ry; exact eq_str (fin_bl I q dec_str)
  | _ => exact absurd (show false = true from hs) Bool.false_ne_true
 | byt i =>
  obtain ⟨t, rfl⟩ := rx
  cases y with
  | byt j => obtain ⟨t', rfl⟩ := ry; exact PySem.W.eq_bytes (fin_bl I q dec_byt)
  | _ => exact absurd (show false = true from hs) Bool.false_ne_true
 | _ => cases y <;> exact absurd (show false = true from hs) Bool.false_ne_true
theorem op_ne : OpR X (compareOp .NotEq) rNe := by
 intro pins s σ H x y v u Q I rx ry h
 obtain ⟨hs, q⟩ := h
 cases x with
 | non =>
  cases rx
  cases y with
  | non => cases ry; exact PySem.EqNone.ne_none_none (fin_bl I q (by simp))
  | bl j => cases ry; exact PySem.EqNone.ne_none_bool (fin_bl I q (by simp))
  | int j => obtain ⟨t', rfl⟩ := ry; exact PySem.EqNone.ne_none_int (fin_bl I q (by simp))
  | str j => obtain ⟨t', rfl⟩ := ry; exact PySem.EqNone.ne_none_str (fin_bl I q (by simp))
  | _ => exact absurd (show false = true from hs) Bool.false_ne_true
 | bl i =>
  cases rx
  cases y with
  | non => cases ry; exact PySem.EqNone.ne_bool_none (fin_bl I q (by simp))
  | bl j => cases ry; exact ne_bool (fin_bl I q (congrArg not dec_bl))
  | str j => obtain ⟨t', rfl⟩ := ry; exact PySem.EqMixed.ne_bool_str (fin_bl I q (by simp))
  | _ => exact absurd (show false = true from hs) Bool.false_ne_true
 | int i =>
  obtain ⟨t, rfl⟩ := rx
  cases y with
  | non => cases ry; exact PySem.EqNone.ne_int_none (fin_bl I q (by simp))
  | int j => obtain ⟨t', rfl⟩ := ry; exact ne_int (fin_bl I q (congrArg not dec_int))
  | str j => obtain ⟨t', rfl⟩ := ry; exact PySem.EqMixed.ne_int_str (fin_bl I q (by simp))
  | _ => exact absurd (show false = true from hs) Bool.false_ne_true
 | str i =>
  obtain ⟨t, rfl⟩ := rx
  cases y with
  | non => cases ry; exact PySem.EqNone.ne_str_none (fin_bl I q (by simp))
  | bl j => cases ry; exact PySem.EqMixed.ne_str_bool (fin_bl I q (by simp))
  | int j => obtain ⟨t', rfl⟩ := ry; exact PySem.EqMixed.ne_str_int (fin_bl I q (by simp))
  | str j => obtain ⟨t', rfl⟩ := ry; exact ne_str (fin_bl I q (congrArg not dec_str))
  | _ => exact absurd (show false = true from hs) Bool.false_ne_true
 | byt i =>
  obtain ⟨t, rfl⟩ := rx
  cases y with
  | byt j => obtain ⟨t', rfl⟩ := ry; exact PySem.W.ne_bytes (fin_bl I q (congrArg not dec_byt))
  | _ => exact absurd (show false = true from hs) Bool.false_ne_true
 | _ => cases y <;> exact absurd (show false = true from hs) Bool.false_ne_true
theorem op_lt : OpR X (compareOp .Lt) (rI0 fun i j => .bl (decide (i < j))) := opB0 fun _ _ _ _ _ _ _ q => lt_int q
theorem op_le : OpR X (compareOp .LtE) (rI0 fun i j => .bl (decide (i ≤ j))) := opB0 fun _ _ _ _ _ _ _ q => le_int q
theorem op_gt : OpR X (compareOp .Gt) (rI0 fun i j => .bl (decide (j < i))) := opB0 fun _ _ _ _ _ _ _ q => gt_int q
theorem op_ge : OpR X (compareOp .GtE) (rI0 fun i j => .bl (decide (j ≤ i))) := opB0 fun _ _ _ _ _ _ _ q => ge_int q
theorem op_isN : OpR X (compareOp .Is) (fun x y H Q => y = .non ∧ Q (.bl (decide (x = .non))) H) := by
 intro pins s σ H x y v u Q I rx ry h
 obtain ⟨rfl, q⟩ := h
 cases ry
 refine is_none_gen (fin_bl I q ?_)
 cases x <;> first
  | (cases rx; rfl)
  | (obtain ⟨t, rfl⟩ := rx; rfl)
theorem op_notN : OpR X (compareOp .IsNot) (fun x y H Q => y = .non ∧ Q (.bl (!decide (x = .non))) H) := by
 intro pins s σ H x y v u Q I rx ry h
 obtain ⟨rfl, q⟩ := h
 cases ry
 refine isnot_none_gen (fin_bl I q ?_)
 cases x <;> first
  | (cases rx; rfl)
  | (obtain ⟨t, rfl⟩ := rx; rfl)
theorem nomark (b : Expr) {op : CmpOp} (h : op ≠ .In := by decide) (h2 : op ≠ .NotIn := by decide) : behindInMarks op b = false := by
 have e1 : (op == CmpOp.In) = false := by cases op <;> first | rfl | exact absurd rfl h
 have e2 : (op == CmpOp.NotIn) = false := by cases op <;> first | rfl | exact absurd rfl h2
 cases b <;> simp [behindInMarks, e1, e2]
theorem pe_cmpR {op : CmpOp} {r : R2} (ho : OpR X (compareOp op) r) (ha : PE X a ta) (hb : PE X b tb) (hm : behindInMarks op b = false) : PE X (.Compare a [op] [b] pos) (tOp r ta tb) := by
 intro pins s σ H Q I h
 exact wpAny_Compare1 (binT ha hb I h fun v u s2 x y H2 I2 rx ry q => ho pins s2 σ H2 x y v u Q I2 rx ry q) hm
def tTest (t : TE) : TT := fun σ H Q => t σ H fun x H' => ∃ k, x = .bl k ∧ Q k H'
theorem pt_cmpR {op : CmpOp} {r : R2} (ho : OpR X (compareOp op) r) (ha : PE X a ta) (hb : PE X b tb) (hm : behindInMarks op b = false) : PT X (.Compare a [op] [b] pos) (tTest (tOp r ta tb)) := by
 intro pins s σ H Q I h
 refine wpAny_isTrue_Compare1 (thn (ha pins s σ H _ I h) fun v s1 ⟨x, H1, I1, r1, q1⟩ => thn (hb pins s1 σ H1 _ I1 q1) fun u s2 ⟨y, H2, I2, r2, q2⟩ =>
  thn (ho pins s2 σ H2 x y v u _ I2 r1 r2 q2) fun c s3 ⟨z, H3, I3, r3, k, e, q3⟩ => ?_) hm
 subst e
 cases r3
 exact wpAny_truthy_bool ⟨H3, I3, q3⟩
def tChain (r r' : R2) (ta tb tc : TE) : TE := fun σ H Q => ta σ H fun x H1 => tb σ H1 fun y H2 => r x y H2 fun z H3 => ∃ k, z = .bl k ∧
 (if k = true then tc σ H3 fun w' H4 => r' y w' H4 Q else Q (.bl false) H3)
theorem pe_chain {op op' : CmpOp} {r r' : R2} (ho : OpR X (compareOp op) r) (ho' : OpR X (compareOp op') r') (ha : PE X a ta) (hb : PE X b tb) (hc : PE X c tc)
  (hm : lastMarks [op, op'] [b, c] = false := by with_unfolding_all rfl) : PE X (.Compare a [op, op'] [b, c] pos) (tChain r r' ta tb tc) := by
 intro pins s σ H Q I h
 refine Compare_chain (thn (ha pins s σ H _ I h) fun v s1 ⟨x, H1, I1, r1, q1⟩ => chain_link (thn (hb pins s1 σ H1 _ I1 q1) fun u s2 ⟨y, H2, I2, r2, q2⟩ =>
  thn (ho pins s2 σ H2 x y v u _ I2 r1 r2 q2) fun d s3 ⟨z, H3, I3, r3, k, e, q3⟩ => ?_)) hm
 subst e
 cases r3
 refine wpAny_truthy_bool ?_
 cases k with
 | false => exact ite_ff ⟨.bl false, H3, I3, rfl, q3⟩
 | true => exact ite_tt (chain_last (thn (hc pins s3 σ H3 _ I3 q3) fun w' s4 ⟨z', H4, I4, r4, q4⟩ => ho' pins s4 σ H4 y z' u w' Q I4 r2 r4 q4))
theorem pt_chain {op op' : CmpOp} {r r' : R2} (ho : OpR X (compareOp op) r) (ho' : OpR X (compareOp op') r') (ha : PE X a ta) (hb : PE X b tb) (hc : PE X c tc)
  (hm : lastMarks [op, op'] [b, c] = false := by with_unfolding_all rfl) : PT X (.Compare a [op, op'] [b, c] pos) (tTest (tChain r r' ta tb tc)) := by
 intro pins s σ H Q I h
 refine isTrue_chain (thn (ha pins s σ H _ I h) fun v s1 ⟨x, H1, I1, r1, q1⟩ => test_link (thn (hb pins s1 σ H1 _ I1 q1) fun u s2 ⟨y, H2, I2, r2, q2⟩ =>
  thn (ho pins s2 σ H2 x y v u _ I2 r1 r2 q2) fun d s3 ⟨z, H3, I3, r3, k, e, q3⟩ => ?_)) hm
 subst e
 cases r3
 refine wpAny_truthy_bool ?_
 cases k with
 | false =>
  obtain ⟨k', e', q'⟩ := q3
  cases e'
  exact ite_ff ⟨H3, I3, q'⟩
 | true =>
  refine ite_tt (test_last (thn (hc pins s3 σ H3 _ I3 q3) fun w' s4 ⟨z', H4, I4, r4, q4⟩ => thn (ho' pins s4 σ H4 y z' u w' _ I4 r2 r4 q4) fun d' s5 ⟨z2, H5, I5, r5, k2, e2, q5⟩ => ?_))
  subst e2
  cases r5
  exact wpAny_truthy_bool ⟨H5, I5, q5⟩
def TruV (K : PySem.W.Frag) (x : V) (H : Hp) (k : Bool) : Prop :=
 match x with
 | .non => k = false
 | .bl b => k = b
 | .int i => k = (i != 0)
 | .str y => y.length ≤ sizeLine ∧ k = ((y.length : Int) != 0)
 | .byt y => y.size ≤ sizeLine ∧ k = ((y.size : Int) != 0)
 | .ref p => (∃ xs, SqL K H p xs ∧ k = !xs.isEmpty) ∨ (∃ xs, SqT K H p xs ∧ k = !xs.isEmpty) ∨ ∃ kvs, H p = some (.dK kvs) ∧ k = !kvs.isEmpty
 | _ => False
theorem isEmpty_kv {κ : Type} {kvs : List (κ × V)} {vs : List (κ × Value)} (r : KV kvs vs) : (!vs.isEmpty) = !kvs.isEmpty := by
 cases r <;> rfl
theorem isEmpty_of {xs : List V} {its : List Value} (r : Vals xs its) : (!its.toArray.isEmpty) = !xs.isEmpty := by
 cases r <;> simp
theorem line63 : (sizeLine : Nat) < 2 ^ 63 := by rw [sizeLine_eq]; decide
theorem tru_ok : TruR X (fun x H Q => ∃ k, TruV X.K x H k ∧ Q k H) := by
 intro pins s σ H x v Q I rx h
 obtain ⟨k, e, q⟩ := h
 have hl := line63
 have hs : sizeLine = 16777216 := sizeLine_eq
 cases x with
 | non =>
  cases rx
  have e' : k = false := e
  subst e'
  exact truthy_none ⟨H, I, q⟩
 | bl b =>
  cases rx
  have e' : k = b := e
  subst e'
  exact wpAny_truthy_bool ⟨H, I, q⟩
 | int i =>
  obtain ⟨t, rfl⟩ := rx
  have e' : k = (i != 0) := e
  subst e'
  exact PySem.P.truthy_int ⟨H, I, q⟩
 | str y =>
  obtain ⟨t, rfl⟩ := rx
  obtain ⟨hy, e'⟩ : y.length ≤ sizeLine ∧ k = ((y.length : Int) != 0) := e
  subst e'
  exact PySem.P.truthy_str (by omega) ⟨H, I.tok _, q⟩
 | byt y =>
  obtain ⟨t, rfl⟩ := rx
  obtain ⟨hy, e'⟩ : y.size ≤ sizeLine ∧ k = ((y.size : Int) != 0) := e
  subst e'
  exact PySem.W.truthy_bytes (by omega) ⟨H, I.tok _, q⟩
 | ref p =>
  cases rx
  have e' : (∃ xs, SqL X.K H p xs ∧ k = !xs.isEmpty) ∨ (∃ xs, SqT X.K H p xs ∧ k = !xs.isEmpty) ∨ ∃ kvs, H p = some (.dK kvs) ∧ k = !kvs.isEmpty := e
  rcases e' with ⟨xs, hx, e'⟩ | ⟨xs, hx, e'⟩ | ⟨kvs, hx, e'⟩
  ·subst e'
   obtain ⟨its, r, pl, hz⟩ := I.list hx
   have hlen := r.length
   exact wpAny_truthy_list pl.isList (by simp only [List.size_toArray]; omega) ⟨H, I.tok _, by rw [isEmpty_of r]; exact q⟩
  ·subst e'
   obtain ⟨its, r, pl, hz⟩ := I.tuple hx
   have hlen := r.length
   exact truthy_tuple pl (by simp only [List.size_toArray]; omega) ⟨H, I.tok _, by rw [isEmpty_of r]; exact q⟩
  ·subst e'
   obtain ⟨hz, hS, vs, r, m⟩ : kvs.length ≤ sizeLine ∧ (p == sysModules) = false ∧ ∃ vs, KV kvs vs ∧ s.heap.DictOf (mixKind X.prog X.w) p vs := I.hok p _ hx
   have hlen : kvs.length = vs.length := Paired.length r
   exact wpAny_truthy_dict hS m (by omega) ⟨H, I.tok _, by rw [isEmpty_kv r]; exact q⟩
 | _ => exact (show False from e).elim
theorem pt_truth (ha : PE X a ta) (he : ∀ whole, isTrue a X.env whole = (do let v ← whole; standAt a.pos; holding [v] (truthy v))) :
  PT X a (fun σ H Q => ta σ H fun x H' => ∃ k, TruV X.K x H' k ∧ Q k H') := by
 intro pins s σ H Q I h
 exact isTrue_plain (thn (ha pins s σ H _ I h) fun v s1 ⟨x, H1, I1, r1, q1⟩ => tru_ok pins s1 σ H1 x v Q I1 r1 q1) (he _)
theorem vals1 {x : V} {us : List Value} (r : Vals [x] us) : ∃ u, us = [u] ∧ RelV x u := by
 cases r with
 | cons r1 r2 => cases r2; exact ⟨_, rfl, r1⟩
theorem vals2 {x y : V} {us : List Value} (r : Vals [x, y] us) : ∃ u w', us = [u, w'] ∧ RelV x u ∧ RelV y w' := by
 cases r with
 | cons r1 r2 =>
  cases r2 with
  | cons r3 r4 => cases r4; exact ⟨_, _, rfl, r1, r3⟩
theorem call_max2 (hc : X.calm = true) : CallR X (.builtin "max") (fun xs H Q => ∃ i j, xs = [.int i, .int j] ∧ Q (.int (if j > i then j else i)) H) := by
 intro pins s σ H xs us Q I r h
 obtain ⟨i, j, rfl, q⟩ := h
 obtain ⟨u, w', rfl, ⟨t, rfl⟩, ⟨t', rfl⟩⟩ := vals2 r
 refine max_two_ints (I.ok.hd hc) fun h' tk k => ⟨_, H, I.kept k, ?_, q⟩
 by_cases hj : j > i
 ·rw [if_pos hj, if_pos hj]; exact ⟨_, rfl⟩
 ·rw [if_neg hj, if_neg hj]; exact ⟨_, rfl⟩
theorem call_min2 (hc : X.calm = true) : CallR X (.builtin "min") (fun xs H Q => ∃ i j, xs = [.int i, .int j] ∧ Q (.int (if j < i then j else i)) H) := by
 intro pins s σ H xs us Q I r h
 obtain ⟨i, j, rfl, q⟩ := h
 obtain ⟨u, w', rfl, ⟨t, rfl⟩, ⟨t', rfl⟩⟩ := vals2 r
 refine min_two_ints (I.ok.hd hc) fun h' tk k => ⟨_, H, I.kept k, ?_, q⟩
 by_cases hj : j < i
 ·rw [if_pos hj, if_pos hj]; exact ⟨_, rfl⟩
 ·rw [if_neg hj, if_neg hj]; exact ⟨_, rfl⟩
end
end L2
namespace L2
open PySem PySem.Spec PyProof.Rows
structure ObjM (h : Heap) (x dx C : Addr) (mA : Str → Option Value) : Prop where
 obj : h.get? x = some (PySem.W.instObj C dx)
 ns : h.Ns1 dx mA
 ne : dx ≠ x
theorem lookIn_ns {h : Heap} {dx : Addr} {mA : Str → Option Value} (n : h.Ns1 dx mA) : ∃ od, h.get? dx = some od ∧ ∀ name, PySem.W.lookIn name od = some (mA name) := by
 obtain ⟨o, es, ep, ho, hd, hk, _, hm⟩ := n
 refine ⟨o, ho, fun name => ?_⟩
 have e := hm name
 unfold nsFind findBy at e
 rw [← Array.find?_toList] at e
 unfold PySem.W.lookIn
 rw [hd]
 dsimp only
 split
 ·rename_i y q
  rw [q] at e
  exact congrArg some e
 ·rename_i q
  rw [q] at e
  have a : es.toList.any (·.refKey) = false := by
   rw [List.any_eq_false]
   intro y hy
   obtain ⟨z, t, hkey⟩ := hk y (Array.mem_toList_iff.mp hy)
   simp [DictEntry.refKey, hkey]
  have a' : ¬ es.toList.any (·.refKey) = true := by rw [a]; exact Bool.false_ne_true
  rw [if_neg a']
  exact congrArg some e
theorem ObjM.look {h : Heap} {x dx C : Addr} {mA : Str → Option Value} (I : ObjM h x dx C mA) : ∃ od, PySem.W.InstAt h x (PySem.W.instObj C dx) C (some od) ∧ ∀ name, PySem.W.lookIn name od = some (mA name) :=
 let ⟨od, ho, hl⟩ := lookIn_ns I.ns
 ⟨od, ⟨I.obj, rfl, rfl, ho⟩, hl⟩
section
variable {prog : Program} {w : World} {A : Around} {E : Value → Shared → Prop} {s : Shared} {K : PySem.W.Frag} {x dx C f : Addr} {mA : Str → Option Value} {name : Str} {v : Value}
theorem get_map {expr : Bool} {Q : Value → Shared → Prop} (X : K.In s.heap) (I : ObjM s.heap x dx C mA) (hg : PySem.W.plainGet K C name = true) (hh : PySem.W.hasDictIn K C = true)
  (ha : PySem.W.findIn K (.ref C) name = some none) (hv : mA name = some v) (hv' : PySem.W.handedIn v = true) (h : Q v { s with toks := s.toks + 1 }) :
  wpAny (model prog w) A (getAttr (.ref x) name expr) Q E s := by
 obtain ⟨od, J, hl⟩ := I.look
 exact PySem.W.get_value X J (PySem.W.plainGet_of hg).1 (PySem.W.findObj_own hh ha rfl (by rw [hl, hv])) hv' h
theorem set_map {ns : List Str} {Q : Unit → Shared → Prop} (X : K.In s.heap) (I : ObjM s.heap x dx C mA)
  (hs : PySem.W.findIn K (.ref C) "__setattr__" = some (some (.builtin "object.__setattr__"))) (hp : PySem.W.plainOver K C = true) (ht : PySem.W.takerIn K C name = some none) (hh : PySem.W.hasDictIn K C = true)
  (hw : PySem.Within mA ns) (hsz : ns.length ≤ sizeLine)
  (h : ∀ h', ObjM h' x dx C (fun y => if y = name then some v else mA y) → Heap.SameBut dx s.heap h' → Q () { s with heap := h', toks := s.toks + 2 }) :
  wpAny (model prog w) A (setAttr (.ref x) name v) Q E s := by
 obtain ⟨od, J, hl⟩ := I.look
 refine PySem.W.set_plain X J hs (PySem.W.osa_open (s := { s with toks := s.toks + 1 }) (r := none) X J hp ht fun b => ?_)
 obtain ⟨cd, hc, hd'⟩ := PySem.W.any_some hh
 have hx : s.heap.get? x = some ⟨.ref C, some dx, .plain, #[]⟩ := I.obj
 refine wpAny_bind (wpAny_pure (wpAny_bind (wpAny_bind (wpAny_loadPart hx (wpAny_bind (PySem.W.Looks.here (s := { s with toks := s.toks + 1 }) (PySem.W.looks_clsIn X hc) ?_))))))
 rw [hd']
 refine wpAny_pure (a := some dx) (wpAny_bind (wpAny_pure (wpAny_bind ?_)))
 refine wpAny_nsSet1 (s := { s with toks := s.toks + 1 }) I.ns fun h' hn2 hs2 => ?_
 obtain ⟨oD, esD, epD, hoD, hdD, hcD⟩ := hn2.count (PySem.Within.cons name v hw)
 refine wpAny_bind (wpAny_lookBehind hoD (by rw [hdD]; exact pastItsLine_dict (Nat.le_trans hcD (by rw [List.length_cons]; omega))) ?_)
 exact wpAny_pure (h _ ⟨(hs2.2 _ (Ne.symm I.ne)).trans I.obj, hn2, I.ne⟩ hs2)
theorem make_map {R : Result → Shared → Prop} {vs : List Value} {kw : List (Str × Value)} (X : K.In s.heap) (hm : PySem.W.makesIn K C = true)
  (hi : PySem.W.findIn K (.ref C) "__init__" = some (some (.ref f))) (hf : PySem.W.typeIn K (.ref f) = some (.type "function"))
  (h : codeAny (model prog w) (A.under (.builtin "type.__call__" ⟨.ref C :: vs, kw⟩)) (.call (.ref f) ⟨.ref (s.heap.objs.size + 1) :: vs, kw⟩) (PySem.W.InitBack (s.heap.objs.size + 1) R)
   { s with heap := (s.heap.push PySem.W.emptyDict).push (PySem.W.instObj C s.heap.objs.size) }) :
  codeAny (model prog w) A (.call (.ref C) ⟨vs, kw⟩) R s := by
 obtain ⟨hh, g, d, t, os⟩ := s
 exact PySem.W.make_core (PySem.W.makes_of X hm) (PySem.W.looks_findIn X hi) (fun self => PySem.W.bind_fn X self hf) (.inl rfl) h
end
def putF (f : Str) (v : V) : List (Str × V) → List (Str × V)
 | [] => [(f, v)]
 | (g, x) :: r => if g = f then (g, v) :: r else (g, x) :: putF f v r
theorem lookup_putF (f g : Str) (v : V) : ∀ fs : List (Str × V), (putF f v fs).lookup g = if g = f then some v else fs.lookup g
 | [] => by
  show List.lookup g [(f, v)] = _
  by_cases h : g = f
  ·have hb : (g == f) = true := beq_iff_eq.mpr h
   simp only [List.lookup, hb, if_pos h]
  ·have hb : (g == f) = false := beq_eq_false_iff_ne.mpr h
   simp only [List.lookup, hb, if_neg h]
 | (k, x) :: r => by
  have ih := lookup_putF f g v r
  rw [show putF f v ((k, x) :: r) = (if k = f then (k, v) :: r else (k, x) :: putF f v r) from rfl]
  by_cases hk : k = f
  ·rw [if_pos hk]
   by_cases h : g = k
   ·have hb : (g == k) = true := beq_iff_eq.mpr h
    simp only [List.lookup, hb, if_pos (h.trans hk)]
   ·have hb : (g == k) = false := beq_eq_false_iff_ne.mpr h
    simp only [List.lookup, hb, if_neg (fun e : g = f => h (e.trans hk.symm))]
  ·rw [if_neg hk]
   by_cases h : g = k
   ·have hb : (g == k) = true := beq_iff_eq.mpr h
    simp only [List.lookup, hb, if_neg (fun e : g = f => hk (h.symm.trans e))]
   ·have hb : (g == k) = false := beq_eq_false_iff_ne.mpr h
    simp only [List.lookup, hb]
    exact ih
theorem keys_putF (f : Str) (v : V) : ∀ fs : List (Str × V), f ∈ (putF f v fs).map (·.1) ∧ ∀ g, g ∈ fs.map (·.1) → g ∈ (putF f v fs).map (·.1)
 | [] => ⟨by simp [putF], fun g h => by simp at h⟩
 | (k, x) :: r => by
  obtain ⟨i1, i2⟩ := keys_putF f v r
  rw [show putF f v ((k, x) :: r) = (if k = f then (k, v) :: r else (k, x) :: putF f v r) from rfl]
  by_cases hk : k = f
  ·rw [if_pos hk]
   subst hk
   exact ⟨by simp, fun g h => by simpa using h⟩
  ·rw [if_neg hk]
   refine ⟨?_, fun g h => ?_⟩
   ·rw [List.map_cons]
    exact List.mem_cons_of_mem _ i1
   ·rw [List.map_cons] at h ⊢
    rcases List.mem_cons.mp h with e | e
    ·exact List.mem_cons.mpr (.inl e)
    ·exact List.mem_cons_of_mem _ (i2 g e)
theorem length_putF (f : Str) (v : V) : ∀ fs : List (Str × V), (putF f v fs).length ≤ fs.length + 1
 | [] => by simp [putF]
 | (k, x) :: r => by
  have ih := length_putF f v r
  rw [show putF f v ((k, x) :: r) = (if k = f then (k, v) :: r else (k, x) :: putF f v r) from rfl]
  by_cases hk : k = f
  ·rw [if_pos hk, List.length_cons, List.length_cons]; omega
  ·rw [if_neg hk, List.length_cons, List.length_cons]; omega
theorem RelO.some_of {v : V} {o : Option Value} (r : RelO (some v) o) : ∃ u, o = some u ∧ RelV v u := by
 cases o with
 | none => exact (show False from r).elim
 | some u => exact ⟨u, rfl, r⟩
theorem handed_of {v : V} {u : Value} (r : RelV v u) : PySem.W.handedIn u = true := by
 cases v with
 | non => cases (show u = Value.none from r); rfl
 | bl b => cases (show u = Value.bool b from r); rfl
 | int i => obtain ⟨t, e⟩ := (show ∃ t, u = Value.int i t from r); cases e; rfl
 | str x => obtain ⟨t, e⟩ := (show ∃ t, u = Value.str x t from r); cases e; rfl
 | byt b => obtain ⟨t, e⟩ := (show ∃ t, u = Value.bytes b t from r); cases e; rfl
 | flt b => obtain ⟨t, e⟩ := (show ∃ t, u = Value.float b t from r); cases e; rfl
 | ref a => cases (show u = Value.ref a from r); rfl
 | ty n => cases (show u = Value.type n from r); rfl
section
variable {P : Program} {w : World} {H H' : Hp} {h h' : Heap} {a C dx : Addr} {fs fs' : List (Str × V)}
theorem ins_get (hok : HOk P w H h) (e : H a = some (.ins C dx fs)) : ∃ mA, ObjM h a dx C mA ∧ (∀ f, RelO (fs.lookup f) (mA f)) ∧ PySem.Within mA (fs.map (·.1)) ∧ fs.length ≤ 1000 ∧ H dx = some (.own a) := by
 obtain ⟨d, z, ne, ob, mA, n, r, q⟩ := (show ObjOk P w H h a (.ins C dx fs) from hok a _ e)
 exact ⟨mA, ⟨ob, n, ne⟩, r, q, z, d⟩
end
structure Cls (K : PySem.W.Frag) (C : Addr) : Prop where
 pg : PySem.W.plainGet K C Str.empty = true
 hd : PySem.W.hasDictIn K C = true
 po : PySem.W.plainOver K C = true
 sa : PySem.W.findIn K (.ref C) "__setattr__" = some (some (.builtin "object.__setattr__"))
theorem Cls.get {K : PySem.W.Frag} {C : Addr} (c : Cls K C) (f : Str) : PySem.W.plainGet K C f = true := c.pg
def NoAttr (K : PySem.W.Frag) (C : Addr) (f : Str) : Prop := PySem.W.findIn K (.ref C) f = some none
theorem NoAttr.taker {K : PySem.W.Frag} {C : Addr} {f : Str} (n : NoAttr K C f) : PySem.W.takerIn K C f = some none := by
 unfold PySem.W.takerIn
 rw [show PySem.W.findIn K (.ref C) f = some none from n]
 rfl
section
variable {X : Cx} {pins : List (Addr × Obj)} {σ : St} {H : Hp} {s : Shared} {a C dx : Addr} {fs : List (Str × V)} {f : Str} {v : V} {A : Around} {E : Value → Shared → Prop}
theorem getattr_ok {b : Bool} {Q : Value → Shared → Prop} (I : Inv X pins σ H s) (e : H a = some (.ins C dx fs)) (c : Cls X.K C) (n : NoAttr X.K C f) (l : fs.lookup f = some v)
  (h : ∀ u s', Inv X pins σ H s' → RelV v u → Q u s') : wpAny (model X.prog X.w) A (getAttr (.ref a) f b) Q E s := by
 obtain ⟨mA, O, r, _, _, _⟩ := ins_get I.hok e
 obtain ⟨u, hu, ru⟩ := RelO.some_of (v := v) (o := mA f) (by rw [← l]; exact r f)
 exact get_map I.kIn O (c.get f) c.hd n hu (handed_of ru) (h u _ (I.tok _) ru)
theorem setattr_ok {y : V} {u : Value} {Q : Unit → Shared → Prop} (I : Inv X pins σ H s) (e : H a = some (.ins C dx fs)) (c : Cls X.K C) (n : NoAttr X.K C f) (hl : fs.length < 1000) (ry : RelV y u)
  (h : ∀ s', Inv X pins σ (upd H a (.ins C dx (putF f y fs))) s' → Q () s') : wpAny (model X.prog X.w) A (setAttr (.ref a) f u) Q E s := by
 obtain ⟨mA, O, r, wi, _, ho⟩ := ins_get I.hok e
 have hz : (fs.map (·.1)).length ≤ sizeLine := by rw [List.length_map, sizeLine_eq]; omega
 refine set_map I.kIn O c.sa c.po n.taker c.hd wi hz fun h' O' sb => h _ ?_
 have hd : ∃ o, h'.get? dx = some o := let ⟨o, _, _, e', _⟩ := O'.ns; ⟨o, e'⟩
 refine I.write (x := a) (e := dx) (by rw [e]; exact True.intro) (.inr ho) (fun b q hb z => (sb.2 b hb).trans z) hd ?_
 refine ⟨by rw [upd_ne O.ne]; exact ho, ?_, O.ne, O'.obj, _, O'.ns, fun g => ?_, fun g hg => ?_⟩
 ·have := length_putF f y fs; omega
 ·show RelO ((putF f y fs).lookup g) (if g = f then some u else mA g)
  rw [lookup_putF]
  by_cases q : g = f
  ·rw [if_pos q, if_pos q]; exact ry
  ·rw [if_neg q, if_neg q]; exact r g
 ·by_cases q : g = f
  ·rw [q]; exact (keys_putF f y fs).1
  ·refine (keys_putF f y fs).2 g (wi g fun z => hg ?_)
   show (if g = f then some u else mA g) = none
   rw [if_neg q]; exact z
theorem Inv.made (I : Inv X pins σ H s) : Inv X pins σ (upd (upd H s.heap.objs.size (.own (s.heap.objs.size + 1))) (s.heap.objs.size + 1) (.ins C s.heap.objs.size []))
  { s with heap := (s.heap.push PySem.W.emptyDict).push (PySem.W.instObj C s.heap.objs.size) } := by
 have e1 : (s.heap.push PySem.W.emptyDict).get? s.heap.objs.size = some PySem.W.emptyDict := Heap.get?_push_size s.heap rfl
 have e2 : ((s.heap.push PySem.W.emptyDict).push (PySem.W.instObj C s.heap.objs.size)).get? (s.heap.objs.size + 1) = some (PySem.W.instObj C s.heap.objs.size) := by
  have := Heap.get?_push_size (s.heap.push PySem.W.emptyDict) (o := PySem.W.instObj C s.heap.objs.size) rfl
  rwa [Heap.size_push] at this
 have e3 : (s.heap.push PySem.W.emptyDict).Ns s.heap.objs.size (fun _ => none) := ⟨PySem.W.emptyDict, #[], _, e1, rfl, (fun e he => absurd he (by simp)), fun _ => rfl⟩
 have I1 := I.laid (a := s.heap.objs.size) (o := .own (s.heap.objs.size + 1)) (h' := s.heap.push PySem.W.emptyDict) (t' := s.toks) (fun b u q => Heap.get?_push_of_some _ q) (Nat.le_refl _) ⟨_, e1⟩
 refine I1.laid (a := s.heap.objs.size + 1) (o := .ins C s.heap.objs.size []) (t' := s.toks) (fun b u q => Heap.get?_push_of_some _ q) (Nat.le_of_eq (Heap.size_push _ _)) ?_
 have ne : s.heap.objs.size ≠ s.heap.objs.size + 1 := Nat.ne_of_lt (Nat.lt_succ_self _)
 refine ⟨by rw [upd_ne ne, upd_same], Nat.zero_le _, ne, e2, fun _ => none, (Heap.Ns1.of_empty e3).at fun o q => Heap.get?_push_of_some _ q, fun _ => True.intro, fun y hy => absurd rfl hy⟩
theorem attr_of {prog : Program} {w : World} {env : Env} {e : Expr} {f : Str} {pos : Pos} {s : Shared} {Q : Value → Shared → Prop} (hb : attributeBase e f env (eval e env) = eval e env)
  (h : wpAny (model prog w) A (eval e env) (fun o s₁ => wpAny (model prog w) A (getAttr o f true) Q E s₁) E s) : wpAny (model prog w) A (eval (.Attribute e f pos) env) Q E s :=
 Attribute_any_ h (by rw [arm_eval_Attribute, hb])
end
def tFld (K : PySem.W.Frag) (ta : TE) (f : Str) : TE := fun σ H Q => ta σ H fun x H1 => ∃ a C dx fs v, x = .ref a ∧ H1 a = some (.ins C dx fs) ∧ Cls K C ∧ NoAttr K C f ∧ fs.lookup f = some v ∧ Q v H1
def sFld (K : PySem.W.Frag) (ta tv : TE) (f : Str) : TS := fun D σ H => tv σ H fun y H1 => ta σ H1 fun x H2 => ∃ a C dx fs, x = .ref a ∧ H2 a = some (.ins C dx fs) ∧ Cls K C ∧ NoAttr K C f ∧ fs.length < 1000 ∧
 D.nx σ (upd H2 a (.ins C dx (putF f y fs)))
def InOp (X : Cx) (op : Operator) (rd : V → V → Hp → VK → Prop) : Prop :=
 ∀ (pins : List (Addr × Obj)) (s : Shared) (σ : St) (H : Hp) (x y : V) (u v : Value) (Q : VK), Inv X pins σ H s → RelV x u → RelV y v → rd x y H Q → wpAny (model X.prog X.w) X.A (inplaceOp op u v) (EP X pins σ Q) X.xe s
def sFldAug (K : PySem.W.Frag) (ta tv : TE) (rd : V → V → Hp → VK → Prop) (f : Str) : TS := fun D σ H => ta σ H fun x H1 => ∃ a C dx fs v, x = .ref a ∧ H1 a = some (.ins C dx fs) ∧ Cls K C ∧ NoAttr K C f ∧ fs.lookup f = some v ∧
 tv σ H1 fun y H2 => rd v y H2 fun z H3 => ∃ dx' fs', H3 a = some (.ins C dx' fs') ∧ fs'.length < 1000 ∧ D.nx σ (upd H3 a (.ins C dx' (putF f z fs')))
section
variable {X : Cx} {o e value : Expr} {f : Str} {pos pos' tpos : Pos} {ta tv : TE}
theorem pe_fld (he : PE X e ta) (hb : attributeBase e f X.env (eval e X.env) = eval e X.env) : PE X (.Attribute e f pos) (tFld X.K ta f) := by
 intro pins s σ H Q I h
 refine attr_of hb (thn (he pins s σ H _ I h) fun u s1 ⟨x, H1, I1, rx, a, C, dx, fs, v, ex, ea, c, n, l, q⟩ => ?_)
 subst ex
 obtain rfl : u = Value.ref a := rx
 exact getattr_ok I1 ea c n l fun u' s2 I2 ru => ⟨v, H1, I2, ru, q⟩
theorem ps_fld (ha : PE X o ta) (hv : PE X value tv) (hs : swapsWith value (some (.Attribute o f pos')) pos.line X.env = pure false) : PS X (.Assign [.Attribute o f pos'] value pos) (sFld X.K ta tv f) := by
 intro pins s σ H D I h
 refine plainObj_wpAny_Assign_Attribute (thn (hv pins s σ H _ I h) fun u s1 ⟨y, H1, I1, ry, q⟩ => thn (ha pins s1 σ H1 _ I1 q) fun ov s2 ⟨x, H2, I2, rx, a, C, dx, fs, ex, ea, c, n, l, q2⟩ => ?_) hs
 subst ex
 obtain rfl : ov = Value.ref a := rx
 exact setattr_ok I2 ea c n l ry fun s3 I3 => ⟨σ, _, I3, q2⟩
theorem ps_fldaug {op : Operator} {rd : V → V → Hp → VK → Prop} (ha : PE X o ta) (hv : PE X value tv) (hop : InOp X op rd) : PS X (.AugAssign (.Attribute o f tpos) op value pos) (sFldAug X.K ta tv rd f) := by
 intro pins s σ H D I h
 refine wpAny_AugAssign_AttributeAny (thn (ha pins s σ H _ I h) fun ov s1 ⟨x, H1, I1, rx, a, C, dx, fs, v, ex, ea, c, n, l, q⟩ => ?_)
 subst ex
 obtain rfl : ov = Value.ref a := rx
 refine getattr_ok I1 ea c n l fun u s2 I2 ru => thn (hv pins s2 σ H1 _ I2 q) fun w3 s3 ⟨y, H2, I3, ry, q3⟩ => thn (hop pins s3 σ H2 v y u w3 _ I3 ru ry q3) fun w4 s4 ⟨z, H3, I4, rz, dx', fs', ea', l', q4⟩ => ?_
 exact setattr_ok I4 ea' c n l' rz fun s5 I5 => ⟨σ, _, I5, q4⟩
def rAdd : V → V → Hp → VK → Prop := fun x y H Q => ∃ i j, x = .int i ∧ y = .int j ∧ Q (.int (i + j)) H
theorem in_add : InOp X .Add rAdd := by
 rintro pins s σ H x y u v Q I rx ry ⟨i, j, rfl, rfl, q⟩
 obtain ⟨t, rfl⟩ := (show ∃ t, u = Value.int i t from rx)
 obtain ⟨t', rfl⟩ := (show ∃ t', v = Value.int j t' from ry)
 exact PyProof.Rows.iadd_int ⟨.int (i + j), H, I.tok _, ⟨_, rfl⟩, q⟩
end
end L2
namespace L2
open PySem PySem.Spec PyProof.Rows
structure Room (k : Nat) (A : Around) : Prop where
 hd : A.handled = none
 dp : A.depth + 3 * k + 5 < recursionLimit
 un : A.units + 16 * k + 200 < cLine
theorem Room.mono {j k : Nat} {A : Around} (r : Room k A) (h : j ≤ k) : Room j A := ⟨r.hd, by have := r.dp; omega, by have := r.un; omega⟩
theorem Room.deeper {k : Nat} {A : Around} (r : Room (k + 1) A) (env : Env) : Room k (A.deeper env) :=
 ⟨r.hd, by have := r.dp; show A.depth + 1 + 3 * k + 5 < _; omega, by have := r.un; show A.units + 3 + 16 * k + 200 < _; omega⟩
theorem Room.in1 {k : Nat} {A : Around} (r : Room (k + 1) A) : Room k A.in1 :=
 ⟨r.hd, by have := r.dp; show A.depth + 3 * k + 5 < _; omega, by have := r.un; show A.units + 1 + 16 * k + 200 < _; omega⟩
theorem make_depth {A : Around} {C : Addr} {us : List Value} {kw : List (Str × Value)} : (A.under (.builtin "type.__call__" ⟨.ref C :: us, kw⟩)).depth = A.depth + 1 := by
 first | rfl | simp [Around.under, Code.weight, Code.isCreation, Code.isGuard, Code.isCaller, Code.frames, Code.isFrame, guardIds]
theorem make_units {A : Around} {C : Addr} {us : List Value} {kw : List (Str × Value)} : (A.under (.builtin "type.__call__" ⟨.ref C :: us, kw⟩)).units = A.units + 1 := by
 first | rfl | simp [Around.under, Code.cUnits, Code.frames, Code.isFrame]
theorem Room.make {k : Nat} {A : Around} (r : Room (k + 1) A) (C : Addr) (us : List Value) (kw : List (Str × Value)) : Room k (A.under (.builtin "type.__call__" ⟨.ref C :: us, kw⟩)) :=
 ⟨r.hd, by have := r.dp; rw [make_depth]; omega, by have := r.un; rw [make_units]; omega⟩
theorem Room.depth {k : Nat} {A : Around} (r : Room k A) : A.depth < recursionLimit := by have := r.dp; omega
theorem Room.units {k : Nat} {A : Around} (r : Room k A) : A.units + 64 < cLine := by have := r.un; omega
theorem Room.units0 {k : Nat} {A : Around} (r : Room k A) : A.units < cLine := by have := r.un; omega
def tNil : TA := fun _ H Q => Q [] H
def tCons (ta : TE) (tr : TA) : TA := fun σ H Q => ta σ H fun x H1 => tr σ H1 fun xs H2 => Q (x :: xs) H2
section
variable {X : Cx} {e : Expr} {es : List Expr} {te : TE} {t : TA} {pos : Pos}
theorem pa_nil : PA X [] tNil := fun _ _ _ _ H Q I h => Calls.spliced_nil ⟨[], H, I, .nil, h⟩
theorem pa_cons (ha : PE X e te) (hr : PA X es t) (hs : starEach (e :: es) X.env = (false, eval e X.env) :: starEach es X.env := by rfl) : PA X (e :: es) (tCons te t) := by
 intro pos pins s σ H Q I h
 rw [hs]
 show wpAny _ _ (spliced ((false, eval e X.env) :: backTo pos (starEach es X.env))) _ _ s
 refine Calls.spliced_cons (thn (ha pins s σ H _ I h) fun u s1 ⟨x, H1, I1, r1, q1⟩ => ?_)
 exact thn (hr pos pins s1 σ H1 _ I1 q1) fun us s2 ⟨xs, H2, I2, r2, q2⟩ => ⟨x :: xs, H2, I2, .cons r1 r2, q2⟩
def tTup (t : TA) : TE := fun σ H Q => t σ H fun xs H1 => xs.length ≤ sizeLine ∧ ∀ p, H1 p = none → Q (.ref p) (upd H1 p (.tup xs))
def tLst (t : TA) : TE := fun σ H Q => t σ H fun xs H1 => xs.length ≤ sizeLine ∧ ∀ p, H1 p = none → Q (.ref p) (upd H1 p (.lst xs))
theorem pe_tup {x1} (h : PA X es t) : PE X (.Tuple es x1 pos) (tTup t) := by
 intro pins s σ H Q I hq
 refine wpAny_Tuple_spliced (thn (h pos pins s σ H _ I hq) fun us s1 ⟨xs, H1, I1, r, z, q⟩ => ⟨by rw [← r.length]; exact z, ?_⟩)
 have hf : H1 s1.heap.objs.size = none := I1.hok.fresh (Nat.le_refl _)
 refine ⟨.ref s1.heap.objs.size, upd H1 s1.heap.objs.size (.tup xs), I1.laid (t' := s1.toks) (fun b u e => Heap.get?_push_of_some _ e) (Nat.le_refl _) ?_, rfl, q _ hf⟩
 exact ⟨z, us, r, ⟨_, Heap.get?_push_size _ rfl, rfl, _, rfl⟩⟩
theorem pe_lst (h : PA X es t) : PE X (.List es pos) (tLst t) := by
 intro pins s σ H Q I hq
 refine wpAny_List_spliced (thn (h pos pins s σ H _ I hq) fun us s1 ⟨xs, H1, I1, r, z, q⟩ => ⟨by rw [← r.length]; exact z, ?_⟩)
 have hf : H1 s1.heap.objs.size = none := I1.hok.fresh (Nat.le_refl _)
 refine ⟨.ref s1.heap.objs.size, upd H1 s1.heap.objs.size (.lst xs), I1.laid (t' := s1.toks) (fun b u e => Heap.get?_push_of_some _ e) (Nat.le_refl _) ?_, rfl, q _ hf⟩
 exact ⟨z, us, 0, r, Heap.get?_push_size _ rfl⟩
end
abbrev Sp := List V → Hp → VK → XK → Prop
abbrev CXT := List Env → Hp → Shared → XK → Value → Shared → Prop
structure Env0 (P : Program) (w : World) (K : PySem.W.Frag) (mg : Str → Option Value) (base : Heap) (A : Around) (outer : List Env) (s : Shared) (H : Hp) : Prop where
 frames : A.frames = some outer
 mod : Mod K mg base
 bs : ∀ b o, base.get? b = some o → s.heap.get? b = some o ∧ H b = none
 bsz : base.objs.size ≤ s.heap.objs.size
 funs : s.heap.FunFrames base outer
 frf : ∀ b ∈ frs outer, H b = none
 hok : HOk P w H s.heap
 bare : AllBare s.gens
def CE (outer : List Env) (P : Program) (w : World) (H : Hp) (s : Shared) (Q : VK) (u : Value) (s' : Shared) : Prop :=
 ∃ v H', s'.os = s.os ∧ AllBare s'.gens ∧ Un (frs outer) [] H H' s.heap s'.heap ∧ HOk P w H' s'.heap ∧ RelV v u ∧ Q v H'
def CR (CX : CXT) (outer : List Env) (P : Program) (w : World) (H : Hp) (s : Shared) (Q : VK) (E : XK) (r : Result) (s' : Shared) : Prop :=
 match r with
 | .ok (.ret u) => CE outer P w H s Q u s'
 | .ok _ => False
 | .error e => CX outer H s E e s'
structure FnOk (P : Program) (w : World) (K : PySem.W.Frag) (mg : Str → Option Value) (base : Heap) (CX : CXT) (k : Nat) (f : Addr) (fd : FuncData) (ps : List Str) (sp : Sp) : Prop where
 len : ∀ vs H Q E, sp vs H Q E → vs.length = ps.length
 run : ∀ (A : Around) (outer : List Env) (s : Shared) (H : Hp) (args : Args) (us : List Value) (vs : List V) (Q : VK) (E : XK), Room k A → Env0 P w K mg base A outer s H → BindsTo s fd args (ps.zip us) → Vals vs us → sp vs H Q E →
  codeAny (model P w) A (.call (.ref f) args) (CR CX outer P w H s Q E) s
theorem Env0.make {P : Program} {w : World} {K : PySem.W.Frag} {mg : Str → Option Value} {base : Heap} {A : Around} {outer : List Env} {s : Shared} {H : Hp} (e : Env0 P w K mg base A outer s H) (C : Addr) (us : List Value) (kw : List (Str × Value)) :
  Env0 P w K mg base (A.under (.builtin "type.__call__" ⟨.ref C :: us, kw⟩)) outer s H := ⟨by first | exact e.frames | (simpa [Around.under, Code.envs, Code.isFrame, pushEnvs] using e.frames), e.mod, e.bs, e.bsz, e.funs, e.frf, e.hok, e.bare⟩
theorem Env0.in1 {P : Program} {w : World} {K : PySem.W.Frag} {mg : Str → Option Value} {base : Heap} {A : Around} {outer : List Env} {s : Shared} {H : Hp} (e : Env0 P w K mg base A outer s H) :
  Env0 P w K mg base A.in1 outer s H := ⟨e.frames, e.mod, e.bs, e.bsz, e.funs, e.frf, e.hok, e.bare⟩
section
variable {X : Cx} {pins : List (Addr × Obj)} {σ : St} {H : Hp} {s s' : Shared}
theorem Inv.env0 (I : Inv X pins σ H s) : Env0 X.prog X.w X.K X.mg X.base X.A X.stack s H :=
 ⟨I.ok.frames, I.ok.mod, I.bs, Nat.le_trans I.ok.bsz I.sz, I.stack, I.stkFree, I.hok, I.bare⟩
theorem Inv.after {Q : VK} {u : Value} (I : Inv X pins σ H s) (h : CE X.stack X.prog X.w H s Q u s') : EP X pins σ Q u s' := by
 obtain ⟨v, H', os, bare, un, hok, r, q⟩ := h
 obtain ⟨hh, g, d, t, os'⟩ := s'
 obtain rfl : os' = s.os := os
 exact ⟨v, H', I.call (h' := hh) (g' := g) (d' := d) (t' := t) (ch := []) un hok bare (fun b z => absurd z (by simp)), r, q⟩
end
def tCall (sp : Sp) (dvs : List V) (E : XK) (t : TA) : TE := fun σ H Q => t σ H fun vs H1 => sp (vs ++ dvs) H1 Q E
def tMake (C : Addr) (sp : Sp) (dvs : List V) (E : XK) (t : TA) : TE := fun σ H Q => t σ H fun vs H1 => ∀ x dx, H1 x = none → H1 dx = none → dx ≠ x →
 sp (.ref x :: (vs ++ dvs)) (upd (upd H1 dx (.own x)) x (.ins C dx [])) (fun v H2 => v = .non ∧ Q (.ref x) H2) E
def Binds (K : PySem.W.Frag) (fd : FuncData) (ps : List Str) (ds : List Value) : Prop :=
 ∀ (s : Shared) (us : List Value), K.In s.heap → (us ++ ds).length = ps.length → BindsTo s fd ⟨us, []⟩ (ps.zip (us ++ ds))
theorem Binds.all {K : PySem.W.Frag} {fd : FuncData} {ps : List Str} (h : ∀ us : List Value, us.length = ps.length → bindArgs fd ⟨us, []⟩ = pure (ps.zip us)) : Binds K fd ps [] := fun s us _ hl => by
 rw [List.append_nil] at hl ⊢
 exact .of_eq (h us hl)
def Passes (CX : CXT) (X : Cx) (E : XK) : Prop := ∀ (pins : List (Addr × Obj)) (σ : St) (H : Hp) (s : Shared) (e : Value) (s' : Shared), Inv X pins σ H s → CX X.stack H s E e s' → X.xe e s'
section
variable {X : Cx} {CX : CXT} {k : Nat} {f C : Addr} {fd : FuncData} {ps : List Str} {sp : Sp} {dvs : List V} {ds : List Value} {E : XK} {x m : Str} {p pos apos : Pos} {e o : Expr} {es : List Expr} {ta : TE} {t : TA}
theorem run_fn {pins : List (Addr × Obj)} {σ : St} {H : Hp} {s : Shared} {Q : VK} {us : List Value} {vs : List V} (F : FnOk X.prog X.w X.K X.mg X.base CX k f fd ps sp) (hr : Room k X.A) (hb : Binds X.K fd ps ds) (hd : Vals dvs ds) (hx : Passes CX X E)
  (I : Inv X pins σ H s) (r : Vals vs us) (h : sp (vs ++ dvs) H Q E) : wpAny (model X.prog X.w) X.A (call (.ref f) us) (EP X pins σ Q) X.xe s := by
 have r2 : Vals (vs ++ dvs) (us ++ ds) := r.append hd
 have hl : (us ++ ds).length = ps.length := by rw [← r2.length]; exact F.len _ _ _ _ h
 refine wpAny_call (codeAny_mono (F.run X.A X.stack s H ⟨us, []⟩ (us ++ ds) (vs ++ dvs) Q E hr I.env0 (hb s us I.kIn hl) r2 h) fun r s' hq => ?_)
 cases r with
 | error e => exact hx pins σ H s e s' I hq
 | ok fl =>
  cases fl with
  | ret u => exact I.after hq
  | next => exact False.elim hq
  | brk => exact False.elim hq
  | cont => exact False.elim hq
theorem pe_call (F : FnOk X.prog X.w X.K X.mg X.base CX k f fd ps sp) (hr : Room k X.A) (hg : Gl X x) (hm : X.mg x = some (.ref f)) (hk : PySem.W.keepIn X.K (.ref f) = true) (hb : Binds X.K fd ps ds) (hd : Vals dvs ds) (hx : Passes CX X E)
  (ha : PA X (e :: es) t) (hdb : (x == ("__debug__" : Str)) = false := by decide) (he : starEach (e :: es) X.env = (false, eval e X.env) :: starEach es X.env := by rfl) (hpl : (backTo pos (starEach es X.env)).any (·.1) = false := by rfl) :
  PE X (.Call (.Name x p) (e :: es) [] pos) (tCall sp dvs E t) := by
 intro pins s σ H Q I h
 refine wpAny_Call_Name_kw (ld_glob I hg hm ?_ hdb)
 refine PySem.W.callWith_K (h₀ := X.base) I.ok.mod.kin hk (thn (ha pos pins s σ H _ I h) fun us s1 ⟨vs, H1, I1, r, q⟩ => ⟨I1.kIn, ?_⟩) he hpl
 exact run_fn F hr hb hd hx I1 r q
structure Mk (K : PySem.W.Frag) (C f : Addr) : Prop where
 makes : PySem.W.makesIn K C = true
 init : PySem.W.findIn K (.ref C) "__init__" = some (some (.ref f))
 fn : PySem.W.isFn K (.ref f) = true
 kp : PySem.W.keepIn K (.ref C) = true
theorem run_make {pins : List (Addr × Obj)} {σ : St} {H : Hp} {s : Shared} {Q : VK} {us : List Value} {vs : List V} (M : Mk X.K C f) (F : FnOk X.prog X.w X.K X.mg X.base CX k f fd ps sp) (hr : Room (k + 1) X.A) (hb : Binds X.K fd ps ds) (hd : Vals dvs ds)
  (hx : Passes CX X E) (I : Inv X pins σ H s) (r : Vals vs us)
  (h : ∀ x dx, H x = none → H dx = none → dx ≠ x → sp (.ref x :: (vs ++ dvs)) (upd (upd H dx (.own x)) x (.ins C dx [])) (fun v H2 => v = .non ∧ Q (.ref x) H2) E) :
  wpAny (model X.prog X.w) X.A (call (.ref C) us) (EP X pins σ Q) X.xe s := by
 have hq := h (s.heap.objs.size + 1) s.heap.objs.size (I.hok.fresh (Nat.le_succ _)) (I.hok.fresh (Nat.le_refl _)) (Nat.ne_of_lt (Nat.lt_succ_self _))
 have I2 := Inv.made (C := C) I
 have r2 : Vals (V.ref (s.heap.objs.size + 1) :: (vs ++ dvs)) (Value.ref (s.heap.objs.size + 1) :: (us ++ ds)) := .cons rfl (r.append hd)
 have hl : (Value.ref (s.heap.objs.size + 1) :: us ++ ds).length = ps.length := by
  have e := r2.length
  rw [F.len _ _ _ _ hq] at e
  exact e.symm
 refine wpAny_call (make_map (f := f) I.kIn M.makes M.init (beq_iff_eq.mp M.fn) (codeAny_mono (F.run _ X.stack _ _ ⟨Value.ref (s.heap.objs.size + 1) :: us, []⟩ (Value.ref (s.heap.objs.size + 1) :: (us ++ ds)) _ _ E (hr.make C us [])
  (I2.env0.make C us []) (hb _ (Value.ref (s.heap.objs.size + 1) :: us) I2.kIn hl) r2 hq) fun r s' hq' => ?_))
 cases r with
 | error e => exact hx pins σ _ _ e s' I2 hq'
 | ok fl =>
  cases fl with
  | ret u =>
   obtain ⟨v, H', I3, rv, ev, q3⟩ := I2.after hq'
   subst ev
   exact ⟨rv, ⟨V.ref (s.heap.objs.size + 1), H', I3, rfl, q3⟩⟩
  | next => exact False.elim hq'
  | brk => exact False.elim hq'
  | cont => exact False.elim hq'
theorem pe_make (M : Mk X.K C f) (F : FnOk X.prog X.w X.K X.mg X.base CX k f fd ps sp) (hr : Room (k + 1) X.A) (hg : Gl X x) (hm : X.mg x = some (.ref C)) (hb : Binds X.K fd ps ds) (hd : Vals dvs ds) (hx : Passes CX X E)
  (ha : PA X (e :: es) t) (hdb : (x == ("__debug__" : Str)) = false := by decide) (he : starEach (e :: es) X.env = (false, eval e X.env) :: starEach es X.env := by rfl) (hpl : (backTo pos (starEach es X.env)).any (·.1) = false := by rfl) :
  PE X (.Call (.Name x p) (e :: es) [] pos) (tMake C sp dvs E t) := by
 intro pins s σ H Q I h
 refine wpAny_Call_Name_kw (ld_glob I hg hm ?_ hdb)
 refine PySem.W.callWith_K (h₀ := X.base) I.ok.mod.kin M.kp (thn (ha pos pins s σ H _ I h) fun us s1 ⟨vs, H1, I1, r, q⟩ => ⟨I1.kIn, ?_⟩) he hpl
 exact run_make M F hr hb hd hx I1 r q
end
structure FnScope (N P : List Str) (sc : Scope) : Prop where
 kind : sc.kind = .function
 co : sc.isCoroutine = false
 gen : sc.isGenerator = false
 nd : N.Nodup
 pre : N.take P.length = P
 par : ∀ x ∈ P, sc.names.lookup x = some .local ∨ sc.names.lookup x = some .cell
 nofree : ∀ y ∈ sc.names, y.2 ≠ .free
theorem bindL_out {kindOf : Str → Option NameKind} {x : Str} : ∀ {binds : List (Str × Value)} {m : Str → Option Value}, (∀ v, (x, v) ∉ binds) → bindL kindOf binds m x = m x
 | [], _, _ => rfl
 | (n, v) :: r, m, h => by
  unfold bindL
  rw [bindL_out fun w hw => h w (List.mem_cons_of_mem _ hw)]
  split
  ·have : x ≠ n := by rintro rfl; exact h v List.mem_cons_self
   simp [this]
  ·rfl
theorem bindC_out {kindOf : Str → Option NameKind} {x : Str} : ∀ {binds : List (Str × Value)} {m : Str → Option Value}, (∀ v, (x, v) ∉ binds) → bindC kindOf binds m x = m x
 | [], _, _ => rfl
 | (n, v) :: r, m, h => by
  unfold bindC
  rw [bindC_out fun w hw => h w (List.mem_cons_of_mem _ hw)]
  split
  ·rfl
  ·have : x ≠ n := by rintro rfl; exact h v List.mem_cons_self
   simp [this]
theorem bindL_get {kindOf : Str → Option NameKind} {x : Str} {v : Value} : ∀ {P : List Str} {vs : List Value} {i : Nat} {m : Str → Option Value}, P.Nodup → P[i]? = some x → vs[i]? = some v → kindOf x = some .local →
  bindL kindOf (P.zip vs) m x = some v
 | [], _, _, _, _, h, _, _ => by simp at h
 | _ :: _, [], _, _, _, _, h, _ => by simp at h
 | p :: P, w :: vs, 0, m, nd, h1, h2, hk => by
  simp at h1 h2; subst h1; subst h2
  show bindL kindOf ((p, w) :: P.zip vs) m p = _
  unfold bindL
  rw [bindL_out fun v hv => (List.nodup_cons.mp nd).1 (List.of_mem_zip hv).1, if_pos hk]
  simp
 | p :: P, w :: vs, i + 1, m, nd, h1, h2, hk => by
  show bindL kindOf ((p, w) :: P.zip vs) m x = _
  unfold bindL
  exact bindL_get (i := i) (List.nodup_cons.mp nd).2 (by simpa using h1) (by simpa using h2) hk
theorem bindC_get {kindOf : Str → Option NameKind} {x : Str} {v : Value} : ∀ {P : List Str} {vs : List Value} {i : Nat} {m : Str → Option Value}, P.Nodup → P[i]? = some x → vs[i]? = some v → kindOf x ≠ some .local →
  bindC kindOf (P.zip vs) m x = some v
 | [], _, _, _, _, h, _, _ => by simp at h
 | _ :: _, [], _, _, _, _, h, _ => by simp at h
 | p :: P, w :: vs, 0, m, nd, h1, h2, hk => by
  simp at h1 h2; subst h1; subst h2
  show bindC kindOf ((p, w) :: P.zip vs) m p = _
  unfold bindC
  rw [bindC_out fun v hv => (List.nodup_cons.mp nd).1 (List.of_mem_zip hv).1, if_neg hk]
  simp
 | p :: P, w :: vs, i + 1, m, nd, h1, h2, hk => by
  show bindC kindOf ((p, w) :: P.zip vs) m x = _
  unfold bindC
  exact bindC_get (i := i) (List.nodup_cons.mp nd).2 (by simpa using h1) (by simpa using h2) hk
def start (N : List Str) (vs : List V) : St := vs.map some ++ List.replicate (N.length - vs.length) none
def cxOf (CX : CXT) (P : Program) (w : World) (K : PySem.W.Frag) (mg : Str → Option Value) (base : Heap) (N : List Str) (qual : Str) (scope : Scope) (f : Addr) (cd : Value) (A : Around) (outer : List Env) (s : Shared) (H : Hp) (E : XK) : Cx where
 prog := P
 w := w
 K := K
 mg := mg
 base := base
 A := A.deeper (envOfC qual scope s.heap.objs.size f cd)
 N := N
 s_0 := s
 H_0 := H
 env := envOfC qual scope s.heap.objs.size f cd
 outer := outer
 stack := envOfC qual scope s.heap.objs.size f cd :: outer
 ex := []
 calm := true
 fn := fun _ => true
 pn := []
 xe := fun e s' => wpAny (model P w) (A.deeper (envOfC qual scope s.heap.objs.size f cd)) (leaving (envOfC qual scope s.heap.objs.size f cd) e) (fun _ s'' => CX outer H s E e s'') (fun e' s'' => CX outer H s E e' s'') s'
theorem cell_has {sc : Scope} {n : Nat} {x : Str} (h : sc.names.lookup x = some .cell) : ∃ c, (cellsFrom n sc.names []).lookup x = some c := by
 have q := PySem.W.cellsFrom_some sc.names n [] (.inl h)
 exact Option.isSome_iff_exists.mp q
theorem inv_start {CX : CXT} {P : Program} {w : World} {K : PySem.W.Frag} {mg : Str → Option Value} {base : Heap} {N ps : List Str} {qual : Str} {scope : Scope} {f : Addr} {cd : Value} {A : Around} {outer : List Env} {s s1 : Shared} {H : Hp} {E : XK} {us : List Value} {vs : List V}
  (S : FnScope N ps scope) (hd : A.handled = none) (e0 : Env0 P w K mg base A outer s H) (hl : vs.length = ps.length) (r : Vals vs us)
  (x : InCallC s s.heap.objs.size (bindL (envOfC qual scope s.heap.objs.size f cd).kindOf (ps.zip us) fun _ => none) (cellsFrom (s.heap.objs.size + 1) scope.names []) (bindC (envOfC qual scope s.heap.objs.size f cd).kindOf (ps.zip us) fun _ => none) s1) :
  Inv (cxOf CX P w K mg base N qual scope f cd A outer s H E) [] (start N vs) H s1 := by
 have hpl : ps.length ≤ N.length := by have := congrArg List.length S.pre; rw [List.length_take] at this; omega
 obtain ⟨h1, tk, rfl, hk⟩ := x.done
 have noA : ∀ b : Addr, b ∉ (cxOf CX P w K mg base N qual scope f cd A outer s H E).ex := fun b z => absurd (show b ∈ ([] : List Addr) from z) (by simp)
 refine ⟨⟨e0.mod, S.kind, rfl, rfl, Nat.le_refl _, fun y z c h1 h2 => ?_, fun y hy => ?_, fun y c _ h => ?_, fun _ => hd, Around.frames_deeper e0.frames, .inr ⟨rfl, rfl⟩, fun b z => absurd z (noA b), e0.bs, e0.bsz, fun b _ _ => noA b, fun b z => absurd z (noA b), e0.funs, e0.frf⟩,
  rfl, e0.bare, Un.kept hk, ⟨_, x.toInCall.ns, fun i y v h1 h2 h3 => ?_⟩, fun y c h => ⟨_, x.cell y c h⟩, e0.hok.fresh (Nat.le_refl _), fun y c h => ?_, fun p hp => absurd (show p ∈ ([] : List (Addr × Obj)) from hp) (by simp), e0.hok.kept hk, ?_⟩
 ·exact name_of_addr x.apart (PySem.mem_of_lookup h1) (PySem.mem_of_lookup h2)
 ·have hy : scope.names.lookup y = some .cell ∨ scope.names.lookup y = some .free := hy
  rcases hy with hy | hy
  ·exact cell_has hy
  ·exact absurd rfl (S.nofree _ (PySem.mem_of_lookup hy))
 ·exact Nat.le_of_lt (x.above y c (PySem.mem_of_lookup h))
 ·have hi : i < vs.length := by
   unfold start at h2
   by_cases hi : i < vs.length
   ·exact hi
   ·rw [List.getElem?_append_right (by simpa using hi)] at h2
    rw [List.getElem?_replicate] at h2
    split at h2 <;> cases h2
  have ha : vs[i]? = some v := by
   unfold start at h2
   rw [List.getElem?_append_left (by simpa using hi), List.getElem?_map] at h2
   cases e : vs[i]? with
   | none => rw [e] at h2; cases h2
   | some a => rw [e] at h2; cases h2; rfl
  obtain ⟨u, hu, rv⟩ := r.get ha
  have hp : ps[i]? = some y := by
   rw [← S.pre, List.getElem?_take_of_lt (by omega)]; exact h1
  have ndP : ps.Nodup := by rw [← S.pre]; exact S.nd.sublist (List.take_sublist _ _)
  refine ⟨u, rv, ?_⟩
  rcases S.par y (List.mem_of_getElem? hp) with k | k
  ·exact .inl ⟨k, bindL_get ndP hp hu k⟩
  ·obtain ⟨c, e⟩ := cell_has (n := s.heap.objs.size + 1) k
   refine .inr ⟨.inl k, c, e, ?_⟩
   have q := x.cell y c e
   rw [bindC_get ndP hp hu (by show scope.names.lookup y ≠ _; rw [k]; decide)] at q
   exact q
 ·exact e0.hok.fresh (Nat.le_of_lt (x.above y c (PySem.mem_of_lookup h)))
 ·unfold start
  show _ = N.length
  rw [List.length_append, List.length_map, List.length_replicate]
  omega
theorem fn_of {CX : CXT} {P : Program} {w : World} {K : PySem.W.Frag} {mg : Str → Option Value} {base : Heap} {k : Nat} {f : Addr} {name qual : Str} {params : Arguments} {body : List Stmt} {scope : Scope} {dV kV doc pm cdv ct oc : Value} {an od : Option Addr}
  {osl : Array (Option Value)} {N ps : List Str} {sp : Sp} (lk : K.lookup f = some ⟨oc, od, .func (PySem.W.fnOf name qual params body scope dV kV doc pm an cdv ct), osl⟩) (hcd : PySem.W.codeIn K cdv qual = true) (S : FnScope N ps scope)
  (len : ∀ vs H Q E, sp vs H Q E → vs.length = ps.length)
  (hbody : ∀ (A : Around) (outer : List Env) (s : Shared) (H : Hp) (vs : List V) (Q : VK) (E : XK), Room k (A.deeper (envOfC qual scope s.heap.objs.size f cdv)) → sp vs H Q E →
   ∃ t, PSs (cxOf CX P w K mg base N qual scope f cdv A outer s H E) body t ∧ t { nx := fun _ H' => Q .non H', rt := Q } (start N vs) H) :
  FnOk P w K mg base CX (k + 1) f (PySem.W.fnOf name qual params body scope dV kV doc pm an cdv ct) ps sp := by
 refine ⟨len, fun A outer s H args us vs Q E hr e0 hb r hsp => ?_⟩
 have hl := len _ _ _ _ hsp
 have KX : K.In s.heap := e0.mod.kin.keeps fun b o e => (e0.bs b o e).1
 have lim : s.heap.NoLimit := e0.mod.nolimit.keeps fun b o e => (e0.bs b o e).1
 have hkind : ∀ y ∈ ps.zip us, scope.names.lookup y.1 = some .local ∨ (scope.names.lookup y.1 = some .cell ∧ ((cellsFrom (s.heap.objs.size + 1) scope.names []).lookup y.1).isSome = true) := fun ⟨n, v⟩ hy => by
  rcases S.par n (List.of_mem_zip hy).1 with q | q
  ·exact .inl q
  ·exact .inr ⟨q, PySem.W.cellsFrom_some _ _ _ (.inl q)⟩
 refine codeAny_call_function hr.depth (KX _ _ lk) rfl S.co S.gen rfl (PySem.W.codeRec_of KX hcd) (hb _ _ _ _ ?_)
 refine wpAny_newFunctionEnv_cells S.kind hkind fun env he s1 x => ?_
 subst he
 refine ⟨lim.keeps x.toInCall.keep, codeAny_func ?_⟩
 obtain ⟨t, ht, hq⟩ := hbody A outer s H vs Q E (hr.deeper _) hsp
 have I : Inv (cxOf CX P w K mg base N qual scope f cdv A outer s H E) [] (start N vs) H s1 := inv_start S hr.hd e0 hl r x
 refine wpAny_mono (ht [] s1 (start N vs) H _ I hq) (fun fl s' hs => ?_) fun e s' hs => hs
 have fin : ∀ {σ' : St} {H' : Hp} {v : V} {u : Value}, Inv (cxOf CX P w K mg base N qual scope f cdv A outer s H E) [] σ' H' s' → RelV v u → Q v H' → CE outer P w H s Q u s' :=
  fun {σ' H' v u} J rv q => ⟨v, H', J.os, J.bare, J.base, J.hok, rv, q⟩
 cases fl with
 | ret u =>
  obtain ⟨v, σ', H', J, rv, q⟩ := hs
  exact fin J rv q
 | next =>
  obtain ⟨σ', H', J, q⟩ := hs
  exact fin (v := V.non) (u := Value.none) J rfl q
 | brk =>
  obtain ⟨_, _, _, q⟩ := hs
  exact False.elim q
 | cont =>
  obtain ⟨_, _, _, q⟩ := hs
  exact False.elim q
end L2
namespace L2
open PySem PySem.Spec PyProof.Rows
section
variable {X : Cx} {x : Str} {p pos : Pos} {e : Expr} {es : List Expr} {t : TA} {id T : String} {r : List V → Hp → VK → Prop}
def tCB (r : List V → Hp → VK → Prop) (t : TA) : TE := fun σ H Q => t σ H fun vs H1 => r vs H1 Q
theorem pe_callB (hc : CallR X (.builtin id) r) (hg : Gl X x) (hm : X.mg x = none) (hv : bootBuiltins x = some (.builtin id)) (ha : PA X (e :: es) t) (hn : x ≠ "__name__" := by decide) (hdb : (x == ("__debug__" : Str)) = false := by decide)
  (he : starEach (e :: es) X.env = (false, eval e X.env) :: starEach es X.env := by rfl) (hpl : (backTo pos (starEach es X.env)).any (·.1) = false := by rfl) : PE X (.Call (.Name x p) (e :: es) [] pos) (tCB r t) := by
 intro pins s σ H Q I h
 refine wpAny_Call_Name_kw (ld_blt I hg hm hv ?_ hn hdb)
 exact PyProof.Rows.callWith_builtin1 (thn (ha pos pins s σ H _ I h) fun us s1 ⟨vs, H1, I1, r1, q1⟩ => hc pins s1 σ H1 vs us Q I1 r1 q1) he hpl
end
end L2
namespace HT
open PySem PyProof.Rows
def lexLt : List Int → List Int → Bool
 | [], [] => false
 | [], _ :: _ => true
 | _ :: _, [] => false
 | x :: xs, y :: ys => if x = y then lexLt xs ys else decide (x < y)
theorem lexLt_cons (x y : Int) (xs ys : List Int) : lexLt (x :: xs) (y :: ys) = if x = y then lexLt xs ys else decide (x < y) := rfl
theorem lexLt_nil_nil : lexLt [] [] = false := rfl
theorem lexLt_nil_cons (y : Int) (ys : List Int) : lexLt [] (y :: ys) = true := rfl
theorem lexLt_cons_nil (x : Int) (xs : List Int) : lexLt (x :: xs) [] = false := rfl
theorem eqAt_int (A : Around) (s : Shared) (a : Int) (t : Tok) (c : Int) (u : Tok) : ∃ e, SeqAt.EqAt A s (.int a t) (.int c u) e ∧ (e = true ↔ a = c) :=
 ⟨(a == c), SeqAt.EqAt.int_int a t c u, by simp⟩
theorem rcLt_int (A : Around) (s : Shared) (a : Int) (t : Tok) (c : Int) (u : Tok) (prog : Program) (w : World) (E : Value → Shared → Prop) (Q : Value → Shared → Prop) (h : Q (.bool (decide (a < c))) s) :
  wpAny (model prog w) A (richCompare .Lt (.int a t) (.int c u)) Q E s :=
 (PyProof.Rows.lt_int h : wpAny (model prog w) A (compareOp .Lt (.int a t) (.int c u)) Q E s)
section
open PySem.SeqAt
open PySem.AutoSeq1 (wpAny_loadPart')
open PySem.MeetsSeq PySem.MeetsSeq2 PySem.MeetsSeq3
theorem tuple_lt_ints (l b : Addr) (items items2 : Array Value) (n n2 : Nat) (dd dd2 : Option Addr) (sl sl2 : Array (Option Value)) (ns ms : List Int) (hi : IntsAre items.toList ns) (hj : IntsAre items2.toList ms) :
  Meets (Builtin.«tuple.__lt__» ⟨[.ref l, .ref b], []⟩)
   (fun _ R s => s.heap.get? l = some { cls := .type "tuple", dict := dd, data := .seq items n, slots := sl } ∧ s.heap.get? b = some { cls := .type "tuple", dict := dd2, data := .seq items2 n2, slots := sl2 } ∧
    R (.ok (.ret (.bool (lexLt ns ms)))) s) :=
 .of_wp fun prog w A R s h => by
  obtain ⟨hp, g, d, tk, os⟩ := s; obtain ⟨hl, hb, h⟩ := h
  have f2 := AutoSeq1.sub_tuple_tuple
  have z1 : items.size = ns.length := by rw [← hi.length]; simp
  have z2 : items2.size = ms.length := by rw [← hj.length]; simp
  wp_walk using wpAny_loadPart' hl, wpAny_loadPart' hb, wpAny_forIn_list _ (fun rest b s' => b.1 = none ∧ s' = ⟨hp, g, d, tk, os⟩ ∧ ∃ (vs ws : List Value) (ns' ms' : List Int), rest = vs.zip ws ∧
   IntsAre vs ns' ∧ IntsAre ws ms' ∧ ns'.length + items2.size = ms'.length + items.size ∧ R (.ok (.ret (.bool (lexLt ns' ms')))) ⟨hp, g, d, tk, os⟩) _
  case turn =>
   rintro ⟨y, x⟩ rest b s' ⟨hb', rfl, vs, ws, ns', ms', hz, hvi, hwi, hlen, hR⟩
   cases hvi with
   | nil => rw [List.zip_nil_left] at hz; cases hz
   | cons a t hvi' =>
    cases hwi with
    | nil => rw [List.zip_nil_right] at hz; cases hz
    | cons c u hwi' =>
     rw [List.zip_cons_cons] at hz
     injection hz with hyx hrest
     injection hyx with hy hx
     subst hy hx
     rw [lexLt_cons] at hR
     simp only [List.length_cons] at hlen
     obtain ⟨e, he, hiff⟩ := eqAt_int A.in1 ⟨hp, g, d, tk, os⟩ a t c u
     refine wpAny_bind (he prog w _ _ ?_)
     cases e with
     | true =>
      rw [if_pos (hiff.mp rfl)] at hR
      wp_walk
      exact ⟨rfl, rfl, _, _, _, _, hrest, hvi', hwi', by omega, hR⟩
     | false =>
      rw [if_neg (fun q => absurd (hiff.mpr q) Bool.false_ne_true)] at hR
      have hri := rcLt_int A.in1 ⟨hp, g, d, tk, os⟩ a t c u prog w
      wp_walk using hri
      exact ⟨_, rfl, by simpa using hR⟩
  case fin =>
   rintro ⟨b1, b2⟩ s' ⟨hb', rfl, vs, ws, ns', ms', hz, hvi, hwi, hlen, hR⟩
   simp only at hb'
   subst hb'
   have hv : lexLt ns' ms' = decide (items.size < items2.size) := by
    cases hvi with
    | nil =>
     cases hwi with
     | nil =>
      simp only [List.length_nil] at hlen
      rw [lexLt_nil_nil]
      exact (decide_eq_false (by omega)).symm
     | cons c u hw =>
      simp only [List.length_nil, List.length_cons] at hlen
      rw [lexLt_nil_cons]
      exact (decide_eq_true (by omega)).symm
    | cons a t hv =>
     cases hwi with
     | nil =>
      simp only [List.length_nil, List.length_cons] at hlen
      rw [lexLt_cons_nil]
      exact (decide_eq_false (by omega)).symm
     | cons c u hw =>
      rw [List.zip_cons_cons] at hz
      cases hz
   rw [hv] at hR
   wp_walk
   exact ⟨_, rfl, by simpa [Builtin.Tuple.tupleCompareSizes] using hR⟩
  case h =>
   exact ⟨rfl, rfl, items.toList, items2.toList, ns, ms, rfl, hi, hj, by omega, h⟩
end
section
variable {prog : Program} {w : World} {A : Around} {E : Value → Shared → Prop} {s : Shared}
theorem lt_tupInts {l b : Addr} {items items2 : Array Value} {ns ms : List Int} {Q : Value → Shared → Prop} (hl : IsTup s.heap l items) (hb : IsTup s.heap b items2) (hi : IntsAre items.toList ns) (hj : IntsAre items2.toList ms)
  (hu : A.units < cLine) (h : Q (.bool (lexLt ns ms)) s) : wpAny (model prog w) A (compareOp .Lt (.ref l) (.ref b)) Q E s := by
 obtain ⟨⟨cls, dd, data, sl⟩, ho, hc, n, hd⟩ := id hl
 obtain ⟨⟨cls2, dd2, data2, sl2⟩, ho2, hc2, n2, hd2⟩ := id hb
 simp only at hc hd hc2 hd2
 subst hc hd hc2 hd2
 exact richCompare_meets_room (op := .Lt) ⟨_, ho, rfl⟩ ⟨_, ho2, rfl⟩ PySem.F.slot_tuple_lt PySem.F.entry_tuple_lt (PySem.F.args_tuple_lt_2 _ _) (tuple_lt_ints l b items items2 n n2 dd dd2 sl sl2 ns ms hi hj)
  ⟨ho, ho2, show Value.bool (lexLt ns ms) ≠ Value.notImplemented ∧ Q (.bool (lexLt ns ms)) s from ⟨(fun x => nomatch x), h⟩⟩ hu
def sIx (n d : Nat) : Option Int → Nat
 | none => d
 | some v => if v < 0 then (v + (n : Int)).toNat else min v.toNat n
theorem sIx_nat (n d k : Nat) : sIx n d (some (k : Int)) = min k n := by
 show (if (k : Int) < 0 then ((k : Int) + (n : Int)).toNat else min (k : Int).toNat n) = min k n
 rw [if_neg (by omega), Int.toNat_natCast]
end
end HT
namespace L2
open PySem PySem.Spec PyProof.Rows
abbrev TO := St → Hp → (Option Int → Hp → Prop) → Prop
def PO (X : Cx) (e : Option Expr) (t : TO) : Prop :=
 ∀ (pins : List (Addr × Obj)) (s : Shared) (σ : St) (H : Hp) (Q : Option Int → Hp → Prop), Inv X pins σ H s → t σ H Q →
  wpAny (model X.prog X.w) X.A (evalPart e X.env) (fun u s' => ∃ o H', Inv X pins σ H' s' ∧ IsPart u o ∧ Q o H') X.xe s
def tPart (t : TE) : TO := fun σ H Q => t σ H fun x H1 => ∃ i, x = .int i ∧ Q (some i) H1
theorem intsAre_of {ns : List Int} : ∀ {us : List Value}, Vals (ns.map V.int) us → IntsAre us ns := by
 induction ns with
 | nil => intro us r; rw [List.map_nil] at r; cases r; exact .nil
 | cons n ns ih =>
  intro us r
  rw [List.map_cons] at r
  cases r with
  | cons r1 r2 =>
   obtain ⟨t, e⟩ := r1
   subst e
   exact .cons n t (ih r2)
section
variable {X : Cx} {e : Expr} {te : TE} {lo hi : Option Expr} {tl th : TO} {pos p2 : Pos}
theorem po_some (h : PE X e te) : PO X (some e) (tPart te) := by
 intro pins s σ H Q I hw
 rw [evalPart_some]
 refine thn (h pins s σ H _ I hw) fun u s1 ⟨x, H1, I1, r1, q1⟩ => ?_
 obtain ⟨i, rfl, q⟩ := q1
 obtain ⟨t, rfl⟩ := r1
 exact ⟨some i, H1, I1, .int i t, q⟩
def SlR (X : Cx) (r : V → Option Int → Option Int → Hp → VK → Prop) : Prop :=
 ∀ (pins : List (Addr × Obj)) (s : Shared) (σ : St) (H : Hp) (x : V) (v vl vu : Value) (lo hi : Option Int) (sl : Addr) (Q : VK), Inv X pins σ H s → RelV x v → s.heap.IsSliceOf sl vl vu .none → IsPart vl lo → IsPart vu hi → r x lo hi H Q →
  ∃ T id, typeLookup (.type T) "__getitem__" = pure (some (.builtin id)) ∧ s.TypeIs v T ∧ wpAny (model X.prog X.w) X.A (getItem v (.ref sl)) (EP X pins σ Q) X.xe s
def tSl (r : V → Option Int → Option Int → Hp → VK → Prop) (te : TE) (tl th : TO) : TE := fun σ H Q => te σ H fun x H1 => tl σ H1 fun l H2 => th σ H2 fun u H3 => r x l u H3 Q
theorem pe_slice {r : V → Option Int → Option Int → Hp → VK → Prop} (hr : SlR X r) (he : PE X e te) (hl : PO X lo tl) (hu : PO X hi th) : PE X (.Subscript e (.Slice lo hi none p2) pos) (tSl r te tl th) := by
 intro pins s σ H Q I h
 refine Subscript_ (thn (he pins s σ H _ I h) fun v s1 ⟨x, H1, I1, r1, q1⟩ => ?_)
 refine wpAny_Slice (thn (hl pins s1 σ H1 _ I1 q1) fun vl s2 ⟨l, H2, I2, pl, q2⟩ => thn (hu pins s2 σ H2 _ I2 q2) fun vu s3 ⟨u, H3, I3, pu, q3⟩ => ?_)
 rw [evalPart_none]
 refine wpAny_pure ?_
 have I4 : Inv X pins σ H3 { s3 with heap := s3.heap.push { cls := .type "slice", data := .fields #[vl, vu, .none] } } := I3.kept (t' := s3.toks) fun b ob q => Heap.get?_push_of_some _ q
 obtain ⟨T, id, hT, ht, hg⟩ := hr pins { s3 with heap := s3.heap.push { cls := .type "slice", data := .fields #[vl, vu, .none] } } σ H3 x v vl vu l u s3.heap.objs.size Q I4 r1 (Heap.IsSliceOf.new ..) pl pu q3
 show wpAny (model X.prog X.w) X.A (subscriptTail e (.Slice lo hi none p2) v (.ref s3.heap.objs.size)) (EP X pins σ Q) X.xe { s3 with heap := s3.heap.push { cls := .type "slice", data := .fields #[vl, vu, .none] } }
 exact tail_any (ops := [.ref s3.heap.objs.size, v]) ht hT hg (by with_unfolding_all rfl)
def cutV (xs : List V) (lo hi : Option Int) : List V := (xs.drop (HT.sIx xs.length 0 lo)).take (HT.sIx xs.length xs.length hi - HT.sIx xs.length 0 lo)
theorem cutV_length (xs : List V) (lo hi : Option Int) : (cutV xs lo hi).length ≤ xs.length := by
 unfold cutV
 rw [List.length_take, List.length_drop]
 omega
def rLtT (K : PySem.W.Frag) : R2 := fun x y H Q => ∃ a b ns ms, x = .ref a ∧ y = .ref b ∧ SqT K H a (ns.map V.int) ∧ SqT K H b (ms.map V.int) ∧ Q (.bl (HT.lexLt ns ms)) H
theorem op_ltT (hu : X.A.units < cLine) : OpR X (compareOp .Lt) (rLtT X.K) := by
 intro pins s σ H x y v u Q I rx ry h
 obtain ⟨a, b, ns, ms, rfl, rfl, ha, hb, q⟩ := h
 cases rx
 cases ry
 obtain ⟨its, r1, p1, _⟩ := I.tuple ha
 obtain ⟨its2, r2, p2, _⟩ := I.tuple hb
 have i1 : IntsAre its.toArray.toList ns := intsAre_of r1
 have i2 : IntsAre its2.toArray.toList ms := intsAre_of r2
 exact HT.lt_tupInts p1 p2 i1 i2 hu ⟨.bl (HT.lexLt ns ms), H, I, rfl, q⟩
end
end L2
namespace L2
open PySem PySem.Spec PyProof.Rows
def ixN (n : Nat) (i : Int) : Option Nat := if 0 ≤ i then (if i < n then some i.toNat else none) else if -(n : Int) ≤ i then some (i + n).toNat else none
def atI {α : Type} (xs : List α) (i : Int) : Option α := (ixN xs.length i).bind fun j => xs[j]?
theorem ixN_seq {n : Nat} {i : Int} {j : Nat} (h : ixN n i = some j) : seqIndex? i n = some j ∧ j < n ∧ -(n : Int) ≤ i ∧ i < n := by
 unfold ixN at h
 by_cases h0 : 0 ≤ i
 ·rw [if_pos h0] at h
  by_cases h1 : i < n
  ·rw [if_pos h1] at h
   have e : i.toNat = j := Option.some.inj h
   exact ⟨by rw [seqIndex_of h0 h1, e], by omega, by omega, h1⟩
  ·rw [if_neg h1] at h; cases h
 ·rw [if_neg h0] at h
  by_cases h1 : -(n : Int) ≤ i
  ·rw [if_pos h1] at h
   have e : (i + n).toNat = j := Option.some.inj h
   exact ⟨by rw [seqIndex_neg (by omega) h1, e], by omega, h1, by omega⟩
  ·rw [if_neg h1] at h; cases h
theorem atI_get {α : Type} {xs : List α} {i : Int} {v : α} (h : atI xs i = some v) : ∃ j, seqIndex? i xs.length = some j ∧ xs[j]? = some v ∧ j < xs.length ∧ -(xs.length : Int) ≤ i ∧ i < xs.length := by
 unfold atI at h
 cases e : ixN xs.length i with
 | none => rw [e] at h; cases h
 | some j =>
  rw [e] at h
  obtain ⟨h1, h2, h3, h4⟩ := ixN_seq e
  exact ⟨j, h1, h, h2, h3, h4⟩
theorem atI_nat {α : Type} {xs : List α} {j : Nat} {v : α} (h : xs[j]? = some v) : atI xs (j : Int) = some v := by
 have hj : j < xs.length := (List.getElem?_eq_some_iff.mp h).1
 have e : ixN xs.length (j : Int) = some j := by
  unfold ixN
  rw [if_pos (by omega), if_pos (by omega)]; simp
 unfold atI; rw [e]; exact h
theorem atI_last {α : Type} (xs : List α) (v : α) : atI (xs ++ [v]) (-1) = some v := by
 have hl : (xs ++ [v]).length = xs.length + 1 := by simp
 have e : ixN (xs ++ [v]).length (-1) = some xs.length := by
  unfold ixN
  rw [hl, if_neg (by decide), if_pos (by omega)]
  congr 1
  omega
 unfold atI
 rw [e]
 show (xs ++ [v])[xs.length]? = some v
 simp
def PlainIx (b : Expr) : Prop := ∀ o i, subscripted b false o i = operate [o, i] (getItem o i)
def IxR (X : Cx) (r : R2) : Prop :=
 ∀ (value slice : Expr) (pins : List (Addr × Obj)) (s : Shared) (σ : St) (H : Hp) (x y : V) (v u : Value) (Q : VK), Inv X pins σ H s → RelV x v → RelV y u → r x y H Q →
  subscripted slice false v u = operate [v, u] (getItem v u) → wpAny (model X.prog X.w) X.A (subscriptTail value slice v u) (EP X pins σ Q) X.xe s
def MtR (X : Cx) (id : String) (r : V → List V → Hp → VK → Prop) : Prop :=
 ∀ (pins : List (Addr × Obj)) (s : Shared) (σ : St) (H : Hp) (x : V) (xs : List V) (v : Value) (us : List Value) (Q : VK), Inv X pins σ H s → RelV x v → Vals xs us → r x xs H Q →
  wpAny (model X.prog X.w) X.A (call (.builtin id) (v :: us)) (EP X pins σ Q) X.xe s
section
variable {X : Cx} {a b : Expr} {ta tb : TE} {pos : Pos}
theorem pe_ix {r : R2} (hr : IxR X r) (ha : PE X a ta) (hb : PE X b tb) (hs : PlainIx b) : PE X (.Subscript a b pos) (tOp r ta tb) := by
 intro pins s σ H Q I h
 exact Subscript_ (binT ha hb I h fun v u s2 x y H2 I2 rx ry q => hr a b pins s2 σ H2 x y v u Q I2 rx ry q (hs _ _))
def rIxL (K : PySem.W.Frag) : R2 := fun x y H Q => ∃ p xs i v, x = .ref p ∧ y = .int i ∧ SqL K H p xs ∧ atI xs i = some v ∧ Q v H
def rIxT (K : PySem.W.Frag) : R2 := fun x y H Q => ∃ p xs i v, x = .ref p ∧ y = .int i ∧ SqT K H p xs ∧ atI xs i = some v ∧ Q v H
theorem ix_list : IxR X (rIxL X.K) := by
 intro value slice pins s σ H x y v u Q I rx ry h hs
 obtain ⟨p, xs, i, z, rfl, rfl, hq, he, q⟩ := h
 cases rx
 obtain ⟨t, rfl⟩ := ry
 obtain ⟨its, r, pl, hz⟩ := I.list hq
 obtain ⟨j, h1, h2, h3, h4, h5⟩ := atI_get he
 obtain ⟨w, ew, rw'⟩ := r.get h2
 have hl := r.length
 have hn := line63
 have fin : EP X pins σ Q w s := ⟨z, H, I, rw', q⟩
 by_cases h0 : 0 ≤ i
 ·have hj : i.toNat = j := by
   rw [seqIndex_of h0 h5] at h1
   exact Option.some.inj h1
  exact item_listR pl.isList h0 (by omega) (by rw [hj]; simpa using ew) fin hs
 ·have hj : (i + (its.toArray.size : Int)).toNat = j := by
   rw [seqIndex_neg (by omega) h4] at h1
   rw [List.size_toArray, ← hl]
   exact Option.some.inj h1
  exact subscriptTail_builtinR (x := w) pl.isList.typeIs slot_list_getitem.lookup
   (wpAny_getItem_list_neg (Q := fun r s' => r = w ∧ EP X pins σ Q r s') pl.isList (by omega) (by rw [List.size_toArray] <;> omega) (by omega) (by rw [hj]; simpa using ew) ⟨rfl, fin⟩) hs
theorem ix_tup : IxR X (rIxT X.K) := by
 intro value slice pins s σ H x y v u Q I rx ry h hs
 obtain ⟨p, xs, i, z, rfl, rfl, hq, he, q⟩ := h
 cases rx
 obtain ⟨t, rfl⟩ := ry
 obtain ⟨its, r, pl, hz⟩ := I.tuple hq
 obtain ⟨j, h1, h2, h3, h4, h5⟩ := atI_get he
 obtain ⟨w, ew, rw'⟩ := r.get h2
 have hl := r.length
 have hn := line63
 have fin : EP X pins σ Q w s := ⟨z, H, I, rw', q⟩
 exact subscriptTail_builtinR (x := w) pl.typeIs slot_tuple_getitem.lookup
  (getItem_tuple (j := j) (Q := fun r s' => r = w ∧ EP X pins σ Q r s') pl (by omega) (by omega) (by rw [List.size_toArray, ← hl]; exact h1) (by simpa using ew) ⟨rfl, fin⟩) hs
theorem slice_bounds (lo hi : Option Int) (n : Nat) : (sliceBounds lo hi none n).1 = ((HT.sIx n 0 lo : Nat) : Int) ∧ (sliceBounds lo hi none n).2.1 = ((HT.sIx n n hi : Nat) : Int) ∧ (sliceBounds lo hi none n).2.2 = 1 := by
 refine ⟨?_, ?_, rfl⟩
 ·cases lo with
  | none => simp [sliceBounds, HT.sIx]
  | some i =>
   simp only [sliceBounds, HT.sIx, Option.getD_none, show (1 : Int) > 0 by decide, if_true]
   by_cases h : i < 0
   ·simp only [h, if_true] <;> omega
   ·simp only [h, if_false] <;> omega
 ·cases hi with
  | none => simp [sliceBounds, HT.sIx]
  | some i =>
   simp only [sliceBounds, HT.sIx, Option.getD_none, show (1 : Int) > 0 by decide, if_true]
   by_cases h : i < 0
   ·simp only [h, if_true] <;> omega
   ·simp only [h, if_false] <;> omega
theorem slicePick_cut (its : List Value) (lo hi : Option Int) : slicePick its.toArray lo hi none = ((its.drop (HT.sIx its.length 0 lo)).take (HT.sIx its.length its.length hi - HT.sIx its.length 0 lo)).toArray := by
 obtain ⟨h1, h2, h3⟩ := slice_bounds lo hi its.toArray.size
 unfold slicePick
 rw [h1, h2, h3]
 simp only [sliceRange_one, pick_run, List.size_toArray] <;> rfl
def rSlL (K : PySem.W.Frag) : V → Option Int → Option Int → Hp → VK → Prop := fun x lo hi H Q => ∃ a xs, x = .ref a ∧ SqL K H a xs ∧ ∀ p, H p = none → Q (.ref p) (upd H p (.lst (cutV xs lo hi)))
theorem sl_list : SlR X (rSlL X.K) := by
 intro pins s σ H x v vl vu lo hi sl Q I rx hs pl pu h
 obtain ⟨a, xs, rfl, hx, q⟩ := h
 cases rx
 obtain ⟨its, r, ht, hz⟩ := I.list hx
 have hlen := r.length
 refine ⟨"list", _, slot_list_getitem.lookup, ht.isList.typeIs, ?_⟩
 refine wpAny_getItem_list_slice ht.isList hs pl pu .none (by simp) ?_ (by rw [List.size_toArray] <;> omega)
 rw [slicePick_cut, ← hlen]
 refine ⟨.ref s.heap.objs.size, _, I.laid (t' := s.toks) (o := .lst (cutV xs lo hi)) (fun b ob q => Heap.get?_push_of_some _ q) (Nat.le_refl _) ?_, rfl, q _ (I.hok.fresh (Nat.le_refl _))⟩
 exact ⟨Nat.le_trans (cutV_length xs lo hi) hz, _, 0, (r.drop (HT.sIx xs.length 0 lo)).take (HT.sIx xs.length xs.length hi - HT.sIx xs.length 0 lo), Heap.get?_push_size _ rfl⟩
def flatV : V → Bool
 | .non => true
 | .bl _ => true
 | .int _ => true
 | .str _ => true
 | _ => false
def eqV : V → V → Bool
 | .non, .non => true
 | .bl a, .bl b => a == b
 | .bl a, .int b => (if a then 1 else 0) == b
 | .int a, .bl b => a == (if b then 1 else 0)
 | .int a, .int b => a == b
 | .str a, .str b => a == b
 | _, _ => false
theorem eqAt_V {A : Around} {s : Shared} {y x : V} {u v : Value} (ry : RelV y u) (rx : RelV x v) (fy : flatV y = true) (fx : flatV x = true) : SeqAt.EqAt A s u v (eqV y x) := by
 cases y with
 | non =>
  cases ry
  cases x with
  | non => cases rx; exact SeqAt.EqAt.same _
  | bl b => cases rx; exact SeqAt.EqAt.none_bool b
  | int b => obtain ⟨t, rfl⟩ := rx; exact SeqAt.EqAt.none_int b t
  | str b => obtain ⟨t, rfl⟩ := rx; exact SeqAt.EqAt.none_str b t
  | _ => exact absurd (show false = true from fx) Bool.false_ne_true
 | bl a =>
  cases ry
  cases x with
  | non => cases rx; exact SeqAt.EqAt.bool_none a
  | bl b => cases rx; exact SeqAt.EqAt.bool_bool a b
  | int b => obtain ⟨t, rfl⟩ := rx; exact SeqAt.EqAt.bool_int a b t
  | str b => obtain ⟨t, rfl⟩ := rx; exact SeqAt.EqAt.bool_str a b t
  | _ => exact absurd (show false = true from fx) Bool.false_ne_true
 | int a =>
  obtain ⟨t', rfl⟩ := ry
  cases x with
  | non => cases rx; exact SeqAt.EqAt.int_none a t'
  | bl b => cases rx; exact SeqAt.EqAt.int_bool a t' b
  | int b => obtain ⟨t, rfl⟩ := rx; exact SeqAt.EqAt.int_int a t' b t
  | str b => obtain ⟨t, rfl⟩ := rx; exact SeqAt.EqAt.int_str a t' b t
  | _ => exact absurd (show false = true from fx) Bool.false_ne_true
 | str a =>
  obtain ⟨t', rfl⟩ := ry
  cases x with
  | non => cases rx; exact SeqAt.EqAt.str_none a t'
  | bl b => cases rx; exact SeqAt.EqAt.str_bool a t' b
  | int b => obtain ⟨t, rfl⟩ := rx; exact SeqAt.EqAt.str_int a t' b t
  | str b => obtain ⟨t, rfl⟩ := rx; exact SeqAt.EqAt.str_str a t' b t
  | _ => exact absurd (show false = true from fx) Bool.false_ne_true
 | _ => exact absurd (show false = true from fy) Bool.false_ne_true
def eqU (x : V) (u : Value) : Bool := match u with
 | .none => eqV .non x
 | .bool b => eqV (.bl b) x
 | .int i _ => eqV (.int i) x
 | .str z _ => eqV (.str z) x
 | _ => false
theorem eqU_of {x y : V} {u : Value} (r : RelV y u) (f : flatV y = true) : eqU x u = eqV y x := by
 cases y with
 | non => cases r; rfl
 | bl b => cases r; rfl
 | int i => obtain ⟨t, rfl⟩ := r; rfl
 | str z => obtain ⟨t, rfl⟩ := r; rfl
 | _ => exact absurd (show false = true from f) Bool.false_ne_true
theorem any_eqU {x : V} : ∀ {xs : List V} {us : List Value}, Vals xs us → xs.all flatV = true → us.any (eqU x) = xs.any fun y => eqV y x
 | _, _, .nil, _ => rfl
 | y :: xs, u :: us, .cons r t, f => by
  rw [List.all_cons, Bool.and_eq_true] at f
  rw [List.any_cons, List.any_cons, eqU_of r f.1, any_eqU t f.2]
theorem mem_eqAt {A : Around} {s : Shared} {x : V} {v : Value} (rx : RelV x v) (fx : flatV x = true) : ∀ {xs : List V} {us : List Value}, Vals xs us → xs.all flatV = true → ∀ u ∈ us, SeqAt.EqAt A s u v (eqU x u)
 | _, _, .nil, _ => fun u hu => by cases hu
 | y :: xs, u :: us, .cons r t, f => fun u' hu => by
  rw [List.all_cons, Bool.and_eq_true] at f
  rcases List.mem_cons.mp hu with rfl | hu
  ·rw [eqU_of r f.1]; exact eqAt_V r rx f.1 fx
  ·exact mem_eqAt rx fx t f.2 u' hu
def inV (x : V) (xs : List V) : Bool := xs.any fun y => eqV y x
def rIn (K : PySem.W.Frag) (neg : Bool) : R2 := fun x y H Q => ∃ p xs, y = .ref p ∧ (SqL K H p xs ∨ SqT K H p xs) ∧ flatV x = true ∧ xs.all flatV = true ∧ Q (.bl (if neg then !inV x xs else inV x xs)) H
theorem op_in_seq : OpR X (compareOp .In) (rIn X.K false) := by
 intro pins s σ H x y v u Q I rx ry h
 obtain ⟨p, xs, rfl, hq, fx, fs, q⟩ := h
 cases ry
 rcases hq with hq | hq
 ·obtain ⟨its, r, pl, hz⟩ := I.list hq
  refine SeqAt.in_listAt (eqU x) pl.isList (fun w hw => mem_eqAt rx fx r fs w (by simpa using hw)) ⟨.bl _, H, I, rfl, ?_⟩
  rw [show its.toArray.any (eqU x) = its.any (eqU x) by simp, any_eqU r fs]
  exact q
 ·obtain ⟨its, r, pl, hz⟩ := I.tuple hq
  refine SeqAt.in_tupleAt (eqU x) pl (fun w hw => mem_eqAt rx fx r fs w (by simpa using hw)) ⟨.bl _, H, I, rfl, ?_⟩
  rw [show its.toArray.any (eqU x) = its.any (eqU x) by simp, any_eqU r fs]
  exact q
theorem call_len_seq : CallR X (.builtin "len") (fun xs H Q => ∃ p ys, xs = [.ref p] ∧ (SqL X.K H p ys ∨ SqT X.K H p ys) ∧ Q (.int ys.length) H) := by
 intro pins s σ H xs us Q I r h
 obtain ⟨p, ys, rfl, hq, q⟩ := h
 obtain ⟨u, rfl, rx⟩ := vals1 r
 cases rx
 have hn := line63
 rcases hq with hq | hq
 ·obtain ⟨its, r', pl, hz⟩ := I.list hq
  have hlen := r'.length
  exact Calls.call_len_list pl.isList (by simp only [List.size_toArray] <;> omega) ⟨.int ys.length, H, I.tok _, ⟨s.toks + 1, by rw [List.size_toArray, hlen]⟩, q⟩
 ·obtain ⟨its, r', pl, hz⟩ := I.tuple hq
  have hlen := r'.length
  exact len_tuple pl (by simp only [List.size_toArray] <;> omega) ⟨.int ys.length, H, I.tok _, ⟨s.toks + 1, by rw [List.size_toArray, hlen]⟩, q⟩
def tyV (K : PySem.W.Frag) (T : String) (x : V) (H : Hp) : Prop := match x with
 | .str _ => T = "str"
 | .int _ => T = "int"
 | .ref p => (T = "list" ∧ ∃ xs, SqL K H p xs) ∨ (T = "tuple" ∧ ∃ o, K.lookup p = some o ∧ o.cls = .type "tuple" ∧ o.dict = none) ∨
   (T = "dict" ∧ ((∃ kvs, H p = some (.dK kvs)) ∨ ∃ kvs, H p = some (.dT kvs))) ∨ (T = "set" ∧ ∃ S n, H p = some (.set S n))
 | _ => False
theorem tyV_is {pins : List (Addr × Obj)} {σ : St} {H : Hp} {s : Shared} {T : String} {x : V} {v : Value} (I : Inv X pins σ H s) (r : RelV x v) (ty : tyV X.K T x H) :
  s.TypeIs v T ∧ ∀ a, v = .ref a → ∃ ob, s.heap.get? a = some ob ∧ ob.dict = none := by
 cases x with
 | str z =>
  obtain ⟨t, rfl⟩ := r
  cases (show T = "str" from ty)
  exact ⟨typeIs_str s z t, fun _ e => nomatch e⟩
 | int i =>
  obtain ⟨t, rfl⟩ := r
  cases (show T = "int" from ty)
  exact ⟨typeIs_int s i t, fun _ e => nomatch e⟩
 | ref p =>
  cases r
  rcases ty with ⟨rfl, xs, hq⟩ | ⟨rfl, o, hk, hc, hd⟩ | ⟨rfl, hk⟩ | ⟨rfl, S, n, hk⟩
  ·obtain ⟨its, _, pl, _⟩ := I.list hq
   refine ⟨pl.isList.typeIs, fun a e => ?_⟩
   cases e
   obtain ⟨o, n, e, c, hd, _⟩ := pl
   exact ⟨o, e, hd⟩
  ·refine ⟨⟨o, I.kIn p o hk, hc⟩, fun a e => ?_⟩
   cases e
   exact ⟨o, I.kIn _ o hk, hd⟩
  ·have z : ∃ o, s.heap.get? p = some o ∧ o.ExactDict := by
    rcases hk with ⟨kvs, hk⟩ | ⟨kvs, hk⟩
    ·obtain ⟨_, _, _, _, o, _, _, e, ex, _⟩ := I.hok p _ hk
     exact ⟨o, e, ex⟩
    ·obtain ⟨_, _, _, _, o, _, _, e, ex, _⟩ := I.hok p _ hk
     exact ⟨o, e, ex⟩
   obtain ⟨o, e, ex⟩ := z
   refine ⟨⟨o, e, ex.1⟩, fun a e2 => ?_⟩
   cases e2
   exact ⟨o, e, ex.2.1⟩
  ·obtain ⟨o, _, _, _, e, ex, _⟩ := I.hok p _ hk
   refine ⟨⟨o, e, ex.1⟩, fun a e2 => ?_⟩
   cases e2
   exact ⟨o, e, ex.2.1⟩
 | _ => exact False.elim ty
def tBM0 (K : PySem.W.Frag) (T : String) (r : V → List V → Hp → VK → Prop) (to : TE) : TE := fun σ H Q => to σ H fun x H1 => tyV K T x H1 ∧ r x [] H1 Q
def tBM (K : PySem.W.Frag) (T : String) (r : V → List V → Hp → VK → Prop) (to : TE) (t : TA) : TE := fun σ H Q => to σ H fun x H1 => tyV K T x H1 ∧ t σ H1 fun xs H2 => r x xs H2 Q
variable {o e : Expr} {es : List Expr} {to : TE} {t : TA} {name : Str} {apos cpos : Pos} {T id : String} {r : V → List V → Hp → VK → Prop}
theorem pe_bm0 (pa : PlainAttrs T) (slot : Slot T name id) (hty : typeOf (.builtin id) = pure (.type "method_descriptor")) (hm : MtR X id r) (ho : PE X o to)
  (hbase : attributeBase o name X.env (eval o X.env) = eval o X.env := by rfl) (hline : (apos.endLine == cpos.line) = true := by rfl) : PE X (.Call (.Attribute o name apos) [] [] cpos) (tBM0 X.K T r to) := by
 intro pins s σ H Q I h
 refine wpAny_Call_method0_late hbase hline (thn (ho pins s σ H _ I h) fun v s1 ⟨x, H1, I1, r1, ty, q1⟩ => ?_)
 obtain ⟨h1, h2⟩ := tyV_is I1 r1 ty
 exact ⟨T, id, pa, slot, hty, h1, h2, Calls.callWith_builtin rfl (PySem.evalArgs_none (hm pins s1 σ H1 x [] v [] Q I1 r1 .nil q1))⟩
theorem pe_bm (pa : PlainAttrs T) (slot : Slot T name id) (hty : typeOf (.builtin id) = pure (.type "method_descriptor")) (hm : MtR X id r) (ho : PE X o to) (ha : PA X (e :: es) t)
  (hbase : attributeBase o name X.env (eval o X.env) = eval o X.env := by rfl)
  (hfew : ((backTo cpos (starEach (e :: es) X.env)).all (fun x => !x.1) && (backToKw cpos (keywordEach [] X.env)).all (fun x => x.1.isSome)
   && decide ((e :: es).length + ([] : List Keyword).length + (if ([] : List Keyword).isEmpty then 0 else 1) < 30)) = true := by rfl)
  (hline : (apos.endLine == cpos.line) = true := by rfl) (hs : starEach (e :: es) X.env = (false, eval e X.env) :: starEach es X.env := by rfl) (hplain : (backTo cpos (starEach es X.env)).any (·.1) = false := by rfl) :
  PE X (.Call (.Attribute o name apos) (e :: es) [] cpos) (tBM X.K T r to t) := by
 intro pins s σ H Q I h
 refine wpAny_Call_method_late hbase hfew hline rfl (thn (ho pins s σ H _ I h) fun v s1 ⟨x, H1, I1, r1, ty, q1⟩ => ?_)
 obtain ⟨h1, h2⟩ := tyV_is I1 r1 ty
 refine ⟨T, id, pa, slot, hty, h1, h2, ?_⟩
 have hA := ha cpos pins s1 σ H1 _ I1 q1
 rw [hs] at hA ⊢
 refine Calls.callWith_builtin (by show (false || (backTo cpos (starEach es X.env)).any (·.1)) = false; rw [hplain] <;> rfl) (Calls.evalArgs_plain ?_)
 exact thn hA fun us s2 ⟨vs, H2, I2, r2, q2⟩ => hm pins s2 σ H2 x vs v us Q I2 r1 r2 q2
end
end L2
namespace L2
open PySem PySem.Spec PyProof.Rows
def MtM (X : Cx) (id : String) (r : V → List V → Hp → VK → Prop) : Prop :=
 ∀ (pins : List (Addr × Obj)) (s : Shared) (σ : St) (H : Hp) (x : V) (xs : List V) (v : Value) (us : List Value) (Q : VK), Inv X pins σ H s → RelV x v → Vals xs us → r x xs H Q →
  wpAny (model X.prog X.w) X.A (call (.builtin id) (v :: us)) (EP X pins σ Q) X.xe s
theorem Vals.one : ∀ {x : V} {us : List Value}, Vals [x] us → ∃ u, us = [u] ∧ RelV x u
 | _, _, .cons r .nil => ⟨_, rfl, r⟩
theorem Vals.zero : ∀ {us : List Value}, Vals [] us → us = []
 | _, .nil => rfl
theorem Vals.dropLast {xs : List V} {us : List Value} (h : Vals xs us) : Vals xs.dropLast us.dropLast := by
 induction h with
 | nil => exact .nil
 | cons r t ih =>
  cases t with
  | nil => exact .nil
  | cons q t' => exact .cons r ih
theorem erase_last {α : Type} (l : List α) : l.eraseIdx (l.length - 1) = l.dropLast := by
 induction l with
 | nil => rfl
 | cons a r ih =>
  cases r with
  | nil => rfl
  | cons b r =>
   have e : (a :: b :: r).length - 1 = ((b :: r).length - 1) + 1 := by
    have h1 : (a :: b :: r).length = r.length + 2 := rfl
    have h2 : (b :: r).length = r.length + 1 := rfl
    omega
   rw [e, List.eraseIdx_cons_succ, ih]
   all_goals rfl
section
variable {X : Cx} {pins : List (Addr × Obj)} {σ : St} {H : Hp} {s : Shared} {l b : Addr} {xs ys zs : List V}
theorem Inv.lset {its its' : List Value} {n : Nat} {f : Array Value → Array Value} {t' : Nat} (I : Inv X pins σ H s) (hH : H l = some (.lst xs))
  (e : s.heap.get? l = some { cls := .type "list", data := .seq its.toArray n }) (hf : f its.toArray = its'.toArray) (hv : Vals ys its') (hz : ys.length ≤ sizeLine) :
  Inv X pins σ (upd H l (.lst ys)) { s with heap := s.heap.update l (Obj.mapSeq f), toks := t' } := by
 have q := PySem.IsL.update e f
 rw [hf] at q
 refine I.write (x := l) (e := l) (by rw [hH]; exact trivial) (.inl rfl) (fun b' u hb hu => (Heap.get?_update_other s.heap (Obj.mapSeq f) (Ne.symm hb)).trans hu) ⟨_, q⟩ ?_
 exact ⟨hz, its', _, hv, q⟩
theorem Inv.lnew {its : List Value} {t' : Nat} (I : Inv X pins σ H s) (hv : Vals ys its) (hz : ys.length ≤ sizeLine) :
  Inv X pins σ (upd H s.heap.objs.size (.lst ys)) { s with heap := s.heap.push { cls := .type "list", data := .seq its.toArray }, toks := t' } :=
 I.laid (fun _ _ q => Heap.get?_push_of_some _ q) (Nat.le_refl _) ⟨hz, its, 0, hv, Heap.get?_push_size _ rfl⟩
theorem Inv.fresh (I : Inv X pins σ H s) : H s.heap.objs.size = none := I.hok.fresh (Nat.le_refl _)
theorem Inv.lstM (I : Inv X pins σ H s) (hH : H l = some (.lst xs)) : xs.length ≤ sizeLine ∧ ∃ (its : List Value) (n : Nat), Vals xs its ∧ xs.length = its.length ∧ s.heap.get? l = some { cls := .type "list", data := .seq its.toArray n } := by
 obtain ⟨z, its, n, r, e⟩ := I.hok l _ hH
 exact ⟨z, its, n, r, r.length, e⟩
theorem notLongL {n : Nat} (h : n ≤ sizeLine) : Builtin.List.listTooLong n = false := by
 unfold Builtin.List.listTooLong
 exact decide_eq_false (by omega)
end
section
variable {X : Cx}
def rAppend : V → List V → Hp → VK → Prop := fun x vs H Q => ∃ l xs y, x = .ref l ∧ vs = [y] ∧ H l = some (.lst xs) ∧ xs.length < sizeLine ∧ Q .non (upd H l (.lst (xs ++ [y])))
theorem mt_append : MtM X "list.append" rAppend := by
 intro pins s σ H x vs v us Q I rx rv h
 obtain ⟨l, xs, y, rfl, rfl, hH, hz, q⟩ := h
 cases rx
 obtain ⟨u, rfl, ru⟩ := rv.one
 obtain ⟨z, its, n, r, hl, e⟩ := I.lstM hH
 refine call_meets F.slot_list_append ⟨_, e, rfl⟩ F.entry_list_append (F.args_list_append_2 _ _) (PySem.list_append l its.toArray n u (by rw [List.size_toArray]; omega)) ⟨e, ?_⟩
 refine ⟨.non, _, I.lset (its' := its ++ [u]) hH e (by simp) (r.append (.cons ru .nil)) ?_, rfl, q⟩
 rw [List.length_append, List.length_singleton]
 omega
def rExtend : V → List V → Hp → VK → Prop := fun x vs H Q => ∃ l b xs zs, x = .ref l ∧ vs = [.ref b] ∧ H l = some (.lst xs) ∧ H b = some (.lst zs) ∧ xs.length + zs.length ≤ sizeLine ∧ Q .non (upd H l (.lst (xs ++ zs)))
theorem mt_extend : MtM X "list.extend" rExtend := by
 intro pins s σ H x vs v us Q I rx rv h
 obtain ⟨l, b, xs, zs, rfl, rfl, hH, hB, hz, q⟩ := h
 cases rx
 obtain ⟨u, rfl, ru⟩ := rv.one
 cases ru
 obtain ⟨z, its, n, r, hl, e⟩ := I.lstM hH
 obtain ⟨z2, its2, n2, r2, hl2, e2⟩ := I.lstM hB
 have hsz : its.toArray.size + its2.toArray.size ≤ sizeLine := by rw [List.size_toArray, List.size_toArray]; omega
 have hlong : ¬ (!its.toArray.isEmpty && Builtin.List.listTooLong (its.toArray.size + its2.toArray.size)) = true := by
  rw [notLongL hsz, Bool.and_false]
  exact Bool.false_ne_true
 refine call_meets F.slot_list_extend ⟨_, e, rfl⟩ F.entry_list_extend (F.args_list_extend_2 _ _)
  (AutoSeq1.list_extend_list_list_0 l its.toArray n b its2.toArray n2 hlong (by rw [List.size_toArray]; omega) (by omega)) ⟨e, e2, ?_⟩
 refine ⟨.non, _, I.lset (its' := its ++ its2) hH e (by simp) (r.append r2) ?_, rfl, q⟩
 rw [List.length_append]
 omega
def rPop : V → List V → Hp → VK → Prop := fun x vs H Q => ∃ l xs y, x = .ref l ∧ vs = [] ∧ H l = some (.lst xs) ∧ xs[xs.length - 1]? = some y ∧ Q y (upd H l (.lst xs.dropLast))
theorem mt_pop : MtM X "list.pop" rPop := by
 intro pins s σ H x vs v us Q I rx rv h
 obtain ⟨l, xs, y, rfl, rfl, hH, hy, q⟩ := h
 cases rx
 have hus := rv.zero
 subst hus
 obtain ⟨z, its, n, r, hl, e⟩ := I.lstM hH
 obtain ⟨u, hu, ru⟩ := r.get hy
 have hy' : its.toArray[its.toArray.size - 1]? = some u := by
  show its.toArray[its.length - 1]? = some u
  rw [← Array.getElem?_toList, ← hl]
  exact hu
 refine call_meets F.slot_list_pop ⟨_, e, rfl⟩ F.entry_list_pop (F.args_list_pop_1 _) (MeetsSeq.list_pop_last l its.toArray n u hy' (by rw [List.size_toArray]; omega)) ⟨e, ?_⟩
 refine ⟨y, _, I.lset (its' := its.dropLast) hH e ?_ r.dropLast ?_, ru, q⟩
 ·show its.toArray.eraseIdxIfInBounds (its.toArray.size - 1) = its.dropLast.toArray
  rw [List.size_toArray, List.eraseIdxIfInBounds_toArray, erase_last]
 ·rw [List.length_dropLast]
  omega
def rCat : R2 := fun x y H Q => ∃ l b xs zs, x = .ref l ∧ y = .ref b ∧ H l = some (.lst xs) ∧ H b = some (.lst zs) ∧ xs.length + zs.length ≤ sizeLine ∧ ∀ p, H p = none → Q (.ref p) (upd H p (.lst (xs ++ zs)))
theorem op_cat : OpR X (binaryOp .Add) rCat := by
 intro pins s σ H x y v u Q I rx ry h
 obtain ⟨l, b, xs, zs, rfl, rfl, hH, hB, hz, q⟩ := h
 cases rx
 cases ry
 obtain ⟨z, its, n, r, hl, e⟩ := I.lstM hH
 obtain ⟨z2, its2, n2, r2, hl2, e2⟩ := I.lstM hB
 refine PySem.P.add_list e e2 ?_ (by rw [List.size_toArray, List.size_toArray]; omega)
 have ea : its.toArray ++ its2.toArray = (its ++ its2).toArray := by simp
 rw [ea]
 exact ⟨.ref _, _, I.lnew (t' := s.toks) (r.append r2) (by rw [List.length_append]; omega), rfl, q _ I.fresh⟩
end
section
variable {prog : Program} {w : World} {A : Around} {E : Value → Shared → Prop} {s : Shared}
set_option maxRecDepth 100000 in
end
end L2
namespace L2
open PySem PySem.Spec PyProof.Rows
theorem vals_of_ints : ∀ {us : List Value} {ns : List Int}, IntsAre us ns → Vals (ns.map V.int) us
 | _, _, .nil => by rw [List.map_nil]; exact Paired.nil
 | _, _, .cons n t h => by rw [List.map_cons]; exact Paired.cons (show RelV (V.int n) (Value.int n t) from ⟨t, rfl⟩) (vals_of_ints h)
end L2
namespace L2
open PySem PySem.Spec PyProof.Rows
abbrev CellAt (h : Heap) (c : Addr) (v : Option Value) : Prop := h.IsCell c v
def relS (scope sc : Scope) : Scope :=
 { scope with names := scope.names.map fun (n, k) => if (k == .free && sc.kind == .function && sc.names.lookup n == some .cell) then (n, .cell) else (n, k) }
def cloFrom (cells : List (Str × Addr)) : List (Str × NameKind) → List (Str × Addr) → List (Str × Addr)
 | [], acc => acc
 | (n, k) :: r, acc => if k == .free then cloFrom cells r ((n, (cells.lookup n).getD 0) :: acc) else cloFrom cells r acc
theorem closure_loop (env : Env) (f : Str × NameKind → List (Str × Addr) → Sem (ForInStep (List (Str × Addr))))
  (hf : ∀ n k c, f (n, k) c = if k == .free then (do let a ← cellOf env n; pure (.yield ((n, a) :: c))) else pure (.yield c)) :
  ∀ (names : List (Str × NameKind)) (acc : List (Str × Addr)), (∀ y ∈ names, y.2 = .free → ∃ c, env.cells.lookup y.1 = some c) → forIn names acc f = pure (cloFrom env.cells names acc)
 | [], acc, _ => by rw [List.forIn_nil]; rfl
 | (n, k) :: r, acc, h => by
  rw [List.forIn_cons, hf]
  have ih := fun acc => closure_loop env f hf r acc fun y hy => h y (List.mem_cons_of_mem _ hy)
  unfold cloFrom
  by_cases hk : (k == NameKind.free) = true
  ·rw [if_pos hk, if_pos hk]
   obtain ⟨c, hc⟩ := h (n, k) List.mem_cons_self (by simpa using hk)
   have e : cellOf env n = pure c := by unfold cellOf; rw [hc]
   rw [e]
   have e2 : (env.cells.lookup n).getD 0 = c := by rw [hc]; rfl
   rw [e2]
   exact ih _
  ·rw [if_neg hk, if_neg hk]
   exact ih _
theorem closure_ok {scope : Scope} {env : Env} (h : ∀ y ∈ scope.names, y.2 = .free → ∃ c, env.cells.lookup y.1 = some c) : closureFor scope env = pure (cloFrom env.cells scope.names []) := by
 simp only [closureFor]
 rw [closure_loop env _ (fun n k c => rfl) scope.names [] h]
 rfl
theorem mem_lookup {α : Type} : ∀ {l : List (Str × α)} {n : Str} {c : α}, (n, c) ∈ l → ∃ c', l.lookup n = some c'
 | (k, v) :: r, n, c, h => by
  rw [List.lookup_cons]
  cases hb : n == k with
  | true => exact ⟨_, rfl⟩
  | false =>
   rcases List.mem_cons.mp h with e | h
   ·cases e; simp at hb
   ·exact mem_lookup h
theorem cloFrom_mem {cells : List (Str × Addr)} : ∀ {names : List (Str × NameKind)} {acc : List (Str × Addr)} {n : Str} {c : Addr}, (n, c) ∈ cloFrom cells names acc → (n, c) ∈ acc ∨ ((n, .free) ∈ names ∧ c = (cells.lookup n).getD 0)
 | [], _, _, _, h => .inl h
 | (m, k) :: r, acc, n, c, h => by
  unfold cloFrom at h
  split at h
  ·rename_i hk
   have hk : k = .free := by simpa using hk
   rcases cloFrom_mem h with h | ⟨h1, h2⟩
   ·rcases List.mem_cons.mp h with e | h
    ·cases e; exact .inr ⟨hk ▸ List.mem_cons_self, rfl⟩
    ·exact .inl h
   ·exact .inr ⟨List.mem_cons_of_mem _ h1, h2⟩
  ·rcases cloFrom_mem h with h | ⟨h1, h2⟩
   ·exact .inl h
   ·exact .inr ⟨List.mem_cons_of_mem _ h1, h2⟩
theorem cloFrom_acc {cells : List (Str × Addr)} : ∀ {names : List (Str × NameKind)} {acc : List (Str × Addr)} {p : Str × Addr}, p ∈ acc → p ∈ cloFrom cells names acc
 | [], _, _, h => h
 | (m, k) :: r, acc, p, h => by
  unfold cloFrom
  split
  ·exact cloFrom_acc (List.mem_cons_of_mem _ h)
  ·exact cloFrom_acc h
theorem cloFrom_has {cells : List (Str × Addr)} : ∀ {names : List (Str × NameKind)} {acc : List (Str × Addr)} {n : Str}, (n, .free) ∈ names → (n, (cells.lookup n).getD 0) ∈ cloFrom cells names acc
 | (m, k) :: r, acc, n, h => by
  unfold cloFrom
  rcases List.mem_cons.mp h with e | h
  ·cases e
   exact cloFrom_acc List.mem_cons_self
  ·split
   ·exact cloFrom_has h
   ·exact cloFrom_has h
theorem cells_mem : ∀ {names : List (Str × NameKind)} {h : Heap} {acc : List (Str × Addr)} {x : Str} {c : Addr}, (x, c) ∈ cellsFrom h.objs.size names acc →
  (x, c) ∈ acc ∨ ((x, .cell) ∈ names ∧ h.objs.size ≤ c ∧ CellAt (pushCells h names) c none)
 | [], _, _, _, _, h => .inl h
 | (n, k) :: r, h, acc, x, c, hm => by
  unfold cellsFrom at hm
  unfold pushCells
  split at hm
  ·rename_i hk
   rw [if_pos hk]
   have hk : k = .cell := by simpa using hk
   rw [← Heap.size_push h { cls := .type "cell", data := .cell none }] at hm
   rcases cells_mem hm with hm | ⟨h1, h2, h3⟩
   ·rcases List.mem_cons.mp hm with e | hm
    ·cases e
     exact .inr ⟨hk ▸ List.mem_cons_self, Nat.le_refl _, _, pushCells_keeps r _ _ _ (Heap.get?_push_size _ rfl), rfl⟩
    ·exact .inl hm
   ·rw [Heap.size_push] at h2
    exact .inr ⟨List.mem_cons_of_mem _ h1, Nat.le_of_succ_le h2, h3⟩
  ·rename_i hk
   rw [if_neg hk]
   rcases cells_mem hm with hm | ⟨h1, h2, h3⟩
   ·exact .inl hm
   ·exact .inr ⟨List.mem_cons_of_mem _ h1, h2, h3⟩
theorem cells_acc : ∀ {names : List (Str × NameKind)} {n : Nat} {acc : List (Str × Addr)} {p : Str × Addr}, p ∈ acc → p ∈ cellsFrom n names acc
 | [], _, _, _, h => h
 | (m, k) :: r, n, acc, p, h => by
  unfold cellsFrom
  split
  ·exact cells_acc (List.mem_cons_of_mem _ h)
  ·exact cells_acc h
theorem cells_has : ∀ {names : List (Str × NameKind)} {n : Nat} {acc : List (Str × Addr)} {x : Str}, (x, .cell) ∈ names → ∃ c, (x, c) ∈ cellsFrom n names acc
 | (m, k) :: r, n, acc, x, h => by
  unfold cellsFrom
  rcases List.mem_cons.mp h with e | h
  ·cases e
   exact ⟨n, cells_acc List.mem_cons_self⟩
  ·split
   ·exact cells_has h
   ·exact cells_has h
theorem cells_inj : ∀ {names : List (Str × NameKind)} {h : Heap} {acc : List (Str × Addr)} {x y : Str} {c : Addr}, (∀ p ∈ acc, p.2 < h.objs.size) → (∀ x y c, (x, c) ∈ acc → (y, c) ∈ acc → x = y) →
  (x, c) ∈ cellsFrom h.objs.size names acc → (y, c) ∈ cellsFrom h.objs.size names acc → x = y
 | [], _, _, _, _, _, _, hi, h1, h2 => hi _ _ _ h1 h2
 | (n, k) :: r, h, acc, x, y, c, hl, hi, h1, h2 => by
  unfold cellsFrom at h1 h2
  split at h1
  ·rename_i hk
   rw [if_pos hk] at h2
   rw [← Heap.size_push h { cls := .type "cell", data := .cell none }] at h1 h2
   refine cells_inj (h := h.push _) (fun p hp => ?_) (fun x y c a b => ?_) h1 h2
   ·rw [Heap.size_push]
    rcases List.mem_cons.mp hp with rfl | hp
    ·exact Nat.lt_succ_self _
    ·exact Nat.lt_succ_of_lt (hl p hp)
   ·rcases List.mem_cons.mp a with e | a <;> rcases List.mem_cons.mp b with e' | b
    ·cases e; cases e'; rfl
    ·cases e; exact absurd (hl _ b) (Nat.lt_irrefl _)
    ·cases e'; exact absurd (hl _ a) (Nat.lt_irrefl _)
    ·exact hi _ _ _ a b
  ·rename_i hk
   rw [if_neg hk] at h2
   exact cells_inj hl hi h1 h2
theorem newEnv_comp {M : Model} {A : Around} {E : Value → Shared → Prop} {s : Shared} {scope : Scope} {globals : Addr} {closure : List (Str × Addr)} {qual : Str} {func : Option Addr} {code : Value} {around : Env} {builtins : Addr} {Q : Env → Shared → Prop}
  (h : Q (newEnv scope s.heap.objs.size globals (cellsFrom (s.heap.objs.size + 1) scope.names closure) qual func code (some around) builtins)
   { s with heap := pushCells (s.heap.push { cls := .type "dict", data := .dict #[] }) scope.names }) :
  wpAny M A (newFunctionEnv scope globals closure [] qual func code (some around) builtins) Q E s := by
 simp only [newFunctionEnv, Option.isSome_some, if_true]
 refine wpAny_bind (wpAny_alloc ?_)
 refine wpAny_bind (wpAny_layCells _ (fun n k c => rfl) scope.names closure _ _ ?_)
 rw [show ({ s with heap := s.heap.push { cls := .type "dict", data := .dict #[] } } : Shared).heap.objs.size = s.heap.objs.size + 1 from Heap.size_push ..]
 rw [List.forIn_nil]
 exact wpAny_bind (wpAny_pure (wpAny_pure h))
theorem lookup_relS {sc : Scope} : ∀ {names : List (Str × NameKind)} {x : Str} {k : NameKind},
  (names.map fun (n, k) => if (k == NameKind.free && sc.kind == .function && sc.names.lookup n == some .cell) then (n, NameKind.cell) else (n, k)).lookup x = some k →
  ∃ k', names.lookup x = some k' ∧ (k = k' ∨ (k' = .free ∧ k = .cell))
 | [], _, _, h => by simp at h
 | (n, k₀) :: r, x, k, h => by
  have ih := @lookup_relS sc r x k
  have h' : List.lookup x ((if (k₀ == NameKind.free && sc.kind == .function && sc.names.lookup n == some .cell) = true then (n, NameKind.cell) else (n, k₀)) :: (r.map _)) = some k := h
  cases hx : x == n with
  | true =>
   simp only [List.lookup_cons, hx]
   by_cases hc : (k₀ == NameKind.free && sc.kind == .function && sc.names.lookup n == some .cell) = true
   ·rw [if_pos hc] at h'
    simp only [List.lookup_cons, hx] at h'
    cases h'
    simp only [Bool.and_eq_true, beq_iff_eq] at hc
    exact ⟨k₀, rfl, .inr ⟨hc.1.1, rfl⟩⟩
   ·rw [if_neg hc] at h'
    simp only [List.lookup_cons, hx] at h'
    cases h'
    exact ⟨_, rfl, .inl rfl⟩
  | false =>
   simp only [List.lookup_cons, hx]
   by_cases hc : (k₀ == NameKind.free && sc.kind == .function && sc.names.lookup n == some .cell) = true
   ·rw [if_pos hc] at h'
    simp only [List.lookup_cons, hx] at h'
    exact ih h'
   ·rw [if_neg hc] at h'
    simp only [List.lookup_cons, hx] at h'
    exact ih h'
structure BlkOk (N : List Str) (sc scope : Scope) (own : List (Str × Nat)) : Prop where
 kind : scope.kind = .function
 uniq : ∀ y ∈ scope.names, scope.names.lookup y.1 = some y.2
 ix : ∀ p ∈ own, N[p.2]? = some p.1
 free : ∀ y ∈ scope.names, y.2 = .free → sc.names.lookup y.1 = some .cell ∨ sc.names.lookup y.1 = some .free
 own : ∀ y ∈ scope.names, y.2 = .local ∨ y.2 = .cell → y.1 ∈ own.map (·.1) ∨ y.1 ∉ N
def wipe (σ : St) : List Nat → St
 | [] => σ
 | v :: vs => (wipe σ vs).set v none
theorem wipe_length (σ : St) : ∀ vs : List Nat, (wipe σ vs).length = σ.length
 | [] => rfl
 | v :: vs => by unfold wipe; rw [List.length_set, wipe_length σ vs]
theorem wipe_some {σ : St} {i : Nat} {x : V} : ∀ {vs : List Nat}, (wipe σ vs)[i]? = some (some x) → σ[i]? = some (some x) ∧ i ∉ vs
 | [], h => ⟨h, by simp⟩
 | v :: vs, h => by
  unfold wipe at h
  by_cases hi : v = i
  ·subst hi
   by_cases hv : v < (wipe σ vs).length
   ·rw [List.getElem?_set_self hv] at h; cases h
   ·rw [List.getElem?_eq_none (by simpa using hv)] at h; cases h
  ·rw [List.getElem?_set_ne hi] at h
   obtain ⟨h1, h2⟩ := wipe_some h
   exact ⟨h1, by simp only [List.mem_cons, not_or]; exact ⟨fun e => hi e.symm, h2⟩⟩
abbrev Cx.blk (X : Cx) (s : Shared) (H : Hp) (scope : Scope) (cenv : Env) (fp : List Addr) : Cx := { X with s_0 := s, H_0 := H, env := cenv, outer := X.stack, ex := fp, fn := fun x => scope.names.lookup x == some .cell, pn := [], xe := fun _ _ => False }
section
variable {X : Cx} {pins : List (Addr × Obj)} {σ : St} {H : Hp} {s : Shared}
theorem block_start {scope : Scope} {own : List (Str × Nat)} {fp : List Addr} (I : Inv X pins σ H s) (ok : BlkOk X.N X.env.scope scope own) (hN : X.N.Nodup) (hfp : ∀ b ∈ fp, FpOk X pins H b ∧ b < s.heap.objs.size) :
  Inv (X.blk s H scope (compEnvC scope (cellsFrom (s.heap.objs.size + 1) scope.names (cloFrom X.env.cells scope.names [])) s.heap.objs.size X.env) fp) [] (wipe σ (own.map (·.2))) H { s with heap := pushCells (s.heap.push { cls := .type "dict", data := .dict #[] }) scope.names } := by
 have hfree : ∀ y ∈ scope.names, y.2 = .free → ∃ c, X.env.cells.lookup y.1 = some c := fun y hy e => by
  rcases ok.free y hy e with k | k
  ·exact I.ok.has _ (.inl k)
  ·exact I.ok.has _ (.inr k)
 generalize hcenv : compEnvC scope (cellsFrom (s.heap.objs.size + 1) scope.names (cloFrom X.env.cells scope.names [])) s.heap.objs.size X.env = cenv
 have kp : ∀ b o, s.heap.get? b = some o → (pushCells (s.heap.push { cls := .type "dict", data := .dict #[] }) scope.names).get? b = some o := fun b o e => pushCells_keeps _ _ _ _ (Heap.get?_push_of_some _ e)
 have hL : cenv.locals = s.heap.objs.size := by rw [← hcenv]; rfl
 have hcl : cenv.cells = cellsFrom (s.heap.objs.size + 1) scope.names (cloFrom X.env.cells scope.names []) := by rw [← hcenv]; rfl
 have hsc : cenv.scope = relS scope X.env.scope := by rw [← hcenv]; rfl
 rw [← Heap.size_push s.heap { cls := .type "dict", data := .dict #[] }] at hcl
 have cm : ∀ {y c}, (y, c) ∈ cloFrom X.env.cells scope.names [] → X.env.cells.lookup y = some c ∧ c < s.heap.objs.size := fun {y c} hm => by
  rcases cloFrom_mem hm with hm | ⟨h1, rfl⟩
  ·cases hm
  ·obtain ⟨c, hc⟩ := hfree _ h1 rfl
   rw [hc]
   obtain ⟨w, z⟩ := I.cell _ _ hc
   exact ⟨rfl, z.lt⟩
 have mem : ∀ {y c}, cenv.cells.lookup y = some c → (X.env.cells.lookup y = some c ∧ c < s.heap.objs.size) ∨ (s.heap.objs.size + 1 ≤ c ∧ CellAt (pushCells (s.heap.push { cls := .type "dict", data := .dict #[] }) scope.names) c none) := fun {y c} e => by
  rw [hcl] at e
  rcases cells_mem (PySem.mem_of_lookup e) with hm | ⟨_, h2, h3⟩
  ·exact .inl (cm hm)
  ·rw [Heap.size_push] at h2; exact .inr ⟨h2, h3⟩
 have look : ∀ {y}, scope.names.lookup y = some .free → ∃ c, cenv.cells.lookup y = some c ∧ X.env.cells.lookup y = some c := fun {y} hl => by
  have hy : (y, NameKind.free) ∈ scope.names := PySem.mem_of_lookup hl
  obtain ⟨c', e'⟩ := mem_lookup (cells_acc (names := scope.names) (n := (s.heap.push { cls := .type "dict", data := .dict #[] }).objs.size) (cloFrom_has (cells := X.env.cells) (acc := []) hy))
  rw [← hcl] at e'
  refine ⟨c', e', ?_⟩
  rw [hcl] at e'
  rcases cells_mem (PySem.mem_of_lookup e') with hm | ⟨h1, _, _⟩
  ·exact (cm hm).1
  ·have := ok.uniq _ h1
   rw [hl] at this; cases this
 have okB : (X.blk s H scope cenv fp).Ok := by
  refine ⟨I.ok.mod, by show cenv.scope.kind = _; rw [hsc]; exact ok.kind, by show cenv.globals = _; rw [← hcenv]; exact I.ok.glob, by show cenv.builtins = _; rw [← hcenv]; exact I.ok.blt, by show s.heap.objs.size ≤ cenv.locals; rw [hL]; exact Nat.le_refl _,
   fun y z c e1 e2 => ?_, fun y hy => ?_, fun y c z e => ?_, I.ok.hd, I.ok.frames, .inl rfl, fun b hb => ⟨?_, fun y c e z => ?_⟩, I.bs, Nat.le_trans I.ok.bsz I.sz, fun b o e hb => ?_, fun b hb z => ?_, I.stack, I.stkFree⟩
  ·have e1 : cenv.cells.lookup y = some c := e1
   have e2 : cenv.cells.lookup z = some c := e2
   rw [hcl] at e1 e2
   refine cells_inj (fun p hp => ?_) (fun y z c a b => I.ok.inj y z c (cm a).1 (cm b).1) (PySem.mem_of_lookup e1) (PySem.mem_of_lookup e2)
   rw [Heap.size_push]
   exact Nat.lt_succ_of_lt (cm (y := p.1) (c := p.2) hp).2
  ·show ∃ c, cenv.cells.lookup y = some c
   have key : ∀ k, cenv.kindOf y = some k → (k = .cell ∨ k = .free) → ∃ c, cenv.cells.lookup y = some c := fun k hk hk' => by
    unfold Env.kindOf at hk
    rw [hsc] at hk
    obtain ⟨k', e, r⟩ := lookup_relS hk
    have : k' = .cell ∨ k' = .free := by
     rcases r with rfl | ⟨rfl, _⟩
     ·exact hk'
     ·exact .inr rfl
    rcases this with rfl | rfl
    ·obtain ⟨c, hm⟩ := cells_has (n := (s.heap.push { cls := .type "dict", data := .dict #[] }).objs.size) (acc := cloFrom X.env.cells scope.names []) (PySem.mem_of_lookup e)
     obtain ⟨c', e'⟩ := mem_lookup hm
     exact ⟨c', by rw [hcl]; exact e'⟩
    ·obtain ⟨c, h1, _⟩ := look e
     exact ⟨c, h1⟩
   rcases hy with hy | hy
   ·exact key _ hy (.inl rfl)
   ·exact key _ hy (.inr rfl)
  ·have z : (scope.names.lookup y == some NameKind.cell) = true := z
   have z : scope.names.lookup y = some .cell := by simpa using z
   have e : cenv.cells.lookup y = some c := e
   rw [hcl] at e
   rcases cells_mem (PySem.mem_of_lookup e) with hm | ⟨_, h2, _⟩
   ·rcases cloFrom_mem hm with hm | ⟨h1, _⟩
    ·cases hm
    ·have q := ok.uniq _ h1
     rw [z] at q; cases q
   ·rw [Heap.size_push] at h2
    exact Nat.le_of_succ_le h2
  ·show b ≠ cenv.locals
   rw [hL]; exact Nat.ne_of_lt (hfp b hb).2
  ·have e : cenv.cells.lookup y = some c := e
   rcases mem e with ⟨h1, _⟩ | ⟨h1, _⟩
   ·exact (hfp b hb).1.2.2.2.2.1 y c h1 z
   ·have h2 : s.heap.objs.size + 1 ≤ b := by rw [← z]; exact h1
    exact absurd (Nat.lt_of_lt_of_le (hfp b hb).2 (Nat.le_of_succ_le h2)) (Nat.lt_irrefl _)
  ·rcases (hfp b hb).1.2.2.2.1 with z | z
   ·exact I.ok.noex b o e z
   ·exact absurd (Nat.lt_of_lt_of_le (Heap.lt_size e) (Nat.le_trans I.ok.bsz z)) (Nat.lt_irrefl _)
  ·rcases List.mem_cons.mp (I.stkSub b z) with z | z
   ·exact (hfp b hb).1.2.1 z
   ·exact (hfp b hb).1.2.2.1 z
 refine ⟨okB, rfl, I.bare, Un.kept kp, ⟨fun _ => none, ?_, fun i y av e1 e2 e3 => ?_⟩, fun y c e => ?_, ?_, fun y c e => ?_, fun p hp => ?_, I.hok.kept kp, by rw [wipe_length]; exact I.len⟩
 ·show Heap.Ns _ cenv.locals _
  rw [hL]
  exact Heap.Ns.keeps (Heap.Ns.new ..) fun b o e => pushCells_keeps _ _ _ _ e
 ·obtain ⟨e2, hne⟩ := wipe_some e2
  have hfr : scope.names.lookup y = some .free ∧ (cenv.kindOf y = some .cell ∨ cenv.kindOf y = some .free) := by
   have key : ∀ k, cenv.scope.names.lookup y = some k → k = .local ∨ k = .cell ∨ k = .free → scope.names.lookup y = some .free ∧ (cenv.kindOf y = some .cell ∨ cenv.kindOf y = some .free) := fun k hk hk' => by
    have hk0 := hk
    rw [hsc] at hk
    obtain ⟨k', e, r⟩ := lookup_relS hk
    have no : ¬ (k' = .local ∨ k' = .cell) := fun hh => by
     rcases ok.own _ (PySem.mem_of_lookup e) hh with e' | e'
     ·obtain ⟨p, hp, hpy⟩ := List.mem_map.mp e'
      have e3 := ok.ix p hp
      have : p.1 = y := hpy
      rw [this] at e3
      exact hne (List.mem_map.mpr ⟨p, hp, nodup_ix hN e3 e1⟩)
     ·exact e' (List.mem_of_getElem? e1)
    rcases r with rfl | ⟨rfl, rfl⟩
    ·rcases hk' with rfl | rfl | rfl
     ·exact absurd (.inl rfl) no
     ·exact absurd (.inr rfl) no
     ·exact ⟨e, .inr hk0⟩
    ·exact ⟨e, .inl hk0⟩
   have e3 : Vis cenv.scope y := e3
   rcases e3 with e3 | e3 | e3
   ·exact key _ e3 (.inl rfl)
   ·exact key _ e3 (.inr (.inl rfl))
   ·exact key _ e3 (.inr (.inr rfl))
  obtain ⟨m, hn, hl⟩ := I.loc
  have hvis : Vis X.env.scope y := (ok.free _ (PySem.mem_of_lookup hfr.1) rfl).elim (fun k => .inr (.inl k)) (fun k => .inr (.inr k))
  obtain ⟨w, r, q⟩ := hl i y av e1 e2 hvis
  refine ⟨w, r, .inr ⟨hfr.2, ?_⟩⟩
  obtain ⟨c, h1, h2⟩ := look hfr.1
  rcases q with ⟨k, _⟩ | ⟨_, c', e', z⟩
  ·have k : X.env.scope.names.lookup y = some .local := k
   rcases ok.free _ (PySem.mem_of_lookup hfr.1) rfl with k' | k' <;> rw [show X.env.scope.names.lookup y = _ from k'] at k <;> cases k
  ·rw [h2] at e'; cases e'
   exact ⟨c, h1, z.keeps kp⟩
 ·have e : cenv.cells.lookup y = some c := e
  rcases mem e with ⟨h1, _⟩ | ⟨_, z⟩
  ·obtain ⟨w, z⟩ := I.cell y c h1
   exact ⟨w, z.keeps kp⟩
  ·exact ⟨_, z⟩
 ·show H cenv.locals = none
  rw [hL]; exact I.hok.fresh (Nat.le_refl _)
 ·have e : cenv.cells.lookup y = some c := e
  rcases mem e with ⟨h1, _⟩ | ⟨h1, _⟩
  ·exact I.freeC y c h1
  ·exact I.hok.fresh (Nat.le_of_succ_le h1)
 ·exact absurd (show p ∈ ([] : List (Addr × Obj)) ++ [] from hp) (by simp)
theorem app_ok {E : Value → Shared → Prop} {D : Addr} {xs : List V} {y : V} {v : Value} {Q : Value → Shared → Prop} (I : Inv X pins σ H s) (hD : H D = some (.lst xs)) (hz : xs.length < sizeLine) (r : RelV y v)
  (h : ∀ s', Inv X pins σ (upd H D (.lst (xs ++ [y]))) s' → Q .none s') : wpAny (model X.prog X.w) X.A (call (.builtin "list.append") [.ref D, v]) Q E s := by
 obtain ⟨hz', its, n, ri, e⟩ := I.hok D _ hD
 have hl := ri.length
 refine append_at (hsz := by rw [List.size_toArray]; omega) e fun h' sb ho' => ?_
 refine h { s with heap := h' } (I.write (t' := s.toks) (by rw [hD]; trivial) (.inl rfl) (fun b u hb q => (sb.2 b hb).trans q) ⟨_, ho'⟩ ⟨by rw [List.length_append]; exact hz, its ++ [v], n + 1, ri.append (.cons r .nil), ?_⟩)
 rw [ho']
 simp
def PTs (X : Cx) (ifs : List Expr) (t : TT) : Prop :=
 ∀ (pins : List (Addr × Obj)) (s : Shared) (σ : St) (H : Hp) (Q : Bool → Hp → Prop), Inv X pins σ H s → t σ H Q →
  wpAny (model X.prog X.w) X.A (forIn ifs true fun c r => if r = true then do let ok ← isTrue c X.env (eval c X.env); pure (ForInStep.yield ok) else pure (ForInStep.yield r)) (TP X pins σ Q) X.xe s
def tYes : TT := fun _ H Q => Q true H
theorem pts_nil : PTs X [] tYes := fun _ _ _ H _ I h => wpAny_tests_nil ⟨H, I, h⟩
theorem pts_one {c : Expr} {t : TT} (h : PT X c t) : PTs X [c] t := fun pins s σ H Q I hw => wpAny_tests_one (h pins s σ H Q I hw)
end
theorem thnF {α : Type} {t : Sem α} {Q Q' : α → Shared → Prop} {M : Model} {A : Around} {E : Value → Shared → Prop} {s : Shared} (h : wpAny M A t Q (fun _ _ => False) s) (hQ : ∀ a s, Q a s → Q' a s) : wpAny M A t Q' E s := wpAny_mono h hQ fun _ _ z => False.elim z
theorem compLoop_any {prog : Program} {w : World} {A : Around} {R : Result → Shared → Prop} {s : Shared} {elt target iter : Expr} {ifs : List Expr} {scope : Scope} {pos : Pos} {it acc : Value} {env : Env} (I : Nat → Shared → Prop)
  (turn : ∀ n s, I n s → wpAny (model prog w) A (pyNext it) (fun r s₁ => match r with
   | none => R (.ok .next) s₁
   | some v => wpAny (model prog w) A (letOwnedTupleGo target it v) (fun _ s₁' => wpAny (model prog w) A (assign target env v) (fun _ s₂ =>
     wpAny (model prog w) A (forIn ifs true fun c r => if r = true then do let ok ← isTrue c env (eval c env); pure (ForInStep.yield ok) else pure (ForInStep.yield r)) (fun ok s₃ =>
      if ok = true then wpAny (model prog w) A (eval elt env) (fun x s₄ =>
       wpAny (model prog w) A (call (.builtin "list.append") [acc, x]) (fun _ s₅ => ∃ m, m < n ∧ I m s₅) (notedBy (model prog w) A env fun e s' => R (.error e) s') s₄) (notedBy (model prog w) A env fun e s' => R (.error e) s') s₃
      else ∃ m, m < n ∧ I m s₃) (notedBy (model prog w) A env fun e s' => R (.error e) s') s₂) (notedBy (model prog w) A env fun e s' => R (.error e) s') s₁') (notedBy (model prog w) A env fun e s' => R (.error e) s') s₁) (notedBy (model prog w) A env fun e s' => R (.error e) s') s)
  (n : Nat) (h : I n s) :
  codeAny (model prog w) A (.compLoop (.ListComp elt [⟨target, iter, ifs, 0⟩] scope pos) 0 it acc env) R s := by
 refine codeAny_loop rfl I (fun n s hI => ?_) n h
 show wpAny _ A ((compTurn (.ListComp elt [⟨target, iter, ifs, 0⟩] scope pos) 0 it acc env).onRaise (fun x => do noteFrame x env; theTreesLotGoes x)) _ _ s
 refine wpAny_noted ?_
 rw [compTurn_list]
 refine wpAny_bind (wpAny_standAt (wpAny_bind (wpAny_mono (turn n s hI) (fun r s₁ h₁ => ?_) fun _ _ h' => h')))
 cases r with
 | none => exact wpAny_pure h₁
 | some v =>
  refine wpAny_bind (wpAny_mono h₁ (fun _ s₁' h₁' => ?_) fun _ _ h' => h')
  refine wpAny_bind (wpAny_mono h₁' (fun _ s₂ h₂ => wpAny_bind (wpAny_mono h₂ (fun ok s₃ h₃ => ?_) fun _ _ h' => h')) fun _ _ h' => h')
  cases ok with
  | false => exact wpAny_pure ⟨rfl, h₃⟩
  | true =>
   exact wpAny_bind (wpAny_bind (wpAny_mono h₃ (fun x s₄ h₄ => wpAny_bind (wpAny_mono h₄ (fun _ s₅ h₅ => wpAny_pure (wpAny_pure ⟨rfl, h₅⟩)) fun _ _ h' => h')) fun _ _ h' => h'))
section
variable {X : Cx}
def tLc (wi : TI) (g : TG) (tt : TT) (te : TE) (vs : List Nat) : TE := fun σ H Q => wi σ H fun J H1 => ∀ D, H1 D = none → ∃ W : Nat → Nat → Hp → Prop, (∃ m, W 0 m (upd H1 D (.lst []))) ∧ ∀ i m H, W i m H →
 (J.stop i H ∧ Q (.ref D) H) ∨ (J.go i H ∧ ∃ Nx : Hp → Prop, (∀ H', Nx H' → ∃ m', m' < m ∧ W (i + 1) m' H') ∧ ∀ x H', J.yld i H x H' → g x (wipe σ vs) H' fun σ2 H2 => wipe σ2 vs = wipe σ vs ∧ tt σ2 H2 fun b H3 =>
  if b = true then te σ2 H3 fun y H4 => ∃ acc, H4 D = some (.lst acc) ∧ acc.length < sizeLine ∧ Nx (upd H4 D (.lst (acc ++ [y]))) else Nx H3)
theorem lc_core {pins : List (Addr × Obj)} {s : Shared} {σ : St} {H : Hp} {Q : VK} {elt tg iter : Expr} {ifs : List Expr} {scope : Scope} {own : List (Str × Nat)} {pos pos' : Pos} {wi : TI} {g : TG} {tt : TT} {te : TE} {use : Option (Value → Sem Unit)} {Qf : Value → Shared → Prop}
  (hc : X.calm = true) (hN : X.N.Nodup) (I : Inv X pins σ H s) (hi : PI X tg iter wi) (ok : BlkOk X.N X.env.scope scope own)
  (hg : ∀ (s : Shared) (H : Hp) (C : Addr) (cl : List (Str × Addr)) (fp : List Addr), PG (X.blk s H scope (compEnvC scope cl C X.env) fp) tg g) (ht : ∀ (s : Shared) (H : Hp) (C : Addr) (cl : List (Str × Addr)) (fp : List Addr), PTs (X.blk s H scope (compEnvC scope cl C X.env) fp) ifs tt)
  (he : ∀ (s : Shared) (H : Hp) (C : Addr) (cl : List (Str × Addr)) (fp : List Addr), PE (X.blk s H scope (compEnvC scope cl C X.env) fp) elt te) (hs : ∀ x, foldedSetIterable iter X.env x = pure x)
  (h : tLc wi g tt te (own.map (·.2)) σ H Q)
  (hRR : ∀ D C s' m H', Inv X pins σ H' s' → Q (.ref D) H' → s'.heap.Ns C m → FpOk X pins H' C → compPost (model X.prog X.w) X.A X.xe use Qf (.ref D) C (.ok .next) s') :
  wpAny (model X.prog X.w) X.A (comprehension (.ListComp elt [⟨tg, iter, ifs, 0⟩] scope pos) scope X.env pos' (newList []) false (eval iter X.env) use) Qf X.xe s := by
 have hfree : ∀ y ∈ scope.names, y.2 = .free → ∃ c, X.env.cells.lookup y.1 = some c := fun y hy e => by
  rcases ok.free y hy e with k | k
  ·exact I.ok.has _ (.inl k)
  ·exact I.ok.has _ (.inr k)
 refine wpAny_comprehension_free (use := use) rfl hs (closure_ok hfree) ok.kind (fun y hy e => by rw [ok.uniq y hy, e])
  (thn (hi pins s σ H _ I h) fun xv s1 hx => thn hx fun itv s2 h2 => ?_)
 obtain ⟨it, fp, tn, J, H2, e, I2, T, st2, f2, q⟩ := h2
 subst e
 refine wpAny_newObj_type (newEnv_comp ?_) (by show 0 ≤ sizeLine; decide)
 generalize hD : s2.heap.objs.size = D
 have hDn : H2 D = none := I2.hok.fresh (Nat.le_of_eq hD)
 obtain ⟨W, ⟨m0, w0⟩, turn⟩ := q D hDn
 generalize hs3 : ({ s2 with heap := s2.heap.push { cls := .type "list", data := .seq ([] : List Value).toArray } } : Shared) = s3
 have I3 : Inv X pins σ (upd H2 D (.lst [])) s3 := by
  rw [← hs3]
  refine I2.laid (t' := s2.toks) (fun b o e => Heap.get?_push_of_some _ e) (Nat.le_of_eq hD) ⟨Nat.zero_le _, [], 0, .nil, ?_⟩
  rw [← hD]
  exact Heap.get?_push_size _ rfl
 have h3 : s3.heap = s2.heap.push { cls := .type "list", data := .seq ([] : List Value).toArray } := by rw [← hs3]
 have sz : ∀ b ∈ fp, b < s2.heap.objs.size := fun b hb => by
  obtain ⟨o, e, _⟩ := T.obj _ _ st2 b hb
  exact Heap.lt_size e
 have f3 : ∀ b ∈ fp, FpOk X pins (upd H2 D (.lst [])) b ∧ b < s3.heap.objs.size := fun b hb => by
  have hlt := sz b hb
  refine ⟨⟨?_, (f2 b hb).2⟩, by rw [h3, Heap.size_push]; exact Nat.lt_succ_of_lt hlt⟩
  rw [upd_ne (by rw [← hD]; exact Nat.ne_of_lt hlt)]
  exact (f2 b hb).1
 have st3 : tn 0 s3.heap := T.keep _ _ _ st2 fun b _ o e => by rw [h3]; exact Heap.get?_push_of_some _ e
 have I4 := block_start I3 ok hN f3
 have pg := hg s3 (upd H2 D (.lst [])) s3.heap.objs.size (cellsFrom (s3.heap.objs.size + 1) scope.names (cloFrom X.env.cells scope.names [])) fp
 have pt := ht s3 (upd H2 D (.lst [])) s3.heap.objs.size (cellsFrom (s3.heap.objs.size + 1) scope.names (cloFrom X.env.cells scope.names [])) fp
 have pe := he s3 (upd H2 D (.lst [])) s3.heap.objs.size (cellsFrom (s3.heap.objs.size + 1) scope.names (cloFrom X.env.cells scope.names [])) fp
 show codeAny _ _ (.compStart (.ListComp elt [⟨tg, iter, ifs, 0⟩] scope pos) 0 (.ref it) (.ref D) (compEnvC scope (cellsFrom (s3.heap.objs.size + 1) scope.names (cloFrom X.env.cells scope.names [])) s3.heap.objs.size X.env)) (compPost (model X.prog X.w) X.A X.xe use Qf (.ref D) s3.heap.objs.size) { s3 with heap := pushCells (s3.heap.push { cls := .type "dict", data := .dict #[] }) scope.names }
 have nfp : ∀ b ∈ fp, (upd H2 D (.lst [])) b = none := fun b hb => (f3 b hb).1.1
 generalize hce : compEnvC scope (cellsFrom (s3.heap.objs.size + 1) scope.names (cloFrom X.env.cells scope.names [])) s3.heap.objs.size X.env = ce at I4 pg pt pe ⊢
 have cL : ce.locals = s3.heap.objs.size := by subst hce; rfl
 generalize hH3 : upd H2 D (.lst []) = H3 at I3 I4 pg pt pe w0 nfp f3
 generalize hs4 : ({ s3 with heap := pushCells (s3.heap.push { cls := .type "dict", data := .dict #[] }) scope.names } : Shared) = s4 at I4 ⊢
 have st4 : tn 0 s4.heap := T.keep _ _ _ st3 fun b _ o e => by rw [← hs4]; exact pushCells_keeps _ _ _ _ (Heap.get?_push_of_some _ e)
 have stat : ∀ {σ' : St} {H' : Hp} {s' : Shared}, Inv (X.blk s3 H3 scope ce fp) [] σ' H' s' → (∀ b ∈ fp, H' b = none) → ∀ b ∈ fp, FpOk (X.blk s3 H3 scope ce fp) [] H' b := fun {σ' H' s'} I' hn b hb =>
  ⟨hn b hb, (I'.ok.exf b hb).1, I'.ok.exfs b hb, .inl hb, fun x c e => (I'.ok.exf b hb).2 x c e, fun p hp => absurd (show p ∈ ([] : List (Addr × Obj)) ++ [] from hp) (by simp)⟩
 have loop : codeAny (model X.prog X.w) X.A (.compLoop (.ListComp elt [⟨tg, iter, ifs, 0⟩] scope pos) 0 (.ref it) (.ref D) ce) (compPost (model X.prog X.w) X.A X.xe use Qf (.ref D) s3.heap.objs.size) s4 := by
  refine compLoop_any (fun n s' => ∃ i H', Inv (X.blk s3 H3 scope ce fp) [] (wipe σ (own.map (·.2))) H' s' ∧ tn i s'.heap ∧ (∀ b ∈ fp, H' b = none) ∧ W i n H') ?_ m0 ⟨0, H3, I4, st4, nfp, w0⟩
  rintro n s5 ⟨i, H5, I5, st5, n5, w5⟩
  rcases turn i n H5 w5 with ⟨stop, qq⟩ | ⟨go, Nx, hNx, step⟩
  ·have td := T.done (X.blk s3 H3 scope ce fp) rfl rfl rfl hc i [] s5 _ H5 (fun _ _ => False) I5 (stat I5 n5) st5 stop
   refine thnF td fun r s6 ⟨hr, I6⟩ => ?_
   subst hr
   have I7 : Inv X pins σ H5 s6 := I3.call' (ch := fp) I6.os I6.base I6.hok I6.bare fun b hb => ⟨(f3 b hb).1.2.2.2.1, (f3 b hb).1.2.1, (f3 b hb).1.2.2.2.2.1, (f3 b hb).1.2.2.2.2.2⟩
   have nC : H5 s3.heap.objs.size = none := by
    have z : H5 ce.locals = none := I6.free
    rw [cL] at z
    exact z
   obtain ⟨m, hn, _⟩ := I6.loc
   have hn : s6.heap.Ns ce.locals m := hn
   rw [cL] at hn
   exact hRR D s3.heap.objs.size s6 m H5 I7 qq hn (I3.fpOk (Nat.le_refl _) nC)
  ·have ti := T.item (X.blk s3 H3 scope ce fp) rfl rfl rfl hc i [] s5 _ H5 (fun _ _ => False) I5 (stat I5 n5) st5 go
   refine thnF ti fun r s6 ⟨u, hr, h6⟩ => ?_
   subst hr
   refine thnF h6 fun _ s7 ⟨x, H7, I7, r7, y7, st7, n7⟩ => ?_
   have I7' := I7.pinned (stat I7 n7) (T.obj _ _ st7)
   refine thnF (pg _ s7 _ H7 x u _ I7' r7 (step x H7 y7)) fun _ s8 ⟨σ8, H8, I8, hw8, q8⟩ => ?_
   refine thnF (pt _ s8 σ8 H8 _ I8 q8) fun b s9 ⟨H9, I9, q9⟩ => ?_
   have fin : ∀ {s' : Shared} {H' : Hp}, Inv (X.blk s3 H3 scope ce fp) ([] ++ pinsAt fp s7.heap) σ8 H' s' → Nx H' → ∃ m, m < n ∧ ∃ i H', Inv (X.blk s3 H3 scope ce fp) [] (wipe σ (own.map (·.2))) H' s' ∧ tn i s'.heap ∧ (∀ b ∈ fp, H' b = none) ∧ W i m H' := fun {s' H'} I' nx => by
    obtain ⟨m', hm, w'⟩ := hNx H' nx
    have pin' : ∀ b ∈ fp, ∀ o, s7.heap.get? b = some o → s'.heap.get? b = some o ∧ H' b = none := fun b hb o e =>
     let z := I'.pin (b, o) (List.mem_append_right _ (List.mem_append_right _ (mem_pinsAt hb e)))
     ⟨z.1, z.2.1⟩
    have hl : (wipe σ (own.map (·.2))).length = σ8.length := by rw [← hw8, wipe_length]
    refine ⟨m', hm, i + 1, H', (I'.unpinned (pins := [])).weak hl (fun j v e => ?_), T.keep _ _ _ st7 fun b hb o e => (pin' b hb o e).1, fun b hb => ?_, w'⟩
    ·rw [← hw8] at e
     exact (wipe_some e).1
    ·obtain ⟨o, e, _⟩ := T.obj _ _ st7 b hb
     exact (pin' b hb o e).2
   cases b with
   | false =>
    simp only [Bool.false_eq_true, if_false] at q9 ⊢
    exact fin I9 q9
   | true =>
    simp only [if_true] at q9 ⊢
    refine thnF (pe _ s9 σ8 H9 _ I9 q9) fun z s10 ⟨yv, H10, I10, r10, acc, hD10, hz10, nx⟩ => ?_
    exact app_ok (X := X.blk s3 H3 scope ce fp) I10 hD10 hz10 r10 fun s11 I11 => fin I11 nx
 exact codeAny_compStart_list loop (T.self X.A 0 _ _ _ st4 loop)
theorem pe_lc {elt tg iter : Expr} {ifs : List Expr} {scope : Scope} {own : List (Str × Nat)} {pos : Pos} {wi : TI} {g : TG} {tt : TT} {te : TE} (hc : X.calm = true) (hN : X.N.Nodup) (hi : PI X tg iter wi) (ok : BlkOk X.N X.env.scope scope own)
  (hg : ∀ (s : Shared) (H : Hp) (C : Addr) (cl : List (Str × Addr)) (fp : List Addr), PG (X.blk s H scope (compEnvC scope cl C X.env) fp) tg g) (ht : ∀ (s : Shared) (H : Hp) (C : Addr) (cl : List (Str × Addr)) (fp : List Addr), PTs (X.blk s H scope (compEnvC scope cl C X.env) fp) ifs tt)
  (he : ∀ (s : Shared) (H : Hp) (C : Addr) (cl : List (Str × Addr)) (fp : List Addr), PE (X.blk s H scope (compEnvC scope cl C X.env) fp) elt te) (hs : ∀ x, foldedSetIterable iter X.env x = pure x := by intro _; rfl) :
  PE X (.ListComp elt [⟨tg, iter, ifs, 0⟩] scope pos) (tLc wi g tt te (own.map (·.2))) := by
 intro pins s σ H Q I h
 rw [eval_ListComp]
 refine lc_core hc hN I hi ok hg ht he hs h fun D C s' m H' I' q hn f => ⟨m, hn, fun h'' sb => ?_⟩
 obtain ⟨f0, f1, f2, f3, f4, f5⟩ := f
 exact ⟨.ref D, H', I'.turned (t' := s'.toks) (fun b o hb e => (sb.2 b hb).trans e) f0 f1 f3 f4 f5, rfl, q⟩
theorem ps_setLc {i : Nat} {y : Str} {py : Pos} {elt tg iter : Expr} {ifs : List Expr} {scope : Scope} {own : List (Str × Nat)} {pos spos : Pos} {wi : TI} {g : TG} {tt : TT} {te : TE} (hc : X.calm = true) (hN : X.N.Nodup) (hy : X.N[i]? = some y) (hyl : X.env.scope.names.lookup y = some .local)
  (hsw : swapsWith (.ListComp elt [⟨tg, iter, ifs, 0⟩] scope pos) (some (.Name y py)) spos.line X.env = pure true) (hi : PI X tg iter wi) (ok : BlkOk X.N X.env.scope scope own)
  (hg : ∀ (s : Shared) (H : Hp) (C : Addr) (cl : List (Str × Addr)) (fp : List Addr), PG (X.blk s H scope (compEnvC scope cl C X.env) fp) tg g) (ht : ∀ (s : Shared) (H : Hp) (C : Addr) (cl : List (Str × Addr)) (fp : List Addr), PTs (X.blk s H scope (compEnvC scope cl C X.env) fp) ifs tt)
  (he : ∀ (s : Shared) (H : Hp) (C : Addr) (cl : List (Str × Addr)) (fp : List Addr), PE (X.blk s H scope (compEnvC scope cl C X.env) fp) elt te) (hs : ∀ x, foldedSetIterable iter X.env x = pure x := by intro _; rfl) :
  PS X (.Assign [.Name y py] (.ListComp elt [⟨tg, iter, ifs, 0⟩] scope pos) spos) (tAsg (tLc wi g tt te (own.map (·.2))) (gName i)) := by
 intro pins s σ H D I h
 rw [exec_Assign_Name_used _ _ _ _ hsw]
 refine wpAny_bind (wpAny_standAt (wpAny_bind ?_))
 show wpAny _ X.A (do let _ ← comprehension (.ListComp elt [⟨tg, iter, ifs, 0⟩] scope pos) scope X.env (firstIterPos [⟨tg, iter, ifs, 0⟩] pos) (newList []) false (eval iter X.env) (some (assign (.Name y py) X.env))) _ _ s
 have h : tLc wi g tt te (own.map (·.2)) σ H (fun x H1 => gName i x σ H1 D.nx) := h
 refine wpAny_bind (thn (lc_core (Qf := fun _ s' => SP X pins D .next s') hc hN I hi ok hg ht he hs h fun L C s' m H' I' q hn f => ?_) fun _ s' hq => wpAny_pure (wpAny_pure hq))
 show wpAny _ _ (assign (.Name y py) X.env (.ref L)) _ _ _
 refine wpAny_assign_Name (store_ok2 (v := V.ref L) I' hN hy (.inl hyl) rfl (fun s2 I2 ⟨a, sb, ha⟩ => ?_) (.inr hyl))
 obtain ⟨f0, f1, f2, f3, f4, f5⟩ := f
 have haC : C ≠ a := by
  rcases ha with z | z
  ·rw [z]; exact f1
  ·exact fun e => f4 y a z e.symm
 refine ⟨m, hn.sameBut sb haC, fun h3 sb3 => ?_⟩
 exact ⟨_, H', I2.turned (t' := s2.toks) (fun b o hb e => (sb3.2 b hb).trans e) f0 f1 f3 f4 f5, q⟩
theorem sw_true {elt : Expr} {gs : List Comprehension} {scope : Scope} {pos py : Pos} {y : Str} {l : Nat} {env : Env} (hk : env.scope.kind = .function) (hy : env.scope.names.lookup y = some .local) (hl : (py.line == pos.line) = true)
  (ha : (scope.names.any fun (n, k) => n == y && (k == .local || k == .cell)) = false) : swapsWith (.ListComp elt gs scope pos) (some (.Name y py)) l env = pure true := by
 have ky : env.kindOf y = some .local := hy
 have hb : env.blockKind = .function := by unfold Env.blockKind; rw [hk]; rfl
 unfold swapsWith
 simp only [hb, ky, ha, Expr.pos, hl]
 rfl
end
def blkC (N : List Str) (sc scope : Scope) (own : List (Str × Nat)) : Bool :=
 (match scope.kind with | .function => true | _ => false) && (scope.names.all fun y => decide (scope.names.lookup y.1 = some y.2)) && (own.all fun p => decide (N[p.2]? = some p.1)) &&
  (scope.names.all fun y => match y.2 with
   | .free => (match sc.names.lookup y.1 with | some .cell => true | some .free => true | _ => false)
   | .local => decide (y.1 ∈ own.map (·.1)) || decide (y.1 ∉ N)
   | .cell => decide (y.1 ∈ own.map (·.1)) || decide (y.1 ∉ N)
   | _ => true)
theorem blkOk_by {N : List Str} {sc scope : Scope} {own : List (Str × Nat)} (h : blkC N sc scope own = true) : BlkOk N sc scope own := by
 unfold blkC at h
 simp only [Bool.and_eq_true, List.all_eq_true, decide_eq_true_eq] at h
 obtain ⟨⟨⟨h1, h2⟩, h3⟩, h4⟩ := h
 refine ⟨?_, h2, h3, fun y hy e => ?_, fun y hy e => ?_⟩
 ·split at h1
  ·assumption
  ·cases h1
 ·have q := h4 y hy
  simp only [e] at q
  split at q <;> first | exact .inl (by assumption) | exact .inr (by assumption) | cases q
 ·have q := h4 y hy
  rcases e with e | e <;> (simp only [e, Bool.or_eq_true, decide_eq_true_eq] at q; exact q)
end L2
namespace L2
open PySem PySem.Spec PyProof.Rows
section
variable {κ : Type} [DecidableEq κ]
def valV (kvs : List (κ × V)) (k : κ) : Option V := (kvs.find? fun kv => decide (kv.1 = k)).map (·.2)
def putK (kvs : List (κ × V)) (k : κ) (v : V) : List (κ × V) :=
 if (kvs.any fun kv => decide (kv.1 = k)) = true then kvs.map (fun kv => if kv.1 = k then (kv.1, v) else kv) else kvs ++ [(k, v)]
def dropK (kvs : List (κ × V)) (k : κ) : List (κ × V) := kvs.filter fun kv => decide (kv.1 ≠ k)
theorem valV_pos {p : κ × V} {r : List (κ × V)} {k : κ} (e : p.1 = k) : valV (p :: r) k = some p.2 := by simp [valV, List.find?_cons, e]
theorem valV_neg {p : κ × V} {r : List (κ × V)} {k : κ} (e : ¬ p.1 = k) : valV (p :: r) k = valV r k := by simp [valV, List.find?_cons, e]
theorem valV_any (k : κ) : ∀ kvs : List (κ × V), (kvs.any fun kv => decide (kv.1 = k)) = (valV kvs k).isSome
 | [] => rfl
 | p :: r => by
  rw [List.any_cons]
  by_cases e : p.1 = k
  ·simp only [valV_pos e, decide_eq_true e, Bool.true_or, Option.isSome_some]
  ·rw [valV_neg e, decide_eq_false e, Bool.false_or]; exact valV_any k r
theorem valV_map (k j : κ) (y : V) : ∀ kvs : List (κ × V), valV (kvs.map fun kv => if kv.1 = k then (kv.1, y) else kv) j = (valV kvs j).map fun x => if j = k then y else x
 | [] => rfl
 | p :: r => by
  have ih := valV_map k j y r
  rw [List.map_cons]
  by_cases h : p.1 = k
  ·rw [if_pos h]
   by_cases e : p.1 = j
   ·rw [valV_pos (p := (p.1, y)) e, valV_pos e, Option.map_some, if_pos (e.symm.trans h)]
   ·rw [valV_neg (p := (p.1, y)) e, valV_neg e, ih]
  ·rw [if_neg h]
   by_cases e : p.1 = j
   ·rw [valV_pos (p := p) e, valV_pos e, Option.map_some, if_neg (fun z => h (e.trans z))]
   ·rw [valV_neg (p := p) e, valV_neg e, ih]
theorem valV_snoc (k j : κ) (y : V) : ∀ kvs : List (κ × V), valV kvs k = none → valV (kvs ++ [(k, y)]) j = if j = k then some y else valV kvs j
 | [], _ => by
  by_cases e : k = j
  ·rw [if_pos e.symm]; exact valV_pos (p := (k, y)) e
  ·rw [if_neg (fun z => e z.symm)]; exact valV_neg (p := (k, y)) e
 | p :: r, hn => by
  rw [List.cons_append]
  have hk : ¬ p.1 = k := fun z => by rw [valV_pos z] at hn; cases hn
  rw [valV_neg hk] at hn
  have ih := valV_snoc k j y r hn
  by_cases e : p.1 = j
  ·rw [valV_pos e, valV_pos e, if_neg (fun z => hk (e.trans z))]
  ·rw [valV_neg e, valV_neg e, ih]
theorem valV_put (kvs : List (κ × V)) (k j : κ) (y : V) : valV (putK kvs k y) j = if j = k then some y else valV kvs j := by
 unfold putK
 by_cases a : (kvs.any fun kv => decide (kv.1 = k)) = true
 ·rw [if_pos a, valV_map]
  rw [valV_any] at a
  by_cases e : j = k
  ·obtain ⟨x, hx⟩ := Option.isSome_iff_exists.mp a
   rw [if_pos e, e, hx, Option.map_some, if_pos rfl]
  ·rw [if_neg e]
   cases valV kvs j with
   | none => rfl
   | some x => rw [Option.map_some, if_neg e]
 ·rw [if_neg a]
  refine valV_snoc k j y kvs ?_
  rw [valV_any] at a
  cases q : valV kvs k with
  | none => rfl
  | some x => rw [q] at a; exact (a rfl).elim
theorem length_putK (kvs : List (κ × V)) (k : κ) (v : V) : (putK kvs k v).length ≤ kvs.length + 1 := by
 unfold putK
 split
 ·rw [List.length_map]; omega
 ·rw [List.length_append, List.length_cons, List.length_nil]; omega
theorem putK_new {kvs : List (κ × V)} {k : κ} (v : V) (h : valV kvs k = none) : putK kvs k v = kvs ++ [(k, v)] := by
 unfold putK
 rw [valV_any, h]
 exact if_neg (by decide)
theorem RelO.isSome_eq {o : Option V} {u : Option Value} (r : RelO o u) : o.isSome = u.isSome := by
 cases o with
 | none => cases u with
  | none => rfl
  | some _ => exact (show False from r).elim
 | some _ => cases u with
  | none => exact (show False from r).elim
  | some _ => rfl
theorem RelO.getD {o : Option V} {u : Option Value} {d : V} {d' : Value} (r : RelO o u) (rd : RelV d d') : RelV (o.getD d) (u.getD d') := by
 cases o with
 | none => cases u with
  | none => exact rd
  | some _ => exact (show False from r).elim
 | some _ => cases u with
  | none => exact (show False from r).elim
  | some _ => exact r
theorem KV.val {kvs : List (κ × V)} {vs : List (κ × Value)} (r : KV kvs vs) (k : κ) : RelO (valV kvs k) (valueAt vs k) := by
 unfold KV at r
 induction r with
 | nil => exact True.intro
 | @cons p q ps qs h t ih =>
  obtain ⟨h1, h2⟩ := h
  by_cases e : p.1 = k
  ·have e' : q.1 = k := h1.symm.trans e
   have b : valueAt (q :: qs) k = some q.2 := by simp [valueAt, List.find?_cons, e']
   rw [valV_pos e, b]; exact h2
  ·have e' : ¬ q.1 = k := fun z => e (h1.trans z)
   have b : valueAt (q :: qs) k = valueAt qs k := by simp [valueAt, List.find?_cons, e']
   rw [valV_neg e, b]; exact ih
theorem KV.any {kvs : List (κ × V)} {vs : List (κ × Value)} (r : KV kvs vs) (k : κ) : (kvs.any fun kv => decide (kv.1 = k)) = vs.any fun kv => decide (kv.1 = k) := by
 unfold KV at r
 induction r with
 | nil => rfl
 | cons h t ih => rw [List.any_cons, List.any_cons, ih, h.1]
theorem KV.repl {kvs : List (κ × V)} {vs : List (κ × Value)} (r : KV kvs vs) (k : κ) {y : V} {u : Value} (ry : RelV y u) :
  KV (kvs.map fun kv => if kv.1 = k then (kv.1, y) else kv) (vs.map fun kv => if kv.1 = k then (kv.1, u) else kv) := by
 unfold KV at r ⊢
 induction r with
 | nil => exact .nil
 | @cons p q ps qs h t ih =>
  rw [List.map_cons, List.map_cons]
  refine .cons ?_ ih
  obtain ⟨h1, h2⟩ := h
  by_cases e : p.1 = k
  ·rw [if_pos e, if_pos (h1.symm.trans e)]; exact ⟨h1, ry⟩
  ·rw [if_neg e, if_neg (fun z => e (h1.trans z))]; exact ⟨h1, h2⟩
theorem KV.put {kvs : List (κ × V)} {vs : List (κ × Value)} (r : KV kvs vs) (k : κ) {y : V} {u : Value} (ry : RelV y u) : KV (putK kvs k y) (stored vs k u) := by
 unfold putK stored
 rw [r.any k]
 by_cases e : (vs.any fun kv => decide (kv.1 = k)) = true
 ·rw [if_pos e, if_pos e]; exact r.repl k ry
 ·rw [if_neg e, if_neg e]; exact Paired.snoc r ⟨rfl, ry⟩
theorem KV.drop {kvs : List (κ × V)} {vs : List (κ × Value)} (r : KV kvs vs) (k : κ) : KV (dropK kvs k) (without vs k) := by
 unfold KV at r ⊢
 unfold dropK without
 induction r with
 | nil => exact .nil
 | @cons p q ps qs h t ih =>
  obtain ⟨h1, h2⟩ := h
  rw [List.filter_cons, List.filter_cons]
  by_cases e : p.1 = k
  ·have a : ¬ decide (p.1 ≠ k) = true := by simp [e]
   have b : ¬ decide (q.1 ≠ k) = true := by simp [h1.symm.trans e]
   rw [if_neg a, if_neg b]; exact ih
  ·have e' : ¬ q.1 = k := fun z => e (h1.trans z)
   have a : decide (p.1 ≠ k) = true := by simp [e]
   have b : decide (q.1 ≠ k) = true := by simp [e']
   rw [if_pos a, if_pos b]; exact .cons ⟨h1, h2⟩ ih
theorem KV.length {kvs : List (κ × V)} {vs : List (κ × Value)} (r : KV kvs vs) : kvs.length = vs.length := Paired.length r
theorem dropK_le (kvs : List (κ × V)) (k : κ) : (dropK kvs k).length ≤ kvs.length := List.length_filter_le _ _
end
theorem kV_is {P : Program} {w : World} {k : Key} {u : Value} (r : RelV (kV k) u) : (mixKind P w).is k u = true := by
 cases k with
 | inl i => obtain ⟨t, e⟩ := (show ∃ t, u = Value.int i t from r); subst e; exact mixKind_int P w i t
 | inr x => obtain ⟨t, e⟩ := (show ∃ t, u = Value.str x t from r); subst e; exact mixKind_str P w x t
theorem items_are {P : Program} {w : World} : ∀ {ks : List Key} {us : List Value}, Vals (ks.map kV) us → ItemsAre (mixKind P w) ks us
 | [], _, r => by rw [List.map_nil] at r; cases r; exact .nil
 | k :: ks, _, r => by
  rw [List.map_cons] at r
  cases r with
  | cons h t => exact .cons (kV_is h) (items_are t)
abbrev KT (H : Hp) : List (List Key × V) → List (List Key × Addr × Value) → Prop := Paired fun p q => p.1 = q.1 ∧ H q.2.1 = some (.tup (p.1.map kV)) ∧ RelV p.2 q.2.2
theorem KT.val {H : Hp} {kvs : List (List Key × V)} {xs : List (List Key × Addr × Value)} (r : KT H kvs xs) (k : List Key) : RelO (valV kvs k) ((atKey xs k).map (·.2)) := by
 induction r with
 | nil => exact True.intro
 | @cons p q ps qs h t ih =>
  obtain ⟨h1, _, h2⟩ := h
  by_cases e : p.1 = k
  ·have e' : q.1 = k := h1.symm.trans e
   have b : atKey (q :: qs) k = some q.2 := by simp [atKey, List.find?_cons, e']
   rw [valV_pos e, b]; exact h2
  ·have e' : ¬ q.1 = k := fun z => e (h1.trans z)
   have b : atKey (q :: qs) k = atKey qs k := by simp [atKey, List.find?_cons, e']
   rw [valV_neg e, b]; exact ih
theorem KT.repl {H : Hp} {kvs : List (List Key × V)} {xs : List (List Key × Addr × Value)} (r : KT H kvs xs) (k : List Key) {y : V} {u : Value} (ry : RelV y u) :
  KT H (kvs.map fun kv => if kv.1 = k then (kv.1, y) else kv) (xs.map (putAt k u)) := by
 induction r with
 | nil => exact .nil
 | @cons p q ps qs h t ih =>
  rw [List.map_cons, List.map_cons]
  refine .cons ?_ ih
  obtain ⟨h1, h2, h3⟩ := h
  unfold putAt
  by_cases e : p.1 = k
  ·rw [if_pos e, if_pos (h1.symm.trans e)]; exact ⟨h1, h2, ry⟩
  ·rw [if_neg e, if_neg (fun z => e (h1.trans z))]; exact ⟨h1, h2, h3⟩
theorem KT.put {H : Hp} {kvs : List (List Key × V)} {xs : List (List Key × Addr × Value)} (r : KT H kvs xs) (k : List Key) {b : Addr} {y : V} {u : Value} (hb : H b = some (.tup (k.map kV))) (ry : RelV y u) :
  KT H (putK kvs k y) (storedH xs k b u) := by
 have e : (kvs.any fun kv => decide (kv.1 = k)) = (atKey xs k).isSome := by
  rw [valV_any, (r.val k).isSome_eq, Option.isSome_map]
 unfold putK storedH
 rw [e]
 by_cases q : (atKey xs k).isSome = true
 ·rw [if_pos q, if_pos q]; exact r.repl k ry
 ·rw [if_neg q, if_neg q]; exact Paired.snoc r ⟨rfl, hb, ry⟩
theorem KT.keeps {H H' : Hp} {kvs : List (List Key × V)} {xs : List (List Key × Addr × Value)} (r : KT H kvs xs) (ht : ∀ b ys, H b = some (.tup ys) → H' b = some (.tup ys)) : KT H' kvs xs :=
 Paired.mapP r fun _ _ z => ⟨z.1, ht _ _ z.2.1, z.2.2⟩
section
variable {P : Program} {w : World} {H : Hp} {h : Heap} {a : Addr}
theorem rd_of {u : HO} (ok : HOk P w H h) (e : Rd H a u) : ObjOk P w H h a u := e.ok ok
theorem dk_rd {kvs : List (Key × V)} (ok : HOk P w H h) (e : Rd H a (.dK kvs)) : kvs.length ≤ sizeLine ∧ (a == sysModules) = false ∧ ∃ vs, KV kvs vs ∧ h.DictOf (mixKind P w) a vs :=
 show ObjOk P w H h a (.dK kvs) from rd_of ok e
theorem dk_of {kvs : List (Key × V)} (ok : HOk P w H h) (e : H a = some (.dK kvs)) : kvs.length ≤ sizeLine ∧ (a == sysModules) = false ∧ ∃ vs, KV kvs vs ∧ h.DictOf (mixKind P w) a vs := dk_rd ok (.inl e)
theorem key_of {ks : List Key} (ok : HOk P w H h) (e : H a = some (.tup (ks.map kV))) : (tupleKind (mixKind P w)).is h ks a := by
 obtain ⟨_, its, r, o, h1, h2, n, h3⟩ := (show ObjOk P w H h a (.tup (ks.map kV)) from ok a _ e)
 exact ⟨o, its.toArray, n, h1, h2, h3, by simpa using items_are r⟩
theorem dt_rd {kvs : List (List Key × V)} (ok : HOk P w H h) (e : Rd H a (.dT kvs)) : kvs.length ≤ sizeLine ∧ (a == sysModules) = false ∧
  ∃ xs, KT H kvs xs ∧ h.DictOfH (tupleKind (mixKind P w)) a xs := by
 obtain ⟨z, y, xs, r, o, es, ep, h1, h2, h3, h4, h5⟩ := (show ObjOk P w H h a (.dT kvs) from rd_of ok e)
 refine ⟨z, y, xs, r, o, es, ep, h1, h2, h3, h4, fun x hx => ?_, h5⟩
 have all : ∀ {l : List (List Key × V)} {m : List (List Key × Addr × Value)}, KT H l m → ∀ x ∈ m, (tupleKind (mixKind P w)).is h x.1 x.2.1 := by
  intro l m q
  induction q with
  | nil => intro x hx; exact nomatch hx
  | @cons p q ps qs hq t ih =>
   intro x hx
   rcases List.mem_cons.mp hx with e | hx
   ·subst e
    exact key_of ok (by rw [← hq.1]; exact hq.2.1)
   ·exact ih x hx
 exact all r x hx
theorem dt_of {kvs : List (List Key × V)} (ok : HOk P w H h) (e : H a = some (.dT kvs)) : kvs.length ≤ sizeLine ∧ (a == sysModules) = false ∧
  ∃ xs, KT H kvs xs ∧ h.DictOfH (tupleKind (mixKind P w)) a xs := dt_rd ok (.inl e)
end
def DGet (H : Hp) (a : Addr) (y : V) (r : Option V) : Prop :=
 (∃ kvs k, Rd H a (.dK kvs) ∧ y = kV k ∧ r = valV kvs k) ∨ ∃ kvs k b, Rd H a (.dT kvs) ∧ y = .ref b ∧ H b = some (.tup (k.map kV)) ∧ r = valV kvs k
def DPut (H : Hp) (a : Addr) (y v : V) (H' : Hp) : Prop :=
 (∃ kvs k, H a = some (.dK kvs) ∧ y = kV k ∧ kvs.length < sizeLine ∧ H' = upd H a (.dK (putK kvs k v))) ∨
 ∃ kvs k b, H a = some (.dT kvs) ∧ y = .ref b ∧ H b = some (.tup (k.map kV)) ∧ kvs.length < sizeLine ∧ H' = upd H a (.dT (putK kvs k v))
theorem DGet.k {H : Hp} {a : Addr} {kvs : List (Key × V)} {k : Key} (e : H a = some (.dK kvs)) : DGet H a (kV k) (valV kvs k) := .inl ⟨kvs, k, .inl e, rfl, rfl⟩
theorem DPut.k {H : Hp} {a : Addr} {kvs : List (Key × V)} {k : Key} {v : V} (e : H a = some (.dK kvs)) (hl : kvs.length < sizeLine) : DPut H a (kV k) v (upd H a (.dK (putK kvs k v))) := .inl ⟨kvs, k, e, rfl, hl, rfl⟩
section
variable {X : Cx} {pins : List (Addr × Obj)} {σ : St} {H : Hp} {s : Shared} {a : Addr} {y v : V} {u r : Value} {o : Option V} {A : Around} {E : Value → Shared → Prop}
theorem Inv.big (I : Inv X pins σ H s) : sysModules < s.heap.objs.size := by
 have h : mainGlobals < s.heap.objs.size := (I.mod.glob.keeps I.bk).lt
 exact Nat.lt_trans (by decide) h
theorem d_getItem {Q : Value → Shared → Prop} (hu : A.units + 1 < cLine) (I : Inv X pins σ H s) (g : DGet H a y (some v)) (ry : RelV y u) (h : ∀ w' s', Inv X pins σ H s' → RelV v w' → Q w' s') :
  wpAny (model X.prog X.w) A (getItem (.ref a) u) Q E s := by
 rcases g with ⟨kvs, k, e, ey, l⟩ | ⟨kvs, k, b, e, ey, eb, l⟩
 ·subst ey
  obtain ⟨z, hd, vs, rel, dd⟩ := dk_rd I.hok e
  obtain ⟨w', hw, rw'⟩ := RelO.some_of (v := v) (o := valueAt vs k) (by rw [l]; exact rel.val k)
  exact wpAny_getItem_of (kV_is ry) dd.mapOf hw (h w' _ (I.tok _) rw')
 ·subst ey
  cases (show u = Value.ref b from ry)
  obtain ⟨z, hd, xs, rel, dd⟩ := dt_rd I.hok e
  obtain ⟨w', hw, rw'⟩ := RelO.some_of (v := v) (o := (atKey xs k).map (·.2)) (by rw [l]; exact rel.val k)
  obtain ⟨p, hp, hp2⟩ := Option.map_eq_some_iff.mp hw
  refine wpAny_getItem_heap (tupleKind_room_in1 hu) (key_of I.hok eb) dd hp ?_
  rw [hp2]
  exact h w' _ (I.tok _) rw'
theorem d_in {Q : Value → Shared → Prop} (hu : A.units + 1 < cLine) (I : Inv X pins σ H s) (g : DGet H a y o) (ry : RelV y u) (h : ∀ s', Inv X pins σ H s' → Q (.bool o.isSome) s') :
  wpAny (model X.prog X.w) A (compareOp .In u (.ref a)) Q E s := by
 rcases g with ⟨kvs, k, e, ey, l⟩ | ⟨kvs, k, b, e, ey, eb, l⟩
 ·subst ey
  obtain ⟨z, hd, vs, rel, dd⟩ := dk_rd I.hok e
  refine wpAny_in_of (kV_is ry) hd dd.mapOf ?_
  rw [← (rel.val k).isSome_eq, ← l]
  exact h _ (I.tok _)
 ·subst ey
  cases (show u = Value.ref b from ry)
  obtain ⟨z, hd, xs, rel, dd⟩ := dt_rd I.hok e
  refine wpAny_in_heap (tupleKind_room_in1 hu) (key_of I.hok eb) hd dd ?_
  have q := (rel.val k).isSome_eq
  rw [Option.isSome_map] at q
  rw [← q, ← l]
  exact h _ (I.tok _)
theorem d_notIn {Q : Value → Shared → Prop} (hu : A.units + 1 < cLine) (I : Inv X pins σ H s) (g : DGet H a y o) (ry : RelV y u) (h : ∀ s', Inv X pins σ H s' → Q (.bool (!o.isSome)) s') :
  wpAny (model X.prog X.w) A (compareOp .NotIn u (.ref a)) Q E s := by
 rcases g with ⟨kvs, k, e, ey, l⟩ | ⟨kvs, k, b, e, ey, eb, l⟩
 ·subst ey
  obtain ⟨z, hd, vs, rel, dd⟩ := dk_rd I.hok e
  refine wpAny_notIn_of (kV_is ry) hd dd.mapOf ?_
  rw [← (rel.val k).isSome_eq, ← l]
  exact h _ (I.tok _)
 ·subst ey
  cases (show u = Value.ref b from ry)
  obtain ⟨z, hd, xs, rel, dd⟩ := dt_rd I.hok e
  refine wpAny_notIn_heap (tupleKind_room_in1 hu) (key_of I.hok eb) hd dd ?_
  have q := (rel.val k).isSome_eq
  rw [Option.isSome_map] at q
  rw [← q, ← l]
  exact h _ (I.tok _)
theorem d_write {h' : Heap} {t' : Nat} {ob : HO} (I : Inv X pins σ H s) (mu : Mut (H a)) (hs : Heap.SameBut a s.heap h') (he : ∃ q, h'.get? a = some q) (new : ObjOk X.prog X.w (upd H a ob) h' a ob) :
  Inv X pins σ (upd H a ob) { s with heap := h', toks := t' } :=
 I.write (x := a) (e := a) mu (.inl rfl) (fun b q hb z => (hs.2 b hb).trans z) he new
theorem dk_new {P : Program} {w : World} {H' : Hp} {h' : Heap} {kvs : List (Key × V)} {vs : List (Key × Value)} (z : kvs.length ≤ sizeLine) (hd : (a == sysModules) = false) (rel : KV kvs vs) (dd : h'.DictOf (mixKind P w) a vs) :
  ObjOk P w H' h' a (.dK kvs) := ⟨z, hd, vs, rel, dd⟩
theorem d_setItem {H' : Hp} {Q : Unit → Shared → Prop} (hu : A.units + 1 < cLine) (I : Inv X pins σ H s) (g : DPut H a y v H') (ry : RelV y u) (rv : RelV v r) (h : ∀ s', Inv X pins σ H' s' → Q () s') :
  wpAny (model X.prog X.w) A (setItem (.ref a) u r) Q E s := by
 rcases g with ⟨kvs, k, e, ey, l, eH⟩ | ⟨kvs, k, b, e, ey, eb, l, eH⟩
 ·subst ey eH
  obtain ⟨z, hd, vs, rel, dd⟩ := dk_of I.hok e
  have hz : vs.length ≤ sizeLine := by rw [← rel.length]; exact z
  have hl : (putK kvs k v).length ≤ sizeLine := by have := length_putK kvs k v; omega
  refine wpAny_setItem_pairs (hsz := hz) (kV_is ry) dd fun h' dd' hs => h _ ?_
  have he : ∃ q, h'.get? a = some q := let ⟨q, _, _, hq, _⟩ := dd'; ⟨q, hq⟩
  exact d_write I (by rw [e]; exact True.intro) hs he (dk_new hl hd (rel.put k rv) dd')
 ·subst ey eH
  cases (show u = Value.ref b from ry)
  obtain ⟨z, hd, xs, rel, dd⟩ := dt_of I.hok e
  have hz : xs.length ≤ sizeLine := by rw [← Paired.length rel]; exact z
  have hl : (putK kvs k v).length ≤ sizeLine := by have := length_putK kvs k v; omega
  refine wpAny_setItem_heap (hsz := hz) (tupleKind_room_in1 hu) (key_of I.hok eb) dd fun h' dd' hs => h _ ?_
  obtain ⟨q, es, ep, hq, h2, h3, h4, _, h5⟩ := dd'
  refine d_write I (by rw [e]; exact True.intro) hs ⟨q, hq⟩ ⟨hl, hd, _, (rel.put k eb rv).keeps fun c ys ec => ?_, q, es, ep, hq, h2, h3, h4, h5⟩
  rw [upd_ne (ne_of ec e (fun z => nomatch z))]
  exact ec
end
section
variable {X : Cx} {pins : List (Addr × Obj)} {σ : St} {H : Hp} {s : Shared} {a : Addr} {kvs : List (Key × V)} {k : Key} {u : Value} {A : Around} {E : Value → Shared → Prop}
theorem d_delItem {Q : Unit → Shared → Prop} (I : Inv X pins σ H s) (e : H a = some (.dK kvs)) (ry : RelV (kV k) u) (l : (valV kvs k).isSome = true) (h : ∀ s', Inv X pins σ (upd H a (.dK (dropK kvs k))) s' → Q () s') :
  wpAny (model X.prog X.w) A (delItem (.ref a) u) Q E s := by
 obtain ⟨z, hd, vs, rel, dd⟩ := dk_of I.hok e
 refine wpAny_delItem_slot dd.typeIs (by decide) PySem.F.slot_dict_delitem
  (call_meetsIn PySem.F.slot_dict_delitem dd.typeIs PySem.F.entry_dict_delitem (PySem.F.args_dict_delitem_2 _ _) (meets_dict_delitem_pairs (mixKind X.prog X.w) a (kV_is ry)) ⟨vs, dd, by rw [← rel.length]; exact z, by rw [← (rel.val k).isSome_eq]; exact l, fun h' dd' hs => h _ ?_⟩)
 have he : ∃ q, h'.get? a = some q := let ⟨q, _, _, hq, _⟩ := dd'; ⟨q, hq⟩
 exact d_write I (by rw [e]; exact True.intro) hs he (dk_new (Nat.le_trans (dropK_le kvs k) z) hd (rel.drop k) dd')
theorem d_pop {v : V} {more : List Value} {Q : Value → Shared → Prop} (I : Inv X pins σ H s) (e : H a = some (.dK kvs)) (ry : RelV (kV k) u) (l : valV kvs k = some v) (hm : more = [] ∨ ∃ x, more = [x])
  (h : ∀ w' s', Inv X pins σ (upd H a (.dK (dropK kvs k))) s' → RelV v w' → Q w' s') : wpAny (model X.prog X.w) A (call (.builtin "dict.pop") (.ref a :: u :: more)) Q E s := by
 obtain ⟨z, hd, vs, rel, dd⟩ := dk_of I.hok e
 obtain ⟨w', hw, rw'⟩ := RelO.some_of (v := v) (o := valueAt vs k) (by rw [← l]; exact rel.val k)
 have hp : (keyPart u).isSome = true := by
  cases k with
  | inl i => obtain ⟨t, q⟩ := (show ∃ t, u = Value.int i t from ry); subst q; rfl
  | inr x => obtain ⟨t, q⟩ := (show ∃ t, u = Value.str x t from ry); subst q; rfl
 have ha : argsOk "dict.pop" ⟨.ref a :: u :: more, []⟩ := by
  rcases hm with q | ⟨x, q⟩
  ·subst q; exact PySem.F.args_dict_pop_2 _ _
  ·subst q; exact PySem.F.args_dict_pop_3 _ _ _
 refine call_meetsIn PySem.F.slot_dict_pop dd.typeIs PySem.F.entry_dict_pop ha (meets_dict_pop_there (mixKind X.prog X.w) a (kV_is ry) more hm hp)
  ⟨vs, w', dd, by rw [← rel.length]; exact z, hw, fun h' dd' hs => h w' _ ?_ rw'⟩
 have he : ∃ q, h'.get? a = some q := let ⟨q, _, _, hq, _⟩ := dd'; ⟨q, hq⟩
 exact d_write I (by rw [e]; exact True.intro) hs he (dk_new (Nat.le_trans (dropK_le kvs k) z) hd (rel.drop k) dd')
theorem d_len {Q : Value → Shared → Prop} (I : Inv X pins σ H s) (e : Rd H a (.dK kvs)) (h : ∀ t s', Inv X pins σ H s' → Q (.int kvs.length t) s') : wpAny (model X.prog X.w) A (call (.builtin "len") [.ref a]) Q E s := by
 obtain ⟨z, hd, vs, rel, dd⟩ := dk_rd I.hok e
 refine call_len_dict hd dd (by rw [← rel.length]; rw [sizeLine_eq] at z; omega) ?_
 rw [← rel.length]
 exact h _ _ (I.tok _)
end
def NoSl (i : Expr) : Prop := ∀ ov iv, subscripted i false ov iv = operate [ov, iv] (getItem ov iv)
theorem subD_of {prog : Program} {w : World} {A : Around} {E : Value → Shared → Prop} {s : Shared} {env : Env} {value slice : Expr} {pos : Pos} {T id : String} {Q : Value → Shared → Prop}
  (hl : typeLookup (.type T) "__getitem__" = pure (some (.builtin id))) (hs : NoSl slice)
  (h : wpAny (model prog w) A (eval value env) (fun o s₁ => wpAny (model prog w) A (eval slice env) (fun i s₂ => s₂.TypeIs o T ∧ wpAny (model prog w) A (getItem o i) Q E s₂) E s₁) E s) :
  wpAny (model prog w) A (eval (.Subscript value slice pos) env) Q E s := by
 refine Subscript_ (wpAny_mono h (fun o s₁ h₁ => wpAny_mono h₁ (fun i s₂ h₂ => ?_) fun _ _ x => x) fun _ _ x => x)
 obtain ⟨hT, h₂⟩ := h₂
 unfold subscriptTail
 refine wpAny_bind ?_
 rw [getitemInPython_of_ne hT.not_modules]
 refine wpAny_bind (wpAny_specialOf hT hl ?_)
 have fin : wpAny (model prog w) A (subscripted slice false o i) (fun r s₃ => wpAny (model prog w) A (letTemporaryGo value o r >>= fun _ => pure r) Q E s₃) E s₂ := by
  rw [hs o i]
  exact wpAny_operating (wpAny_mono h₂ (fun r s₃ h₃ => wpAny_bind (wpAny_letTemporaryGo (wpAny_pure h₃))) fun _ _ x => x)
 first
  | exact wpAny_pure (wpAny_bind fin)
  | exact wpAny_bind (wpAny_pure (wpAny_bind fin))
  | exact wpAny_bind fin
theorem dict_typeIs {X : Cx} {pins : List (Addr × Obj)} {σ : St} {H : Hp} {s : Shared} {a : Addr} {y : V} {o : Option V} (I : Inv X pins σ H s) (g : DGet H a y o) : s.TypeIs (.ref a) "dict" := by
 rcases g with ⟨kvs, k, e, _, _⟩ | ⟨kvs, k, b, e, _, _, _⟩
 ·obtain ⟨_, _, vs, _, dd⟩ := dk_rd I.hok e
  exact dd.typeIs
 ·obtain ⟨_, _, xs, _, dd⟩ := dt_rd I.hok e
  exact dd.typeIs
def tDGet (td ty : TE) : TE := fun σ H Q => td σ H fun x H1 => ty σ H1 fun y H2 => ∃ a v, x = .ref a ∧ DGet H2 a y (some v) ∧ Q v H2
def tDIn (ty td : TE) : TE := fun σ H Q => ty σ H fun y H1 => td σ H1 fun x H2 => ∃ a o, x = .ref a ∧ DGet H2 a y o ∧ Q (.bl o.isSome) H2
def tDNotIn (ty td : TE) : TE := fun σ H Q => ty σ H fun y H1 => td σ H1 fun x H2 => ∃ a o, x = .ref a ∧ DGet H2 a y o ∧ Q (.bl (!o.isSome)) H2
def sDPut (td ty tv : TE) : TS := fun D σ H => tv σ H fun v H1 => td σ H1 fun x H2 => ty σ H2 fun y H3 => ∃ a H4, x = .ref a ∧ DPut H3 a y v H4 ∧ D.nx σ H4
section
variable {X : Cx} {o i e value : Expr} {pos pos' tpos : Pos} {td ty tv : TE}
theorem pe_dget (hu : X.A.units + 1 < cLine) (ho : PE X o td) (hi : PE X i ty) (hs : NoSl i) : PE X (.Subscript o i pos) (tDGet td ty) := by
 intro pins s σ H Q I h
 refine subD_of PySem.F.slot_dict_getitem.lookup hs (thn (ho pins s σ H _ I h) fun u s1 ⟨x, H1, I1, rx, q1⟩ => thn (hi pins s1 σ H1 _ I1 q1) fun iv s2 ⟨y, H2, I2, ry, a, v, ex, g, q2⟩ => ?_)
 subst ex
 obtain rfl : u = Value.ref a := rx
 exact ⟨dict_typeIs I2 g, d_getItem hu I2 g ry fun w' s3 I3 rw' => ⟨v, H2, I3, rw', q2⟩⟩
theorem pc_din (hu : X.A.units + 1 < cLine) (hi : PE X i ty) (ho : PE X o td) : PC X .In i o (tDIn ty td) := by
 intro pins s σ H Q I h
 refine thn (hi pins s σ H _ I h) fun iv s1 ⟨y, H1, I1, ry, q1⟩ => thn (ho pins s1 σ H1 _ I1 q1) fun u s2 ⟨x, H2, I2, rx, a, ov, ex, g, q2⟩ => ?_
 subst ex
 obtain rfl : u = Value.ref a := rx
 exact d_in hu I2 g ry fun s3 I3 => ⟨.bl ov.isSome, H2, I3, rfl, q2⟩
theorem pc_dnotin (hu : X.A.units + 1 < cLine) (hi : PE X i ty) (ho : PE X o td) : PC X .NotIn i o (tDNotIn ty td) := by
 intro pins s σ H Q I h
 refine thn (hi pins s σ H _ I h) fun iv s1 ⟨y, H1, I1, ry, q1⟩ => thn (ho pins s1 σ H1 _ I1 q1) fun u s2 ⟨x, H2, I2, rx, a, ov, ex, g, q2⟩ => ?_
 subst ex
 obtain rfl : u = Value.ref a := rx
 exact d_notIn hu I2 g ry fun s3 I3 => ⟨.bl (!ov.isSome), H2, I3, rfl, q2⟩
theorem ps_dput (hu : X.A.units + 1 < cLine) (ho : PE X o td) (hi : PE X i ty) (hv : PE X value tv) (hs : swapsWith value (some (.Subscript o i pos')) pos.line X.env = pure false) :
  PS X (.Assign [.Subscript o i pos'] value pos) (sDPut td ty tv) := by
 intro pins s σ H D I h
 refine wpAny_Assign_Subscript (thn (hv pins s σ H _ I h) fun r s1 ⟨v, H1, I1, rv, q1⟩ => thn (ho pins s1 σ H1 _ I1 q1) fun u s2 ⟨x, H2, I2, rx, q2⟩ => thn (hi pins s2 σ H2 _ I2 q2) fun iv s3 ⟨y, H3, I3, ry, a, H4, ex, g, q3⟩ => ?_) hs
 subst ex
 obtain rfl : u = Value.ref a := rx
 exact d_setItem hu I3 g ry rv fun s4 I4 => ⟨σ, H4, I4, q3⟩
end
theorem dk_empty {P : Program} {w : World} {H : Hp} (h : Heap) (hb : sysModules < h.objs.size) : ObjOk P w H (h.push { cls := .type "dict", data := .dict #[] }) h.objs.size (.dK []) :=
 ⟨Nat.zero_le _, beq_eq_false_iff_ne.mpr (Ne.symm (Nat.ne_of_lt hb)), [], .nil, Heap.DictOf.new h⟩
def tDNewK : TE := fun _ H Q => ∀ p, H p = none → Q (.ref p) (upd H p (.dK []))
section
variable {X : Cx} {pos : Pos}
theorem pe_dnewK : PE X (.Dict [] [] pos) tDNewK := fun pins s σ H Q I h =>
 wpAny_Dict_empty ⟨.ref s.heap.objs.size, _, I.laid (a := s.heap.objs.size) (o := .dK []) (t' := s.toks) (fun _ _ q => Heap.get?_push_of_some _ q) (Nat.le_refl _) (dk_empty s.heap I.big), rfl, h _ (I.hok.fresh (Nat.le_refl _))⟩
end
def mergeK (kvs more : List (Key × V)) : List (Key × V) := more.foldl (fun acc kv => putK acc kv.1 kv.2) kvs
theorem KV.merge : ∀ {more : List (Key × V)} {rs : List (Key × Value)} {kvs : List (Key × V)} {vs : List (Key × Value)}, KV more rs → KV kvs vs → KV (mergeK kvs more) (merged vs rs) := by
 intro more rs kvs vs r
 unfold KV at r
 induction r generalizing kvs vs with
 | nil => intro q; exact q
 | @cons p q ps qs h t ih =>
  intro r0
  have e : KV (putK kvs p.1 p.2) (stored vs q.1 q.2) := by
   have := r0.put p.1 h.2
   rw [← h.1]; exact this
  exact ih e
theorem length_mergeK : ∀ (more kvs : List (Key × V)), (mergeK kvs more).length ≤ kvs.length + more.length
 | [], kvs => by show kvs.length ≤ kvs.length + 0; omega
 | p :: r, kvs => by
  have h1 := length_mergeK r (putK kvs p.1 p.2)
  have h2 := length_putK kvs p.1 p.2
  show (mergeK (putK kvs p.1 p.2) r).length ≤ _
  rw [List.length_cons]; omega
structure M1 (X : Cx) (o : Expr) (m : Str) (apos : Pos) (e : Expr) (cpos : Pos) : Prop where
 base : attributeBase o m X.env (eval o X.env) = eval o X.env
 few : ((backTo cpos (starEach [e] X.env)).all (fun x => !x.1) && (backToKw cpos (keywordEach [] X.env)).all (fun x => x.1.isSome)
  && decide (([e] : List Expr).length + ([] : List Keyword).length + (if ([] : List Keyword).isEmpty then 0 else 1) < 30)) = true
 line : (apos.endLine == cpos.line) = true
 trees : backTo cpos (starEach [e] X.env) = [(false, eval e X.env)]
structure M2 (X : Cx) (o : Expr) (m : Str) (apos : Pos) (e f : Expr) (cpos : Pos) : Prop where
 base : attributeBase o m X.env (eval o X.env) = eval o X.env
 few : ((backTo cpos (starEach [e, f] X.env)).all (fun x => !x.1) && (backToKw cpos (keywordEach [] X.env)).all (fun x => x.1.isSome)
  && decide (([e, f] : List Expr).length + ([] : List Keyword).length + (if ([] : List Keyword).isEmpty then 0 else 1) < 30)) = true
 line : (apos.endLine == cpos.line) = true
 trees : backTo cpos (starEach [e, f] X.env) = [(false, eval e X.env), (false, eval f X.env)]
def IsD (H : Hp) (a : Addr) : Prop := (∃ kvs, Rd H a (.dK kvs)) ∨ ∃ kvs, Rd H a (.dT kvs)
theorem isD_at {X : Cx} {pins : List (Addr × Obj)} {σ : St} {H : Hp} {s : Shared} {a : Addr} (I : Inv X pins σ H s) (d : IsD H a) :
  s.TypeIs (.ref a) "dict" ∧ (∀ b, Value.ref a = .ref b → ∃ ob, s.heap.get? b = some ob ∧ ob.dict = none) ∧ (a == sysModules) = false := by
 rcases d with ⟨kvs, e⟩ | ⟨kvs, e⟩
 ·obtain ⟨_, hd, vs, _, dd⟩ := dk_rd I.hok e
  refine ⟨dd.typeIs, fun b q => ?_, hd⟩
  cases q
  obtain ⟨ob, _, _, h1, h2, _⟩ := dd
  exact ⟨ob, h1, h2.2.1⟩
 ·obtain ⟨_, hd, xs, _, dd⟩ := dt_rd I.hok e
  refine ⟨dd.typeIs, fun b q => ?_, hd⟩
  cases q
  obtain ⟨ob, _, _, h1, h2, _⟩ := dd
  exact ⟨ob, h1, h2.2.1⟩
section
variable {X : Cx} {pins : List (Addr × Obj)} {σ : St} {H : Hp} {s : Shared} {a : Addr} {y d : V} {u r : Value} {o : Option V} {A : Around} {E : Value → Shared → Prop}
theorem d_get2 {Q : Value → Shared → Prop} (hu : A.units + 1 < cLine) (I : Inv X pins σ H s) (g : DGet H a y o) (ry : RelV y u) (rd : RelV d r) (h : ∀ w' s', Inv X pins σ H s' → RelV (o.getD d) w' → Q w' s') :
  wpAny (model X.prog X.w) A (call (.builtin "dict.get") [.ref a, u, r]) Q E s := by
 rcases g with ⟨kvs, k, e, ey, l⟩ | ⟨kvs, k, b, e, ey, eb, l⟩
 ·subst ey
  obtain ⟨z, hd, vs, rel, dd⟩ := dk_rd I.hok e
  refine call_meetsIn PySem.F.slot_dict_get dd.typeIs PySem.F.entry_dict_get (PySem.F.args_dict_get_3 _ _ _) (meets_dict_get_default (mixKind X.prog X.w) a (kV_is ry) hd r) ⟨_, dd.mapOf, h _ _ (I.tok _) ?_⟩
  rw [l]
  exact (rel.val k).getD rd
 ·subst ey
  cases (show u = Value.ref b from ry)
  obtain ⟨z, hd, xs, rel, dd⟩ := dt_rd I.hok e
  refine call_meetsIn PySem.F.slot_dict_get dd.typeIs PySem.F.entry_dict_get (PySem.F.args_dict_get_3 _ _ _) (meetsH_dict_get_default (tupleKind (mixKind X.prog X.w)) a b hd r) ⟨tupleKind_room_in1 hu, k, xs, key_of I.hok eb, dd, h _ _ (I.tok _) ?_⟩
  rw [l]
  exact (rel.val k).getD rd
end
def tDGet2 (td ty tx : TE) : TE := fun σ H Q => td σ H fun x H1 => ∃ a, x = .ref a ∧ IsD H1 a ∧ ty σ H1 fun y H2 => tx σ H2 fun z H3 => ∃ o, DGet H3 a y o ∧ Q (o.getD z) H3
def tDPop1 (td ty : TE) : TE := fun σ H Q => td σ H fun x H1 => ∃ a, x = .ref a ∧ IsD H1 a ∧ ty σ H1 fun y H2 => ∃ kvs k v, H2 a = some (.dK kvs) ∧ y = kV k ∧ valV kvs k = some v ∧ Q v (upd H2 a (.dK (dropK kvs k)))
section
variable {X : Cx} {o e f : Expr} {apos cpos : Pos} {td ty tx : TE}
theorem pe_dget2 (hu : X.A.units + 1 < cLine) (ho : PE X o td) (he : PE X e ty) (hf : PE X f tx) (m : M2 X o "get" apos e f cpos) : PE X (.Call (.Attribute o "get" apos) [e, f] [] cpos) (tDGet2 td ty tx) := by
 intro pins s σ H Q I h
 refine wpAny_Call_method m.base m.few m.line PySem.F.plainAttrs_dict PySem.F.slot_dict_get PySem.F.type_dict_get (thn (ho pins s σ H _ I h) fun u s1 ⟨x, H1, I1, rx, a, ex, d, q1⟩ => ?_)
 subst ex
 obtain rfl : u = Value.ref a := rx
 obtain ⟨t1, t2, _⟩ := isD_at I1 d
 refine ⟨t1, t2, ?_⟩
 rw [m.trees]
 refine Calls.callWith_builtin rfl (Calls.evalArgs_plain (Calls.spliced_cons (thn (he pins s1 σ H1 _ I1 q1) fun iv s2 ⟨y, H2, I2, ry, q2⟩ =>
  Calls.spliced_cons (thn (hf pins s2 σ H2 _ I2 q2) fun fv s3 ⟨z, H3, I3, rz, ov, g, q3⟩ => Calls.spliced_nil ?_))))
 exact d_get2 hu I3 g ry rz fun w' s4 I4 rw' => ⟨_, H3, I4, rw', q3⟩
theorem pe_dpop1 (ho : PE X o td) (he : PE X e ty) (m : M1 X o "pop" apos e cpos) : PE X (.Call (.Attribute o "pop" apos) [e] [] cpos) (tDPop1 td ty) := by
 intro pins s σ H Q I h
 refine wpAny_Call_method m.base m.few m.line PySem.F.plainAttrs_dict PySem.F.slot_dict_pop PySem.F.type_dict_pop (thn (ho pins s σ H _ I h) fun u s1 ⟨x, H1, I1, rx, a, ex, d, q1⟩ => ?_)
 subst ex
 obtain rfl : u = Value.ref a := rx
 obtain ⟨t1, t2, _⟩ := isD_at I1 d
 refine ⟨t1, t2, ?_⟩
 rw [m.trees]
 refine Calls.callWith_builtin rfl (Calls.evalArgs_plain (Calls.spliced_cons (thn (he pins s1 σ H1 _ I1 q1) fun iv s2 ⟨y, H2, I2, ry, kvs, k, v, ea, ey, l, q2⟩ => Calls.spliced_nil ?_)))
 subst ey
 exact d_pop I2 ea ry l (.inl rfl) fun w' s3 I3 rw' => ⟨v, _, I3, rw', q2⟩
end
end L2
namespace L2
open PySem PySem.Spec PyProof.Rows
theorem ud_entry : entryFor table "dict.update.loop" = some Builtin.«dict.update.loop» := entryFor_of_tree (by kernel_rfl)
theorem ud_plain : plainId "dict.update.loop" = true := by decide +kernel
section
variable {X : Cx}
theorem refs_at : ∀ {ps : List Addr} {us : List Value}, Vals (ps.map V.ref) us → us = ps.map Value.ref
 | [], us, r => by
  rw [List.map_nil] at r
  cases r
  rfl
 | p :: ps, us, r => by
  rw [List.map_cons] at r
  cases r with
  | cons h t =>
   cases h
   rw [List.map_cons, ← refs_at t]
end
end L2
namespace L2
open PySem PySem.Spec PyProof.Rows
section
variable {X : Cx} {pins : List (Addr × Obj)} {σ : St} {H : Hp} {s : Shared} {h' : Heap}
theorem Inv.lock {d : Addr} {u : HO} (I : Inv X pins σ H s) (h : H d = some u) (mu : Mut (some u)) : ∃ od, Inv X pins σ (upd H d (.frz od u)) s := by
 have x := I.hok d u h
 have ex : ∃ od, s.heap.get? d = some od := by
  cases u with
  | lst xs => obtain ⟨_, _, _, _, e⟩ := x; exact ⟨_, e⟩
  | dK kvs => obtain ⟨_, _, _, _, o, _, _, e, _⟩ := x; exact ⟨o, e⟩
  | dT kvs => obtain ⟨_, _, _, _, o, _, _, e, _⟩ := x; exact ⟨o, e⟩
  | set S n => obtain ⟨o, _, _, _, e, _⟩ := x; exact ⟨o, e⟩
  | ins C dx fs => obtain ⟨_, _, _, e, _⟩ := x; exact ⟨_, e⟩
  | ext φ => obtain ⟨_, ⟨_, e⟩, _⟩ := x; exact ⟨_, e⟩
  | _ => exact False.elim mu
 obtain ⟨od, e⟩ := ex
 have new : ObjOk X.prog X.w (upd H d (.frz od u)) s.heap d (.frz od u) := by
  refine ⟨e, x.stay (fun b v _ q => q) (fun b q => ?_) fun b xs q => ?_⟩
  ·rw [upd_ne (fun z => by rw [z, h] at q; cases q; exact mu)]; exact q
  ·rw [upd_ne (fun z => by rw [z, h] at q; cases q; exact mu)]; exact q
 exact ⟨od, I.write (x := d) (e := d) (t' := s.toks) (h' := s.heap) (by rw [h]; exact mu) (.inl rfl) (fun b v _ q => q) ⟨od, e⟩ new⟩
theorem Inv.nofrz {d : Addr} {u : HO} (I : Inv X pins σ H s) (h : H d = some u) (mu : Mut (some u)) : ∀ o' u', X.H_0 d ≠ some (.frz o' u') := fun o' u' e => by
 have q := I.base.frzs d o' u' e
 rw [h] at q
 cases q
 exact mu
theorem Inv.unlock {d : Addr} {od : Obj} {u : HO} (I : Inv X pins σ H s) (h : H d = some (.frz od u)) (hn : ∀ o' u', X.H_0 d ≠ some (.frz o' u')) : Inv X pins σ (upd H d u) s := by
 have neH : ∀ b o, H b = some o → (∀ o' u', o ≠ .frz o' u') → b ≠ d := fun b o e hne z => by
  rw [z, h] at e
  cases e
  exact hne _ _ rfl
 have neN : ∀ b, H b = none → b ≠ d := fun b e z => by rw [z, h] at e; cases e
 refine ⟨I.ok, I.os, I.bare, ⟨I.base.keep, I.base.slot, fun b o e n hx => ?_, I.base.there, fun b xs e => ?_, fun b o x e => ?_, fun b ps e => ?_⟩, I.loc, I.cell, ?_, fun x c e => ?_, fun p hp => ?_, fun b o e => ?_, I.len⟩
 ·rw [upd_ne (neN b (I.base.free b o e n hx))]; exact I.base.free b o e n hx
 ·have q := I.base.tups b xs e
  rw [upd_ne (neH b _ q (fun _ _ z => nomatch z))]; exact q
 ·have q := I.base.frzs b o x e
  rw [upd_ne (fun z => by rw [z] at e; exact hn _ _ e)]; exact q
 ·obtain ⟨m, q⟩ := I.base.tbls b ps e
  exact ⟨m, by rw [upd_ne (neH b _ q (fun _ _ z => nomatch z))]; exact q⟩
 ·rw [upd_ne (neN _ I.free)]; exact I.free
 ·rw [upd_ne (neN c (I.freeC x c e))]; exact I.freeC x c e
 ·obtain ⟨e, n, r⟩ := I.pin p hp
  exact ⟨e, by rw [upd_ne (neN _ n)]; exact n, r⟩
 ·by_cases hb : b = d
  ·rw [hb, upd_same] at e
   cases e
   rw [hb]
   obtain ⟨_, x⟩ := I.hok d _ h
   exact x.stay (fun c v _ q => q) (fun c q => by rw [upd_ne (neH c _ q (fun _ _ z => nomatch z))]; exact q) fun c xs q => by rw [upd_ne (neH c _ q (fun _ _ z => nomatch z))]; exact q
  ·rw [upd_ne hb] at e
   exact (I.hok b o e).stay (fun c v _ q => q) (fun c q => by rw [upd_ne (neH c _ q (fun _ _ z => nomatch z))]; exact q) fun c xs q => by rw [upd_ne (neH c _ q (fun _ _ z => nomatch z))]; exact q
end
def tLock (t : TS) : TS := fun D σ H => ∃ d u, H d = some u ∧ Mut (some u) ∧ ∀ od, t ⟨fun σ' H' => H' d = some (.frz od u) ∧ D.nx σ' (upd H' d u), fun v H' => H' d = some (.frz od u) ∧ D.rt v (upd H' d u), fun σ' H' => H' d = some (.frz od u) ∧ D.bk σ' (upd H' d u), fun σ' H' => H' d = some (.frz od u) ∧ D.ct σ' (upd H' d u)⟩ σ (upd H d (.frz od u))
def tLockE (t : TE) : TE := fun σ H Q => ∃ d u, H d = some u ∧ Mut (some u) ∧ ∀ od, t σ (upd H d (.frz od u)) fun v H' => H' d = some (.frz od u) ∧ Q v (upd H' d u)
section
variable {X : Cx}
theorem ps_lock {st : Stmt} {t : TS} (h : PS X st t) : PS X st (tLock t) := by
 intro pins s σ H D I hw
 obtain ⟨d, u, hd, mu, hw⟩ := hw
 obtain ⟨od, I1⟩ := I.lock hd mu
 refine thn (h pins s σ _ _ I1 (hw od)) fun f s1 q => ?_
 cases f with
 | next => obtain ⟨σ', H', I2, e, q⟩ := q; exact ⟨σ', _, I2.unlock e (I.nofrz hd mu), q⟩
 | brk => obtain ⟨σ', H', I2, e, q⟩ := q; exact ⟨σ', _, I2.unlock e (I.nofrz hd mu), q⟩
 | cont => obtain ⟨σ', H', I2, e, q⟩ := q; exact ⟨σ', _, I2.unlock e (I.nofrz hd mu), q⟩
 | ret v => obtain ⟨x, σ', H', I2, r, e, q⟩ := q; exact ⟨x, σ', _, I2.unlock e (I.nofrz hd mu), r, q⟩
theorem pe_lock {e : Expr} {t : TE} (h : PE X e t) : PE X e (tLockE t) := by
 intro pins s σ H Q I hw
 obtain ⟨d, u, hd, mu, hw⟩ := hw
 obtain ⟨od, I1⟩ := I.lock hd mu
 refine thn (h pins s σ _ _ I1 (hw od)) fun v s1 ⟨x, H1, I2, r, e2, q⟩ => ?_
 exact ⟨x, _, I2.unlock e2 (I.nofrz hd mu), r, q⟩
theorem pi_one {tg : Expr} {pins : List (Addr × Obj)} {σ : St} {H : Hp} {s : Shared} {R : It → Hp → Prop} {J : It} {tn : Nat → Heap → Prop} {tk : Nat} (I : Inv X pins σ H s) (o : Obj)
  (T : Turn X.prog X.w X.K tg J [s.heap.objs.size] s.heap.objs.size tn) (st : tn 0 (s.heap.push o)) (q : R J H) : PIE X pins σ tg R (.ref s.heap.objs.size) { s with heap := s.heap.push o, toks := tk } := by
 refine ⟨s.heap.objs.size, [s.heap.objs.size], tn, J, H, rfl, I.kept fun b ob e => Heap.get?_push_of_some _ e, T, st, fun b hb => ?_, q⟩
 have e : b = s.heap.objs.size := by simpa using hb
 subst e
 exact I.fpOk (Nat.le_refl _) (I.hok.fresh (Nat.le_refl _))
end
section
variable {prog : Program} {w : World} {A : Around} {E : Value → Shared → Prop} {s : Shared}
theorem iter_keys {d : Addr} {o : Obj} {es : Array DictEntry} {ep : Nat} {Q : Value → Shared → Prop} (hd : (d == sysModules) = false) (ho : s.heap.get? d = some o) (hc : o.ExactDict) (hdat : o.data = .dict es ep)
  (hQ : Q (.ref s.heap.objs.size) { s with heap := s.heap.push { cls := .type "dict_keyiterator", data := .fields #[.ref d, .int 0 0, .int es.size 0, .int ep 0] } }) :
  wpAny (model prog w) A (pyIter (.ref d)) Q E s := by
 have hT : s.TypeIs (.ref d) "dict" := ⟨o, ho, hc.1⟩
 refine wpAny_pyIter_slot hT F.slot_dict_iter (wpAny_call_entry F.slot_dict_iter hT F.entry_dict_iter ?_ (F.args_dict_iter_1 _))
 unfold Builtin.«dict.__iter__»
 refine wpAny_bind ?_
 unfold Builtin.Dict.dictSlotNone
 refine wpAny_bind (wpAny_notOrdered_dict hT ?_)
 show wpAny _ _ (pure (Value.ref d)) _ _ s
 refine wpAny_pure ?_
 show wpAny _ _ (Builtin.Dict.showsAll d >>= _) _ _ s
 unfold Builtin.Dict.showsAll
 rw [if_neg (by rw [hd]; exact Bool.false_ne_true)]
 refine wpAny_bind (wpAny_pure ?_)
 refine wpAny_bind (wpAny_dictEntries ho hdat ?_)
 refine wpAny_bind (wpAny_dictEpoch ho hdat ?_)
 refine wpAny_bind (wpAny_newObj_type (wpAny_pure ⟨_, rfl, "dict_keyiterator", _, ⟨_, Heap.get?_push_size _ rfl, rfl⟩, F.slot_dict_keyiterator_next.lookup, ?_⟩))
 simpa [rawInt] using hQ
theorem next_key_item {it d : Addr} {i n ep : Nat} {od : Obj} {es : Array DictEntry} {en : DictEntry} {Q : Option Value → Shared → Prop} (hit : s.heap.IsKeyIter it d i n ep) (hod : s.heap.get? d = some od) (hdd : od.data = .dict es ep)
  (hsz : es.size = n) (hx : es[i]? = some en) (hQ : ∀ h', h'.IsKeyIter it d (i + 1) n ep → Heap.SameBut it s.heap h' → Q (some en.key) { s with heap := h' }) : wpAny (model prog w) A (pyNext (.ref it)) Q E s := by
 obtain ⟨o, ho, hc, hd⟩ := id hit
 unfold pyNext
 refine wpAny_bind (wpAny_attempt (wpAny_callSpecial?_slot (name := Str.ofString "__next__") hit.typeIs F.slot_dict_keyiterator_next
  (wpAny_call_entry F.slot_dict_keyiterator_next hit.typeIs F.entry_dict_keyiterator_next ?_ (F.args_dict_keyiterator_next_1 _))))
 refine wpAny_bind (wpAny_pure ?_)
 refine wpAny_bind ?_
 refine wpAny_bind ?_
 first | refine wpAny_bind (wpAny_typeNameOfWhole_keyiter hit.typeIs (wpAny_pure ?_)) | refine wpAny_bind (wpAny_typeNameOf_keyiter hit.typeIs (wpAny_pure ?_))
 refine wpAny_bind (wpAny_fieldsOf ho hd ?_)
 have hown : Builtin.Dict_items.ownsTuple "dict_keyiterator" = false := by decide
 simp only [hown, Bool.false_eq_true, if_false]
 show wpAny _ _ (if (Value.ref d == Value.none) = true then _ else _) _ _ s
 rw [if_neg (show ¬ ((Value.ref d == Value.none) = true) from Bool.false_ne_true)]
 refine wpAny_bind (wpAny_pure ?_)
 refine wpAny_bind (wpAny_dictEntries hod hdd ?_)
 rw [if_neg (by rw [hsz]; simp)]
 refine wpAny_bind (wpAny_pure ?_)
 refine wpAny_bind (wpAny_dictEpoch hod hdd ?_)
 rw [if_neg (by simp)]
 refine wpAny_pure ?_
 obtain ⟨hlt', hen⟩ := Array.getElem?_eq_some_iff.mp hx
 simp only [show ¬ ((i : Int) < 0) from by omega, if_false, Int.toNat_natCast, Array.getElem?_eq_getElem hlt']
 refine wpAny_bind ?_
 first | refine wpAny_bind (wpAny_typeNameOfWhole_keyiter hit.typeIs (wpAny_pure ?_)) | refine wpAny_bind (wpAny_typeNameOf_keyiter hit.typeIs (wpAny_pure ?_))
 refine wpAny_bind (wpAny_isOneOf_keyiter hit.typeIs ?_)
 show wpAny _ _ (setField (.ref it) 1 (rawInt ((i : Int) + 1)) >>= _) _ _ s
 refine wpAny_bind (wpAny_setField ho hd (by simp) ?_)
 have hit' : (s.heap.update it (Obj.mapFields (·.setIfInBounds 1 (rawInt ((i : Int) + 1))))).IsKeyIter it d (i + 1) n ep :=
  ⟨_, Heap.get?_update_self _ ho (Obj.isFreed_of_fields (Obj.data_mapFields hd _)), (Obj.cls_mapFields ..).trans hc, by rw [Obj.data_mapFields hd]; simp [rawInt]⟩
 refine wpAny_bind (wpAny_holding ?_)
 refine wpAny_bind (wpAny_isOneOf_keyiter (s := { s with heap := s.heap.update it (Obj.mapFields (·.setIfInBounds 1 (rawInt ((i : Int) + 1)))) }) hit'.typeIs ?_)
 show wpAny _ _ (pure es[i].key) _ _ _
 rw [hen]
 exact wpAny_pure (wpAny_pure ⟨_, rfl, wpAny_pure (hQ _ hit' (Heap.SameBut.update ..))⟩)
theorem next_key_end {it d : Addr} {i n ep : Nat} {od : Obj} {es : Array DictEntry} {Q : Option Value → Shared → Prop} (hh : A.handled = none) (hit : s.heap.IsKeyIter it d i n ep) (hod : s.heap.get? d = some od) (hdd : od.data = .dict es ep)
  (hsz : es.size = n) (hge : n ≤ i) (hQ : ∀ h', Heap.ExtBut it s.heap h' → Q none { s with heap := h' }) : wpAny (model prog w) A (pyNext (.ref it)) Q E s := by
 obtain ⟨o, ho, hc, hd⟩ := id hit
 unfold pyNext
 refine wpAny_bind (wpAny_attempt (wpAny_callSpecial?_slot (name := Str.ofString "__next__") hit.typeIs F.slot_dict_keyiterator_next
  (wpAny_call_entry F.slot_dict_keyiterator_next hit.typeIs F.entry_dict_keyiterator_next ?_ (F.args_dict_keyiterator_next_1 _))))
 refine wpAny_bind (wpAny_pure ?_)
 refine wpAny_bind ?_
 refine wpAny_bind ?_
 first | refine wpAny_bind (wpAny_typeNameOfWhole_keyiter hit.typeIs (wpAny_pure ?_)) | refine wpAny_bind (wpAny_typeNameOf_keyiter hit.typeIs (wpAny_pure ?_))
 refine wpAny_bind (wpAny_fieldsOf ho hd ?_)
 have hown : Builtin.Dict_items.ownsTuple "dict_keyiterator" = false := by decide
 simp only [hown, Bool.false_eq_true, if_false]
 show wpAny _ _ (if (Value.ref d == Value.none) = true then _ else _) _ _ s
 rw [if_neg (show ¬ ((Value.ref d == Value.none) = true) from Bool.false_ne_true)]
 refine wpAny_bind (wpAny_pure ?_)
 refine wpAny_bind (wpAny_dictEntries hod hdd ?_)
 rw [if_neg (by rw [hsz]; simp)]
 refine wpAny_bind (wpAny_pure ?_)
 refine wpAny_bind (wpAny_dictEpoch hod hdd ?_)
 rw [if_neg (by simp)]
 refine wpAny_pure ?_
 have hge' : es.size ≤ i := by rw [hsz]; exact hge
 simp only [show ¬ ((i : Int) < 0) from by omega, if_false, Int.toNat_natCast, Array.getElem?_eq_none hge']
 refine wpAny_bind ?_
 first | refine wpAny_bind (wpAny_typeNameOfWhole_keyiter hit.typeIs (wpAny_pure ?_)) | refine wpAny_bind (wpAny_typeNameOf_keyiter hit.typeIs (wpAny_pure ?_))
 show wpAny _ _ (setField (.ref it) 0 .none >>= _) _ _ s
 refine wpAny_bind (wpAny_setField ho hd (by simp) ?_)
 show wpAny _ _ (newExc (.type "StopIteration") [] >>= _) _ _ _
 refine wpAny_bind ?_
 simp only [newExc, newTuple]
 refine wpAny_bind (wpAny_newObj_type ?_ (by size_fits))
 refine wpAny_bind (m := firstArgMember _ _) (wpAny_of_eq (a := Value.none) (by first | rfl | (simp only [firstArgMember]; rfl)) ?_)
 refine wpAny_newObj_type ?_ (by size_fits)
 simp only [raiseNew]
 refine wpAny_bind (wpAny_handled ?_)
 rw [show A.in1.handled = none from hh]
 refine wpAny_bind (wpAny_pure (wpAny_throw ?_))
 refine wpAny_bind (wpAny_isInstance (T := "StopIteration") (b := true) ⟨_, Heap.get?_push_size _ rfl, rfl⟩ isSubtype_stop ?_)
 exact wpAny_pure (hQ _ (((Heap.SameBut.update ..).extBut.push _).push _))
end
theorem kv_get {κ : Type} {kvs : List (κ × V)} {vs : List (κ × Value)} (h : KV kvs vs) : ∀ {i : Nat} {k : κ} {v : V}, kvs[i]? = some (k, v) → ∃ u, vs[i]? = some (k, u) ∧ RelV v u := by
 unfold KV at h
 induction h with
 | nil => intro i k v e; simp at e
 | @cons a b l₁ l₂ r t ih =>
  intro i k v e
  cases i with
  | zero =>
   simp only [List.getElem?_cons_zero, Option.some.injEq] at e
   subst e
   refine ⟨b.2, ?_, r.2⟩
   simp only [List.getElem?_cons_zero]
   exact congrArg some (Prod.ext r.1.symm rfl)
  | succ j =>
   simp only [List.getElem?_cons_succ] at e ⊢
   exact ih e
theorem paired_get {α β : Type} {G : α → β → Prop} {l₁ : List α} {l₂ : List β} (h : Paired G l₁ l₂) : ∀ {i : Nat} {a : α}, l₁[i]? = some a → ∃ b, l₂[i]? = some b ∧ G a b := by
 induction h with
 | nil => intro i a e; simp at e
 | @cons a b l₁ l₂ r t ih =>
  intro i a' e
  cases i with
  | zero =>
   simp only [List.getElem?_cons_zero, Option.some.injEq] at e
   subst e
   exact ⟨b, rfl, r⟩
  | succ j =>
   simp only [List.getElem?_cons_succ] at e ⊢
   exact ih e
theorem relV_key {k : Key} {u : Value} (h : keyIs k u = true) : RelV (kV k) u := by
 rcases keyIs_shape h with ⟨i, t, rfl, rfl⟩ | ⟨x, t, rfl, rfl⟩
 ·exact ⟨t, rfl⟩
 ·exact ⟨t, rfl⟩
section
variable {X : Cx} {pins : List (Addr × Obj)} {σ : St} {H : Hp} {s : Shared} {d : Addr} {o : Obj}
theorem Inv.frzK {kvs : List (Key × V)} (I : Inv X pins σ H s) (h : H d = some (.frz o (.dK kvs))) :
  (d == sysModules) = false ∧ s.heap.get? d = some o ∧ o.ExactDict ∧ ∃ (es : Array DictEntry) (ep : Nat) (vs : List (Key × Value)), o.data = .dict es ep ∧ es.size = kvs.length ∧ KV kvs vs ∧ s.heap.DictAt (mixKind X.prog X.w) d vs ep := by
 obtain ⟨hd, z, hs, vs, kv, o', es, ep, ho, hx, hdt, r⟩ := I.hok d _ h
 rw [hd] at ho
 cases ho
 refine ⟨hs, hd, hx, es, ep, vs, hdt, ?_, kv, o, es, hd, hx, hdt, r⟩
 have l1 := r.2.1.length
 have l2 : kvs.length = vs.length := Paired.length kv
 rw [Array.length_toList] at l1
 omega
theorem Inv.frzT {kvs : List (List Key × V)} (I : Inv X pins σ H s) (h : H d = some (.frz o (.dT kvs))) :
  (d == sysModules) = false ∧ s.heap.get? d = some o ∧ o.ExactDict ∧ ∃ (es : Array DictEntry) (ep : Nat), o.data = .dict es ep ∧ es.size = kvs.length ∧
   ∀ (i : Nat) (k : List Key) (v : V), kvs[i]? = some (k, v) → ∃ (en : DictEntry) (q : Addr), es[i]? = some en ∧ en.key = .ref q ∧ H q = some (.tup (k.map kV)) := by
 obtain ⟨hd, z, hs, xs, pr, o', es, ep, ho, hx, hdt, he, _⟩ := I.hok d _ h
 rw [hd] at ho
 cases ho
 refine ⟨hs, hd, hx, es, ep, hdt, ?_, fun i k v e => ?_⟩
 ·have l1 : es.size = xs.length := size_of_entries he
  have l2 : kvs.length = xs.length := Paired.length pr
  omega
 ·obtain ⟨b, hb, e1, e2, _⟩ := paired_get pr e
  have q := entry_at he i
  rw [hb] at q
  exact ⟨_, b.2.1, q, rfl, e2⟩
end
def Itk (d : Addr) (o : Obj) (kvs : List (Key × V)) : It :=
 ⟨fun i H => H d = some (.frz o (.dK kvs)) ∧ i < kvs.length, fun i H x H' => H' = H ∧ ∃ k v, kvs[i]? = some (k, v) ∧ x = kV k, fun i H => H d = some (.frz o (.dK kvs)) ∧ kvs.length ≤ i⟩
def Itkt (d : Addr) (o : Obj) (kvs : List (List Key × V)) : It :=
 ⟨fun i H => H d = some (.frz o (.dT kvs)) ∧ i < kvs.length, fun i H x H' => H' = H ∧ ∃ (k : List Key) (v : V) (q : Addr), kvs[i]? = some (k, v) ∧ x = .ref q ∧ H q = some (.tup (k.map kV)), fun i H => H d = some (.frz o (.dT kvs)) ∧ kvs.length ≤ i⟩
def Itd (d : Addr) (o : Obj) (kvs : List (Key × V)) : It :=
 ⟨fun i H => H d = some (.frz o (.dK kvs)) ∧ i < kvs.length, fun i H x H' => H' = H ∧ ∃ k, kvs[i]? = some (k, x), fun i H => H d = some (.frz o (.dK kvs)) ∧ kvs.length ≤ i⟩
theorem dict_ep {o : Obj} {es es' : Array DictEntry} {ep ep' : Nat} (h : o.data = .dict es ep) (h' : o.data = .dict es' ep') : es' = es ∧ ep' = ep := by
 rw [h] at h'
 cases h'
 exact ⟨rfl, rfl⟩
section
variable {P : Program} {w : World} {K : PySem.W.Frag} {tg : Expr} {d : Addr} {o : Obj} {es : Array DictEntry} {ep : Nat}
theorem turn_keys {kvs : List (Key × V)} (it : Addr) (hod : o.data = .dict es ep) : Turn P w K tg (Itk d o kvs) [it] it (fun i h => h.IsKeyIter it d i kvs.length ep) where
 mem := by simp
 obj := fun i h st b hb => by
  have e : b = it := by simpa using hb
  subst e
  obtain ⟨oi, e, c, dd⟩ := st
  exact ⟨oi, e, fun v z => by rw [dd] at z; cases z⟩
 keep := fun i h h' st k => st.at fun oi e => k it (by simp) oi e
 item := by
  intro X hP hw hK hc i pins s σ H E I hf st hg
  subst hP hw hK
  obtain ⟨hd, hi⟩ := hg
  obtain ⟨f0, f1, f2, f3, f4, f5⟩ := hf it (by simp)
  obtain ⟨hs, hgd, hx, es', ep', vs, hdt, hsz, kv, hm⟩ := I.frzK hd
  obtain ⟨rfl, rfl⟩ := dict_ep hod hdt
  obtain ⟨⟨k, v⟩, hkv⟩ : ∃ p, kvs[i]? = some p := ⟨kvs[i], List.getElem?_eq_getElem hi⟩
  obtain ⟨u, hu, ru⟩ := kv_get kv hkv
  have hl : kvs.length = vs.length := Paired.length kv
  rw [hl] at st
  refine wpAny_pyNext_dict_item st hm hu fun key h' hkey st' sb => ?_
  have I1 : Inv X pins σ H { s with heap := h' } := I.turned (t' := s.toks) (fun b ob hb e => (sb.2 b hb).trans e) f0 f1 f3 f4 f5
  obtain ⟨oi, e, c, dd⟩ := id st'
  refine ⟨key, rfl, go_of (s := { s with heap := h' }) e c dd (by decide) ⟨kV k, H, I1, relV_key (show keyIs k key = true from hkey), ⟨rfl, k, v, hkv, rfl⟩, ?_, fun b hb => (hf b hb).1⟩⟩
  show h'.IsKeyIter it d (i + 1) kvs.length _
  rw [hl]
  exact st'
 done := by
  intro X hP hw hK hc i pins s σ H E I hf st hg
  subst hP hw hK
  obtain ⟨hd, hi⟩ := hg
  obtain ⟨f0, f1, f2, f3, f4, f5⟩ := hf it (by simp)
  obtain ⟨hs, hgd, hx, es', ep', vs, hdt, hsz, kv, hm⟩ := I.frzK hd
  obtain ⟨rfl, rfl⟩ := dict_ep hod hdt
  exact next_key_end (I.ok.hd hc) st hgd hdt hsz hi fun h' eb => ⟨rfl, I.turned (t' := s.toks) (fun b ob hb e => eb b ob hb e) f0 f1 f3 f4 f5⟩
 self := fun A i s Q E st h => wpAny_pyIter_keyiter st h
theorem turn_keysT {kvs : List (List Key × V)} (it : Addr) (hod : o.data = .dict es ep) : Turn P w K tg (Itkt d o kvs) [it] it (fun i h => h.IsKeyIter it d i kvs.length ep) where
 mem := by simp
 obj := fun i h st b hb => by
  have e : b = it := by simpa using hb
  subst e
  obtain ⟨oi, e, c, dd⟩ := st
  exact ⟨oi, e, fun v z => by rw [dd] at z; cases z⟩
 keep := fun i h h' st k => st.at fun oi e => k it (by simp) oi e
 item := by
  intro X hP hw hK hc i pins s σ H E I hf st hg
  subst hP hw hK
  obtain ⟨hd, hi⟩ := hg
  obtain ⟨f0, f1, f2, f3, f4, f5⟩ := hf it (by simp)
  obtain ⟨hs, hgd, hx, es', ep', hdt, hsz, ent⟩ := I.frzT hd
  obtain ⟨rfl, rfl⟩ := dict_ep hod hdt
  obtain ⟨⟨k, v⟩, hkv⟩ : ∃ p, kvs[i]? = some p := ⟨kvs[i], List.getElem?_eq_getElem hi⟩
  obtain ⟨en, q, hen, hkey, hq⟩ := ent i k v hkv
  refine next_key_item st hgd hdt hsz hen fun h' st' sb => ?_
  have I1 : Inv X pins σ H { s with heap := h' } := I.turned (t' := s.toks) (fun b ob hb e => (sb.2 b hb).trans e) f0 f1 f3 f4 f5
  obtain ⟨oi, e, c, dd⟩ := id st'
  exact ⟨en.key, rfl, go_of (s := { s with heap := h' }) e c dd (by decide) ⟨.ref q, H, I1, hkey, ⟨rfl, k, v, q, hkv, rfl, hq⟩, st', fun b hb => (hf b hb).1⟩⟩
 done := by
  intro X hP hw hK hc i pins s σ H E I hf st hg
  subst hP hw hK
  obtain ⟨hd, hi⟩ := hg
  obtain ⟨f0, f1, f2, f3, f4, f5⟩ := hf it (by simp)
  obtain ⟨hs, hgd, hx, es', ep', hdt, hsz, ent⟩ := I.frzT hd
  obtain ⟨rfl, rfl⟩ := dict_ep hod hdt
  exact next_key_end (I.ok.hd hc) st hgd hdt hsz hi fun h' eb => ⟨rfl, I.turned (t' := s.toks) (fun b ob hb e => eb b ob hb e) f0 f1 f3 f4 f5⟩
 self := fun A i s Q E st h => by
  refine wpAny_pyIter_slot st.typeIs F.slot_dict_keyiterator_iter (wpAny_call_entry F.slot_dict_keyiterator_iter st.typeIs F.entry_dict_keyiterator_iter ?_ (F.args_dict_keyiterator_iter_1 _))
  show wpAny _ _ (ret (.ref it)) _ _ s
  exact wpAny_pure ⟨_, rfl, "dict_keyiterator", _, st.typeIs, F.slot_dict_keyiterator_next.lookup, h⟩
theorem turn_vals {kvs : List (Key × V)} (it : Addr) (hod : o.data = .dict es ep) : Turn P w K tg (Itd d o kvs) [it] it (fun i h => h.IsValIter it d i kvs.length ep) where
 mem := by simp
 obj := fun i h st b hb => by
  have e : b = it := by simpa using hb
  subst e
  obtain ⟨oi, e, c, dd⟩ := st
  exact ⟨oi, e, fun v z => by rw [dd] at z; cases z⟩
 keep := fun i h h' st k => st.at fun oi e => k it (by simp) oi e
 item := by
  intro X hP hw hK hc i pins s σ H E I hf st hg
  subst hP hw hK
  obtain ⟨hd, hi⟩ := hg
  obtain ⟨f0, f1, f2, f3, f4, f5⟩ := hf it (by simp)
  obtain ⟨hs, hgd, hx, es', ep', vs, hdt, hsz, kv, hm⟩ := I.frzK hd
  obtain ⟨rfl, rfl⟩ := dict_ep hod hdt
  obtain ⟨⟨k, v⟩, hkv⟩ : ∃ p, kvs[i]? = some p := ⟨kvs[i], List.getElem?_eq_getElem hi⟩
  obtain ⟨u, hu, ru⟩ := kv_get kv hkv
  have hl : kvs.length = vs.length := Paired.length kv
  rw [hl] at st
  refine wpAny_pyNext_values_item st hm hu fun h' st' sb => ?_
  have I1 : Inv X pins σ H { s with heap := h' } := I.turned (t' := s.toks) (fun b ob hb e => (sb.2 b hb).trans e) f0 f1 f3 f4 f5
  obtain ⟨oi, e, c, dd⟩ := id st'
  refine ⟨u, rfl, go_of (s := { s with heap := h' }) e c dd (by decide) ⟨v, H, I1, ru, ⟨rfl, k, hkv⟩, ?_, fun b hb => (hf b hb).1⟩⟩
  show h'.IsValIter it d (i + 1) kvs.length _
  rw [hl]
  exact st'
 done := by
  intro X hP hw hK hc i pins s σ H E I hf st hg
  subst hP hw hK
  obtain ⟨hd, hi⟩ := hg
  obtain ⟨f0, f1, f2, f3, f4, f5⟩ := hf it (by simp)
  obtain ⟨hs, hgd, hx, es', ep', vs, hdt, hsz, kv, hm⟩ := I.frzK hd
  obtain ⟨rfl, rfl⟩ := dict_ep hod hdt
  have hl : kvs.length = vs.length := Paired.length kv
  rw [hl] at st
  exact wpAny_pyNext_values_end (I.ok.hd hc) st hm (List.getElem?_eq_none (by omega)) fun h' eb => ⟨rfl, I.turned (t' := s.toks) (fun b ob hb e => eb b ob hb e) f0 f1 f3 f4 f5⟩
 self := fun A i s Q E st h => wpAny_pyIter_valiter st h
end
def iKeys (td : TE) : TI := fun σ H R => td σ H fun x H1 => ∃ d o, x = .ref d ∧ ((∃ kvs, H1 d = some (.frz o (.dK kvs)) ∧ R (Itk d o kvs) H1) ∨ ∃ kvs, H1 d = some (.frz o (.dT kvs)) ∧ R (Itkt d o kvs) H1)
def iVals (td : TE) : TI := fun σ H R => td σ H fun x H1 => ∃ d o kvs, x = .ref d ∧ H1 d = some (.frz o (.dK kvs)) ∧ R (Itd d o kvs) H1
section
variable {X : Cx} {tg e : Expr} {td : TE} {apos cpos : Pos}
theorem pi_keys (he : PE X e td) : PI X tg e (iKeys td) := by
 intro pins s σ H R I h
 refine thn (he pins s σ H _ I h) fun u s1 ⟨x, H1, I1, rx, d, o, ex, q⟩ => ?_
 subst ex
 obtain rfl : u = Value.ref d := rx
 rcases q with ⟨kvs, hd, q⟩ | ⟨kvs, hd, q⟩
 ·obtain ⟨hs, hgd, hx, es, ep, vs, hdt, hsz, kv, hm⟩ := I1.frzK hd
  refine iter_keys hs hgd hx hdt (pi_one (tk := s1.toks) I1 _ (turn_keys _ hdt) ⟨_, Heap.get?_push_size _ rfl, rfl, ?_⟩ q)
  rw [hsz] <;> rfl
 ·obtain ⟨hs, hgd, hx, es, ep, hdt, hsz, ent⟩ := I1.frzT hd
  refine iter_keys hs hgd hx hdt (pi_one (tk := s1.toks) I1 _ (turn_keysT _ hdt) ⟨_, Heap.get?_push_size _ rfl, rfl, ?_⟩ q)
  rw [hsz] <;> rfl
theorem pi_values (he : PE X e td) (hbase : attributeBase e "values" X.env (eval e X.env) = eval e X.env := by rfl) (hline : (apos.endLine == cpos.line) = true := by rfl) : PI X tg (.Call (.Attribute e "values" apos) [] [] cpos) (iVals td) := by
 intro pins s σ H R I h
 refine wpAny_Call_method (T := "dict") (id := "dict.values") hbase rfl hline F.plainAttrs_dict F.slot_dict_values F.type_dict_values (thn (he pins s σ H _ I h) fun u s1 ⟨x, H1, I1, rx, d, o, kvs, ex, hd, q⟩ => ?_)
 subst ex
 obtain rfl : u = Value.ref d := rx
 obtain ⟨hs, hgd, hx, es, ep, vs, hdt, hsz, kv, hm⟩ := I1.frzK hd
 have hl : kvs.length = vs.length := Paired.length kv
 refine ⟨hm.dictOf.typeIs, hm.dictOf.mapOf.noDict, ?_⟩
 have I2 : Inv X pins σ H1 { s1 with heap := s1.heap.push { cls := .type "dict_values", data := .fields #[.ref d] } } := I1.kept (t' := s1.toks) fun b ob q => Heap.get?_push_of_some _ q
 have fin : wpAny (model X.prog X.w) X.A (pyIter (.ref s1.heap.objs.size)) (PIE X pins σ tg R) X.xe { s1 with heap := s1.heap.push { cls := .type "dict_values", data := .fields #[.ref d] } } := by
  refine wpAny_pyIter_values (d := d) (knd := mixKind X.prog X.w) ⟨_, Heap.get?_push_size _ rfl, rfl, rfl⟩ (hm.push _) (pi_one (tk := s1.toks) I2 _ (turn_vals _ hdt) ⟨_, Heap.get?_push_size _ rfl, rfl, ?_⟩ q)
  rw [hl] <;> rfl
 show wpAny _ _ (callWith cpos (.builtin "dict.values") [.ref d] [] []) _ X.xe s1
 exact method_meetsIn F.slot_dict_values F.entry_dict_values rfl (PySem.evalArgs_none ⟨rfl, hm.dictOf.typeIs, F.args_dict_values_1 _, _, meets_dict_values (mixKind X.prog X.w) d hs, ⟨vs, hm.dictOf⟩, fin⟩)
end
theorem boot_zip5 : bootBuiltins "zip" = some (.type "zip") := by decide +kernel
end L2
namespace L2
open PySem PySem.Spec PyProof.Rows
def inClass (s : Stmt) (j : Nat) : Stmt := match s with
 | .ClassDef _ _ _ body _ _ _ _ _ _ _ => body.getD j (.Pass ⟨0, 0, 0, 0⟩)
 | _ => .Pass ⟨0, 0, 0, 0⟩
def defArgs (s : Stmt) : Arguments := match s with
 | .FunctionDef _ a _ _ _ _ _ _ _ _ => a
 | _ => { posonlyargs := [], args := [], vararg := none, kwonlyargs := [], kw_defaults := [], kwarg := none, defaults := [] }
def defBody (s : Stmt) : List Stmt := match s with
 | .FunctionDef _ _ b _ _ _ _ _ _ _ => b
 | _ => []
def defScope (s : Stmt) : Scope := match s with
 | .FunctionDef _ _ _ _ _ _ sc _ _ _ => sc
 | _ => { kind := .function, names := [], isGenerator := false, isCoroutine := false }
abbrev CX0 : CXT := fun _ _ _ _ _ _ => False
abbrev E0 : XK := fun _ _ _ => False
theorem pass0 {X : Cx} : Passes CX0 X E0 := fun _ _ _ _ _ _ _ h => h.elim
structure Fun (K : PySem.W.Frag) (x qual : Str) (st : Stmt) (f : Addr) (fd : FuncData) : Prop where
 ex : ∃ (oc : Value) (od : Option Addr) (kV doc pm : Value) (an : Option Addr) (cdv ct : Value) (osl : Array (Option Value)),
  fd = PySem.W.fnOf x qual (defArgs st) (defBody st) (defScope st) .none kV doc pm an cdv ct ∧ K.lookup f = some ⟨oc, od, .func fd, osl⟩ ∧ PySem.W.codeIn K cdv qual = true
 kp : PySem.W.keepIn K (.ref f) = true
section
variable {P : Program} {w : World} {K : PySem.W.Frag} {mg : Str → Option Value} {base : Heap}
theorem Fun.ok {x qual : Str} {st : Stmt} {f : Addr} {fd : FuncData} {N ps : List Str} {k : Nat} {sp : Sp} (F : Fun K x qual st f fd) (S : FnScope N ps (defScope st)) (len : ∀ vs H Q E, sp vs H Q E → vs.length = ps.length)
  (hbody : ∀ (cdv : Value) (A : Around) (outer : List Env) (s : Shared) (H : Hp) (vs : List V) (Q : VK) (E : XK), Room k (A.deeper (envOfC qual (defScope st) s.heap.objs.size f cdv)) → sp vs H Q E →
   ∃ t, PSs (cxOf CX0 P w K mg base N qual (defScope st) f cdv A outer s H E).nox (defBody st) t ∧ t { nx := fun _ H' => Q .non H', rt := Q } (start N vs) H) : FnOk P w K mg base CX0 (k + 1) f fd ps sp := by
 obtain ⟨oc, od, kV, doc, pm, an, cdv, ct, osl, rfl, lk, hcd⟩ := F.ex
 refine fn_of lk hcd S len fun A outer s H vs Q E hr hsp => ?_
 obtain ⟨t, h, q⟩ := hbody cdv A outer s H vs Q E hr hsp
 exact ⟨t, h.nox, q⟩
theorem Fun.binds {x qual : Str} {st : Stmt} {f : Addr} {fd : FuncData} {ps : List Str} (F : Fun K x qual st f fd)
  (h : ∀ (kV doc pm : Value) (an : Option Addr) (cdv ct : Value) (us : List Value), us.length = ps.length → bindArgs (PySem.W.fnOf x qual (defArgs st) (defBody st) (defScope st) .none kV doc pm an cdv ct) ⟨us, []⟩ = pure (ps.zip us)) : Binds K fd ps [] := by
 obtain ⟨oc, od, kV, doc, pm, an, cdv, ct, osl, rfl, lk, hcd⟩ := F.ex
 exact .all (h kV doc pm an cdv ct)
theorem fun_mk {x qual : Str} {st : Stmt} {f : Addr} {oc : Value} {od an : Option Addr} {osl : Array (Option Value)} {kV doc pm cdv ct : Value} (l : K.lookup f = some ⟨oc, od, .func (PySem.W.fnOf x qual (defArgs st) (defBody st) (defScope st) .none kV doc pm an cdv ct), osl⟩)
  (c : PySem.W.codeIn K cdv qual = true) (k : PySem.W.keepIn K (.ref f) = true) : Fun K x qual st f (PySem.W.fnOf x qual (defArgs st) (defBody st) (defScope st) .none kV doc pm an cdv ct) := ⟨⟨oc, od, kV, doc, pm, an, cdv, ct, osl, rfl, l, c⟩, k⟩
end
theorem hu_of {A : Around} {k : Nat} (hr : Room k A) : A.units + 1 < cLine := Nat.lt_of_le_of_lt (Nat.add_le_add_left (by decide : 1 ≤ 64) _) hr.units
section
variable {X : Cx}
theorem pv (i : Nat) {x : Str} {pos : Pos} (hN : X.N[i]? = some x := by rfl) (hv : Vis X.env.scope x := by first | exact Or.inl rfl | exact Or.inr (Or.inl rfl) | exact Or.inr (Or.inr rfl)) (hd : (x == ("__debug__" : Str)) = false := by decide)
  (hcd : (x == ("__classdict__" : Str)) = false := by decide) : PE X (.Name x pos) (tVar i) := pe_var hN hv hd hcd
theorem call_lenD : CallR X (.builtin "len") (fun xs H Q => ∃ a kvs, xs = [V.ref a] ∧ H a = some (.dK kvs) ∧ Q (.int kvs.length) H) := by
 intro pins s σ H xs us Q I r h
 obtain ⟨a, kvs, rfl, ha, q⟩ := h
 obtain ⟨u, rfl, ru⟩ := vals1 r
 cases ru
 exact d_len I (.inl ha) fun t s' I' => ⟨.int kvs.length, H, I', ⟨t, rfl⟩, q⟩
end
theorem iteF {A B : Prop} (h : B) : if false = true then A else B := by
 rw [if_neg Bool.false_ne_true]
 exact h
theorem iteT {A B : Prop} (h : A) : if true = true then A else B := by
 rw [if_pos rfl]
 exact h
theorem ite2 {c A B : Prop} [Decidable c] (h1 : c → A) (h2 : ¬ c → B) : if c then A else B := by
 by_cases h : c
 ·rw [if_pos h]
  exact h1 h
 ·rw [if_neg h]
  exact h2 h
def Same (H H' : Hp) : Prop := ∀ b o, H b = some o → H' b = some o
theorem Same.refl (H : Hp) : Same H H := fun _ _ h => h
theorem Same.trans {H H1 H2 : Hp} (a : Same H H1) (b : Same H1 H2) : Same H H2 := fun c o h => b c o (a c o h)
theorem Same.free {H H' : Hp} (e : Same H H') {l : Addr} (h : H' l = Option.none) : H l = Option.none := by
 cases q : H l with
 | none => rfl
 | some o =>
  rw [e l o q] at h
  cases h
theorem Same.seq {K : PySem.W.Frag} {H H' : Hp} {a : Addr} {xs : List V} (e : Same H H') (h : SqL K H a xs) : SqL K H' a xs := by
 rcases h with (h | ⟨o, h⟩) | h
 ·exact .inl (.inl (e _ _ h))
 ·exact .inl (.inr ⟨o, e _ _ h⟩)
 ·exact .inr h
section
variable {κ : Type} [DecidableEq κ]
theorem valV_not {kvs : List (κ × V)} {k : κ} (h : valV kvs k = none) : ¬ k ∈ kvs.map (·.1) := by
 intro m
 obtain ⟨p, hp, e⟩ := List.mem_map.mp m
 have q : (kvs.any fun kv => decide (kv.1 = k)) = true := List.any_eq_true.mpr ⟨p, hp, decide_eq_true e⟩
 rw [valV_any, h] at q
 exact absurd q (by simp)
theorem valV_in {kvs : List (κ × V)} {k : κ} {v : V} (h : valV kvs k = some v) : k ∈ kvs.map (·.1) := by
 have q : (kvs.any fun kv => decide (kv.1 = k)) = true := by
  rw [valV_any, h]
  all_goals rfl
 obtain ⟨p, hp, e⟩ := List.any_eq_true.mp q
 exact List.mem_map.mpr ⟨p, hp, of_decide_eq_true e⟩
theorem nd_snoc : ∀ {l : List κ} {k : κ}, l.Nodup → ¬ k ∈ l → (l ++ [k]).Nodup
 | [], k, _, _ => by simp
 | a :: r, k, h, hk => by
  obtain ⟨h1, h2⟩ := List.nodup_cons.mp h
  show (a :: (r ++ [k])).Nodup
  refine List.nodup_cons.mpr ⟨fun m => ?_, nd_snoc h2 fun m => hk (List.mem_cons.mpr (Or.inr m))⟩
  rcases List.mem_append.mp m with q | q
  ·exact h1 q
  ·exact hk (List.mem_cons.mpr (Or.inl (List.mem_singleton.mp q).symm))
end
theorem at_of {xs : List V} {z : Int} {j : Nat} {v : V} (e : z = (j : Int)) (h : xs[j]? = some v) : atI xs z = some v := by
 rw [e]
 exact atI_nat h
theorem nd_ix {α : Type} {l : List α} (hN : l.Nodup) {i j : Nat} {x : α} (a : l[i]? = some x) (b : l[j]? = some x) : i = j := by
 obtain ⟨h1, e1⟩ := List.getElem?_eq_some_iff.mp a
 obtain ⟨h2, e2⟩ := List.getElem?_eq_some_iff.mp b
 exact (List.getElem_inj hN).mp (e1.trans e2.symm)
end L2
end
section
section
namespace L2
open PySem PySem.Spec PyProof.Rows
open PySem.W (WData Codec OpenSpec Well WellAll ReadsW ReadsAllW)
mutual
inductive Dw (K : PySem.W.Frag) (H : Hp) : V → WData → Prop
 | non : Dw K H .non .none
 | bl (b : Bool) : Dw K H (.bl b) (.bool b)
 | int (i : Int) : Dw K H (.int i) (.int i)
 | str (x : Str) : Dw K H (.str x) (.str x)
 | byt (b : Array UInt8) : Dw K H (.byt b) (.bytes b.toList)
 | lst {a : Addr} {xs : List V} {ds : List WData} : SqL K H a xs → DwAll K H xs ds → Dw K H (.ref a) (.list ds)
 | tup {a : Addr} {xs : List V} {ds : List WData} : SqT K H a xs → DwAll K H xs ds → Dw K H (.ref a) (.tuple ds)
inductive DwAll (K : PySem.W.Frag) (H : Hp) : List V → List WData → Prop
 | nil : DwAll K H [] []
 | cons {v : V} {vs : List V} {d : WData} {ds : List WData} : Dw K H v d → DwAll K H vs ds → DwAll K H (v :: vs) (d :: ds)
end
theorem dw_ints {K : PySem.W.Frag} {H : Hp} : ∀ ns : List Int, DwAll K H (ns.map V.int) (ns.map WData.int)
 | [] => .nil
 | n :: r => .cons (.int n) (dw_ints r)
theorem ints_dw {K : PySem.W.Frag} {H : Hp} : ∀ (ns : List Int) (xs : List V), DwAll K H xs (ns.map WData.int) → xs = ns.map V.int
 | [], xs, h => by
  cases h
  rfl
 | n :: r, xs, h => by
  cases h with
  | cons h1 h2 =>
   cases h1
   rw [ints_dw r _ h2] <;> rfl
section
variable {P : Program} {w : World} {K : PySem.W.Frag} {H : Hp} {h : Heap} {R : PySem.W.WRecords} {cl : Str → Option Addr}
theorem sqL_at {a : Addr} {xs : List V} (hok : HOk P w H h) (KX : K.In h) (q : SqL K H a xs) : ∃ (its : List Value) (o : Obj) (n : Nat), Vals xs its ∧ h.get? a = some o ∧ o.cls = .type "list" ∧ o.data = .seq its.toArray n := by
 rcases q with q | ⟨o, its, n, e, hc, _, hd, _, hv⟩
 ·obtain ⟨_, its, n, hv, e⟩ := (show ObjOk P w H h a (.lst xs) from q.ok hok)
  exact ⟨its, _, n, hv, e, rfl, rfl⟩
 ·exact ⟨its.toList, o, n, hv, KX _ _ e, hc, by simp [hd]⟩
theorem sqT_at {a : Addr} {xs : List V} (hok : HOk P w H h) (KX : K.In h) (q : SqT K H a xs) : ∃ (its : List Value) (o : Obj) (n : Nat), Vals xs its ∧ h.get? a = some o ∧ o.cls = .type "tuple" ∧ o.data = .seq its.toArray n := by
 rcases q with q | ⟨o, its, n, e, hc, hd, _, hv⟩
 ·obtain ⟨_, its, hv, o, e, hc, n, hd⟩ := (show ObjOk P w H h a (.tup xs) from q.ok hok)
  exact ⟨its, o, n, hv, e, hc, hd⟩
 ·exact ⟨its.toList, o, n, hv, KX _ _ e, hc, by simp [hd]⟩
mutual
theorem Dw.reads (hok : HOk P w H h) (KX : K.In h) : ∀ (d : WData) (v : V) (u : Value), Dw K H v d → RelV v u → ∃ as, ReadsW R cl h u d as
 | .none, _, _, x, r => by
  cases x
  cases r
  exact ⟨_, ReadsW.none⟩
 | .bool b, _, _, x, r => by
  cases x
  cases r
  exact ⟨_, ReadsW.bool b⟩
 | .int i, _, _, x, r => by
  cases x
  obtain ⟨t, rfl⟩ := r
  exact ⟨_, ReadsW.int i t⟩
 | .str s, _, _, x, r => by
  cases x
  obtain ⟨t, rfl⟩ := r
  exact ⟨_, ReadsW.str s t⟩
 | .bytes b, _, _, x, r => by
  cases x
  obtain ⟨t, rfl⟩ := r
  exact ⟨_, ReadsW.bytes _ t⟩
 | .list ds, _, _, x, r => by
  cases x with
  | lst hs ha =>
   cases r
   obtain ⟨its, o, n, rv, ho, hc, hd⟩ := sqL_at hok KX hs
   obtain ⟨as, hr⟩ := Dw.readsAll hok KX ds _ its ha rv
   exact ⟨_, ReadsW.list ho hc hd hr⟩
 | .tuple ds, _, _, x, r => by
  cases x with
  | tup hs ha =>
   cases r
   obtain ⟨its, o, n, rv, ho, hc, hd⟩ := sqT_at hok KX hs
   obtain ⟨as, hr⟩ := Dw.readsAll hok KX ds _ its ha rv
   exact ⟨_, ReadsW.tuple ho hc hd hr⟩
 | .float _, _, _, x, _ => by cases x
 | .dict _, _, _, x, _ => by cases x
 | .bytearray _, _, _, x, _ => by cases x
 | .set _, _, _, x, _ => by cases x
 | .frozenset _, _, _, x, _ => by cases x
 | .obj _ _, _, _, x, _ => by cases x
theorem Dw.readsAll (hok : HOk P w H h) (KX : K.In h) : ∀ (ds : List WData) (vs : List V) (us : List Value), DwAll K H vs ds → Vals vs us → ∃ as, ReadsAllW R cl h us ds as
 | [], _, _, x, r => by
  cases x
  cases r
  exact ⟨_, ReadsAllW.nil⟩
 | d :: ds, _, _, x, r => by
  cases x with
  | cons h1 h2 =>
   cases r with
   | cons r1 r2 =>
    obtain ⟨as, q1⟩ := Dw.reads hok KX d _ _ h1 r1
    obtain ⟨bs, q2⟩ := Dw.readsAll hok KX ds _ _ h2 r2
    exact ⟨_, ReadsAllW.cons q1 q2⟩
end
end
mutual
def plW : WData → Bool
 | .none => true
 | .bool _ => true
 | .int _ => true
 | .str _ => true
 | .bytes _ => true
 | .list xs => plWs xs
 | .tuple xs => plWs xs
 | _ => false
def plWs : List WData → Bool
 | [] => true
 | x :: r => plW x && plWs r
end
theorem plWs_map {α : Type} {f : α → WData} (h : ∀ a, plW (f a) = true) : ∀ l : List α, plWs (l.map f) = true
 | [] => rfl
 | x :: r => by
  show (plW (f x) && plWs (r.map f)) = true
  rw [h x, plWs_map h r] <;> rfl
theorem pl_enc : ∀ (c : Codec) (a : c.denote), plW (c.enc a) = true
 | .unit, _ => rfl
 | .bool, _ => rfl
 | .int _ _, _ => rfl
 | .nat _ _, _ => rfl
 | .u8, _ => rfl
 | .bytes _ _, _ => rfl
 | .text _ _ _ _, _ => rfl
 | .list _ _ c, a => plWs_map (fun x => pl_enc c x) a
 | .pair c d, a => by
  show (plW (c.enc a.1) && (plW (d.enc a.2) && true)) = true
  rw [pl_enc c a.1, pl_enc d a.2] <;> rfl
 | .triple c d e, a => by
  show (plW (c.enc a.1) && (plW (d.enc a.2.1) && (plW (e.enc a.2.2) && true))) = true
  rw [pl_enc c a.1, pl_enc d a.2.1, pl_enc e a.2.2] <;> rfl
 | .option c, none => rfl
 | .option c, some x => pl_enc c x
theorem pl_encAll : ∀ (cs : List Codec) (a : Codec.denoteAll cs), plWs (Codec.encAll cs a) = true
 | [], _ => rfl
 | c :: cs, a => by
  show (plW (c.enc a.1) && plWs (Codec.encAll cs a.2)) = true
  rw [pl_enc c a.1, pl_encAll cs a.2] <;> rfl
theorem weight_mem : ∀ {xs : List WData} {d : WData}, d ∈ xs → d.weight ≤ WData.weightAll xs
 | [], d, h => absurd h (by simp)
 | x :: r, d, h => by
  show d.weight ≤ x.weight + 1 + WData.weightAll r
  rcases List.mem_cons.mp h with e | m
  ·rw [e]
   omega
  ·have z := weight_mem m
   omega
def toV : Value → V
 | .none => .non
 | .bool b => .bl b
 | .int i _ => .int i
 | .str x _ => .str x
 | .bytes b _ => .byt b
 | .ref a => .ref a
 | _ => .non
def OkU (A : List Addr) : Value → Prop
 | .none => True
 | .bool _ => True
 | .int _ _ => True
 | .str _ _ => True
 | .bytes _ _ => True
 | .ref a => a ∈ A
 | _ => False
theorem OkU.mono {A B : List Addr} (h : ∀ a ∈ A, a ∈ B) : ∀ {u : Value}, OkU A u → OkU B u := fun {u} x => by
 cases u with
 | ref a => exact h a x
 | none => trivial
 | bool b => trivial
 | int i t => trivial
 | str s t => trivial
 | bytes b t => trivial
 | _ => exact False.elim x
theorem relV_toV {A : List Addr} {u : Value} (x : OkU A u) : RelV (toV u) u := by
 cases u with
 | ref a => rfl
 | none => rfl
 | bool b => rfl
 | int i t => exact ⟨t, rfl⟩
 | str s t => exact ⟨t, rfl⟩
 | bytes b t => exact ⟨t, rfl⟩
 | _ => exact False.elim x
theorem vals_toV {A : List Addr} : ∀ {vs : List Value}, (∀ u ∈ vs, OkU A u) → Vals (vs.map toV) vs
 | [], _ => .nil
 | u :: r, h => .cons (relV_toV (h u (List.mem_cons_self ..))) (vals_toV fun x hx => h x (List.mem_cons_of_mem _ hx))
def ArgOb (h : Heap) (A : List Addr) (a : Addr) : Prop := ∃ vs : List Value, vs.length ≤ sizeLine ∧ (∀ u ∈ vs, OkU A u) ∧
 (h.get? a = some { cls := .type "list", data := .seq vs.toArray } ∨ h.get? a = some { cls := .type "tuple", data := .seq vs.toArray })
theorem ArgOb.mono {h : Heap} {A B : List Addr} {a : Addr} (k : ∀ a ∈ A, a ∈ B) (x : ArgOb h A a) : ArgOb h B a := by
 obtain ⟨vs, h1, h2, h3⟩ := x
 exact ⟨vs, h1, fun u hu => (h2 u hu).mono k, h3⟩
theorem wellAll_len {P : Params} {h : Heap} : ∀ {vs : List Value} {ds : List WData}, WellAll P h vs ds → vs.length = ds.length
 | _, _, .nil => rfl
 | _, _, .cons _ b => by
  show _ + 1 = _ + 1
  rw [wellAll_len b]
theorem well_list {P : Params} {h : Heap} {v : Value} {ds : List WData} (x : Well P h v (.list ds)) : ∃ (a : Addr) (vs : List Value), v = .ref a ∧ h.get? a = some { cls := .type "list", data := .seq vs.toArray } ∧ WellAll P h vs ds := by
 cases x with
 | list ho hall => exact ⟨_, _, rfl, ho, hall⟩
theorem well_tuple {P : Params} {h : Heap} {v : Value} {ds : List WData} (x : Well P h v (.tuple ds)) : ∃ (a : Addr) (vs : List Value), v = .ref a ∧ h.get? a = some { cls := .type "tuple", data := .seq vs.toArray } ∧ WellAll P h vs ds := by
 cases x with
 | tuple ho hall => exact ⟨_, _, rfl, ho, hall⟩
theorem well_cons {P : Params} {h : Heap} {us : List Value} {d : WData} {ds : List WData} (x : WellAll P h us (d :: ds)) : ∃ (v : Value) (vs : List Value), us = v :: vs ∧ Well P h v d ∧ WellAll P h vs ds := by
 cases x with
 | cons a b => exact ⟨_, _, rfl, a, b⟩
theorem line_of {n : Nat} (h : n ≤ 1048576) : n ≤ sizeLine := Nat.le_trans h (by decide)
section
variable {P : Params} {h : Heap}
mutual
theorem area_one : ∀ (d : WData) (v : Value), Well P h v d → plW d = true → d.weight ≤ 1048576 → ∃ A : List Addr, OkU A v ∧ ∀ a ∈ A, ArgOb h A a
 | .none, _, x, _, _ => by
  cases x
  exact ⟨[], trivial, fun a m => absurd m (by simp)⟩
 | .bool b, _, x, _, _ => by
  cases x
  exact ⟨[], trivial, fun a m => absurd m (by simp)⟩
 | .int i, _, x, _, _ => by
  cases x
  exact ⟨[], trivial, fun a m => absurd m (by simp)⟩
 | .str s, _, x, _, _ => by
  cases x
  exact ⟨[], trivial, fun a m => absurd m (by simp)⟩
 | .bytes b, _, x, _, _ => by
  cases x
  exact ⟨[], trivial, fun a m => absurd m (by simp)⟩
 | .list ds, _, x, p, z => by
  obtain ⟨a, vs, rfl, ho, hall⟩ := well_list x
  have z2 : WData.weightAll ds ≤ 1048576 := z
  obtain ⟨A, h1, h2⟩ := area_all ds _ hall p fun d hd => Nat.le_trans (weight_mem hd) z2
  have k : ∀ b ∈ A, b ∈ a :: A := fun b hb => List.mem_cons_of_mem _ hb
  refine ⟨a :: A, List.mem_cons_self .., fun b hb => ?_⟩
  rcases List.mem_cons.mp hb with e | m
  ·rw [e]
   exact ⟨vs, line_of (by rw [wellAll_len hall]; exact Nat.le_trans (PySem.W.length_le_weightAllW ds) z2), fun u hu => (h1 u hu).mono k, .inl ho⟩
  ·exact (h2 b m).mono k
 | .tuple ds, _, x, p, z => by
  obtain ⟨a, vs, rfl, ho, hall⟩ := well_tuple x
  have z2 : WData.weightAll ds ≤ 1048576 := z
  obtain ⟨A, h1, h2⟩ := area_all ds _ hall p fun d hd => Nat.le_trans (weight_mem hd) z2
  have k : ∀ b ∈ A, b ∈ a :: A := fun b hb => List.mem_cons_of_mem _ hb
  refine ⟨a :: A, List.mem_cons_self .., fun b hb => ?_⟩
  rcases List.mem_cons.mp hb with e | m
  ·rw [e]
   exact ⟨vs, line_of (by rw [wellAll_len hall]; exact Nat.le_trans (PySem.W.length_le_weightAllW ds) z2), fun u hu => (h1 u hu).mono k, .inr ho⟩
  ·exact (h2 b m).mono k
 | .float _, _, _, p, _ => Bool.noConfusion (show false = true from p)
 | .dict _, _, _, p, _ => Bool.noConfusion (show false = true from p)
 | .bytearray _, _, _, p, _ => Bool.noConfusion (show false = true from p)
 | .set _, _, _, p, _ => Bool.noConfusion (show false = true from p)
 | .frozenset _, _, _, p, _ => Bool.noConfusion (show false = true from p)
 | .obj _ _, _, _, p, _ => Bool.noConfusion (show false = true from p)
theorem area_all : ∀ (ds : List WData) (vs : List Value), WellAll P h vs ds → plWs ds = true → (∀ d ∈ ds, d.weight ≤ 1048576) → ∃ A : List Addr, (∀ u ∈ vs, OkU A u) ∧ ∀ a ∈ A, ArgOb h A a
 | [], _, x, _, _ => by
  cases x
  exact ⟨[], fun u m => absurd m (by simp), fun a m => absurd m (by simp)⟩
 | d :: ds, _, x, p, z => by
  obtain ⟨v, vs, rfl, x1, x2⟩ := well_cons x
  have q : plW d = true ∧ plWs ds = true := Bool.and_eq_true_iff.mp p
  obtain ⟨A, a1, a2⟩ := area_one d v x1 q.1 (z d (List.mem_cons_self ..))
  obtain ⟨B, b1, b2⟩ := area_all ds vs x2 q.2 fun e he => z e (List.mem_cons_of_mem _ he)
  have kA : ∀ b ∈ A, b ∈ A ++ B := fun b hb => List.mem_append.mpr (.inl hb)
  have kB : ∀ b ∈ B, b ∈ A ++ B := fun b hb => List.mem_append.mpr (.inr hb)
  refine ⟨A ++ B, fun u hu => ?_, fun b hb => ?_⟩
  ·rcases List.mem_cons.mp hu with e | m
   ·rw [e]
    exact a1.mono kA
   ·exact (b1 u m).mono kB
  ·rcases List.mem_append.mp hb with m | m
   ·exact (a2 b m).mono kA
   ·exact (b2 b m).mono kB
end
end
def hoOf (o : Obj) : Option HO := match o.data with
 | .seq vs _ => if (o.cls == Value.type "list") = true then some (.frz o (.lst (vs.toList.map toV))) else some (.frz o (.tup (vs.toList.map toV)))
 | _ => none
def argH (K : PySem.W.Frag) (h : Heap) (A : List Addr) : Hp := fun b => if b ∈ A then (if (K.lookup b).isNone = true then (h.get? b).bind hoOf else none) else none
def OnlyF (H : Hp) : Prop := ∀ b, H b = none ∨ ∃ o u, H b = some (.frz o u)
theorem hoOf_lst (vs : List Value) : hoOf { cls := .type "list", data := .seq vs.toArray } = some (.frz { cls := .type "list", data := .seq vs.toArray } (.lst (vs.map toV))) := by
 show (if (Value.type "list" == Value.type "list") = true then some (HO.frz { cls := .type "list", data := .seq vs.toArray } (.lst (vs.toArray.toList.map toV))) else some (HO.frz { cls := .type "list", data := .seq vs.toArray } (.tup (vs.toArray.toList.map toV)))) = _
 rw [if_pos (beq_self_eq_true _)]
theorem hoOf_tup (vs : List Value) : hoOf { cls := .type "tuple", data := .seq vs.toArray } = some (.frz { cls := .type "tuple", data := .seq vs.toArray } (.tup (vs.map toV))) := by
 show (if (Value.type "tuple" == Value.type "list") = true then some (HO.frz { cls := .type "tuple", data := .seq vs.toArray } (.lst (vs.toArray.toList.map toV))) else some (HO.frz { cls := .type "tuple", data := .seq vs.toArray } (.tup (vs.toArray.toList.map toV)))) = _
 rw [if_neg (by decide)]
section
variable {P : Program} {w : World} {K : PySem.W.Frag} {h : Heap} {A : List Addr}
theorem argH_at {b : Addr} {o : Obj} (hb : b ∈ A) (hk : K.lookup b = none) (e : h.get? b = some o) : argH K h A b = hoOf o := by
 unfold argH
 rw [if_pos hb, hk, if_pos (show (none : Option Obj).isNone = true from rfl), e] <;> rfl
theorem of_argH {b : Addr} {u : HO} (q : argH K h A b = some u) : b ∈ A ∧ K.lookup b = none := by
 unfold argH at q
 by_cases hb : b ∈ A
 ·rw [if_pos hb] at q
  cases hk : K.lookup b with
  | none => exact ⟨hb, rfl⟩
  | some o =>
   rw [hk, if_neg (by simp)] at q
   cases q
 ·rw [if_neg hb] at q
  cases q
theorem argH_is (ar : ∀ a ∈ A, ArgOb h A a) {b : Addr} {u : HO} (q : argH K h A b = some u) : K.lookup b = none ∧ ∃ vs : List Value, vs.length ≤ sizeLine ∧ (∀ u ∈ vs, OkU A u) ∧
  ((h.get? b = some { cls := .type "list", data := .seq vs.toArray } ∧ u = .frz { cls := .type "list", data := .seq vs.toArray } (.lst (vs.map toV))) ∨
  (h.get? b = some { cls := .type "tuple", data := .seq vs.toArray } ∧ u = .frz { cls := .type "tuple", data := .seq vs.toArray } (.tup (vs.map toV)))) := by
 obtain ⟨hb, hk⟩ := of_argH q
 obtain ⟨vs, h1, h2, h3⟩ := ar b hb
 refine ⟨hk, vs, h1, h2, ?_⟩
 rcases h3 with e | e
 ·rw [argH_at hb hk e, hoOf_lst] at q
  exact .inl ⟨e, (Option.some.inj q).symm⟩
 ·rw [argH_at hb hk e, hoOf_tup] at q
  exact .inr ⟨e, (Option.some.inj q).symm⟩
theorem argH_only (ar : ∀ a ∈ A, ArgOb h A a) : OnlyF (argH K h A) := fun b => by
 cases q : argH K h A b with
 | none => exact .inl rfl
 | some u =>
  obtain ⟨_, vs, _, _, ⟨_, e⟩ | ⟨_, e⟩⟩ := argH_is ar q
  ·exact .inr ⟨_, _, by rw [e]⟩
  ·exact .inr ⟨_, _, by rw [e]⟩
theorem argH_ok (ar : ∀ a ∈ A, ArgOb h A a) : HOk P w (argH K h A) h := fun b u q => by
 obtain ⟨_, vs, h1, h2, ⟨e, rfl⟩ | ⟨e, rfl⟩⟩ := argH_is ar q
 ·exact ⟨e, by rw [List.length_map]; exact h1, vs, _, vals_toV h2, e⟩
 ·exact ⟨e, by rw [List.length_map]; exact h1, vs, vals_toV h2, _, e, rfl, _, rfl⟩
theorem seq_inj {c c' : Value} {vs us : List Value} (e : (some { cls := c, data := .seq vs.toArray } : Option Obj) = some { cls := c', data := .seq us.toArray }) : c = c' ∧ vs = us := by
 have e1 := Option.some.inj e
 have e2 : c = c' := congrArg Obj.cls e1
 have e3 : Data.seq vs.toArray = Data.seq us.toArray := congrArg Obj.data e1
 injection e3 with e4
 refine ⟨e2, ?_⟩
 have e5 := congrArg Array.toList e4
 simpa using e5
theorem argL (KX : K.In h) (ar : ∀ a ∈ A, ArgOb h A a) {a : Addr} {vs : List Value} (ha : a ∈ A) (e : h.get? a = some { cls := .type "list", data := .seq vs.toArray }) : (∀ u ∈ vs, OkU A u) ∧ SqL K (argH K h A) a (vs.map toV) := by
 obtain ⟨us, h1, h2, h3⟩ := ar a ha
 have hu : us = vs := by
  rcases h3 with q | q
  ·rw [e] at q
   exact (seq_inj q).2.symm
  ·rw [e] at q
   exact absurd (Value.type.inj (seq_inj q).1) (by decide)
 subst hu
 refine ⟨h2, ?_⟩
 cases hk : K.lookup a with
 | none => exact .inl (.inr ⟨_, by rw [argH_at ha hk e, hoOf_lst]⟩)
 | some o =>
  have e2 := KX a o hk
  rw [e] at e2
  obtain rfl := Option.some.inj e2
  exact .inr ⟨_, us.toArray, _, hk, rfl, rfl, rfl, by rw [List.size_toArray]; exact h1, by simpa using vals_toV h2⟩
theorem argT (KX : K.In h) (ar : ∀ a ∈ A, ArgOb h A a) {a : Addr} {vs : List Value} (ha : a ∈ A) (e : h.get? a = some { cls := .type "tuple", data := .seq vs.toArray }) : (∀ u ∈ vs, OkU A u) ∧ SqT K (argH K h A) a (vs.map toV) := by
 obtain ⟨us, h1, h2, h3⟩ := ar a ha
 have hu : us = vs := by
  rcases h3 with q | q
  ·rw [e] at q
   exact absurd (Value.type.inj (seq_inj q).1) (by decide)
  ·rw [e] at q
   exact (seq_inj q).2.symm
 subst hu
 refine ⟨h2, ?_⟩
 cases hk : K.lookup a with
 | none => exact .inl (.inr ⟨_, by rw [argH_at ha hk e, hoOf_tup]⟩)
 | some o =>
  have e2 := KX a o hk
  rw [e] at e2
  obtain rfl := Option.some.inj e2
  exact .inr ⟨_, us.toArray, _, hk, rfl, rfl, by rw [List.size_toArray]; exact h1, by simpa using vals_toV h2⟩
mutual
theorem dw_one {Pm : Params} (KX : K.In h) (ar : ∀ a ∈ A, ArgOb h A a) : ∀ (d : WData) (v : Value), Well Pm h v d → plW d = true → OkU A v → Dw K (argH K h A) (toV v) d
 | .none, _, x, _, _ => by
  cases x
  exact .non
 | .bool b, _, x, _, _ => by
  cases x
  exact .bl b
 | .int i, _, x, _, _ => by
  cases x
  exact .int i
 | .str s, _, x, _, _ => by
  cases x
  exact .str s
 | .bytes b, _, x, _, _ => by
  cases x
  have z := Dw.byt (K := K) (H := argH K h A) b.toArray
  exact z
 | .list ds, _, x, p, hu => by
  obtain ⟨a, vs, rfl, ho, hall⟩ := well_list x
  obtain ⟨h2, hs⟩ := argL KX ar hu ho
  exact .lst hs (dw_all KX ar ds _ hall p h2)
 | .tuple ds, _, x, p, hu => by
  obtain ⟨a, vs, rfl, ho, hall⟩ := well_tuple x
  obtain ⟨h2, hs⟩ := argT KX ar hu ho
  exact .tup hs (dw_all KX ar ds _ hall p h2)
 | .float _, _, _, p, _ => Bool.noConfusion (show false = true from p)
 | .dict _, _, _, p, _ => Bool.noConfusion (show false = true from p)
 | .bytearray _, _, _, p, _ => Bool.noConfusion (show false = true from p)
 | .set _, _, _, p, _ => Bool.noConfusion (show false = true from p)
 | .frozenset _, _, _, p, _ => Bool.noConfusion (show false = true from p)
 | .obj _ _, _, _, p, _ => Bool.noConfusion (show false = true from p)
theorem dw_all {Pm : Params} (KX : K.In h) (ar : ∀ a ∈ A, ArgOb h A a) : ∀ (ds : List WData) (vs : List Value), WellAll Pm h vs ds → plWs ds = true → (∀ u ∈ vs, OkU A u) → DwAll K (argH K h A) (vs.map toV) ds
 | [], _, x, _, _ => by
  cases x
  exact .nil
 | d :: ds, _, x, p, hu => by
  obtain ⟨v, vs, rfl, x1, x2⟩ := well_cons x
  have q : plW d = true ∧ plWs ds = true := Bool.and_eq_true_iff.mp p
  exact .cons (dw_one KX ar d v x1 q.1 (hu _ (List.mem_cons_self ..))) (dw_all KX ar ds vs x2 q.2 fun u m => hu u (List.mem_cons_of_mem _ m))
end
end
theorem spec_call {P : Program} {w : World} {K : PySem.W.Frag} {mg mb : Str → Option Value} {CX : CXT} {k : Nat} {fa : Addr} {fd : FuncData} {ps : List Str} {sp : Sp} {s₁ : Shared} {vals : List Value} {ds : List WData} {R : PySem.W.WRecords} {cl : Str → Option Addr} {d0 : WData}
  (KX : K.In s₁.heap) (hns : s₁.heap.Ns mainGlobals mg) (hb : s₁.heap.Ns builtinsNs mb) (hbb : ∀ x : Str, x ≠ "__name__" → mb x = bootBuiltins x) (hlim : s₁.heap.NoLimit) (hg : s₁.gens = #[])
  (hwl : WellAll w.params s₁.heap vals ds) (hpl : plWs ds = true) (hwt : ∀ d ∈ ds, d.weight ≤ 1048576) (hr : Room k callerA)
  (F : ∀ base : Heap, K.In base → base.Ns mainGlobals mg → FnOk P w K mg base CX k fa fd ps sp) (hbind : ∀ (s : Shared) (us : List Value), us.length = ps.length → BindsTo s fd ⟨us, []⟩ (ps.zip us)) (hlen : ds.length = ps.length)
  (hsp : ∀ (H : Hp) (xs : List V), OnlyF H → DwAll K H xs ds → sp xs H (fun v H' => Dw K H' v d0) fun _ _ _ => False)
  (hCX : ∀ H e s', CX [] H s₁ (fun _ _ _ => False) e s' → False) :
  codeAny (model P w) callerA (.call (.ref fa) ⟨vals, []⟩) (fun r s' => ∃ u as, r = .ok (.ret u) ∧ ReadsW R cl s'.heap u d0 as ∧ OldK s₁.heap s'.heap ∧ s'.os = s₁.os ∧ AllBare s'.gens) s₁ := by
 obtain ⟨A, ho, ar⟩ := area_all ds vals hwl hpl hwt
 have hO : OnlyF (argH K s₁.heap A) := argH_only ar
 have hok : HOk P w (argH K s₁.heap A) s₁.heap := argH_ok ar
 have hS := dw_all KX ar ds vals hwl hpl ho
 have hV := vals_toV ho
 have hK : ∀ b u, argH K s₁.heap A b = some u → K.lookup b = none := fun b u q => (argH_is ar q).1
 have noA : ∀ {b : Addr} {o : Obj} {es : Array DictEntry} {ep : Nat}, s₁.heap.get? b = some o → o.data = .dict es ep → argH K s₁.heap A b = none := fun {b o es ep} e d => by
  cases q : argH K s₁.heap A b with
  | none => rfl
  | some u =>
   obtain ⟨_, vs, _, _, ⟨e2, _⟩ | ⟨e2, _⟩⟩ := argH_is ar q
   ·rw [e2] at e
    cases e
    have d' : Data.seq vs.toArray _ = Data.dict es ep := d
    cases d'
   ·rw [e2] at e
    cases e
    have d' : Data.seq vs.toArray _ = Data.dict es ep := d
    cases d'
 generalize argH K s₁.heap A = H at hO hok hS hK noA
 have base_of : ∀ {b : Addr} {o : Obj}, s₁.heap.get? b = some o → H b = none → (hidT s₁.heap H).get? b = some o := fun e n => hidT_get e n
 have nsK : ∀ {b : Addr} {m : Str → Option Value}, s₁.heap.Ns b m → (hidT s₁.heap H).Ns b m := fun {b m} ⟨o, es, ep, e, d, r⟩ => ⟨o, es, ep, base_of e (noA e d), d, r⟩
 have nK : ∀ b o, K.lookup b = some o → H b = none := fun b o e => by
  cases q : H b with
  | none => rfl
  | some u =>
   rw [hK b u q] at e
   cases e
 have hKb : K.In (hidT s₁.heap H) := fun b o e => base_of (KX b o e) (nK b o e)
 have hM : Mod K mg (hidT s₁.heap H) := ⟨hKb, nsK hns, ⟨mb, nsK hb, hbb⟩, let ⟨mc, h1, h2⟩ := hlim; ⟨mc, nsK h1, h2⟩⟩
 have e0 : Env0 P w K mg (hidT s₁.heap H) callerA [] s₁ H := ⟨rfl, hM, fun b o e => of_hidT e, Nat.le_of_eq (hidT_size _ _), trivial, fun b hb => absurd (show b ∈ ([] : List Addr) from hb) (by simp), hok, .of_eq hg⟩
 have hl : vals.length = ps.length := by rw [wellAll_len hwl]; exact hlen
 refine codeAny_mono ((F _ hKb (nsK hns)).run callerA [] s₁ H ⟨vals, []⟩ vals (vals.map toV) _ _ hr e0 (hbind s₁ vals hl) hV (hsp H _ hO hS)) fun r s' x => ?_
 cases r with
 | error e => exact (hCX H e s' x).elim
 | ok fl =>
  cases fl with
  | next => exact False.elim x
  | brk => exact False.elim x
  | cont => exact False.elim x
  | ret u =>
   obtain ⟨v, H', os, bare, un, hok', r', q⟩ := x
   have kept : ∀ b o, s₁.heap.get? b = some o → s'.heap.get? b = some o := fun b o e => by
    cases q2 : H b with
    | none => exact un.keep b o e q2 (by intro z; exact absurd (show b ∈ ([] : List Addr) from z) (by simp)) (by simp)
    | some u2 =>
     rcases hO b with z | ⟨ob, u3, z⟩
     ·rw [q2] at z
      cases z
     ·have z2 := un.frzs b ob _ z
      obtain ⟨e1, _⟩ := hok b _ z
      obtain ⟨e2, _⟩ := hok' b _ z2
      rw [e] at e1
      cases e1
      exact e2
   have KX' : K.In s'.heap := fun b o e => kept b o (KX b o e)
   obtain ⟨as, hrd⟩ := Dw.reads (R := R) (cl := cl) hok' KX' d0 v u q r'
   exact ⟨u, as, rfl, hrd, OldK.of_keep kept, os, bare⟩
theorem layable_weight {ds : List WData} (h : WData.layableAll ds = true) : ∀ d ∈ ds, d.weight ≤ 1048576 := fun d hd =>
 (PySem.W.layableW_iff.mp (List.all_eq_true.mp h d hd)).2.2
theorem encAll_len : ∀ (cs : List Codec) (a : Codec.denoteAll cs), (Codec.encAll cs a).length = cs.length
 | [], _ => rfl
 | c :: cs, a => by
  show (Codec.encAll cs a.2).length + 1 = cs.length + 1
  rw [encAll_len cs a.2]
theorem walk_spec {r : OpenSpec} {k : Nat} {q : Program} {loose : List Str} {XP : (Str → Option Value) → Heap → Prop} {YP : World → Heap → Prop} {d : DefRec} {K : Params → PySem.W.Frag} {CX : World → CXT} {ps : List Str} {sp : World → Sp}
  (hwell : r.wellSaid = true) (hdf : d.params.defaults = []) (hlen : r.args.length = ps.length) (hr : Room k callerA)
  (hY : ∀ (w : World) (h : Heap), YP w h → (K w.params).In h)
  (F : ∀ (w : World) (mg : Str → Option Value) (fa : Addr) (h : Heap), YP w h → (K w.params).In h → h.Ns mainGlobals mg → mg d.name = some (.ref fa) →
   ∃ fd : FuncData, (∀ (s : Shared) (us : List Value), us.length = ps.length → BindsTo s fd ⟨us, []⟩ (ps.zip us)) ∧
    ∀ base : Heap, (K w.params).In base → base.Ns mainGlobals mg → FnOk r.prog w (K w.params) mg base (CX w) k fa fd ps (sp w))
  (hsp : ∀ (w : World) (H : Hp) (xs : List V) (a : Codec.denoteAll r.args), OnlyF H → Codec.withinAll r.args a = true → Codec.app r.args r.asked a = true → DwAll (K w.params) H xs (Codec.encAll r.args a) →
   sp w xs H (fun v H' => Dw (K w.params) H' v (r.ret.enc (Codec.app r.args r.f a))) fun _ _ _ => False)
  (hCX : ∀ (w : World) (H : Hp) (s : Shared) (e : Value) (s' : Shared), CX w [] H s (fun _ _ _ => False) e s' → False) :
  PySem.W.WalkOS q loose XP YP r d [] (fun f vs => PySem.call f vs) := by
 intro w s_0 s₁ mg mb G Y fa o pm cd doc dV kV ho hd hcd hD hmg hg args vals as hpre hlay hrd hwl hlo
 obtain ⟨a, e1, e2⟩ := PySem.W.os_pre_some hpre
 obtain ⟨e3, hwi⟩ := Codec.encAll_of_decAll r.args args a e1
 subst e3
 have KX := hY w _ Y
 obtain ⟨fd, hb, hF⟩ := F w mg fa _ Y KX G.T.g hmg
 refine PySem.W.enter_call (codeAny_mono (spec_call (R := []) (cl := classAt s_0.heap) (d0 := r.ret.enc (Codec.app r.args r.f a)) KX G.T.g G.T.b G.T.builtins G.T.nolimit hg hwl (pl_encAll _ _) (layable_weight hlay) hr hF hb (by rw [encAll_len]; exact hlen)
  (fun H xs hO hS => hsp w H xs a hO hwi e2 hS) fun H e s' => hCX w H s₁ e s') fun r' s' hq => ?_)
 obtain ⟨u, as', rfl, h1, h2, h3, h4⟩ := hq
 exact ⟨.inl ⟨u, _, as', rfl, fun _ => rfl, h1, (OpenSpec.post_iff hwell hwi _ _).mpr rfl, fun z => Bool.noConfusion (show false = true from z)⟩, h2, h3, h4⟩
theorem walk_specK {r : OpenSpec} {k : Nat} {q : Program} {loose : List Str} {XP : (Str → Option Value) → Heap → Prop} {YP : World → Heap → Prop} {d : DefRec} {K : Params → PySem.W.Frag} {CX : CXT} {ps : List Str} {sp : PySem.W.Frag → Sp}
  (hwell : r.wellSaid = true) (hdf : d.params.defaults = []) (hlen : r.args.length = ps.length) (hr : Room k callerA)
  (hY : ∀ (w : World) (h : Heap), YP w h → (K w.params).In h)
  (F : ∀ (w : World) (mg : Str → Option Value) (fa : Addr) (h : Heap), YP w h → (K w.params).In h → h.Ns mainGlobals mg → mg d.name = some (.ref fa) →
   ∃ fd : FuncData, (∀ (s : Shared) (us : List Value), us.length = ps.length → BindsTo s fd ⟨us, []⟩ (ps.zip us)) ∧
    ∀ base : Heap, (K w.params).In base → base.Ns mainGlobals mg → FnOk r.prog w (K w.params) mg base CX k fa fd ps (sp (K w.params)))
  (hsp : ∀ (K : PySem.W.Frag) (H : Hp) (xs : List V) (a : Codec.denoteAll r.args), OnlyF H → Codec.withinAll r.args a = true → Codec.app r.args r.asked a = true → DwAll K H xs (Codec.encAll r.args a) →
   sp K xs H (fun v H' => Dw K H' v (r.ret.enc (Codec.app r.args r.f a))) fun _ _ _ => False)
  (hCX : ∀ (H : Hp) (s : Shared) (e : Value) (s' : Shared), CX [] H s (fun _ _ _ => False) e s' → False) :
  PySem.W.WalkOS q loose XP YP r d [] (fun f vs => PySem.call f vs) :=
 walk_spec (K := K) (CX := fun _ => CX) (sp := fun w => sp (K w.params)) hwell hdf hlen hr hY F (fun w H xs a h1 h2 h3 h4 => hsp (K w.params) H xs a h1 h2 h3 h4) fun _ H s e s' => hCX H s e s'
end L2
end
end
section
namespace L2
open PySem PySem.Spec PyProof.Rows
def GInt (mg : Str → Option Value) (x : Str) (n : Int) : Prop := ∃ t, mg x = some (.int n t)
theorem pe_gint {X : Cx} {x : Str} {n : Int} {pos : Pos} (h : GInt X.mg x n) (hg : Gl X x) (hd : (x == ("__debug__" : Str)) = false := by decide) : PE X (.Name x pos) (tC (.int n)) := by
 obtain ⟨t, h⟩ := h
 exact pe_glob hg h ⟨t, rfl⟩ hd
theorem pe_gref {X : Cx} {x : Str} {a : Addr} {pos : Pos} (h : X.mg x = some (.ref a)) (hg : Gl X x) (hd : (x == ("__debug__" : Str)) = false := by decide) : PE X (.Name x pos) (tC (.ref a)) := pe_glob hg h rfl hd
structure Df (P : Program) (w : World) (K : PySem.W.Frag) (mg : Str → Option Value) (base : Heap) (k : Nat) (x : Str) (ps : List Str) (sp : Sp) : Prop where
 ex : ∃ (f : Addr) (fd : FuncData), FnOk P w K mg base CX0 k f fd ps sp ∧ mg x = some (.ref f) ∧ PySem.W.keepIn K (.ref f) = true ∧ Binds K fd ps []
section
variable {X : Cx} {k : Nat} {x : Str} {ps : List Str} {sp : Sp} {p pos : Pos} {e : Expr} {es : List Expr} {t : TA}
theorem pe_fn (D : Df X.prog X.w X.K X.mg X.base k x ps sp) (hr : Room k X.A) (hg : Gl X x) (ha : PA X (e :: es) t) (hdb : (x == ("__debug__" : Str)) = false := by decide)
  (he : starEach (e :: es) X.env = (false, eval e X.env) :: starEach es X.env := by rfl) (hpl : (backTo pos (starEach es X.env)).any (·.1) = false := by rfl) :
  PE X (.Call (.Name x p) (e :: es) [] pos) (tCall sp [] E0 t) := by
 obtain ⟨f, fd, F, hm, hk, hb⟩ := D.ex
 exact pe_call F hr hg hm hk hb .nil pass0 ha hdb he hpl
end
structure Mc (P : Program) (w : World) (K : PySem.W.Frag) (mg : Str → Option Value) (base : Heap) (k : Nat) (x : Str) (C : Addr) (ps : List Str) (sp : Sp) : Prop where
 ex : ∃ (f : Addr) (fd : FuncData), Mk K C f ∧ FnOk P w K mg base CX0 k f fd ps sp ∧ mg x = some (.ref C) ∧ Binds K fd ps []
theorem pe_mk {X : Cx} {k : Nat} {x : Str} {C : Addr} {ps : List Str} {sp : Sp} {p pos : Pos} {e : Expr} {es : List Expr} {t : TA} (D : Mc X.prog X.w X.K X.mg X.base k x C ps sp) (hr : Room (k + 1) X.A) (hg : Gl X x) (ha : PA X (e :: es) t)
  (hdb : (x == ("__debug__" : Str)) = false := by decide) (he : starEach (e :: es) X.env = (false, eval e X.env) :: starEach es X.env := by rfl) (hpl : (backTo pos (starEach es X.env)).any (·.1) = false := by rfl) :
  PE X (.Call (.Name x p) (e :: es) [] pos) (tMake C sp [] E0 t) := by
 obtain ⟨f, fd, M, F, hm, hb⟩ := D.ex
 exact pe_make M F hr hg hm hb .nil pass0 ha hdb he hpl
def tCallE (X : Cx) (tf : TE) (t : TA) : TE := fun σ H Q => tf σ H fun v H1 => ∃ (f : Addr) (fd : FuncData) (k : Nat) (ps : List Str) (sp : Sp), v = .ref f ∧ FnOk X.prog X.w X.K X.mg X.base CX0 k f fd ps sp ∧ Room k X.A ∧ PySem.W.keepIn X.K (.ref f) = true ∧ Binds X.K fd ps [] ∧
 t σ H1 fun vs H2 => sp (vs ++ []) H2 Q E0
theorem pe_callE {X : Cx} {fe e : Expr} {es : List Expr} {pos : Pos} {tf : TE} {t : TA} (hf : PE X fe tf) (ha : PA X (e :: es) t)
  (arm : eval (.Call fe (e :: es) [] pos) X.env = (eval fe X.env >>= fun f => callWith pos f [] (backTo pos (starEach (e :: es) X.env)) (backToKw pos (keywordEach [] X.env))) := by rfl)
  (he : starEach (e :: es) X.env = (false, eval e X.env) :: starEach es X.env := by rfl) (hpl : (backTo pos (starEach es X.env)).any (·.1) = false := by rfl) :
  PE X (.Call fe (e :: es) [] pos) (tCallE X tf t) := by
 intro pins s σ H Q I h
 rw [arm]
 refine wpAny_bind (thn (hf pins s σ H _ I h) fun u s1 ⟨v, H1, I1, rv, f, fd, k, ps, sp, ev, F, hr, hk, hb, q⟩ => ?_)
 subst ev
 obtain rfl : u = Value.ref f := rv
 refine PySem.W.callWith_K (h₀ := X.base) I1.ok.mod.kin hk (thn (ha pos pins s1 σ H1 _ I1 q) fun us s2 ⟨vs, H2, I2, r, q2⟩ => ⟨I2.kIn, ?_⟩) he hpl
 exact run_fn (ds := []) F hr hb .nil pass0 I2 r q2
def EnI (e : DictEntry) (d : Int × Value) : Prop := (∃ t, e.key = Value.int d.1 t) ∧ e.hash = hashInt d.1 ∧ e.val = d.2
def GD (K : PySem.W.Frag) (a : Addr) (ds : List (Int × Value)) : Prop :=
 (a == sysModules) = false ∧ ds.length ≤ sizeLine ∧ (ds.map (·.1)).Nodup ∧ ∃ (o : Obj) (es : Array DictEntry) (ep : Nat), K.lookup a = some o ∧ o.ExactDict ∧ o.data = .dict es ep ∧ Paired EnI es.toList ds
theorem gd_keys {P : Program} {w : World} : ∀ {es : List DictEntry} {ds : List (Int × Value)}, Paired EnI es ds → (∀ e ∈ es, ∃ k, (mixKind P w).is k e.key = true ∧ e.hash = (mixKind P w).hash k) ∧ Pairs (mixKind P w) es (ds.map fun d => (Sum.inl d.1, d.2))
 | _, _, .nil => ⟨(fun e h => absurd h List.not_mem_nil), .nil⟩
 | e :: es, d :: ds, .cons h t => by
  obtain ⟨i1, i2⟩ := gd_keys (P := P) (w := w) t
  obtain ⟨⟨tk, hk⟩, hh, hv⟩ := h
  have his : (mixKind P w).is (Sum.inl d.1) e.key = true := by rw [hk]; exact mixKind_int P w d.1 tk
  refine ⟨fun e' he' => ?_, .cons his hv i2⟩
  rcases List.mem_cons.mp he' with q | q
  ·subst q; exact ⟨Sum.inl d.1, his, hh⟩
  ·exact i1 e' q
theorem inl_nd : ∀ {l : List Int}, l.Nodup → (l.map fun k => (Sum.inl k : Key)).Nodup
 | [], _ => List.nodup_nil
 | a :: l, h => by
  obtain ⟨h1, h2⟩ := List.nodup_cons.mp h
  refine List.nodup_cons.mpr ⟨fun m => ?_, inl_nd h2⟩
  obtain ⟨b, hb, e⟩ := List.mem_map.mp m
  cases e
  exact h1 hb
theorem GD.dictOf {P : Program} {w : World} {K : PySem.W.Frag} {a : Addr} {ds : List (Int × Value)} (g : GD K a ds) {h : Heap} (k : K.In h) : h.DictOf (mixKind P w) a (ds.map fun d => (Sum.inl d.1, d.2)) := by
 obtain ⟨_, _, nd, o, es, ep, l, x, d, p⟩ := g
 obtain ⟨i1, i2⟩ := gd_keys (P := P) (w := w) p
 refine ⟨o, es, ep, k a o l, x, d, fun e he => i1 e (Array.mem_toList_iff.mpr he), i2, ?_⟩
 rw [List.map_map]
 have e1 : (ds.map ((fun kv : Key × Value => kv.1) ∘ fun d => (Sum.inl d.1, d.2))) = (ds.map (·.1)).map fun k => (Sum.inl k : Key) := by rw [List.map_map]; rfl
 rw [e1]
 exact inl_nd nd
theorem valueAt_cons {p : Key × Value} {r : List (Key × Value)} {k : Key} : valueAt (p :: r) k = if p.1 = k then some p.2 else valueAt r k := by
 unfold valueAt
 rw [List.find?_cons]
 by_cases e : p.1 = k
 ·rw [if_pos e, decide_eq_true e]; rfl
 ·rw [if_neg e, decide_eq_false e]
theorem gd_at : ∀ {ds : List (Int × Value)} {k : Int} {u : Value}, (ds.map (·.1)).Nodup → (k, u) ∈ ds → valueAt (ds.map fun d => ((Sum.inl d.1 : Key), d.2)) (Sum.inl k) = some u
 | [], _, _, _, h => by cases h
 | d :: ds, k, u, nd, h => by
  rw [List.map_cons, List.nodup_cons] at nd
  rw [List.map_cons, valueAt_cons]
  rcases List.mem_cons.mp h with e | h
  ·subst e
   exact if_pos rfl
  ·rw [if_neg (fun q => nd.1 (List.mem_map.mpr ⟨(k, u), h, (Sum.inl.inj q).symm⟩))]
   exact gd_at nd.2 h
theorem gd_has : ∀ {ds : List (Int × Value)} {k : Int}, (valueAt (ds.map fun d => ((Sum.inl d.1 : Key), d.2)) (Sum.inl k)).isSome = decide (k ∈ ds.map (·.1))
 | [], k => by simp [valueAt]
 | d :: ds, k => by
  rw [List.map_cons, valueAt_cons, List.map_cons]
  by_cases e : d.1 = k
  ·rw [if_pos (congrArg Sum.inl e), decide_eq_true (List.mem_cons.mpr (.inl e.symm))]
   rfl
  ·rw [if_neg (fun q => e (Sum.inl.inj q)), gd_has]
   by_cases m : k ∈ ds.map (·.1)
   ·rw [decide_eq_true m, decide_eq_true (List.mem_cons.mpr (.inr m))]
   ·rw [decide_eq_false m, decide_eq_false fun q => (List.mem_cons.mp q).elim (fun z => e z.symm) m]
def tGDGet (K : PySem.W.Frag) (td ty : TE) : TE := fun σ H Q => td σ H fun x H1 => ty σ H1 fun y H2 => ∃ a ds k u v, x = .ref a ∧ y = .int k ∧ GD K a ds ∧ (k, u) ∈ ds ∧ RelV v u ∧ Q v H2
theorem pe_gdget {X : Cx} {o i : Expr} {pos : Pos} {td ty : TE} (ho : PE X o td) (hi : PE X i ty) (hs : NoSl i) : PE X (.Subscript o i pos) (tGDGet X.K td ty) := by
 intro pins s σ H Q I h
 refine subD_of PySem.F.slot_dict_getitem.lookup hs (thn (ho pins s σ H _ I h) fun u s1 ⟨x, H1, I1, rx, q1⟩ => thn (hi pins s1 σ H1 _ I1 q1) fun iv s2 ⟨y, H2, I2, ry, a, ds, k, u', v, ex, ey, g, m, rv, q2⟩ => ?_)
 subst ex ey
 obtain rfl : u = Value.ref a := rx
 have dd := g.dictOf (P := X.prog) (w := X.w) I2.kIn
 refine ⟨dd.typeIs, wpAny_getItem_of (k := Sum.inl k) (kV_is (k := Sum.inl k) ry) dd.mapOf (gd_at g.2.2.1 m) ⟨v, H2, I2.tok _, rv, q2⟩⟩
def tGDIn (K : PySem.W.Frag) (ty td : TE) : TE := fun σ H Q => ty σ H fun y H1 => td σ H1 fun x H2 => ∃ a ds k, x = .ref a ∧ y = .int k ∧ GD K a ds ∧ Q (.bl (decide (k ∈ ds.map (·.1)))) H2
theorem pc_gdin {X : Cx} {o i : Expr} {td ty : TE} (hi : PE X i ty) (ho : PE X o td) : PC X .In i o (tGDIn X.K ty td) := by
 intro pins s σ H Q I h
 refine thn (hi pins s σ H _ I h) fun iv s1 ⟨y, H1, I1, ry, q1⟩ => thn (ho pins s1 σ H1 _ I1 q1) fun u s2 ⟨x, H2, I2, rx, a, ds, k, ex, ey, g, q2⟩ => ?_
 subst ex ey
 obtain rfl : u = Value.ref a := rx
 have dd := g.dictOf (P := X.prog) (w := X.w) I2.kIn
 refine wpAny_in_of (k := Sum.inl k) (kV_is (k := Sum.inl k) ry) g.1 dd.mapOf ?_
 rw [gd_has]
 exact ⟨.bl _, H2, I2.tok _, rfl, q2⟩
end L2
end
section
namespace L2
open PySem PySem.Spec PyProof.Rows
section
variable {X : Cx} {pins : List (Addr × Obj)} {σ : St} {H : Hp} {s : Shared} {h' : Heap}
theorem Inv.adopt {t' : Nat} {ch : List Addr} {T : Addr} {ob : HO} (I : Inv X pins σ H s) (k : ∀ b o, b ∉ ch → s.heap.get? b = some o → h'.get? b = some o) (hf : ∀ b ∈ ch, FpOk X pins H b) (hT : T ∈ ch)
  (new : ObjOk X.prog X.w (upd H T ob) h' T ob) : Inv X pins σ (upd H T ob) { s with heap := h', toks := t' } := by
 have hn : H T = none := (hf T hT).1
 have nit : ∀ b u, H b = some u → b ∉ ch := fun b u e z => by
  have q := (hf b z).1
  rw [q] at e; cases e
 refine I.step (g' := s.gens) (d' := s.drawn) (ch := ch) (fun b hb => ⟨(hf b hb).2.2.2.1, (hf b hb).2.1, (hf b hb).2.2.2.2.1, (hf b hb).2.2.2.2.2⟩) (fun b o _ _ hc e _ => k b o hc e) (fun b o _ _ hc e _ => ⟨o.slots, k b o hc e⟩)
  (fun b o hc e n => ?_) (fun b o hc e => ⟨o, k b o hc e⟩) (fun b xs e => ?_) (fun b o u e => ?_) (fun b ps e => ⟨#[], ?_⟩) (fun m hm => ?_) (fun b u e => ?_) I.bare
 ·rw [upd_ne (fun z => hc (by rw [z]; exact hT))]; exact n
 ·rw [upd_ne (ne_of_none e hn)]; exact e
 ·rw [upd_ne (ne_of_none e hn)]; exact e
 ·rw [upd_ne (ne_of_none e hn), e]; simp
 ·obtain ⟨o, es, ep, ho, r⟩ := hm
  exact ⟨o, es, ep, k _ o (fun z => (hf _ z).2.1 rfl) ho, r⟩
 ·by_cases hb : b = T
  ·subst hb
   rw [upd_same] at e
   cases e
   exact new
  ·rw [upd_ne hb] at e
   refine (I.hok b u e).stay (fun c v hc q => k c v ?_ q) (fun c q => by rw [upd_ne (ne_of_none q hn)]; exact q) fun c xs q => by rw [upd_ne (ne_of_none q hn)]; exact q
   rcases hc with z | z
   ·rw [z]; exact nit b u e
   ·exact nit c _ z
end
def lexI : List Int → List Int → Bool
 | [], [] => false
 | [], _ :: _ => true
 | _ :: _, [] => false
 | x :: r, y :: t => decide (x < y) || (!decide (y < x) && lexI r t)
def inls (k : List Int) : List (Int ⊕ List Nat) := k.map Sum.inl
theorem lexI_eq : ∀ xs ys : List Int, lexLt itemOrd (inls xs) (inls ys) = lexI xs ys
 | [], [] => rfl
 | [], _ :: _ => rfl
 | _ :: _, [] => rfl
 | x :: r, y :: t => by
  show (itemLt (Sum.inl x) (Sum.inl y) || (!itemLt (Sum.inl y) (Sum.inl x) && lexLt itemOrd (inls r) (inls t))) = _
  rw [lexI_eq r t]
  rfl
def sh0 : Nat → Bool := fun _ => false
theorem items_ints : ∀ (k : List Int) (us : List Value) (i : Nat), Vals (k.map V.int) us → tupItems sh0 i us = some (inls k)
 | [], us, i, r => by
  rw [List.map_nil] at r
  cases r
  rfl
 | n :: k, us, i, r => by
  rw [List.map_cons] at r
  cases r with
  | @cons _ u _ us h t =>
   obtain ⟨tk, rfl⟩ := (show ∃ tk, u = Value.int n tk from h)
   show (if sh0 i = true then none else (tupItems sh0 (i + 1) us).map (Sum.inl n :: ·)) = _
   rw [if_neg (show ¬ sh0 i = true from Bool.false_ne_true), items_ints k us (i + 1) t]
   rfl
section
variable {X : Cx} {pins : List (Addr × Obj)} {σ : St} {H : Hp} {s : Shared}
theorem key_at (I : Inv X pins σ H s) {t : Addr} {k : List Int} (e : H t = some (.tup (k.map V.int))) : G.tupKeyC s.heap sh0 (.ref t) = some (inls k) := by
 obtain ⟨hz, its, r, o, ho, hc, n, hd⟩ := I.hok t _ e
 have h1 : G.isTupObj s.heap (.ref t) = true := by
  unfold G.isTupObj
  simp only [ho, hc]
  rfl
 unfold G.tupKeyC
 rw [if_pos h1]
 unfold tupKey
 simp only [ho, hd]
 exact items_ints k its 0 r
theorem tup_at (I : Inv X pins σ H s) {t : Addr} {k : List Int} (e : H t = some (.tup (k.map V.int))) (hk : k ≠ []) : ∃ f, TupOf s.heap sh0 (.ref t) f := by
 obtain ⟨hz, its, r, o, ho, hc, n, hd⟩ := I.hok t _ e
 cases k with
 | nil => exact absurd rfl hk
 | cons z k =>
  rw [List.map_cons] at r
  cases r with
  | @cons _ u _ us h tl =>
   obtain ⟨tk, rfl⟩ := (show ∃ tk, u = Value.int z tk from h)
   exact ⟨_, t, o, _, n, rfl, ho, hc, hd, by simp, fun _ => ⟨z, tk, rfl⟩, fun q => absurd q Bool.false_ne_true⟩
theorem tups_at (I : Inv X pins σ H s) : ∀ {ts : List Addr} {ks : List (List Int)}, Paired (fun t k => H t = some (.tup (List.map V.int k)) ∧ k ≠ []) ts ks → ∃ fs, TupsOf s.heap sh0 (ts.map Value.ref) fs
 | _, _, .nil => ⟨[], .nil⟩
 | _, _, .cons h t => by
  obtain ⟨f, hf⟩ := tup_at I h.1 h.2
  obtain ⟨fs, hfs⟩ := tups_at I t
  exact ⟨f :: fs, .cons hf hfs⟩
end
structure Sorted (ks : List (List Int)) (ps : List Addr) (zs : List (List Int × Addr)) : Prop where
 perm : zs.Perm (ks.zip ps)
 ord : zs.Pairwise fun a b => lexI b.1 a.1 = false
section
variable {X : Cx} {pins : List (Addr × Obj)} {σ : St} {H : Hp} {s : Shared} {A' : Around} {E : Value → Shared → Prop} {P : PySem.Fin → Shared → Prop} {D kS : Addr} {ts ps : List Addr} {ks : List (List Int)} {e1 e2 : Nat}
abbrev refs (l : List Addr) : List Value := l.map Value.ref
theorem pairs_keys (I : Inv X pins σ H s) (hk : Paired (fun t k => H t = some (.tup (List.map V.int k)) ∧ k ≠ []) ts ks) : KeysOf (G.tupKindC s.heap sh0) ((refs ts).toArray.zip (refs ps).toArray) := by
 intro p hp
 have hp' : p ∈ (refs ts).zip (refs ps) := by simpa using hp
 have hm : p.1 ∈ refs ts := (List.of_mem_zip (show (p.1, p.2) ∈ _ from hp')).1
 obtain ⟨t, ht, e⟩ := List.mem_map.mp hm
 obtain ⟨i, hi⟩ := List.mem_iff_getElem?.mp ht
 obtain ⟨k, _, h1, _⟩ := paired_get hk hi
 exact ⟨inls k, by rw [← e]; exact key_at I h1⟩
def kOf (h : Heap) (v : Value) : List Int := match G.tupKeyC h sh0 v with
 | some l => l.filterMap fun x => match x with
  | .inl n => some n
  | .inr _ => none
 | none => []
def aOf (v : Value) : Addr := match v with
 | .ref a => a
 | _ => 0
theorem inls_back (k : List Int) : ((inls k).filterMap fun x => match x with
  | .inl n => some n
  | .inr _ => none) = k := by
 induction k with
 | nil => rfl
 | cons a k ih =>
  unfold inls at ih ⊢
  rw [List.map_cons, List.filterMap_cons]
  dsimp only
  rw [ih]
theorem kOf_at (I : Inv X pins σ H s) {t : Addr} {k : List Int} (e : H t = some (.tup (k.map V.int))) : kOf s.heap (.ref t) = k := by
 unfold kOf
 rw [key_at I e]
 exact inls_back k
theorem zip_out (I : Inv X pins σ H s) : ∀ {ts : List Addr} {ks : List (List Int)} {ps : List Addr}, Paired (fun t k => H t = some (.tup (List.map V.int k)) ∧ k ≠ []) ts ks →
  ((refs ts).zip (refs ps)).map (fun p => (kOf s.heap p.1, aOf p.2)) = ks.zip ps
 | _, _, [], _ => by simp [refs]
 | _, _, _ :: _, .nil => rfl
 | _, _, p :: ps, .cons h t => by
  show (kOf s.heap _, aOf (Value.ref p)) :: _ = _
  rw [kOf_at I h.1]
  exact congrArg _ (zip_out I t)
theorem sorted_out (I : Inv X pins σ H s) (hk : Paired (fun t k => H t = some (.tup (List.map V.int k)) ∧ k ≠ []) ts ks) {xs : Array Keyed} (hp : xs.Perm ((refs ts).toArray.zip (refs ps).toArray)) (hs : SortedToK (G.tupKindC s.heap sh0) xs xs.size) :
  ∃ zs, Sorted ks ps zs ∧ (xs.map (·.2)).toList = zs.map fun z => Value.ref z.2 := by
 have hl : xs.toList.Perm ((refs ts).zip (refs ps)) := by
  have := Array.perm_iff_toList_perm.mp hp
  simpa using this
 have hK : KeysOf (G.tupKindC s.heap sh0) xs := (pairs_keys (ps := ps) I hk).perm hp
 have hall : ∀ p ∈ xs.toList, G.tupKeyC s.heap sh0 p.1 = some (inls (kOf s.heap p.1)) ∧ p.2 = Value.ref (aOf p.2) := by
  intro p hp
  have hp' := hl.mem_iff.mp hp
  obtain ⟨h1, h2⟩ := List.of_mem_zip (show (p.1, p.2) ∈ _ from hp')
  obtain ⟨t, ht, e⟩ := List.mem_map.mp h1
  obtain ⟨i, hi⟩ := List.mem_iff_getElem?.mp ht
  obtain ⟨k, _, q1, _⟩ := paired_get hk hi
  obtain ⟨b, _, e2⟩ := List.mem_map.mp h2
  refine ⟨by rw [← e, kOf_at I q1]; exact key_at I q1, by rw [← e2]; rfl⟩
 refine ⟨xs.toList.map fun p => (kOf s.heap p.1, aOf p.2), ⟨?_, ?_⟩, ?_⟩
 ·rw [← zip_out (ps := ps) I hk]
  exact hl.map _
 ·rw [List.pairwise_map, List.pairwise_iff_getElem]
  intro i j hi hj hij
  have hi' : i < xs.size := by simpa using hi
  have hj' : j < xs.size := by simpa using hj
  have q := hs i j (Nat.le_of_lt hij) hj'
  have ki : KK (G.tupKindC s.heap sh0) xs i = inls (kOf s.heap xs.toList[i].1) := by
   unfold KK
   rw [show xs[i]? = some xs.toList[i] by simp [hi']]
   show ((G.tupKeyC s.heap sh0 xs.toList[i].1).getD _) = _
   rw [(hall _ (List.getElem_mem hi)).1]
   rfl
  have kj : KK (G.tupKindC s.heap sh0) xs j = inls (kOf s.heap xs.toList[j].1) := by
   unfold KK
   rw [show xs[j]? = some xs.toList[j] by simp [hj']]
   show ((G.tupKeyC s.heap sh0 xs.toList[j].1).getD _) = _
   rw [(hall _ (List.getElem_mem hj)).1]
   rfl
  rw [ki, kj] at q
  rw [← lexI_eq]
  exact q
 ·rw [Array.toList_map, List.map_map]
  refine List.map_congr_left fun p hp => ?_
  exact (hall p hp).2
theorem sort_tail (I : Inv X pins σ H s) (fD : FpOk X pins H D) (fK : FpOk X pins H kS) (hDK : kS ≠ D) (oK : s.heap.get? kS = some (seqObj "list" (refs ts).toArray e2)) (oD : s.heap.get? D = some (seqObj "list" #[] e1))
  (hk : Paired (fun t k => H t = some (.tup (List.map V.int k)) ∧ k ≠ []) ts ks) (hlen : ts.length = ps.length) (hz : ps.length ≤ sizeLine) {st : SortSt} (hp : (arrOf st).Perm ((refs ts).toArray.zip (refs ps).toArray))
  (hs : SortedToK (G.tupKindC s.heap sh0) (arrOf st) (arrOf st).size) (hfl : failedOf st = none)
  (h : ∀ zs s', Sorted ks ps zs → Inv X pins σ (upd H D (.lst (zs.map fun z => V.ref z.2))) s' → P (.done (.ret .none)) s') : wpAny (model X.prog X.w) A' (ksk_tail D false e1 (.ref kS) st) P E s := by
 obtain ⟨zs, hzs, out⟩ := sorted_out I hk hp hs
 have hz2 := hz
 rw [sizeLine_eq] at hz2
 have hsz : (refs ts).toArray.size = ps.length := by rw [List.size_toArray, List.length_map, hlen]
 have hsz2 : (arrOf st).size = ps.length := by rw [hp.size_eq, Array.size_zip, hsz, List.size_toArray, List.length_map, Nat.min_self]
 have k1 := Heap.SameBut.update s.heap kS (Obj.mapSeq fun _ => (#[] : Array Value))
 have oD1 : (s.heap.update kS (Obj.mapSeq fun _ => (#[] : Array Value))).get? D = some (seqObj "list" #[] e1) := (k1.2 D hDK.symm).trans oD
 have k2 := Heap.SameBut.update (s.heap.update kS (Obj.mapSeq fun _ => (#[] : Array Value))) D (Obj.mapSeq fun _ => (arrOf st).map (·.2))
 obtain ⟨c2, oD2⟩ : ∃ c2, ((s.heap.update kS (Obj.mapSeq fun _ => (#[] : Array Value))).update D (Obj.mapSeq fun _ => (arrOf st).map (·.2))).get? D = some (seqObj "list" ((arrOf st).map (·.2)) c2) := ⟨_, get?_update_seq oD1 fun _ => (arrOf st).map (·.2)⟩
 unfold ksk_tail
 try dsimp only
 refine wpAny_bind (listUpdate_at oK rfl (wpAny_bind (wpAny_letGo (wpAny_bind (seqEpoch_at oD1 rfl (wpAny_bind (listUpdate_at oD1 rfl ?_ (Nat.zero_le _) ?_)))))) (by rw [hsz, sizeLine_eq]; omega) (Nat.zero_le _))
 ·rw [hfl]
  simp only [bne_self_eq_false, Bool.false_eq_true, if_false]
  refine wpAny_pure (h zs _ hzs (I.adopt (t' := s.toks) (ch := [kS, D]) (fun b o hb e => ?_) (fun b hb => ?_) (by simp) ?_))
  ·exact (k2.2 b (fun z => hb (by simp [z]))).trans ((k1.2 b (fun z => hb (by simp [z]))).trans e)
  ·rcases List.mem_cons.mp hb with z | z
   ·rw [z]; exact fK
   ·rw [List.mem_singleton.mp z]; exact fD
  ·refine ⟨?_, (zs.map fun z => Value.ref z.2), c2, ?_, ?_⟩
   ·rw [List.length_map, hzs.perm.length_eq, List.length_zip]
    exact Nat.le_trans (Nat.min_le_right _ _) hz
   ·have : ∀ l : List (List Int × Addr), Vals (l.map fun z => V.ref z.2) (l.map fun z => Value.ref z.2) := by
     intro l
     induction l with
     | nil => exact .nil
     | cons a l ih => exact .cons rfl ih
    exact this zs
   ·rw [← out, Array.toArray_toList]
    exact oD2
 ·refine Nat.le_trans (Nat.le_of_eq ((Array.size_map ..).trans hsz2)) ?_
  rw [sizeLine_eq]; omega
theorem sort_end (I : Inv X pins σ H s) (fD : FpOk X pins H D) (fK : FpOk X pins H kS) (hDK : kS ≠ D) (oK : s.heap.get? kS = some (seqObj "list" (refs ts).toArray e2)) (oD : s.heap.get? D = some (seqObj "list" #[] e1))
  (hk : Paired (fun t k => H t = some (.tup (List.map V.int k)) ∧ k ≠ []) ts ks) (hlen : ts.length = ps.length) (hz : ps.length ≤ sizeLine)
  (h : ∀ zs s', Sorted ks ps zs → Inv X pins σ (upd H D (.lst (zs.map fun z => V.ref z.2))) s' → P (.done (.ret .none)) s') : wpAny (model X.prog X.w) A' (ksk_end D false (refs ps).toArray e1 (.ref kS) (refs ts).toArray) P E s := by
 have hsz : ((refs ts).toArray.zip (refs ps).toArray).size = ps.length := by simp [refs, hlen]
 unfold ksk_end
 try dsimp only
 rw [if_neg Bool.false_ne_true]
 by_cases h2 : (refs ps).toArray.size < 2
 ·rw [if_pos h2, if_pos h2]
  refine wpAny_bind (wpAny_pure ?_)
  rw [StateT.run_pure]
  refine wpAny_bind (wpAny_pure ?_)
  try dsimp only
  refine sort_tail (st := SortSt.mk' general' ((refs ts).toArray.zip (refs ps).toArray) #[] 7 none) I fD fK hDK oK oD hk hlen hz (Array.Perm.refl _) ?_ rfl h
  intro i j hij hj
  have hj2 : j < ((refs ts).toArray.zip (refs ps).toArray).size := hj
  rw [hsz] at hj2
  have h3 : ps.length < 2 := by simpa [refs] using h2
  have : i = j := by omega
  subst this
  exact KeyOrd.kle_refl _
 ·rw [if_neg h2, if_neg h2]
  have h3 : 2 ≤ ps.length := by
   have : ¬ ps.length < 2 := by simpa [refs] using h2
   omega
  obtain ⟨fs, hfs⟩ := tups_at I hk
  have hfl : 0 < fs.length := by rw [G.TupsOf.length hfs]; simp [refs]; omega
  refine wpAny_bind (tup_kind (s := s) hfl hfs ?_)
  refine wpAny_bind (wpAny_mono (G.wpS_sortRunsSt (κ := G.tupKindC s.heap sh0) (kd := tuples' true) (a₀ := (refs ts).toArray.zip (refs ps).toArray) (st := SortSt.mk' (tuples' true) ((refs ts).toArray.zip (refs ps).toArray) #[] 7 none)
   (Q := fun _ st' => (arrOf st').Perm ((refs ts).toArray.zip (refs ps).toArray) ∧ failedOf st' = none ∧ SortedToK (G.tupKindC s.heap sh0) (arrOf st') (arrOf st').size)
   (G.tupC_ltAt true (G.KeepsTups.refl _)) (pairs_keys I hk) ⟨Array.Perm.refl _, rfl, rfl⟩ rfl (Stable.refl _) (by rw [hsz]; exact h3) fun st' a1 a2 a3 a4 => ⟨a1, a2, by rw [a1.size_eq]; exact a3⟩) ?_ fun _ _ e => e)
  rintro ⟨⟨⟩, st'⟩ s' ⟨rfl, hp, hf, hs⟩
  try dsimp only
  exact sort_tail I fD fK hDK oK oD hk hlen hz hp hs hf h
end
end L2
end
section
namespace L2
open PySem PySem.Spec PyProof.Rows
section
variable {X : Cx} {pins : List (Addr × Obj)} {σ : St} {H : Hp} {s : Shared} {E : Value → Shared → Prop} {P : PySem.Fin → Shared → Prop} {D kS f : Addr} {ps : List Addr} {ks : List (List Int)} {e1 : Nat} {fd : FuncData} {kk : Nat} {x : Str} {sp : Sp}
theorem Inv.nostk (I : Inv X pins σ H s) {b : Addr} (hb : s.heap.objs.size ≤ b) : b ∉ frs X.stack := fun hm => by
 rcases List.mem_cons.mp (I.stkSub b hm) with z | z
 ·exact absurd (Nat.lt_of_lt_of_le I.lt (by rw [← z]; exact hb)) (Nat.lt_irrefl _)
 ·exact I.nofs hb z
theorem take_snoc' {α : Type} : ∀ {l : List α} {i : Nat} {y : α}, l[i]? = some y → l.take (i + 1) = l.take i ++ [y]
 | [], i, y, h => by simp at h
 | a :: l, 0, y, h => by
  have e : a = y := Option.some.inj h
  rw [e]; rfl
 | a :: l, i + 1, y, h => congrArg (a :: ·) (take_snoc' (l := l) (i := i) h)
abbrev TK (H : Hp) : List Addr → List (List Int) → Prop := Paired fun t k => H t = some (.tup (List.map V.int k)) ∧ k ≠ []
theorem TK.mono {H H' : Hp} {ts : List Addr} {ks : List (List Int)} (h : TK H ts ks) (e : ∀ b xs, H b = some (.tup xs) → H' b = some (.tup xs)) : TK H' ts ks := Paired.mapP h fun _ _ z => ⟨e _ _ z.1, z.2⟩
theorem sort_rest (F : FnOk X.prog X.w X.K X.mg X.base CX0 kk f fd [x] sp) (hb : Binds X.K fd [x] []) (hr : Room kk X.A.in1.in1) (I : Inv X pins σ H s) (fD : FpOk X pins H D) (fK : FpOk X pins H kS) (sD : D ∉ frs X.stack) (sK : kS ∉ frs X.stack) (hDK : kS ≠ D)
  (oK : s.heap.get? kS = some (seqObj "list" #[] 0)) (oD : s.heap.get? D = some (seqObj "list" #[] e1)) (hlen : ks.length = ps.length) (hne : ∀ k ∈ ks, k ≠ []) (hz : ps.length ≤ sizeLine)
  (hsp : ∀ (i : Nat) (p : Addr) (k : List Int), ps[i]? = some p → ks[i]? = some k → ∀ H' : Hp, Same H H' → ∀ Q' : VK, (∀ t, H' t = none → Q' (.ref t) (upd H' t (.tup (k.map V.int)))) → sp [.ref p] H' Q' E0)
  (h : ∀ zs H' s', Sorted ks ps zs → Same H H' → H' D = none → Inv X pins σ (upd H' D (.lst (zs.map fun z => V.ref z.2))) s' → P (.done (.ret .none)) s') :
  wpAny (model X.prog X.w) X.A.in1.in1 (ksk_rest D (.ref f) false (refs ps).toArray e1 (.ref kS)) P E s := by
 have hz2 := hz
 rw [sizeLine_eq] at hz2
 unfold ksk_rest
 refine wpAny_bind (wpAny_rule ?_)
 first
  | rw [List.forIn_toArray]
  | (rw [← Array.forIn_toList]; simp only [List.toList_toArray])
 refine wpAny_bind (ksk_fold (fun i s' => ∃ (H' : Hp) (ts : List Addr) (e : Nat), Inv X pins σ H' s' ∧ Same H H' ∧ H' D = none ∧ H' kS = none ∧ s'.heap.get? kS = some (seqObj "list" (refs ts).toArray e) ∧ s'.heap.get? D = some (seqObj "list" #[] e1) ∧ TK H' ts (ks.take i)) (refs ps) 0 s
  ⟨H, [], 0, I, fun _ _ q => q, fD.1, fK.1, oK, oD, by rw [List.take_zero]; exact .nil⟩ ?step ?done)
 case step =>
  rintro j v s' hv ⟨H', ts, e, I', sm, nD, nK, oK', oD', hk⟩
  simp only [Nat.zero_add] at hk ⊢
  obtain ⟨p, hp, rfl⟩ : ∃ p, ps[j]? = some p ∧ v = Value.ref p := by
   rw [List.getElem?_map] at hv
   cases q : ps[j]? with
   | none => rw [q] at hv; cases hv
   | some p => rw [q] at hv; exact ⟨p, rfl, (Option.some.inj hv).symm⟩
  have hj : j < ps.length := (List.getElem?_eq_some_iff.mp hp).1
  obtain ⟨k0, hk0⟩ : ∃ k0, ks[j]? = some k0 := ⟨_, List.getElem?_eq_getElem (by omega)⟩
  have hkne : k0 ≠ [] := hne k0 (List.mem_of_getElem? hk0)
  have hts : ts.length = j := by
   have := Paired.length hk
   rw [List.length_take] at this
   omega
  refine wpAny_bind (wpAny_attempt (wpAny_call (codeAny_mono (F.run X.A.in1.in1 X.stack s' H' ⟨[.ref p], []⟩ [.ref p] [V.ref p] (fun u H2 => ∃ t, u = .ref t ∧ H' t = none ∧ H2 = upd H' t (.tup (k0.map V.int))) E0 hr I'.env0.in1.in1
   (hb s' [.ref p] I'.kIn rfl) (.cons rfl .nil) (hsp j p k0 hp hk0 H' sm _ fun t ht => ⟨t, rfl, ht, rfl⟩)) fun r s2 hq => ?_)))
  cases r with
  | error er => exact False.elim hq
  | ok fl =>
   cases fl with
   | next => exact False.elim hq
   | brk => exact False.elim hq
   | cont => exact False.elim hq
   | ret u =>
    obtain ⟨v', H2, os, bare, un, hok, rv, t, ev, ht, eH⟩ := hq
    subst ev eH
    obtain rfl : u = Value.ref t := rv
    have I2 : Inv X pins σ (upd H' t (.tup (k0.map V.int))) s2 := I'.call' (ch := []) os un hok bare fun b z => absurd z (by simp)
    have oK2 := un.keep kS _ oK' nK sK (by simp)
    have oD2 := un.keep D _ oD' nD sD (by simp)
    have nK2 := un.free kS _ oK' nK (by simp)
    have nD2 := un.free D _ oD' nD (by simp)
    have k1 := Heap.SameBut.update s2.heap kS (Obj.mapSeq (·.push (.ref t)))
    obtain ⟨c2, oK3⟩ : ∃ c2, (s2.heap.update kS (Obj.mapSeq (·.push (Value.ref t)))).get? kS = some (seqObj "list" ((refs ts).toArray.push (.ref t)) c2) := ⟨_, get?_update_seq oK2 (·.push (.ref t))⟩
    have hsz : (refs ts).toArray.size ≤ sizeLine := by rw [List.size_toArray, List.length_map, sizeLine_eq]; omega
    show wpAny _ _ (Builtin.List.listUpdate (.ref kS) (·.push (.ref t)) >>= _) _ _ s2
    refine wpAny_bind (listUpdate_at oK2 rfl ?_ hsz (by rw [Array.size_push, List.size_toArray, List.length_map, sizeLine_eq]; omega))
    have ea : (refs ts).toArray.push (Value.ref t) = (refs (ts ++ [t])).toArray := by simp [refs]
    refine wpAny_pure ⟨rfl, _, ts ++ [t], c2, I2.turned (t' := s2.toks) (it := kS) (fun b o hb q => (k1.2 b hb).trans q) nK2 fK.2.1 fK.2.2.2.1 fK.2.2.2.2.1 fK.2.2.2.2.2, fun b o q => ?_, nD2, nK2, by rw [← ea]; exact oK3, (k1.2 D hDK.symm).trans oD2, ?_⟩
    ·rw [upd_ne (ne_of_none (sm b o q) ht)]
     exact sm b o q
    ·rw [take_snoc' hk0]
     refine Paired.snoc (TK.mono hk fun b xs q => ?_) ⟨upd_same, hkne⟩
     rw [upd_ne (ne_of_none q ht)]
     exact q
 case done =>
  rintro s' ⟨H', ts, e, I', sm, nD, nK, oK', oD', hk⟩
  have hk' : TK H' ts ks := by
   have e3 : ks.take (0 + (refs ps).length) = ks := List.take_of_length_le (by rw [List.length_map]; omega)
   rw [e3] at hk
   exact hk
  try dsimp only
  refine wpAny_bind (listItems_at oK' rfl ?_)
  exact sort_end I' ⟨nD, fD.2⟩ ⟨nK, fK.2⟩ hDK oK' oD' hk' (by have := Paired.length hk'; omega) hz fun zs s2 a b => h zs H' s2 a sm nD b
theorem sort_tree (F : FnOk X.prog X.w X.K X.mg X.base CX0 kk f fd [x] sp) (hb : Binds X.K fd [x] []) (hr : Room kk X.A.in1.in1) (I : Inv X pins σ H s) (fD : FpOk X pins H D) (sD : D ∉ frs X.stack)
  {n0 : Nat} (oD : s.heap.get? D = some (seqObj "list" (refs ps).toArray n0)) (hlen : ks.length = ps.length) (hne : ∀ k ∈ ks, k ≠ []) (hz : ps.length ≤ sizeLine)
  (hsp : ∀ (i : Nat) (p : Addr) (k : List Int), ps[i]? = some p → ks[i]? = some k → ∀ H' : Hp, Same H H' → ∀ Q' : VK, (∀ t, H' t = none → Q' (.ref t) (upd H' t (.tup (k.map V.int)))) → sp [.ref p] H' Q' E0)
  (h : ∀ zs H' s', Sorted ks ps zs → Same H H' → H' D = none → Inv X pins σ (upd H' D (.lst (zs.map fun z => V.ref z.2))) s' → P (.done (.ret .none)) s') :
  wpAny (model X.prog X.w) X.A.in1.in1 (ksk_tree D (.ref f) false) P E s := by
 have hz2 := hz
 rw [sizeLine_eq] at hz2
 have hD : D < s.heap.objs.size := Heap.lt_size oD
 have k1 := Heap.SameBut.update s.heap D (Obj.mapSeq fun _ => (#[] : Array Value))
 obtain ⟨e1, oD1⟩ : ∃ e1, (s.heap.update D (Obj.mapSeq fun _ => (#[] : Array Value))).get? D = some (seqObj "list" #[] e1) := ⟨_, get?_update_seq oD fun _ => #[]⟩
 have I1 : Inv X pins σ H { s with heap := s.heap.update D (Obj.mapSeq fun _ => (#[] : Array Value)) } := I.turned (t' := s.toks) (it := D) (fun b o hb q => (k1.2 b hb).trans q) fD.1 fD.2.1 fD.2.2.2.1 fD.2.2.2.2.1 fD.2.2.2.2.2
 have I2 : Inv X pins σ H { s with heap := (s.heap.update D (Obj.mapSeq fun _ => (#[] : Array Value))).push (seqObj "tuple" (refs ps).toArray 0) } := I1.kept (t' := s.toks) fun b o q => Heap.get?_push_of_some _ q
 have I3 : Inv X pins σ H { s with heap := ((s.heap.update D (Obj.mapSeq fun _ => (#[] : Array Value))).push (seqObj "tuple" (refs ps).toArray 0)).push (seqObj "list" #[] 0) } := I2.kept (t' := s.toks) fun b o q => Heap.get?_push_of_some _ q
 have hks : ((s.heap.update D (Obj.mapSeq fun _ => (#[] : Array Value))).push (seqObj "tuple" (refs ps).toArray 0)).objs.size = s.heap.objs.size + 1 := by rw [Heap.size_push, Heap.size_update]
 unfold ksk_tree
 refine wpAny_bind (listItems_at oD rfl (wpAny_bind (listUpdate_at oD rfl ?_ (by rw [List.size_toArray, List.length_map, sizeLine_eq]; omega) (Nat.zero_le _))))
 refine wpAny_bind (seqEpoch_at oD1 rfl (wpAny_bind (wpAny_newTuple (wpAny_bind (wpAny_newList (wpAny_holding ?_) (Nat.zero_le _))) (by show (refs ps).length ≤ _; rw [List.length_map, sizeLine_eq]; omega))))
 have hle : s.heap.objs.size ≤ ((s.heap.update D (Obj.mapSeq fun _ => (#[] : Array Value))).push (seqObj "tuple" (refs ps).toArray 0)).objs.size := by rw [hks]; exact Nat.le_succ _
 refine sort_rest (s := { s with heap := ((s.heap.update D (Obj.mapSeq fun _ => (#[] : Array Value))).push (seqObj "tuple" (refs ps).toArray 0)).push (seqObj "list" #[] 0) }) F hb hr I3 fD (I.fpOk hle (I.hok.fresh hle)) sD (I.nostk hle) (by rw [hks]; exact Nat.ne_of_gt (Nat.lt_succ_of_lt hD))
  (Heap.get?_push_size _ rfl) (Heap.get?_push_of_some _ (Heap.get?_push_of_some _ oD1)) hlen hne hz hsp h
theorem sorted_key (F : FnOk X.prog X.w X.K X.mg X.base CX0 kk f fd [x] sp) (hb : Binds X.K fd [x] []) (hr : Room (kk + 2) X.A) (I : Inv X pins σ H s) {l : Addr} (hl : SqL X.K H l (ps.map V.ref)) (hlen : ks.length = ps.length) (hne : ∀ k ∈ ks, k ≠ [])
  (hsp : ∀ (i : Nat) (p : Addr) (k : List Int), ps[i]? = some p → ks[i]? = some k → ∀ H' : Hp, Same H H' → ∀ Q' : VK, (∀ t, H' t = none → Q' (.ref t) (upd H' t (.tup (k.map V.int)))) → sp [.ref p] H' Q' E0)
  {Q : VK} (h : ∀ zs H' D, Sorted ks ps zs → Same H H' → H' D = none → Q (.ref D) (upd H' D (.lst (zs.map fun z => V.ref z.2)))) :
  wpAny (model X.prog X.w) X.A (call (.builtin "sorted") [.ref l] [(Str.ofString "key", .ref f)]) (EP X pins σ Q) E s := by
 obtain ⟨its, rv, pl, hz⟩ := I.list hl
 have ei := refs_at rv
 subst ei
 rw [List.length_map] at hz
 have hz2 := hz
 rw [sizeLine_eq] at hz2
 refine call_function_entry_kw kind_sorted plain_sorted entry_sorted (ksk_s1 _ _) ?_
 unfold Builtin.«sorted»
 refine wpAny_bind (m := checkCount "sorted" 1 1 _) (wpAny_pure (wpAny_bind (collect_list pl.isList (wpAny_bind (wpAny_newList ?_ (by rw [List.length_map, sizeLine_eq]; omega))) (by rw [List.length_map, sizeLine_eq]; omega))))
 have hsz : ((s.heap.push (seqObj "list" #[] 0)).update s.heap.objs.size (Obj.mapSeq (· ++ (refs ps).toArray))).objs.size = s.heap.objs.size + 1 := by rw [Heap.size_update, Heap.size_push]
 have keep : ∀ b o, s.heap.get? b = some o → (((s.heap.push (seqObj "list" #[] 0)).update s.heap.objs.size (Obj.mapSeq (· ++ (refs ps).toArray))).push (seqObj "list" (refs ps).toArray 0)).get? b = some o := fun b o q => by
  have hlt : b < s.heap.objs.size := Heap.lt_size q
  refine Heap.get?_push_of_some _ ?_
  rw [Heap.get?_update_ne _ _ _ _ (Nat.ne_of_lt hlt)]
  exact Heap.get?_push_of_some _ q
 have I1 : Inv X pins σ H { s with heap := ((s.heap.push (seqObj "list" #[] 0)).update s.heap.objs.size (Obj.mapSeq (· ++ (refs ps).toArray))).push (seqObj "list" (refs ps).toArray 0) } := I.kept (t' := s.toks) keep
 have oD : (((s.heap.push (seqObj "list" #[] 0)).update s.heap.objs.size (Obj.mapSeq (· ++ (refs ps).toArray))).push (seqObj "list" (refs ps).toArray 0)).get? ((s.heap.push (seqObj "list" #[] 0)).update s.heap.objs.size (Obj.mapSeq (· ++ (refs ps).toArray))).objs.size = some (seqObj "list" (refs ps).toArray 0) := Heap.get?_push_size _ rfl
 have hle : s.heap.objs.size ≤ ((s.heap.push (seqObj "list" #[] 0)).update s.heap.objs.size (Obj.mapSeq (· ++ (refs ps).toArray))).objs.size := by rw [hsz]; exact Nat.le_succ _
 refine wpAny_bind (wpAny_holding (wpAny_call_entry_kw slot_list_sort ⟨_, oD, rfl⟩ entry_list_sort ?body (ksk_l1 _ _)))
 show wpAny _ X.A.in1.in1 (Builtin.«list.sort» ⟨[.ref _], [(Str.ofString "key", .ref f)]⟩) _ _ _
 rw [ksk_t1]
 refine sort_tree F hb hr.in1.in1 I1 (I.fpOk hle (I.hok.fresh hle)) (I.nostk hle) oD hlen hne hz hsp fun zs H' s' a b c d => ⟨_, rfl, ?_⟩
 exact wpAny_pure ⟨_, rfl, .ref _, _, d, rfl, h zs H' _ a b c⟩
end
def tSortK (X : Cx) (kk : Nat) (x : Str) (te : TE) : TE := fun σ H Q => te σ H fun v H1 => ∃ (l : Addr) (ps : List Addr) (ks : List (List Int)) (y : Str) (sp : Sp), v = .ref l ∧ SqL X.K H1 l (ps.map V.ref) ∧ ks.length = ps.length ∧ (∀ k ∈ ks, k ≠ []) ∧
 Df X.prog X.w X.K X.mg X.base kk x [y] sp ∧ (∀ (i : Nat) (p : Addr) (k : List Int), ps[i]? = some p → ks[i]? = some k → ∀ H' : Hp, Same H1 H' → ∀ Q' : VK, (∀ t, H' t = none → Q' (.ref t) (upd H' t (.tup (k.map V.int)))) → sp [.ref p] H' Q' E0) ∧
 ∀ zs H' D, Sorted ks ps zs → Same H1 H' → H' D = none → Q (.ref D) (upd H' D (.lst (zs.map fun z => V.ref z.2)))
theorem pe_sortK {X : Cx} {kk : Nat} {x : Str} {te : TE} {e : Expr} {p px pos kpos : Pos} (hr : Room (kk + 2) X.A) (hg : Gl X "sorted") (hm : X.mg "sorted" = none) (hgx : Gl X x) (he : PE X e te) (hs : backTo pos (starEach [e] X.env) = [(false, eval e X.env)] := by rfl) (hdx : (x == ("__debug__" : Str)) = false := by decide) :
  PE X (.Call (.Name "sorted" p) [e] [⟨some "key", .Name x px, kpos⟩] pos) (tSortK X kk x te) := by
 intro pins s σ H Q I h
 refine wpAny_Call_Name_kw (ld_blt I hg hm PyProof.Rows.boot_sorted ?_)
 refine callWith_kw ?_ (by rw [hs]; rfl) (by rw [hs]; rfl)
 rw [hs]
 refine Calls.spliced_cons (thn (he pins s σ H _ I h) fun u s1 ⟨v, H1, I1, rv, l, ps, ks, y, sp, ev, hl, hlen, hne, Dfx, hsp, q⟩ => Calls.spliced_nil ?_)
 subst ev
 obtain rfl : u = Value.ref l := rv
 obtain ⟨f, fd, F, hmx, hk, hb⟩ := Dfx.ex
 show wpAny _ _ (evalAll [do let v ← eval (.Name x px) X.env; standAt pos; pure v]) _ _ s1
 refine wpAny_evalAll_cons (wpAny_bind (ld_glob I1 hgx hmx (wpAny_bind (wpAny_standAt (wpAny_pure (wpAny_evalAll_nil ?_)))) hdx))
 exact sorted_key F hb hr I1 hl hlen hne hsp q
end L2
end
section
namespace L2
open PySem PySem.Spec PyProof.Rows
theorem zip_keys_none : typeLookup (.type "zip") "keys" = pure none := am_miss_of_fast (by first | decide +kernel | rfl)
theorem zip_getattr_none : typeLookup (.type "zip") "__getattr__" = pure none := am_miss_of_fast (by first | decide +kernel | rfl)
theorem zip_entry_getattribute : entryFor table "zip.__getattribute__" = some Builtin.«object.__getattribute__» :=
 entryFor_alias (id' := "object.__getattribute__") (by kernel_rfl) (by decide +kernel) (by decide +kernel) (by kernel_rfl)
theorem zip_meets_miss (a : Addr) (vs : Array Value) (sl : Array (Option Value)) (name : Str) (u : Tok) (hmiss : typeLookup (.type "zip") name = pure none)
  (hname : (["__module__", "__name__", "__qualname__", "__doc__", "__annotations__"] : List Str).contains name = false) (hsz : name.length + 100 ≤ sizeLine) :
  Meets (Builtin.«object.__getattribute__» ⟨[.ref a, .str name u], []⟩) (fun A R s => s.heap.get? a = some { cls := .type "zip", dict := none, data := .fields vs, slots := sl } ∧ raisesAttr (.ref a) name A R s) :=
 Meets.of_wp fun prog w A R s hs => by
  obtain ⟨hp, g, d, tk, os⟩ := s
  obtain ⟨hx, hs⟩ := hs
  have hT : (⟨hp, g, d, tk, os⟩ : Shared).TypeIs (.ref a) "zip" := ⟨_, hx, rfl⟩
  unfold Builtin.«object.__getattribute__»
  repeat (any_goals (first | assumption | wp_step))
  simp only [hname, Bool.false_eq_true, if_false]
  repeat (any_goals (first | assumption | wp_step))
  exact wpAny_raiseAttrError hs.1 hs.2 (attrMsg_fits (by decide +kernel) hsz)
section
variable {prog : Program} {w : World} {A : Around} {E : Value → Shared → Prop}
theorem miss_zip {s : Shared} {a : Addr} {vs : Array Value} {Q : Option Value → Shared → Prop} (hx : s.heap.get? a = some { cls := .type "zip", dict := none, data := .fields vs, slots := #[] }) (hA : A.handled = none)
  (h : ∀ h' tk, (∀ b ob, s.heap.get? b = some ob → h'.get? b = some ob) → Q none { s with heap := h', toks := tk }) : wpAny (model prog w) A (getAttr? (.ref a) "keys") Q E s := by
 obtain ⟨hp, g, d, tk, os⟩ := s
 have hT : ∀ tk', (⟨hp, g, d, tk', os⟩ : Shared).TypeIs (.ref a) "zip" := fun _ => ⟨_, hx, rfl⟩
 have hmiss := zip_keys_none
 have hname : (["__module__", "__name__", "__qualname__", "__doc__", "__annotations__"] : List Str).contains "keys" = false := by decide +kernel
 have hsz : ("keys" : Str).length + 100 ≤ sizeLine := by first | size_fits | decide +kernel
 have f1 := sub_AttributeError
 have f3 := PySem.F.slot_zip_getattribute.lookup
 have f4 := PySem.F.slot_zip_getattribute.bind (.ref a)
 have f5 := zip_getattr_none
 unfold getAttr? getAttrBy? getAttrBy
 repeat (any_goals (first | assumption | exact hT _ | ((with_reducible show wpAny _ _ (call (Value.builtin "zip.__getattribute__") _ _) _ _ _); refine call_meets PySem.F.slot_zip_getattribute (hT _) zip_entry_getattribute (PySem.F.args_zip_getattribute_2 _ _) (zip_meets_miss a vs #[] "keys" _ hmiss hname hsz) ⟨hx, hA, fun h' tk' e hx' => ?_⟩) | wp_step))
 obtain ⟨t', u', he⟩ := hx'.there
 show wpAny _ _ (getattributeRaised _ _ _ _ _ _ _) _ _ _
 unfold getattributeRaised
 repeat (any_goals (first | assumption | wp_step))
 all_goals first | exact h _ _ hx'.keeps | (dsimp only; repeat (any_goals (first | assumption | exact h _ _ hx'.keeps | wp_step)))
end
end L2
end
section
namespace L2
open PySem PySem.Spec PyProof.Rows
def rExtendT (K : PySem.W.Frag) : V → List V → Hp → VK → Prop := fun x vs H Q => ∃ l b xs zs, x = .ref l ∧ vs = [.ref b] ∧ H l = some (.lst xs) ∧ SqT K H b zs ∧ xs.length + zs.length ≤ sizeLine ∧ Q .non (upd H l (.lst (xs ++ zs)))
theorem ext_tup {prog : Program} {w : World} {A : Around} {E : Value → Shared → Prop} {s : Shared} {l b : Addr} {its zs : List Value} {n : Nat} {Q : Value → Shared → Prop} (hne : l ≠ b) (e : s.heap.get? l = some (seqObj "list" its.toArray n)) (ht : IsTup s.heap b zs.toArray) (hz : its.length + zs.length ≤ sizeLine)
  (h : Q .none { s with heap := s.heap.update l (Obj.mapSeq fun x => x ++ zs.toArray) }) : wpAny (model prog w) A (call (.builtin "list.extend") [.ref l, .ref b]) Q E s := by
 obtain ⟨o, ho, hc, m, hd⟩ := ht
 refine wpAny_call_entry F.slot_list_extend ⟨_, e, rfl⟩ F.entry_list_extend ?_ (F.args_list_extend_2 _ _)
 show wpAny _ _ (Builtin.List.listExtendWith (.ref l) (.ref b) .none) _ _ s
 unfold Builtin.List.listExtendWith
 refine wpAny_bind (wpAny_typeOf (T := "tuple") ⟨o, ho, hc⟩ ?_)
 have h1 : Builtin.List.listSameRef (.ref l) (.ref b) = false := by simp [Builtin.List.listSameRef, hne]
 have h2 : (Value.type "tuple" == Value.type "list") = false := by decide
 have h3 : (Value.type "tuple" == Value.type "tuple") = true := by decide
 simp only [h1, h2, h3, Bool.or_true, Bool.or_false, Bool.false_or, if_true]
 refine wpAny_bind ?_
 unfold Builtin.List.listItems
 refine wpAny_bind (wpAny_seqItems ho hd (wpAny_pure ?_))
 refine wpAny_bind (wpAny_bind (wpAny_seqItems e rfl (wpAny_pure ?_)))
 have hlong : ¬ (!its.toArray.isEmpty && Builtin.List.listTooLong (its.toArray.size + zs.toArray.size)) = true := by
  rw [notLongL (by simpa using hz), Bool.and_false]
  exact Bool.false_ne_true
 show wpAny _ _ (if (!its.toArray.isEmpty && Builtin.List.listTooLong (its.toArray.size + zs.toArray.size)) = true then _ else _) _ _ s
 rw [if_neg hlong]
 have hz' : (its.toArray ++ zs.toArray).size ≤ sizeLine + 1 := by
  rw [Array.size_append, List.size_toArray, List.size_toArray]; omega
 show wpAny _ _ (updateSeq l (· ++ zs.toArray) >>= fun _ => ret .none) _ _ s
 refine wpAny_bind (wpAny_updateSeq e rfl (hz := by rw [List.size_toArray]; omega) (_hz' := hz') ?_)
 exact wpAny_pure ⟨_, rfl, h⟩
section
variable {X : Cx}
theorem mt_extendT : MtM X "list.extend" (rExtendT X.K) := by
 intro pins s σ H x vs v us Q I rx rv h
 obtain ⟨l, b, xs, zs, rfl, rfl, hH, hB, hz, q⟩ := h
 cases rx
 obtain ⟨u, rfl, ru⟩ := rv.one
 cases ru
 obtain ⟨z, its, n, r, hl, e⟩ := I.lstM hH
 obtain ⟨its2, r2, ht, hz2⟩ := I.tuple hB
 have hl2 := r2.length
 have hne : l ≠ b := by
  intro q
  subst q
  obtain ⟨o, ho, hc, m, hd⟩ := ht
  rw [e] at ho
  cases ho
  exact absurd (show Value.type "list" = Value.type "tuple" from hc) (by decide +kernel)
 refine ext_tup hne e ht (by omega) ?_
 refine ⟨.non, _, I.lset (its' := its ++ its2) hH e (by simp) (r.append r2) ?_, rfl, q⟩
 rw [List.length_append]
 omega
theorem kv_vals {κ : Type} : ∀ {kvs : List (κ × V)} {vs : List (κ × Value)}, KV kvs vs → Vals (kvs.map (·.2)) (vs.map (·.2))
 | _, _, .nil => .nil
 | _, _, .cons h t => .cons h.2 (kv_vals t)
def tListVals (td : TE) : TE := fun σ H Q => td σ H fun x H1 => ∃ d kvs, x = .ref d ∧ H1 d = some (.dK kvs) ∧ ∀ l, H1 l = none → Q (.ref l) (upd H1 l (.lst (kvs.map (·.2))))
theorem pe_listVals {e : Expr} {td : TE} {p apos cpos pos : Pos} (hcalm : X.calm = true) (hg : Gl X "list") (hm : X.mg "list" = none) (he : PE X e td) (hbase : attributeBase e "values" X.env (eval e X.env) = eval e X.env := by rfl) (hline : (apos.endLine == cpos.line) = true := by rfl)
  (hst : starEach [.Call (.Attribute e "values" apos) [] [] cpos] X.env = [(false, eval (.Call (.Attribute e "values" apos) [] [] cpos) X.env)] := by rfl) :
  PE X (.Call (.Name "list" p) [.Call (.Attribute e "values" apos) [] [] cpos] [] pos) (tListVals td) := by
 intro pins s σ H Q I h
 refine wpAny_Call_Name_kw (ld_blt I hg hm PyProof.Rows.boot_list ?_)
 refine PyProof.Rows.callWith_type1 ?_ hst rfl
 rw [hst]
 show wpAny _ _ (spliced ((false, eval (.Call (.Attribute e "values" apos) [] [] cpos) X.env) :: [])) _ _ s
 refine Calls.spliced_cons ?_
 refine wpAny_Call_method (T := "dict") (id := "dict.values") hbase rfl hline F.plainAttrs_dict F.slot_dict_values F.type_dict_values (thn (he pins s σ H _ I h) fun u s1 ⟨x, H1, I1, rx, d, kvs, ex, hd, q⟩ => ?_)
 subst ex
 obtain rfl : u = Value.ref d := rx
 obtain ⟨hz, hgd, vs, kv, hD⟩ := I1.hok d _ hd
 obtain ⟨ep, hat⟩ := hD.dictAt
 have hl : kvs.length = vs.length := Paired.length kv
 refine ⟨hD.typeIs, hD.mapOf.noDict, ?_⟩
 have I2 : Inv X pins σ H1 { s1 with heap := s1.heap.push { cls := .type "dict_values", data := .fields #[.ref d] } } := I1.kept (t' := s1.toks) fun b ob q => Heap.get?_push_of_some _ q
 show wpAny _ _ (callWith cpos (.builtin "dict.values") [.ref d] [] []) _ X.xe s1
 refine method_meetsIn F.slot_dict_values F.entry_dict_values rfl (PySem.evalArgs_none ⟨rfl, hD.typeIs, F.args_dict_values_1 _, _, meets_dict_values (mixKind X.prog X.w) d hgd, ⟨vs, hD⟩, ?_⟩)
 refine Calls.spliced_nil ?_
 refine PySem.W.kdl_call (PySem.W.kdl_values (knd := mixKind X.prog X.w) (kvs := vs) (ep := ep)) (I.ok.hd hcalm) ⟨⟨_, Heap.get?_push_size _ rfl, rfl, rfl⟩, hat.push _⟩ (by rw [← hl]; exact hz) fun h' tk acc c hk hL hacc => ?_
 have ea : acc.toList = vs.map (·.2) := PySem.W.kdl_vals_eq acc.toList (by rw [Array.length_toList]; exact hacc.1) fun j v e => hacc.2 j v (by rw [← Array.getElem?_toList]; exact e)
 refine ⟨.ref _, _, I2.laid (t' := tk) (o := .lst (kvs.map (·.2))) hk (Nat.le_refl _) ⟨by rw [List.length_map]; exact hz, vs.map (·.2), c, kv_vals kv, ?_⟩, rfl, q _ (I2.hok.fresh (Nat.le_refl _))⟩
 rw [← ea]
 simpa using hL
theorem kv_keys_int {P : Program} {w : World} : ∀ {kvs : List (Key × V)} {vs : List (Key × Value)} {ns : List Int} {us : List Value}, KV kvs vs → kvs.map (·.1) = ns.map Sum.inl → us.length = vs.length → (∀ (j : Nat) (v : Value), us[j]? = some v → ∃ (k : Key) (x : Value), vs[j]? = some (k, x) ∧ (mixKind P w).is k v = true) → IntsAre us ns
 | [], [], [], [], _, _, _, _ => .nil
 | _, _, [], _ :: _, .cons _ _, hk, _, _ => by cases hk
 | [], [], _ :: _, _, _, hk, _, _ => by cases hk
 | [], [], [], _ :: _, _, _, hl, _ => by cases hl
 | p :: kvs, q :: vs, n :: ns, [], _, _, hl, _ => by cases hl
 | p :: kvs, q :: vs, n :: ns, u :: us, .cons h t, hk, hl, hv => by
  rw [List.map_cons, List.map_cons] at hk
  injection hk with h1 h2
  obtain ⟨k, x, e, hi⟩ := hv 0 u rfl
  simp only [List.getElem?_cons_zero, Option.some.injEq] at e
  have ek : k = Sum.inl n := by rw [← h1, h.1, e]
  subst ek
  obtain ⟨tk, rfl⟩ := Value.isInt_shape (k := n) (v := u) hi
  exact .cons n tk (kv_keys_int t h2 (by simpa using hl) fun j v e => by simpa using hv (j + 1) v (by simpa using e))
def rSortD : List V → Hp → VK → Prop := fun vs H Q => ∃ d kvs ns, vs = [V.ref d] ∧ H d = some (.dK kvs) ∧ kvs.map (·.1) = ns.map Sum.inl ∧
 ∀ (ns' : List Int) (p : Addr), ns'.Perm ns → ns'.Pairwise (· ≤ ·) → H p = none → Q (.ref p) (upd H p (.lst (ns'.map V.int)))
theorem cr_sortD (hcalm : X.calm = true) : CallR X (.builtin "sorted") rSortD := by
 intro pins s σ H xs us Q I r h
 obtain ⟨d, kvs, ns, rfl, hd, hk, q⟩ := h
 obtain ⟨u, rfl, ru⟩ := vals1 r
 cases ru
 obtain ⟨hz, hgd, vs, kv, hD⟩ := I.hok d _ hd
 obtain ⟨ep, hat⟩ := hD.dictAt
 have hl : kvs.length = vs.length := Paired.length kv
 refine Calls.call_function_entry kind_sorted plain_sorted entry_sorted (args_sorted1 _) ?_
 unfold Builtin.«sorted»
 refine wpAny_bind (m := checkCount "sorted" 1 1 _) (wpAny_pure ?_)
 refine wpAny_bind (PySem.W.kdu_collect (A := X.A.in1) (PySem.W.kdl_dict (knd := mixKind X.prog X.w) (kvs := vs) (ep := ep) hgd) (I.ok.hd hcalm) hat (by rw [← hl]; exact hz) fun h' tk acc hkeep hacc => ?_)
 have hal : acc.toList.length = vs.length := by rw [Array.length_toList]; exact hacc.1
 have hI : IntsAre acc.toList ns := kv_keys_int (P := X.prog) (w := X.w) kv hk hal fun j v e => hacc.2 j v (by rw [← Array.getElem?_toList]; exact e)
 have hL : acc.toList.length ≤ sizeLine := by rw [hal, ← hl]; exact hz
 refine wpAny_bind (wpAny_newList ?_ hL)
 have I0 : Inv X pins σ H { s with heap := h', toks := tk } := I.kept hkeep
 have hoL : (h'.push (seqObj "list" acc.toList.toArray 0)).get? h'.objs.size = some (seqObj "list" acc.toList.toArray 0) := Heap.get?_push_size _ rfl
 show wpAny _ _ _ _ _ { s with heap := h'.push (seqObj "list" acc.toList.toArray 0), toks := tk }
 refine wpAny_bind (wpAny_holding (wpAny_call_entry slot_list_sort ⟨_, hoL, rfl⟩ entry_list_sort (list_sort_treeAny hoL hI hL fun out ns' a1 a2 a3 => ⟨_, rfl, ?_⟩) (args_list_sort _)))
 refine wpAny_pure ⟨_, rfl, ?_⟩
 obtain ⟨e1, he1⟩ := sortedHeap_at (out := out) hoL
 have hlen : ns'.length = kvs.length := by
  rw [a2.length_eq]
  have := congrArg List.length hk
  simpa using this.symm
 refine ⟨.ref _, upd H h'.objs.size (.lst (ns'.map V.int)), I0.laid (t' := tk) (fun b o e => ?_) (Nat.le_refl _) ⟨by rw [List.length_map, hlen]; exact hz, out.toList, e1, vals_of_ints a1, by simpa using he1⟩, rfl, q ns' _ a2 a3 (I0.hok.fresh (Nat.le_refl _))⟩
 have hb : b < h'.objs.size := Heap.lt_size e
 rw [sortedHeap_old (Nat.ne_of_lt hb) (by rw [Heap.size_push]; exact Nat.lt_succ_of_lt hb)]
 exact Heap.get?_push_of_some _ e
end
end L2
end
section
namespace L2
open PySem PySem.Spec PyProof.Rows
section
variable {prog : Program} {w : World} {A : Around} {E : Value → Shared → Prop} {s : Shared}
theorem zt_item {I t : Addr} {i : Nat} {xs : Array Value} {x : Value} {Q : Value → Shared → Prop} (hI : IsTupIter s.heap I t i) (ht : IsTup s.heap t xs) (hx : xs[i]? = some x)
  (h : ∀ g, IsTupIter g I t (i + 1) → Heap.SameBut I s.heap g → Q x { s with heap := g }) : wpAny (model prog w) A (Builtin.SmallTypes.nextOf (.ref I)) Q E s := by
 obtain ⟨oI, eI, cI, dI⟩ := id hI
 obtain ⟨ot, et, _, n, dt⟩ := ht
 have T := hI.typeIs
 unfold Builtin.SmallTypes.nextOf
 refine wpAny_bind (wpAny_callSpecial?_slot (name := Str.ofString "__next__") T slot_tupleiter_next (wpAny_call_entry slot_tupleiter_next T entry_tupleiter_next ?_ (args_tupleiter_next _)))
 refine wpAny_bind (m := field (.ref I) 0) (wpAny_field eI dI (x := .ref t) rfl ?_)
 show wpAny _ _ (if (Value.ref t == Value.none) = true then _ else field (.ref I) 1 >>= _) _ _ s
 rw [if_neg (by intro z; cases z)]
 refine wpAny_bind (wpAny_field eI dI (x := .int i 0) rfl (wpAny_bind (m := seqItems? (.ref t)) (wpAny_seqItems et dt ?_)))
 simp only [hx, Int.toNat_natCast]
 refine wpAny_bind (wpAny_setField eI dI (by simp) (wpAny_pure ⟨x, rfl, wpAny_pure (h _ ⟨_, Heap.get?_update_self _ eI (Obj.isFreed_of_fields (Obj.data_mapFields dI _)), (Obj.cls_mapFields ..).trans cI, ?_⟩ (Heap.SameBut.update ..))⟩))
 rw [Obj.data_mapFields dI]
 simp [rawInt]
theorem zt_end {I t : Addr} {i : Nat} {xs : Array Value} {Q : Value → Shared → Prop} (hh : A.handled = none) (hI : IsTupIter s.heap I t i) (ht : IsTup s.heap t xs) (hx : xs[i]? = none)
  (h : ∀ g e, Heap.ExtBut I s.heap g → (∃ o, g.get? e = some o ∧ o.cls = .type "StopIteration") → E (.ref e) { s with heap := g }) : wpAny (model prog w) A (Builtin.SmallTypes.nextOf (.ref I)) Q E s := by
 obtain ⟨oI, eI, cI, dI⟩ := id hI
 obtain ⟨ot, et, _, n, dt⟩ := ht
 have T := hI.typeIs
 unfold Builtin.SmallTypes.nextOf
 refine wpAny_bind (wpAny_callSpecial?_slot (name := Str.ofString "__next__") T slot_tupleiter_next (wpAny_call_entry slot_tupleiter_next T entry_tupleiter_next ?_ (args_tupleiter_next _)))
 refine wpAny_bind (m := field (.ref I) 0) (wpAny_field eI dI (x := .ref t) rfl ?_)
 show wpAny _ _ (if (Value.ref t == Value.none) = true then _ else field (.ref I) 1 >>= _) _ _ s
 rw [if_neg (by intro z; cases z)]
 refine wpAny_bind (wpAny_field eI dI (x := .int i 0) rfl (wpAny_bind (m := seqItems? (.ref t)) (wpAny_seqItems et dt ?_)))
 simp only [hx, Int.toNat_natCast]
 refine wpAny_bind (wpAny_rule (wpAny_bind (wpAny_setField eI dI (by simp) (wpAny_bind (m := newExc (.type "StopIteration") []) ?_))))
 simp only [newExc, newTuple]
 refine wpAny_bind (wpAny_newObj_type (wpAny_bind (m := firstArgMember _ _) (wpAny_of_eq (a := Value.none) (by first | rfl | (simp only [firstArgMember]; rfl)) (wpAny_newObj_type ?_ (by size_fits)))) (by size_fits))
 simp only [raiseNew]
 refine wpAny_bind (wpAny_handled ?_)
 first | rw [show A.in1.handled = none from hh] | rw [hh]
 exact wpAny_bind (wpAny_pure (wpAny_throw (h _ _ (((Heap.SameBut.update ..).extBut.push _).push _) ⟨_, Heap.get?_push_size _ rfl, rfl⟩)))
theorem zl_alive {a : Addr} {Q : Option Obj → Shared → Prop} (h : Q (s.heap.get? a) s) : wpAny (model prog w) A (loadIfAlive a) Q E s := fun _ _ _ => h
abbrev ZipO (f0 f1 : Value) (TI TO : Addr) : Obj := { cls := .type "zip", dict := none, data := .fields #[f0, f1, .bool false, .ref TI, .ref TO], slots := #[] }
structure ZA (z TI TO i1 i2 t l : Addr) : Prop where
 a1 : TI ≠ z
 a2 : TO ≠ z
 a3 : i1 ≠ z
 a4 : i2 ≠ z
 a5 : TI ≠ TO
 a6 : TI ≠ i1
 a7 : TI ≠ i2
 a8 : TO ≠ i1
 a9 : TO ≠ i2
 b1 : i1 ≠ i2
 b2 : t ≠ z
 b3 : t ≠ TO
 b4 : t ≠ i1
 b5 : t ≠ i2
 b6 : l ≠ z
 b7 : l ≠ TO
 b8 : l ≠ i1
 b9 : l ≠ i2
abbrev Zk (z TO i1 i2 : Addr) (g g' : Heap) : Prop := ∀ c o, c ≠ z → c ≠ TO → c ≠ i1 → c ≠ i2 → g.get? c = some o → g'.get? c = some o
structure ZSt (g : Heap) (z TI TO i1 i2 t l : Addr) (i : Nat) : Prop where
 zip : g.get? z = some (ZipO .none (.bool false) TI TO) ∨ ∃ (T : Addr) (o : Obj) (b : Bool), g.get? z = some (ZipO (rawInt (T : Nat)) (.bool b) TI TO) ∧ g.get? T = some o ∧ T ≠ z ∧ T ≠ TO ∧ T ≠ i1 ∧ T ≠ i2
 ti : IsPair g TI (.ref i1) (.ref i2)
 to : ∃ a b, IsPair g TO a b
 it1 : IsTupIter g i1 t i
 it2 : g.IsListIter i2 l i
theorem zip_free {z TI TO i1 i2 t l : Addr} {k : Nat} {xs ys : Array Value} {x y : Value} {Q : Value → Shared → Prop} (D : ZA z TI TO i1 i2 t l) (hz : s.heap.get? z = some (ZipO .none (.bool false) TI TO)) (hTI : IsPair s.heap TI (.ref i1) (.ref i2)) (hTO : ∃ a b, IsPair s.heap TO a b)
  (h1 : IsTupIter s.heap i1 t k) (h2 : s.heap.IsListIter i2 l k) (ht : IsTup s.heap t xs) (hl : s.heap.IsList l ys) (hx : xs[k]? = some x) (hy : ys[k]? = some y)
  (hQ : ∀ g T, ZSt g z TI TO i1 i2 t l (k + 1) → IsTup g T #[x, y] → s.heap.objs.size ≤ T → Zk z TO i1 i2 s.heap g → Q (.ref T) { s with heap := g }) :
  wpAny (model prog w) A (Builtin.«zip.__next__» ⟨[.ref z], []⟩) (fun fin s' => ∃ v, fin = .done (.ret v) ∧ Q v s') E s := by
 obtain ⟨a0, b0, hTO⟩ := hTO
 refine wpAny_bind (m := field (.ref z) 2) (wpAny_field hz rfl (x := .bool false) rfl ?_)
 refine wpAny_bind (m := field (.ref z) 3) (wpAny_field hz rfl (x := .ref TI) rfl (wpAny_bind (wpAny_seqItems hTI rfl ?_)))
 refine wpAny_bind (m := Builtin.SmallTypes.ownedTupleIsFree (.ref z)) ?_
 unfold Builtin.SmallTypes.ownedTupleIsFree
 refine wpAny_bind (wpAny_field hz rfl (x := .none) rfl (wpAny_pure ?_))
 simp only [if_true]
 refine wpAny_bind (wpAny_rule (wpAny_bind (wpAny_field hz rfl (x := .ref TO) rfl (wpAny_bind (wpAny_setField_rec hz (by simp) fun g1 z1 s1 => ?_)))))
 replace z1 : g1.get? z = some (ZipO .ellipsis (.bool false) TI TO) := z1
 simp only [List.zipIdx_cons, List.zipIdx_nil, List.forIn_cons, List.forIn_nil]
 refine wpAny_bind (wpAny_bind (wpAny_bind (wpAny_onRaise (wpAny_bind (m := Builtin.SmallTypes.nextOf (.ref i1)) ?_))))
 refine zt_item (h1.extBut s1.extBut D.a3) (ht.extBut s1.extBut D.b2) hx fun g2 j2 s2 => wpAny_pure ?_
 have p2 : IsPair g2 TO a0 b0 := s2.extBut _ _ D.a8 (s1.extBut _ _ D.a2 hTO)
 refine wpAny_bind (wpAny_seqItems p2 rfl (wpAny_bind (wpAny_updateSeq_pair p2 fun g3 p3 s3 => ?_)))
 replace p3 : IsPair g3 TO x b0 := p3
 refine wpAny_bind (wpAny_letGo (wpAny_pure ?_))
 refine wpAny_bind (wpAny_bind (wpAny_onRaise (wpAny_bind (m := Builtin.SmallTypes.nextOf (.ref i2)) ?_)))
 refine wpAny_nextOf_list_item (((h2.extBut s1.extBut D.a4).extBut s2.extBut D.b1.symm).extBut s3.extBut D.a9.symm) (((hl.extBut s1.extBut D.b6).extBut s2.extBut D.b8).extBut s3.extBut D.b7) hy fun g4 j4 s4 => wpAny_pure ?_
 have p4 : IsPair g4 TO x b0 := s4.extBut _ _ D.a9 p3
 refine wpAny_bind (wpAny_seqItems p4 rfl (wpAny_bind (wpAny_updateSeq_pair p4 fun g5 p5 s5 => ?_)))
 replace p5 : IsPair g5 TO x y := p5
 refine wpAny_bind (wpAny_letGo (wpAny_pure (wpAny_pure ?_)))
 refine wpAny_bind (wpAny_seqItems p5 rfl (wpAny_bind (wpAny_newTuple ?_)))
 have z5 : g5.get? z = some (ZipO .ellipsis (.bool false) TI TO) := s5.extBut _ _ D.a2.symm (s4.extBut _ _ D.a4.symm (s3.extBut _ _ D.a2.symm (s2.extBut _ _ D.a3.symm z1)))
 have k5 : Zk z TO i1 i2 s.heap g5 := fun c o c1 c2 c3 c4 e => s5.extBut _ _ c2 (s4.extBut _ _ c4 (s3.extBut _ _ c2 (s2.extBut _ _ c3 (s1.extBut _ _ c1 e))))
 have j15 : IsTupIter g5 i1 t (k + 1) := ((j2.extBut s3.extBut D.a8.symm).extBut s4.extBut D.b1).extBut s5.extBut D.a8.symm
 have j25 : g5.IsListIter i2 l (k + 1) := j4.extBut s5.extBut D.a9.symm
 have lz : z < g5.objs.size := Heap.lt_size z5
 have lO : TO < g5.objs.size := Heap.lt_size p5
 have l1 : i1 < g5.objs.size := by obtain ⟨_, q, _⟩ := j15; exact Heap.lt_size q
 have l2 : i2 < g5.objs.size := by obtain ⟨_, q, _⟩ := j25; exact Heap.lt_size q
 have sz : g5.objs.size = s.heap.objs.size := by rw [s5.1, s4.1, s3.1, s2.1, s1.1]
 refine wpAny_bind (m := Builtin.SmallTypes.ownedTupleHandOut (.ref z) (.ref g5.objs.size)) ?_
 unfold Builtin.SmallTypes.ownedTupleHandOut
 have z6 : (g5.push { cls := .type "tuple", data := .seq #[x, y] }).get? z = some (ZipO .ellipsis (.bool false) TI TO) := Heap.get?_push_of_some _ z5
 refine wpAny_bind (wpAny_setField_rec z6 (by simp) fun g7 z7 s7 => ?_)
 replace z7 : g7.get? z = some (ZipO (rawInt g5.objs.size) (.bool false) TI TO) := z7
 refine wpAny_setField_rec z7 (by simp) fun g8 z8 s8 => ?_
 replace z8 : g8.get? z = some (ZipO (rawInt g5.objs.size) (.bool false) TI TO) := z8
 have up : ∀ c o, c ≠ z → g5.get? c = some o → g8.get? c = some o := fun c o c1 e => s8.extBut _ _ c1 (s7.extBut _ _ c1 (Heap.get?_push_of_some _ e))
 have T8 : g8.get? g5.objs.size = some { cls := .type "tuple", data := .seq #[x, y] } := s8.extBut _ _ (Nat.ne_of_gt lz) (s7.extBut _ _ (Nat.ne_of_gt lz) (Heap.get?_push_size _ rfl))
 refine wpAny_pure ⟨_, rfl, hQ g8 g5.objs.size ⟨.inr ⟨_, _, _, z8, T8, Nat.ne_of_gt lz, Nat.ne_of_gt lO, Nat.ne_of_gt l1, Nat.ne_of_gt l2⟩, up _ _ D.a1 (k5 _ _ D.a1 D.a5 D.a6 D.a7 hTI), ⟨x, y, up _ _ D.a2 p5⟩, ?_, ?_⟩ ⟨_, T8, rfl, _, rfl⟩ (Nat.le_of_eq sz.symm) fun c o c1 c2 c3 c4 e => up c o c1 (k5 c o c1 c2 c3 c4 e)⟩
 ·obtain ⟨o, q, r⟩ := j15
  exact ⟨o, up _ _ D.a3 q, r⟩
 ·exact j25.at fun o q => up _ o D.a4 q
theorem zip_busy {z TI TO i1 i2 t l T : Addr} {oT : Obj} {b : Bool} {k : Nat} {xs ys : Array Value} {x y : Value} {Q : Value → Shared → Prop} (D : ZA z TI TO i1 i2 t l) (hz : s.heap.get? z = some (ZipO (rawInt (T : Nat)) (.bool b) TI TO)) (hT : s.heap.get? T = some oT) (nT : T ≠ z ∧ T ≠ TO ∧ T ≠ i1 ∧ T ≠ i2)
  (hTI : IsPair s.heap TI (.ref i1) (.ref i2)) (hTO : ∃ a b, IsPair s.heap TO a b)
  (h1 : IsTupIter s.heap i1 t k) (h2 : s.heap.IsListIter i2 l k) (ht : IsTup s.heap t xs) (hl : s.heap.IsList l ys) (hx : xs[k]? = some x) (hy : ys[k]? = some y)
  (hQ : ∀ g T, ZSt g z TI TO i1 i2 t l (k + 1) → IsTup g T #[x, y] → s.heap.objs.size ≤ T → Zk z TO i1 i2 s.heap g → Q (.ref T) { s with heap := g }) :
  wpAny (model prog w) A (Builtin.«zip.__next__» ⟨[.ref z], []⟩) (fun fin s' => ∃ v, fin = .done (.ret v) ∧ Q v s') E s := by
 obtain ⟨a0, b0, hTO⟩ := hTO
 obtain ⟨n1, n2, n3, n4⟩ := nT
 refine wpAny_bind (m := field (.ref z) 2) (wpAny_field hz rfl (x := .bool false) rfl ?_)
 refine wpAny_bind (m := field (.ref z) 3) (wpAny_field hz rfl (x := .ref TI) rfl (wpAny_bind (wpAny_seqItems hTI rfl ?_)))
 refine wpAny_bind (m := Builtin.SmallTypes.ownedTupleIsFree (.ref z)) ?_
 refine thn (Q := fun (a : Bool) (s' : Shared) => a = false ∧ ∃ g1, s' = { s with heap := g1 } ∧ g1.get? z = some (ZipO (rawInt (T : Nat)) (.bool true) TI TO) ∧ Heap.SameBut z s.heap g1) ?_ ?_
 ·unfold Builtin.SmallTypes.ownedTupleIsFree
  refine wpAny_bind (wpAny_field hz rfl (x := rawInt (T : Nat)) rfl ?_)
  simp only [rawInt]
  refine wpAny_bind (zl_alive ?_)
  rw [show ((T : Nat) : Int).toNat = T from Int.toNat_natCast T, hT, if_neg (by intro q; cases q)]
  refine wpAny_bind (wpAny_field hz rfl (x := .bool b) rfl ?_)
  cases b with
  | true =>
   rw [if_neg (by simp)]
   exact wpAny_pure ⟨rfl, s.heap, rfl, hz, Heap.SameBut.refl _ _⟩
  | false =>
   rw [if_pos (by decide)]
   refine wpAny_bind (wpAny_setField_rec hz (by simp) fun g1 z1 s1 => ?_)
   exact wpAny_pure ⟨rfl, g1, rfl, z1, s1⟩
 ·rintro a s' ⟨rfl, g1, rfl, z1, s1⟩
  rw [if_neg Bool.false_ne_true]
  refine wpAny_bind ?_
  first
   | rw [List.forIn_toArray]
   | (rw [← Array.forIn_toList]; simp only [List.toList_toArray])
  simp only [List.forIn_cons, List.forIn_nil]
  refine wpAny_bind (wpAny_bind (wpAny_holding (wpAny_bind (m := Builtin.SmallTypes.nextOf (.ref i1)) ?_)))
  refine zt_item (h1.extBut s1.extBut D.a3) (ht.extBut s1.extBut D.b2) hx fun g2 j2 s2 => wpAny_pure (wpAny_pure ?_)
  refine wpAny_bind (wpAny_bind (wpAny_holding (wpAny_bind (m := Builtin.SmallTypes.nextOf (.ref i2)) ?_)))
  refine wpAny_nextOf_list_item ((h2.extBut s1.extBut D.a4).extBut s2.extBut D.b1.symm) ((hl.extBut s1.extBut D.b6).extBut s2.extBut D.b8) hy fun g4 j4 s4 => wpAny_pure (wpAny_pure (wpAny_pure ?_))
  show wpAny _ _ (newTuple [x, y] >>= _) _ _ _
  refine wpAny_bind (wpAny_newTuple ?_ (by show 2 ≤ sizeLine; decide))
  have z4 : g4.get? z = some (ZipO (rawInt (T : Nat)) (.bool true) TI TO) := s4.extBut _ _ D.a4.symm (s2.extBut _ _ D.a3.symm z1)
  have k4 : Zk z TO i1 i2 s.heap g4 := fun c o c1 c2 c3 c4 e => s4.extBut _ _ c4 (s2.extBut _ _ c3 (s1.extBut _ _ c1 e))
  have sz : g4.objs.size = s.heap.objs.size := by rw [s4.1, s2.1, s1.1]
  have up : ∀ c o, g4.get? c = some o → (g4.push { cls := .type "tuple", data := .seq #[x, y] }).get? c = some o := fun c o e => Heap.get?_push_of_some _ e
  refine wpAny_pure ⟨_, rfl, hQ _ g4.objs.size ⟨.inr ⟨T, oT, true, up _ _ z4, up _ _ (k4 _ _ n1 n2 n3 n4 hT), n1, n2, n3, n4⟩, up _ _ (k4 _ _ D.a1 D.a5 D.a6 D.a7 hTI), ⟨a0, b0, up _ _ (s4.extBut _ _ D.a9 (s2.extBut _ _ D.a8 (s1.extBut _ _ D.a2 hTO)))⟩, ?_, j4.at fun o q => up _ o q⟩ ⟨_, Heap.get?_push_size _ rfl, rfl, _, rfl⟩ (Nat.le_of_eq sz.symm) fun c o c1 c2 c3 c4 e => up c o (k4 c o c1 c2 c3 c4 e)⟩
  obtain ⟨o, q, r⟩ := j2.extBut s4.extBut D.b1
  exact ⟨o, up _ _ q, r⟩
theorem zip_fin {z TI TO i1 i2 t l : Addr} {k : Nat} {xs : Array Value} {Q : PySem.Fin → Shared → Prop} (hh : A.handled = none) (D : ZA z TI TO i1 i2 t l) (Z : ZSt s.heap z TI TO i1 i2 t l k) (ht : IsTup s.heap t xs) (hx : xs[k]? = none)
  (hE : ∀ g e, Zk z TO i1 i2 s.heap g → (∃ o, g.get? e = some o ∧ o.cls = .type "StopIteration") → E (.ref e) { s with heap := g }) :
  wpAny (model prog w) A (Builtin.«zip.__next__» ⟨[.ref z], []⟩) Q E s := by
 obtain ⟨hz, hTI, ⟨a0, b0, hTO⟩, h1, h2⟩ := Z
 rcases hz with hz | ⟨T, oT, b, hz, hT, n1, n2, n3, n4⟩
 ·refine wpAny_bind (m := field (.ref z) 2) (wpAny_field hz rfl (x := .bool false) rfl ?_)
  refine wpAny_bind (m := field (.ref z) 3) (wpAny_field hz rfl (x := .ref TI) rfl (wpAny_bind (wpAny_seqItems hTI rfl ?_)))
  refine wpAny_bind (m := Builtin.SmallTypes.ownedTupleIsFree (.ref z)) ?_
  unfold Builtin.SmallTypes.ownedTupleIsFree
  refine wpAny_bind (wpAny_field hz rfl (x := .none) rfl (wpAny_pure ?_))
  simp only [if_true]
  refine wpAny_bind (wpAny_rule (wpAny_bind (wpAny_field hz rfl (x := .ref TO) rfl (wpAny_bind (wpAny_setField_rec hz (by simp) fun g1 z1 s1 => ?_)))))
  replace z1 : g1.get? z = some (ZipO .ellipsis (.bool false) TI TO) := z1
  simp only [List.zipIdx_cons, List.zipIdx_nil, List.forIn_cons, List.forIn_nil]
  refine wpAny_bind (wpAny_bind (wpAny_bind (wpAny_onRaise (wpAny_bind (m := Builtin.SmallTypes.nextOf (.ref i1)) ?_))))
  refine zt_end hh (h1.extBut s1.extBut D.a3) (ht.extBut s1.extBut D.b2) hx fun g2 e s2 he => ?_
  obtain ⟨oe, he, hc⟩ := he
  have z2 : g2.get? z = some (ZipO .ellipsis (.bool false) TI TO) := s2 _ _ D.a3.symm z1
  have ne : e ≠ z := fun q => by rw [q, z2] at he; cases he; exact absurd (show Value.type "zip" = Value.type "StopIteration" from hc) (by decide +kernel)
  refine wpAny_setField_rec z2 (by simp) fun g3 z3 s3 => hE g3 e (fun c o c1 _ c3 _ q => s3.extBut _ _ c1 (s2 _ _ c3 (s1.extBut _ _ c1 q))) ⟨oe, s3.extBut _ _ ne he, hc⟩
 ·refine wpAny_bind (m := field (.ref z) 2) (wpAny_field hz rfl (x := .bool false) rfl ?_)
  refine wpAny_bind (m := field (.ref z) 3) (wpAny_field hz rfl (x := .ref TI) rfl (wpAny_bind (wpAny_seqItems hTI rfl ?_)))
  refine wpAny_bind (m := Builtin.SmallTypes.ownedTupleIsFree (.ref z)) ?_
  refine thn (Q := fun (a : Bool) (s' : Shared) => a = false ∧ ∃ g1, s' = { s with heap := g1 } ∧ Heap.SameBut z s.heap g1) ?_ ?_
  ·unfold Builtin.SmallTypes.ownedTupleIsFree
   refine wpAny_bind (wpAny_field hz rfl (x := rawInt (T : Nat)) rfl ?_)
   simp only [rawInt]
   refine wpAny_bind (zl_alive ?_)
   rw [show ((T : Nat) : Int).toNat = T from Int.toNat_natCast T, hT, if_neg (by intro q; cases q)]
   refine wpAny_bind (wpAny_field hz rfl (x := .bool b) rfl ?_)
   cases b with
   | true =>
    rw [if_neg (by simp)]
    exact wpAny_pure ⟨rfl, s.heap, rfl, Heap.SameBut.refl _ _⟩
   | false =>
    rw [if_pos (by decide)]
    refine wpAny_bind (wpAny_setField_rec hz (by simp) fun g1 z1 s1 => ?_)
    exact wpAny_pure ⟨rfl, g1, rfl, s1⟩
  ·rintro a s' ⟨rfl, g1, rfl, s1⟩
   rw [if_neg Bool.false_ne_true]
   refine wpAny_bind ?_
   first
    | rw [List.forIn_toArray]
    | (rw [← Array.forIn_toList]; simp only [List.toList_toArray])
   simp only [List.forIn_cons, List.forIn_nil]
   refine wpAny_bind (wpAny_bind (wpAny_holding (wpAny_bind (m := Builtin.SmallTypes.nextOf (.ref i1)) ?_)))
   exact zt_end hh (h1.extBut s1.extBut D.a3) (ht.extBut s1.extBut D.b2) hx fun g2 e s2 he => hE g2 e (fun c o c1 _ c3 _ q => s2 _ _ c3 (s1.extBut _ _ c1 q)) he
theorem zn_item {z TI TO i1 i2 t l : Addr} {k : Nat} {xs ys : Array Value} {x y : Value} {Q : Option Value → Shared → Prop} (D : ZA z TI TO i1 i2 t l) (Z : ZSt s.heap z TI TO i1 i2 t l k) (ht : IsTup s.heap t xs) (hl : s.heap.IsList l ys) (hx : xs[k]? = some x) (hy : ys[k]? = some y)
  (hQ : ∀ g T, ZSt g z TI TO i1 i2 t l (k + 1) → IsTup g T #[x, y] → s.heap.objs.size ≤ T → Zk z TO i1 i2 s.heap g → Q (some (.ref T)) { s with heap := g }) : wpAny (model prog w) A (pyNext (.ref z)) Q E s := by
 obtain ⟨hz, hTI, hTO, h1, h2⟩ := Z
 have T : s.TypeIs (.ref z) "zip" := by
  rcases hz with hz | ⟨T, oT, b, hz, _⟩
  ·exact ⟨_, hz, rfl⟩
  ·exact ⟨_, hz, rfl⟩
 unfold pyNext
 refine wpAny_bind (wpAny_attempt (wpAny_callSpecial?_slot (name := Str.ofString "__next__") T F.slot_zip_next (wpAny_call_entry F.slot_zip_next T F.entry_zip_next ?_ (F.args_zip_next_1 _))))
 rcases hz with hz | ⟨T, oT, b, hz, hT, nT⟩
 ·exact zip_free D hz hTI hTO h1 h2 ht hl hx hy fun g T a b c d => wpAny_pure (hQ g T a b c d)
 ·exact zip_busy D hz hT nT hTI hTO h1 h2 ht hl hx hy fun g T a b c d => wpAny_pure (hQ g T a b c d)
theorem zn_end {z TI TO i1 i2 t l : Addr} {k : Nat} {xs : Array Value} {Q : Option Value → Shared → Prop} (hh : A.handled = none) (D : ZA z TI TO i1 i2 t l) (Z : ZSt s.heap z TI TO i1 i2 t l k) (ht : IsTup s.heap t xs) (hx : xs[k]? = none)
  (hQ : ∀ g, Zk z TO i1 i2 s.heap g → Q none { s with heap := g }) : wpAny (model prog w) A (pyNext (.ref z)) Q E s := by
 have T : s.TypeIs (.ref z) "zip" := by
  rcases Z.zip with hz | ⟨T, oT, b, hz, _⟩
  ·exact ⟨_, hz, rfl⟩
  ·exact ⟨_, hz, rfl⟩
 unfold pyNext
 refine wpAny_bind (wpAny_attempt (wpAny_callSpecial?_slot (name := Str.ofString "__next__") T F.slot_zip_next (wpAny_call_entry F.slot_zip_next T F.entry_zip_next (zip_fin hh D Z ht hx fun g e hk he => ?_) (F.args_zip_next_1 _))))
 obtain ⟨o, ho, hc⟩ := he
 exact wpAny_bind (wpAny_isInstance (T := "StopIteration") (b := true) ⟨o, ho, hc⟩ isSubtype_stop (wpAny_pure (hQ _ hk)))
theorem zip_loop {R : Result → Shared → Prop} {S z TI TO i1 i2 t l : Addr} {xs ys : Array Value} {res : Value} (hh : A.handled = none) (D : ZA z TI TO i1 i2 t l) (nS : S ≠ z ∧ S ≠ TO ∧ S ≠ i1 ∧ S ≠ i2 ∧ S ≠ TI ∧ S ≠ t ∧ S ≠ l) :
  ∀ (rest : List (Key × Value)) (k : Nat) (acc : List (Key × Value)) (ix : Int) (tk : Tok) (s : Shared), xs.size = k + rest.length → acc.length + rest.length ≤ sizeLine →
   (∀ (j : Nat) (q : Key × Value), rest[j]? = some q → ∃ u : Value, xs[k + j]? = some u ∧ ys[k + j]? = some q.2 ∧ keyIs q.1 u = true) →
   ZSt s.heap z TI TO i1 i2 t l k → IsTup s.heap t xs → s.heap.IsList l ys → s.heap.DictOf (mixKind prog w) S acc →
   (∀ h' tk, h'.DictOf (mixKind prog w) S (merged acc rest) → (∀ b o, b ≠ S → b ≠ z → b ≠ TO → b ≠ i1 → b ≠ i2 → s.heap.get? b = some o → h'.get? b = some o) → R (.ok (.ret res)) { s with heap := h', toks := tk }) →
   codeAny (model prog w) A (.builtin "dict.update.loop" ⟨[.ref S, .ref z, .int ix tk, res], []⟩) R s
 | [], k, acc, ix, tk, s, hsz, hln, hp, Z, ht, hl, hm, hR => by
  obtain ⟨m1, m2, m3, m4, m5, m6, m7⟩ := nS
  refine codeAny_builtin ud_entry ?_
  rw [Around.under_plainId ud_plain _]
  show wpAny _ A.in1 (pyNext (.ref z) >>= _) _ _ s
  refine wpAny_bind (zn_end (A := A.in1) hh D Z ht (by first | exact Array.getElem?_eq_none (Nat.le_of_eq hsz) | (simp at hsz; simp; omega)) fun g hk => ?_)
  show wpAny _ A.in1 (Builtin.Dict.addKeywords S [] >>= _) _ _ _
  exact wpAny_bind (wpAny_pure (wpAny_pure (hR g s.toks (hm.at fun o e => hk _ _ m1 m2 m3 m4 e) fun b o _ c1 c2 c3 c4 e => hk b o c1 c2 c3 c4 e)))
 | q :: rest, k, acc, ix, tk, s, hsz, hln, hp, Z, ht, hl, hm, hR => by
  obtain ⟨m1, m2, m3, m4, m5, m6, m7⟩ := id nS
  obtain ⟨u, hu, hy, hk⟩ := hp 0 q rfl
  rw [List.length_cons] at hsz hln
  refine codeAny_builtin ud_entry ?_
  rw [Around.under_plainId ud_plain _]
  show wpAny _ A.in1 (pyNext (.ref z) >>= _) _ _ s
  refine wpAny_bind (zn_item D Z ht hl (x := u) (y := q.2) (by simpa using hu) (by simpa using hy) fun g T Z1 hT hge hk1 => ?_)
  have ht1 : IsTup g t xs := by
   obtain ⟨o, ho, r⟩ := ht
   exact ⟨o, hk1 _ _ D.b2 D.b3 D.b4 D.b5 ho, r⟩
  have hl1 : g.IsList l ys := hl.at fun o e => hk1 _ _ D.b6 D.b7 D.b8 D.b9 e
  have hm1 : g.DictOf (mixKind prog w) S acc := hm.at fun o e => hk1 _ _ m1 m2 m3 m4 e
  have lS : S < s.heap.objs.size := by obtain ⟨o, _, _, e, _⟩ := hm; exact Heap.lt_size e
  obtain ⟨oT, hoT, hcT, n, hdT⟩ := hT
  show wpAny _ A.in1 (holding [Value.ref T] _ >>= _) _ _ _
  refine wpAny_bind (wpAny_holding (wpAny_bind (wpAny_tryCatch ?_)))
  unfold Builtin.Dict.pairItems
  refine wpAny_bind (wpAny_typeOf (T := "tuple") ⟨oT, hoT, hcT⟩ ?_)
  rw [if_pos (by first | decide | rfl | simp)]
  refine wpAny_bind (wpAny_seqItems hoT hdT (wpAny_pure ?_))
  show wpAny _ A.in1 (holding [u, q.2] (dictSet S u q.2)) _ _ _
  refine wpAny_holding (wpAny_dictSet_pairs (knd := mixKind prog w) (k := q.1) hk hm1 (fun h2 hm2 hs2 => ?_) (by omega))
  have kS : ∀ c o, c ≠ S → g.get? c = some o → h2.get? c = some o := fun c o n e => hs2.extBut c o n e
  have Z2 : ZSt h2 z TI TO i1 i2 t l (k + 1) := by
   obtain ⟨hz, hTI, ⟨a0, b0, hTO⟩, h1, h2'⟩ := Z1
   refine ⟨?_, kS _ _ m5.symm hTI, ⟨a0, b0, kS _ _ m2.symm hTO⟩, ?_, h2'.at fun o e => kS _ _ m4.symm e⟩
   ·rcases hz with hz | ⟨T', oT', b, hz, hT', n1, n2, n3, n4⟩
    ·exact .inl (kS _ _ m1.symm hz)
    ·by_cases e : T' = S
     ·obtain ⟨o, _, _, ho, _⟩ := hm2
      exact .inr ⟨T', o, b, kS _ _ m1.symm hz, by rw [e]; exact ho, n1, n2, n3, n4⟩
     ·exact .inr ⟨T', oT', b, kS _ _ m1.symm hz, kS _ _ e hT', n1, n2, n3, n4⟩
   ·obtain ⟨o, ho, r⟩ := h1
    exact ⟨o, kS _ _ m3.symm ho, r⟩
  refine wpAny_pure ⟨plainId_quiet ud_plain _, zip_loop hh D nS rest (k + 1) (stored acc q.1 q.2) (ix + 1) 0 _ (show xs.size = k + 1 + rest.length by omega) ?_ (fun j q' e => ?_) Z2 ?_ (hl1.at fun o e => kS _ _ m7.symm e) hm2 fun h' tk hd' kk => ?_⟩
  ·have zz := stored_length_le acc q.1 q.2
   omega
  ·obtain ⟨u', hu', hy', hk'⟩ := hp (j + 1) q' (by simpa using e)
   exact ⟨u', by rw [show k + 1 + j = k + (j + 1) by omega]; exact hu', by rw [show k + 1 + j = k + (j + 1) by omega]; exact hy', hk'⟩
  ·obtain ⟨o, ho, r⟩ := ht1
   exact ⟨o, kS _ _ m6.symm ho, r⟩
  ·exact hR h' tk hd' fun c oc c0 c1 c2 c3 c4 e => kk c oc c0 c1 c2 c3 c4 (kS c oc c0 (hk1 c oc c1 c2 c3 c4 e))
abbrev zg1 (h : Heap) (t : Addr) : Heap := h.push { cls := .type "tuple_iterator", data := .fields #[.ref t, .int 0 0] }
abbrev zg2 (h : Heap) (t l : Addr) : Heap := (zg1 h t).push { cls := .type "list_iterator", data := .fields #[.ref l, .int 0 0] }
abbrev zg3 (h : Heap) (t l : Addr) : Heap := (zg2 h t l).push { cls := .type "tuple", data := .seq #[.ref h.objs.size, .ref (zg1 h t).objs.size] }
abbrev zg4 (h : Heap) (t l : Addr) : Heap := (zg3 h t l).push { cls := .type "tuple", data := .seq #[.none, .none] }
abbrev zg5 (h : Heap) (t l : Addr) : Heap := (zg4 h t l).push { cls := .type "zip", data := .fields #[.none, .bool false, .bool false, .ref (zg2 h t l).objs.size, .ref (zg3 h t l).objs.size] }
theorem zip_made (t l : Addr) (xs ys : Array Value) : Meets (Builtin.«zip.__new__» ⟨[.type "zip", .ref t, .ref l], []⟩) (fun _ R s => s.heap.IsTuple t xs ∧ s.heap.IsList l ys ∧ R (.ok (.ret (.ref (zg4 s.heap t l).objs.size))) { s with heap := zg5 s.heap t l }) :=
 .of_wp fun prog w A R s h => by
  obtain ⟨hp, g, d, tk, os⟩ := s
  obtain ⟨ht, hl, h⟩ := h
  have f1 := sub_zip
  have q1 : Heap.IsTuple (Shared.heap ⟨hp, g, d, tk, os⟩) t xs := ht
  have q2 : Heap.IsList (Shared.heap ⟨hp.push { cls := .type "tuple_iterator", data := .fields #[.ref t, .int 0 0] }, g, d, tk, os⟩) l ys := Heap.IsList.push hl _
  wp_walk using wpAny_pyIter_tuple q1, wpAny_pyIter_list q2
  exact ⟨_, rfl, h⟩
theorem call_zipTL {t l : Addr} {xs ys : Array Value} {Q : Value → Shared → Prop} (ht : IsTup s.heap t xs) (hl : s.heap.IsList l ys)
  (h : ∀ g, ZSt g (s.heap.objs.size + 4) (s.heap.objs.size + 2) (s.heap.objs.size + 3) s.heap.objs.size (s.heap.objs.size + 1) t l 0 → (∀ c o, s.heap.get? c = some o → g.get? c = some o) → g.objs.size = s.heap.objs.size + 5 → g.get? (s.heap.objs.size + 4) = some (ZipO .none (.bool false) (s.heap.objs.size + 2) (s.heap.objs.size + 3)) → Q (.ref (s.heap.objs.size + 4)) { s with heap := g }) :
  wpAny (model prog w) A (call (.type "zip") [.ref t, .ref l]) Q E s := by
 refine callType_new F.called_zip (by decide) (F.typeCall_zip_2 _ _) (F.newCall_zip_2 _ _) (fun obj => F.args_object_init_3 obj _ _) F.entry_zip_new (zip_made t l xs ys) ⟨ht, hl, ?_⟩
 have e1 : (zg1 s.heap t).objs.size = s.heap.objs.size + 1 := Heap.size_push ..
 have e2 : (zg2 s.heap t l).objs.size = s.heap.objs.size + 2 := by rw [Heap.size_push, e1]
 have e3 : (zg3 s.heap t l).objs.size = s.heap.objs.size + 3 := by rw [Heap.size_push, e2]
 have e4 : (zg4 s.heap t l).objs.size = s.heap.objs.size + 4 := by rw [Heap.size_push, e3]
 have e5 : (zg5 s.heap t l).objs.size = s.heap.objs.size + 5 := by rw [Heap.size_push, e4]
 have u5 : ∀ c o, s.heap.get? c = some o → (zg5 s.heap t l).get? c = some o := fun c o q => Heap.get?_push_of_some _ (Heap.get?_push_of_some _ (Heap.get?_push_of_some _ (Heap.get?_push_of_some _ (Heap.get?_push_of_some _ q))))
 have g5 : (zg5 s.heap t l).get? (zg4 s.heap t l).objs.size = some (ZipO .none (.bool false) (zg2 s.heap t l).objs.size (zg3 s.heap t l).objs.size) := Heap.get?_push_size _ rfl
 have g4 : IsPair (zg5 s.heap t l) (zg3 s.heap t l).objs.size .none .none := Heap.get?_push_of_some _ (Heap.get?_push_size _ rfl)
 have g3 : IsPair (zg5 s.heap t l) (zg2 s.heap t l).objs.size (.ref s.heap.objs.size) (.ref (zg1 s.heap t).objs.size) := Heap.get?_push_of_some _ (Heap.get?_push_of_some _ (Heap.get?_push_size _ rfl))
 have g2 : (zg5 s.heap t l).get? (zg1 s.heap t).objs.size = some { cls := .type "list_iterator", data := .fields #[.ref l, .int 0 0] } := Heap.get?_push_of_some _ (Heap.get?_push_of_some _ (Heap.get?_push_of_some _ (Heap.get?_push_size _ rfl)))
 have g1 : (zg5 s.heap t l).get? s.heap.objs.size = some { cls := .type "tuple_iterator", data := .fields #[.ref t, .int 0 0] } := Heap.get?_push_of_some _ (Heap.get?_push_of_some _ (Heap.get?_push_of_some _ (Heap.get?_push_of_some _ (Heap.get?_push_size _ rfl))))
 rw [e2, e3, e4] at g5
 rw [e3] at g4
 rw [e1, e2] at g3
 rw [e1] at g2
 have key := h (zg5 s.heap t l) ⟨.inl g5, g3, ⟨_, _, g4⟩, ⟨_, g1, rfl, rfl⟩, ⟨_, g2, rfl, rfl⟩⟩ u5 e5 g5
 have hT : (zg5 s.heap t l).get? (zg4 s.heap t l).objs.size = some (ZipO .none (.bool false) (s.heap.objs.size + 2) (s.heap.objs.size + 3)) := by rw [e4]; exact g5
 show _ ∧ _
 rw [e4]
 exact ⟨⟨_, g5, rfl⟩, key⟩
theorem za_new (n t l : Nat) (ht : t < n) (hl : l < n) : ZA (n + 4) (n + 2) (n + 3) n (n + 1) t l := by
 refine ⟨?_, ?_, ?_, ?_, ?_, ?_, ?_, ?_, ?_, ?_, ?_, ?_, ?_, ?_, ?_, ?_, ?_, ?_⟩ <;> (intro q; have q' : (_ : Nat) = _ := q; omega)
theorem call_dictZ {z TI TO i1 i2 t l : Addr} {xs ys : Array Value} {prs : List (Key × Value)} {Q : Value → Shared → Prop} (hh : A.handled = none) (D : ZA z TI TO i1 i2 t l) (Z : ZSt s.heap z TI TO i1 i2 t l 0) (hz : s.heap.get? z = some (ZipO .none (.bool false) TI TO)) (ht : IsTup s.heap t xs) (hl : s.heap.IsList l ys)
  (hsz : xs.size = prs.length) (hln : prs.length ≤ sizeLine) (hp : ∀ (j : Nat) (q : Key × Value), prs[j]? = some q → ∃ u : Value, xs[j]? = some u ∧ ys[j]? = some q.2 ∧ keyIs q.1 u = true)
  (h : ∀ h' tk, h'.DictOf (mixKind prog w) s.heap.objs.size (merged [] prs) → (∀ b o, b ≠ z → b ≠ TO → b ≠ i1 → b ≠ i2 → s.heap.get? b = some o → h'.get? b = some o) → Q (.ref s.heap.objs.size) { s with heap := h', toks := tk }) :
  wpAny (model prog w) A (call (.type "dict") [.ref z]) Q E s := by
 refine callType_codes (Q₁ := fun obj s₁ => obj = .ref s.heap.objs.size ∧ s₁ = { s with heap := s.heap.push { cls := .type "dict", data := .dict #[] } }) PySem.F.kt_called_dict (PySem.F.kt_typeCall_dict_1 _) PySem.F.entry_dict_init (kt_code_dict_new _ ⟨rfl, rfl⟩) ?_
 rintro obj s₁ ⟨rfl, rfl⟩
 have hnew : (s.heap.push { cls := .type "dict", data := .dict #[] }).DictOf (mixKind prog w) s.heap.objs.size [] := Heap.DictOf.new s.heap
 have k0 : ∀ b o, s.heap.get? b = some o → (s.heap.push { cls := .type "dict", data := .dict #[] }).get? b = some o := fun b o e => Heap.get?_push_of_some _ e
 refine ⟨hnew.typeIs, PySem.F.args_dict_init_2 _ _, ?_⟩
 unfold Builtin.«dict.__init__»
 refine wpAny_bind ?_
 unfold Builtin.Dict.selfAndRest
 refine wpAny_bind (wpAny_notOrdered_dict hnew.typeIs ?_)
 show wpAny _ _ (pure (s.heap.objs.size, [Value.ref z])) _ _ _
 refine wpAny_pure ?_
 show wpAny _ _ (Builtin.Dict.updateFrom "dict.__init__" s.heap.objs.size (.ref z) [] .none) _ _ _
 unfold Builtin.Dict.updateFrom
 refine wpAny_bind (wpAny_typeOf (T := "zip") ⟨_, k0 _ _ hz, rfl⟩ ?_)
 rw [if_pos (by first | decide | rfl | simp)]
 refine wpAny_bind (miss_zip (k0 _ _ hz) hh fun h1 tk1 hk1 => ?_)
 rw [if_pos (show (none : Option Value).isNone = true from rfl)]
 refine wpAny_bind (wpAny_rule (wpAny_bind ?_))
 refine wpAny_pyIter_zip (hk1 _ _ (k0 _ _ hz)) ?_
 have ka : ∀ b o, s.heap.get? b = some o → h1.get? b = some o := fun b o e => hk1 _ _ (k0 _ _ e)
 have Z1 : ZSt h1 z TI TO i1 i2 t l 0 := by
  obtain ⟨_, hTI, ⟨a0, b0, hTO⟩, ⟨o1, e1, r1⟩, h2⟩ := Z
  exact ⟨.inl (ka _ _ hz), ka _ _ hTI, ⟨a0, b0, ka _ _ hTO⟩, ⟨o1, ka _ _ e1, r1⟩, h2.at fun o e => ka _ o e⟩
 have lt : ∀ b o, s.heap.get? b = some o → s.heap.objs.size ≠ b := fun b o e => Nat.ne_of_gt (Heap.lt_size e)
 have nS : s.heap.objs.size ≠ z ∧ s.heap.objs.size ≠ TO ∧ s.heap.objs.size ≠ i1 ∧ s.heap.objs.size ≠ i2 ∧ s.heap.objs.size ≠ TI ∧ s.heap.objs.size ≠ t ∧ s.heap.objs.size ≠ l := by
  obtain ⟨_, hTI, ⟨a0, b0, hTO⟩, ⟨o1, e1, r1⟩, ⟨o2, e2, r2⟩⟩ := Z
  obtain ⟨o3, e3, _⟩ := ht
  obtain ⟨o4, e4, _⟩ := hl
  exact ⟨lt _ _ hz, lt _ _ hTO, lt _ _ e1, lt _ _ e2, lt _ _ hTI, lt _ _ e3, lt _ _ e4⟩
 have ht1 : IsTup h1 t xs := by
  obtain ⟨o3, e3, r⟩ := ht
  exact ⟨o3, ka _ _ e3, r⟩
 have key := zip_loop (prog := prog) (w := w) (A := A.in1) (R := wants (fun r s₂ => r = .none ∧ Q (.ref s.heap.objs.size) s₂) E) (S := s.heap.objs.size) (res := Value.none) (xs := xs) (ys := ys) hh D nS prs 0 [] 0 0 { s with heap := h1, toks := tk1 } (by rw [hsz, Nat.zero_add]) (by rw [List.length_nil, Nat.zero_add]; exact hln)
  (fun j q e => by rw [Nat.zero_add]; exact hp j q e) Z1 ht1 (hl.at fun o e => ka _ o e) (hnew.at fun o e => hk1 _ o e)
  (fun h' tk hd' k => ⟨rfl, h h' tk hd' fun b o c1 c2 c3 c4 e => k b o (lt b o e).symm c1 c2 c3 c4 (ka _ _ e)⟩)
 first
  | exact wpAny_pure ⟨plainId_quiet ud_plain _, key⟩
  | exact wpAny_bind (wpAny_pure (wpAny_pure ⟨plainId_quiet ud_plain _, key⟩))
end
def tDictZ (K : PySem.W.Frag) (ta : TA) : TE := fun σ H Q => ta σ H fun vs H1 => ∃ t l ks ys, vs = [.ref t, .ref l] ∧ SqT K H1 t (List.map V.str ks) ∧ SqL K H1 l ys ∧ ks.length = ys.length ∧ ∀ p, H1 p = none → Q (.ref p) (upd H1 p (.dK (mergeK [] ((ks.zip ys).map fun q => (Sum.inr q.1, q.2)))))
theorem pe_dictZ {X : Cx} {e1 e2 : Expr} {ta : TA} {p p2 pos pz : Pos} (hcalm : X.calm = true) (hg : Gl X "dict") (hm : X.mg "dict" = none) (hgz : Gl X "zip") (hmz : X.mg "zip" = none) (ha : PA X [e1, e2] ta)
  (hst : starEach [.Call (.Name "zip" p2) [e1, e2] [] pz] X.env = [(false, eval (.Call (.Name "zip" p2) [e1, e2] [] pz) X.env)] := by rfl)
  (hs : starEach [e1, e2] X.env = (false, eval e1 X.env) :: starEach [e2] X.env := by rfl) (hpl : (backTo pz (starEach [e2] X.env)).any (·.1) = false := by rfl) :
  PE X (.Call (.Name "dict" p) [.Call (.Name "zip" p2) [e1, e2] [] pz] [] pos) (tDictZ X.K ta) := by
 intro pins s σ H Q I h
 refine wpAny_Call_Name_kw (ld_blt I hg hm PyProof.Rows.boot_dict ?_)
 refine PyProof.Rows.callWith_type1 ?_ hst rfl
 rw [hst]
 show wpAny _ _ (spliced ((false, eval (.Call (.Name "zip" p2) [e1, e2] [] pz) X.env) :: [])) _ _ s
 refine Calls.spliced_cons ?_
 refine Call_ (ld_blt I hgz hmz boot_zip5 (PyProof.Rows.callWith_type1 (thn (ha pz pins s σ H _ I h) fun us s1 ⟨vs, H1, I1, r1, t, l, ks, ys, ev, hT, hL, hkl, q⟩ => ?_) hs hpl))
 subst ev
 cases r1 with
 | cons ra rb =>
  cases rb with
  | cons rb rc =>
   cases rc
   cases ra
   cases rb
   obtain ⟨tv, rt, pt, hzt⟩ := I1.tuple hT
   obtain ⟨lv, rl, pl, hzl⟩ := I1.list hL
   have lt1 : t < s1.heap.objs.size := pt.lt
   have lt2 : l < s1.heap.objs.size := pl.lt
   have l1 := rt.length
   have l2 := rl.length
   rw [List.length_map] at l1 hzt
   refine call_zipTL pt pl.isList fun g Z ku esz hz => Calls.spliced_nil ?_
   have np : ∀ b o, s1.heap.get? b = some o → b < s1.heap.objs.size := fun b o e => Heap.lt_size e
   have hkeep : ∀ b o, s1.heap.get? b = some o → g.get? b = some o := ku
   refine call_dictZ (prs := (ks.zip lv).map fun q => (Sum.inr q.1, q.2)) (I.ok.hd hcalm) (za_new _ t l lt1 lt2) Z hz (pt.keeps hkeep) (pl.isList.at fun o e => hkeep _ o e) ?_ ?_ (fun j q hq => ?_) fun h' tk hd' kk => ?_
   ·rw [List.size_toArray, List.length_map, List.length_zip, ← l1, ← l2, ← hkl, Nat.min_self]
   ·rw [List.length_map, List.length_zip]
    exact Nat.le_trans (Nat.min_le_left _ _) hzt
   ·rw [List.getElem?_map] at hq
    cases e : (ks.zip lv)[j]? with
    | none => rw [e] at hq; cases hq
    | some kv =>
     rw [e] at hq
     have eq : (Sum.inr kv.1, kv.2) = q := Option.some.inj hq
     subst eq
     obtain ⟨ea, eb⟩ := List.getElem?_zip_eq_some.mp e
     have hks : (ks.map V.str)[j]? = some (V.str kv.1) := by rw [List.getElem?_map, ea]; rfl
     obtain ⟨u, hu, ru⟩ := rt.get hks
     obtain ⟨tk', rfl⟩ := (show ∃ tk', u = Value.str kv.1 tk' from ru)
     exact ⟨_, by simpa using hu, by simpa using eb, kV_is (P := X.prog) (w := X.w) (k := Sum.inr kv.1) ⟨tk', rfl⟩⟩
   ·have hle : s1.heap.objs.size ≤ g.objs.size := by rw [esz]; exact Nat.le_add_right _ _
    have kb : ∀ b o, s1.heap.get? b = some o → h'.get? b = some o := fun b o e => by
     have hb := np b o e
     exact kk b o (Nat.ne_of_lt (Nat.lt_of_lt_of_le hb (Nat.le_add_right _ _))) (Nat.ne_of_lt (Nat.lt_of_lt_of_le hb (Nat.le_add_right _ _))) (Nat.ne_of_lt hb) (Nat.ne_of_lt (Nat.lt_of_lt_of_le hb (Nat.le_add_right _ _))) (ku b o e)
    have rel : KV ((ks.zip ys).map fun q => ((Sum.inr q.1 : Key), q.2)) ((ks.zip lv).map fun q => ((Sum.inr q.1 : Key), q.2)) := by
     have go : ∀ (ks : List Str) (ys : List V) (lv : List Value), Vals ys lv → KV ((ks.zip ys).map fun q => ((Sum.inr q.1 : Key), q.2)) ((ks.zip lv).map fun q => ((Sum.inr q.1 : Key), q.2)) := by
      intro ks
      induction ks with
      | nil => intro ys lv _; exact .nil
      | cons a ks ih =>
       intro ys lv r
       cases r with
       | nil => exact .nil
       | cons h t => exact .cons ⟨rfl, h⟩ (ih _ _ t)
     exact go ks ys lv rl
    have hm' : (g.objs.size == sysModules) = false := beq_eq_false_iff_ne.mpr (Nat.ne_of_gt (Nat.lt_of_lt_of_le I1.big hle))
    have hlen : (mergeK [] ((ks.zip ys).map fun q => ((Sum.inr q.1 : Key), q.2))).length ≤ sizeLine := by
     refine Nat.le_trans (length_mergeK _ []) ?_
     rw [List.length_nil, Nat.zero_add, List.length_map, List.length_zip]
     exact Nat.le_trans (Nat.min_le_left _ _) hzt
    exact ⟨.ref g.objs.size, upd H1 g.objs.size (.dK (mergeK [] ((ks.zip ys).map fun q => (Sum.inr q.1, q.2)))), I1.laid (t' := tk) kb hle (show ObjOk X.prog X.w _ _ _ (.dK _) from ⟨hlen, hm', _, KV.merge rel .nil, hd'⟩), rfl, q _ (I1.hok.fresh hle)⟩
end L2
end
section
namespace SM
open Vabiti (Entry before putIn arranged weight top Tree build treeOf least greatest Window hits NEVER)
abbrev Bf (x y : Entry) : Prop := before x y = true
theorem bf_iff {x y : Entry} : before x y = true ↔ x.key < y.key ∨ (x.key = y.key ∧ (x.a < y.a ∨ (x.a = y.a ∧ x.id < y.id))) := by
 unfold before
 simp [Bool.or_eq_true, Bool.and_eq_true, decide_eq_true_eq, beq_iff_eq]
theorem bf_irrefl (x : Entry) : before x x = false := by
 cases h : before x x with
 | false => rfl
 | true => have := bf_iff.mp h; omega
theorem bf_trans {x y z : Entry} (h1 : Bf x y) (h2 : Bf y z) : Bf x z := by
 have a := bf_iff.mp h1
 have b := bf_iff.mp h2
 apply bf_iff.mpr
 omega
theorem bf_asymm {x y : Entry} (h1 : Bf x y) : before y x = false := by
 cases h : before y x with
 | false => rfl
 | true =>
  have a := bf_iff.mp h1
  have b := bf_iff.mp h
  omega
theorem bf_total {x y : Entry} (h : x.id ≠ y.id) (h1 : before x y = false) : Bf y x := by
 have a : ¬ Bf x y := by intro q; have q' : before x y = true := q; rw [h1] at q'; cases q'
 rw [show Bf x y ↔ _ from bf_iff] at a
 apply bf_iff.mpr
 omega
abbrev Srt (l : List Entry) : Prop := l.Pairwise Bf
theorem srt_unique : ∀ {l m : List Entry}, Srt l → Srt m → l.Perm m → l = m
 | [], m, _, _, p => (List.Perm.nil_eq p)
 | x :: l, [], _, _, p => absurd p.length_eq (by simp)
 | x :: l, y :: m, hl, hm, p => by
  have hx : x = y := by
   have h1 : x ∈ y :: m := p.mem_iff.mp List.mem_cons_self
   have h2 : y ∈ x :: l := p.mem_iff.mpr List.mem_cons_self
   rcases List.mem_cons.mp h1 with e | h1
   ·exact e
   ·rcases List.mem_cons.mp h2 with e | h2
    ·exact e.symm
    ·have a := (List.pairwise_cons.mp hl).1 y h2
     have b := (List.pairwise_cons.mp hm).1 x h1
     have c := bf_asymm a
     rw [show before y x = true from b] at c
     cases c
  subst hx
  rw [srt_unique (List.pairwise_cons.mp hl).2 (List.pairwise_cons.mp hm).2 (List.Perm.cons_inv p)]
theorem putIn_perm (x : Entry) : ∀ l : List Entry, (putIn x l).Perm (x :: l)
 | [] => List.Perm.refl _
 | y :: r => by
  unfold putIn
  split
  ·exact List.Perm.refl _
  ·exact ((putIn_perm x r).cons y).trans (List.Perm.swap x y r)
theorem putIn_srt {x : Entry} : ∀ {l : List Entry}, Srt l → (∀ y ∈ l, x.id ≠ y.id) → Srt (putIn x l)
 | [], _, _ => List.pairwise_cons.mpr ⟨by simp, .nil⟩
 | y :: r, h, hn => by
  unfold putIn
  have ⟨h1, h2⟩ := List.pairwise_cons.mp h
  split
  ·rename_i hb
   refine List.pairwise_cons.mpr ⟨fun z hz => ?_, h⟩
   rcases List.mem_cons.mp hz with e | hz
   ·rw [e]; exact hb
   ·exact bf_trans hb (h1 z hz)
  ·rename_i hb
   have hb' : Bf y x := bf_total (hn y List.mem_cons_self) (by cases q : before x y with
    | false => rfl
    | true => exact absurd q hb)
   refine List.pairwise_cons.mpr ⟨fun z hz => ?_, putIn_srt h2 fun y' hy => hn y' (List.mem_cons_of_mem _ hy)⟩
   rcases List.mem_cons.mp ((putIn_perm x r).mem_iff.mp hz) with e | hz
   ·rw [e]; exact hb'
   ·exact h1 z hz
theorem arranged_perm : ∀ l : List Entry, (arranged l).Perm l
 | [] => List.Perm.refl _
 | x :: l => by
  show (putIn x (arranged l)).Perm (x :: l)
  exact (putIn_perm x _).trans ((arranged_perm l).cons x)
theorem arranged_srt : ∀ {l : List Entry}, (l.map (·.id)).Nodup → Srt (arranged l)
 | [], _ => .nil
 | x :: l, h => by
  show Srt (putIn x (arranged l))
  rw [List.map_cons, List.nodup_cons] at h
  refine putIn_srt (arranged_srt h.2) fun y hy e => h.1 ?_
  rw [e]
  exact List.mem_map_of_mem ((arranged_perm l).mem_iff.mp hy)
inductive Cart : List Entry → Tree → Prop
 | leaf : Cart [] .leaf
 | node {l r : List Entry} {e : Entry} {tl tr : Tree} : Cart l tl → Cart r tr → (∀ x ∈ l, weight x.id < weight e.id) → (∀ x ∈ r, weight x.id ≤ weight e.id) → Cart (l ++ e :: r) (.node tl e tr)
theorem top_stay : ∀ {c : Entry} {r : List Entry}, (∀ x ∈ r, weight x.id ≤ weight c.id) → top c r = c
 | _, [], _ => rfl
 | c, x :: r, h => by
  have hx := h x List.mem_cons_self
  show top (if weight c.id < weight x.id then x else c) r = c
  rw [if_neg (by omega)]
  exact top_stay fun y hy => h y (List.mem_cons_of_mem _ hy)
theorem top_mid {e : Entry} {r : List Entry} (hr : ∀ x ∈ r, weight x.id ≤ weight e.id) (l : List Entry) : ∀ (c : Entry), weight c.id < weight e.id → (∀ x ∈ l, weight x.id < weight e.id) → top c (l ++ e :: r) = e := by
 induction l with
 | nil =>
  intro c hc _
  show top (if weight c.id < weight e.id then e else c) r = e
  rw [if_pos hc]
  exact top_stay hr
 | cons x l ih =>
  intro c hc hl
  show top (if weight c.id < weight x.id then x else c) (l ++ e :: r) = e
  refine ih _ ?_ fun y hy => hl y (List.mem_cons_of_mem _ hy)
  split
  ·exact hl x List.mem_cons_self
  ·exact hc
theorem filter_none' {α : Type} {p : α → Bool} {l : List α} (h : ∀ x ∈ l, p x = false) : l.filter p = [] := by
 rw [List.filter_eq_nil_iff]
 intro x hx
 rw [h x hx]
 exact Bool.false_ne_true
theorem filter_all' {α : Type} {p : α → Bool} {l : List α} (h : ∀ x ∈ l, p x = true) : l.filter p = l := List.filter_eq_self.mpr h
theorem cart_build {es : List Entry} {t : Tree} (c : Cart es t) : Srt es → ∀ f, es.length < f → build f es = t := by
 induction c with
 | leaf =>
  intro _ f hf
  cases f with
  | zero => omega
  | succ f => rfl
 | @node l r e tl tr cl cr hl hr ihl ihr =>
  intro hs f hf
  obtain ⟨sl, sr, hlr⟩ := List.pairwise_append.mp hs
  have sr' := List.pairwise_cons.mp sr
  cases f with
  | zero => omega
  | succ f =>
   have e1 : ∀ x ∈ l, Bf x e := fun x hx => hlr x hx e List.mem_cons_self
   have f1 : (l ++ e :: r).filter (fun x => before x e) = l := by
    rw [List.filter_append, List.filter_cons_of_neg (by rw [bf_irrefl]; exact Bool.false_ne_true), filter_all' e1, filter_none' fun x hx => bf_asymm (sr'.1 x hx), List.append_nil]
   have f2 : (l ++ e :: r).filter (fun x => before e x) = r := by
    rw [List.filter_append, List.filter_cons_of_neg (by rw [bf_irrefl]; exact Bool.false_ne_true), filter_none' fun x hx => bf_asymm (e1 x hx), filter_all' sr'.1, List.nil_append]
   have hlen : l.length + (r.length + 1) < f + 1 := by simpa using hf
   have key : ∀ (c : Entry) (m : List Entry), l ++ e :: r = c :: m → top c m = e := by
    intro c m q
    cases l with
    | nil =>
     rw [List.nil_append] at q
     cases q
     exact top_stay hr
    | cons x l =>
     rw [List.cons_append] at q
     cases q
     exact top_mid hr l _ (hl _ List.mem_cons_self) fun y hy => hl y (List.mem_cons_of_mem _ hy)
   cases q : l ++ e :: r with
   | nil => simp at q
   | cons c m =>
    show Tree.node (build f ((c :: m).filter fun x => before x (top c m))) (top c m) (build f ((c :: m).filter fun x => before (top c m) x)) = _
    rw [key c m q, ← q, f1, f2, ihl sl f (by omega), ihr sr'.2 f (by omega)]
theorem cart_treeOf {es : List Entry} {t : Tree} (c : Cart es t) (h : Srt es) : treeOf es = t := cart_build c h _ (Nat.lt_succ_self _)
abbrev Stk := List (Tree × Entry)
def popW (w : Nat) : Stk → Tree → Stk × Tree
 | [], t => ([], t)
 | (l, e) :: st, t => if weight e.id < w then popW w st (.node l e t) else ((l, e) :: st, t)
def pushE (st : Stk) (x : Entry) : Stk := ((popW (weight x.id) st .leaf).2, x) :: (popW (weight x.id) st .leaf).1
def closeAll : Stk → Tree → Tree
 | [], t => t
 | (l, e) :: st, t => closeAll st (.node l e t)
def HeadGe (st : Stk) (w : Nat) : Prop := ∀ p ∈ st.head?, w ≤ weight p.2.id
inductive SI : Stk → List Entry → Prop
 | nil : SI [] []
 | cons {st : Stk} {es ls : List Entry} {l : Tree} {e : Entry} : SI st es → Cart ls l → (∀ x ∈ ls, weight x.id < weight e.id) → HeadGe st (weight e.id) → SI ((l, e) :: st) (es ++ ls ++ [e])
theorem popW_si {w : Nat} : ∀ {st : Stk} {es ts : List Entry} {t : Tree}, SI st es → Cart ts t → (∀ x ∈ ts, weight x.id < w) → (∀ p ∈ st.head?, ∀ x ∈ ts, weight x.id ≤ weight p.2.id) →
  ∃ es' ts', SI (popW w st t).1 es' ∧ Cart ts' (popW w st t).2 ∧ es ++ ts = es' ++ ts' ∧ (∀ x ∈ ts', weight x.id < w) ∧ HeadGe (popW w st t).1 w := by
 intro st
 induction st with
 | nil =>
  intro es ts t hs hc hw _
  cases hs
  exact ⟨[], ts, .nil, hc, rfl, hw, fun p hp => by cases hp⟩
 | cons q st ih =>
  intro es ts t hs hc hw hh
  obtain ⟨l, e⟩ := q
  cases hs with
  | @cons _ es0 ls _ _ h1 h2 h3 h4 =>
   unfold popW
   split
   ·rename_i hlt
    have hb : ∀ x ∈ ts, weight x.id ≤ weight e.id := hh (l, e) rfl
    obtain ⟨es', ts', a1, a2, a3, a4, a5⟩ := ih (es := es0) (ts := ls ++ e :: ts) h1 (.node h2 hc h3 hb) (fun x hx => by
     rcases List.mem_append.mp hx with hx | hx
     ·exact Nat.lt_trans (h3 x hx) hlt
     ·rcases List.mem_cons.mp hx with rfl | hx
      ·exact hlt
      ·exact hw x hx) (fun p hp x hx => by
     have hpe := h4 p hp
     rcases List.mem_append.mp hx with hx | hx
     ·exact Nat.le_trans (Nat.le_of_lt (h3 x hx)) hpe
     ·rcases List.mem_cons.mp hx with rfl | hx
      ·exact hpe
      ·exact Nat.le_trans (hb x hx) hpe)
    refine ⟨es', ts', a1, a2, ?_, a4, a5⟩
    rw [← a3]
    simp
   ·rename_i hge
    exact ⟨_, ts, .cons h1 h2 h3 h4, hc, rfl, hw, fun p hp => by cases hp; exact Nat.le_of_not_lt hge⟩
theorem pushE_si {st : Stk} {es : List Entry} {x : Entry} (h : SI st es) : SI (pushE st x) (es ++ [x]) := by
 obtain ⟨es', ts', a1, a2, a3, a4, a5⟩ := popW_si (w := weight x.id) (ts := []) h .leaf (fun _ h => by cases h) (fun _ _ _ h => by cases h)
 have := SI.cons (e := x) a1 a2 a4 a5
 rw [List.append_nil] at a3
 rw [a3]
 exact this
theorem push_all_si : ∀ {xs : List Entry} {st : Stk} {es : List Entry}, SI st es → SI (xs.foldl pushE st) (es ++ xs)
 | [], _, _, h => by rw [List.append_nil]; exact h
 | x :: xs, st, es, h => by
  have := push_all_si (xs := xs) (pushE_si (x := x) h)
  rw [List.append_assoc] at this
  exact this
theorem closeAll_cart : ∀ {st : Stk} {es ts : List Entry} {t : Tree}, SI st es → Cart ts t → (∀ p ∈ st.head?, ∀ x ∈ ts, weight x.id ≤ weight p.2.id) → Cart (es ++ ts) (closeAll st t) := by
 intro st
 induction st with
 | nil =>
  intro es ts t hs hc _
  cases hs
  exact hc
 | cons q st ih =>
  intro es ts t hs hc hh
  obtain ⟨l, e⟩ := q
  cases hs with
  | @cons _ es0 ls _ _ h1 h2 h3 h4 =>
   have hb : ∀ x ∈ ts, weight x.id ≤ weight e.id := hh (l, e) rfl
   have := ih (es := es0) (ts := ls ++ e :: ts) h1 (.node h2 hc h3 hb) (fun p hp x hx => by
     have hpe := h4 p hp
     rcases List.mem_append.mp hx with hx | hx
     ·exact Nat.le_trans (Nat.le_of_lt (h3 x hx)) hpe
     ·rcases List.mem_cons.mp hx with rfl | hx
      ·exact hpe
      ·exact Nat.le_trans (hb x hx) hpe)
   simpa [closeAll] using this
theorem built {es : List Entry} (h : Srt es) : closeAll (es.foldl pushE []) .leaf = treeOf es := by
 have s := push_all_si (xs := es) (st := []) (es := []) .nil
 rw [List.nil_append] at s
 have c := closeAll_cart s .leaf (fun _ _ _ h => by cases h)
 rw [List.append_nil] at c
 exact (cart_treeOf c h).symm
end SM
end
section
namespace SM
open Vabiti (Entry before putIn arranged weight top Tree build treeOf least greatest Window hits NEVER search depths)
def tsize : Tree → Nat
 | .leaf => 0
 | .node l _ r => tsize l + 1 + tsize r
section
variable (w : Window)
def hitL (e : Entry) : List Entry := if hits w e = true then [e] else []
def right (e : Entry) (r : Tree) : Tree := if e.key ≤ w.k then r else .leaf
def left (e : Entry) (l : Tree) : Tree := if w.j ≤ e.key then l else .leaf
def wsF : List (Entry × Tree) → List Entry
 | [] => []
 | (e, r) :: ws => (hitL w e ++ (search w (right w e r)).1) ++ wsF ws
def wsN : List (Entry × Tree) → Nat
 | [] => 0
 | (e, r) :: ws => (1 + (search w (right w e r)).2) + wsN ws
def restF (t : Tree) (ws : List (Entry × Tree)) : List Entry := (search w t).1 ++ wsF w ws
def restN (t : Tree) (ws : List (Entry × Tree)) : Nat := (search w t).2 + wsN w ws
def mu (t : Tree) (ws : List (Entry × Tree)) : Nat := 2 * tsize t + (ws.map fun p => 2 * tsize p.2 + 1).sum
def over (t : Tree) : Prop := greatest t ≤ w.a ∨ w.b ≤ least t
instance : Decidable (over w t) := by unfold over; exact inferInstance
theorem search_right (e : Entry) (r : Tree) : search w (right w e r) = if e.key ≤ w.k then search w r else ([], 0) := by
 unfold right; split <;> rfl
theorem search_left (e : Entry) (l : Tree) : search w (left w e l) = if w.j ≤ e.key then search w l else ([], 0) := by
 unfold left; split <;> rfl
theorem rest_pop (e : Entry) (r : Tree) (ws : List (Entry × Tree)) : restF w .leaf ((e, r) :: ws) = hitL w e ++ restF w (right w e r) ws ∧ restN w .leaf ((e, r) :: ws) = 1 + restN w (right w e r) ws := by
 constructor
 ·show [] ++ ((hitL w e ++ (search w (right w e r)).1) ++ wsF w ws) = hitL w e ++ ((search w (right w e r)).1 ++ wsF w ws)
  rw [List.nil_append, List.append_assoc]
 ·show 0 + ((1 + (search w (right w e r)).2) + wsN w ws) = 1 + ((search w (right w e r)).2 + wsN w ws)
  omega
theorem search_over {l : Tree} {e : Entry} {r : Tree} (h : over w (.node l e r)) : search w (.node l e r) = ([], 0) := by
 rw [search]; exact if_pos h
theorem search_down {l : Tree} {e : Entry} {r : Tree} (h : ¬ over w (.node l e r)) : search w (.node l e r) =
  ((search w (left w e l)).1 ++ (hitL w e ++ (search w (right w e r)).1), (search w (left w e l)).2 + 1 + (search w (right w e r)).2) := by
 rw [search, if_neg (show ¬ (greatest (.node l e r) ≤ w.a ∨ w.b ≤ least (.node l e r)) from h), search_left, search_right]
 rfl
theorem rest_over {l : Tree} {e : Entry} {r : Tree} (h : over w (.node l e r)) (ws : List (Entry × Tree)) : restF w (.node l e r) ws = restF w .leaf ws ∧ restN w (.node l e r) ws = restN w .leaf ws := by
 unfold restF restN
 rw [search_over w h]
 exact ⟨rfl, rfl⟩
theorem rest_down {l : Tree} {e : Entry} {r : Tree} (h : ¬ over w (.node l e r)) (ws : List (Entry × Tree)) : restF w (.node l e r) ws = restF w (left w e l) ((e, r) :: ws) ∧ restN w (.node l e r) ws = restN w (left w e l) ((e, r) :: ws) := by
 unfold restF restN
 rw [search_down w h]
 constructor
 ·show _ = (search w (left w e l)).1 ++ ((hitL w e ++ (search w (right w e r)).1) ++ wsF w ws)
  simp [List.append_assoc]
 ·show _ = (search w (left w e l)).2 + ((1 + (search w (right w e r)).2) + wsN w ws)
  show (search w (left w e l)).2 + 1 + (search w (right w e r)).2 + wsN w ws = _
  omega
theorem size_right (e : Entry) (r : Tree) : tsize (right w e r) ≤ tsize r := by
 unfold right
 split
 ·exact Nat.le_refl _
 ·exact Nat.zero_le _
theorem size_left (e : Entry) (l : Tree) : tsize (left w e l) ≤ tsize l := by
 unfold left
 split
 ·exact Nat.le_refl _
 ·exact Nat.zero_le _
theorem mu_pop (e : Entry) (r : Tree) (ws : List (Entry × Tree)) : mu (right w e r) ws < mu .leaf ((e, r) :: ws) := by
 have := size_right w e r
 simp only [mu, tsize, List.map_cons, List.sum_cons]
 omega
theorem mu_over (l : Tree) (e : Entry) (r : Tree) (ws : List (Entry × Tree)) : mu .leaf ws < mu (.node l e r) ws := by
 simp only [mu, tsize]
 omega
theorem mu_down (l : Tree) (e : Entry) (r : Tree) (ws : List (Entry × Tree)) : mu (left w e l) ((e, r) :: ws) < mu (.node l e r) ws := by
 have := size_left w e l
 simp only [mu, tsize, List.map_cons, List.sum_cons]
 omega
end
def dsF : List (Entry × Tree × Nat) → List (Nat × Nat)
 | [] => []
 | (e, r, n) :: ws => ((e.id, n) :: depths (n + 1) r) ++ dsF ws
def dRest (t : Tree) (d : Nat) (ws : List (Entry × Tree × Nat)) : List (Nat × Nat) := depths d t ++ dsF ws
def dmu (t : Tree) (ws : List (Entry × Tree × Nat)) : Nat := 2 * tsize t + (ws.map fun p => 2 * tsize p.2.1 + 1).sum
theorem d_pop (e : Entry) (r : Tree) (n d : Nat) (ws : List (Entry × Tree × Nat)) : dRest .leaf d ((e, r, n) :: ws) = (e.id, n) :: dRest r (n + 1) ws := by
 simp [dRest, dsF, depths]
theorem d_down (l : Tree) (e : Entry) (r : Tree) (d : Nat) (ws : List (Entry × Tree × Nat)) : dRest (.node l e r) d ws = dRest l (d + 1) ((e, r, d) :: ws) := by
 simp [dRest, dsF, depths]
theorem dmu_pop (e : Entry) (r : Tree) (n : Nat) (ws : List (Entry × Tree × Nat)) : dmu r ws < dmu .leaf ((e, r, n) :: ws) := by
 simp only [dmu, tsize, List.map_cons, List.sum_cons]
 omega
theorem dmu_down (l : Tree) (e : Entry) (r : Tree) (n : Nat) (ws : List (Entry × Tree × Nat)) : dmu l ((e, r, n) :: ws) < dmu (.node l e r) ws := by
 simp only [dmu, tsize, List.map_cons, List.sum_cons]
 omega
end SM
end
section
namespace SM
open Vabiti
structure Good (e : Entry) : Prop where
 id : e.id ≤ 999999
 lo : -999999999999 ≤ e.key
 hi : e.key ≤ 999999999999
 a : e.a ≤ 1000000000
 ab : e.a < e.b
 b : e.b ≤ NEVER
structure Rel (D : List Entry) (s : State) : Prop where
 perm : D.Perm s.entries
 srt : Srt s.entries
 nd : (D.map (·.id)).Nodup
 good : ∀ e ∈ D, Good e
 len : D.length ≤ 200
theorem never_eq : NEVER = 1000000001 := rfl
theorem last_eq : Vabita.LAST = 1000000000 := rfl
theorem Rel.start : Rel [] Vabiti.start := ⟨List.Perm.refl _, List.Pairwise.nil, List.nodup_nil, (fun _ h => absurd h List.not_mem_nil), Nat.zero_le _⟩
theorem Rel.len_eq {D : List Entry} {s : State} (R : Rel D s) : s.entries.length = D.length := R.perm.length_eq.symm
theorem Rel.any_id {D : List Entry} {s : State} (R : Rel D s) (p : Entry → Bool) : s.entries.any p = D.any p := by
 rw [Bool.eq_iff_iff, List.any_eq_true, List.any_eq_true]
 exact ⟨fun ⟨x, h, q⟩ => ⟨x, R.perm.mem_iff.mpr h, q⟩, fun ⟨x, h, q⟩ => ⟨x, R.perm.mem_iff.mp h, q⟩⟩
theorem Rel.filter_len {D : List Entry} {s : State} (R : Rel D s) (p : Entry → Bool) : (s.entries.filter p).length = (D.filter p).length := (R.perm.filter p).length_eq.symm
theorem Rel.nds {D : List Entry} {s : State} (R : Rel D s) : (s.entries.map (·.id)).Nodup := (R.perm.map _).nodup_iff.mp R.nd
theorem id_inj {D : List Entry} (nd : (D.map (·.id)).Nodup) {x y : Entry} (hx : x ∈ D) (hy : y ∈ D) (h : x.id = y.id) : x = y := by
 induction D with
 | nil => cases hx
 | cons z D ih =>
  rw [List.map_cons, List.nodup_cons] at nd
  rcases List.mem_cons.mp hx with e1 | h1
  ·rcases List.mem_cons.mp hy with e2 | h2
   ·rw [e1, e2]
   ·exact absurd (List.mem_map_of_mem (f := (·.id)) h2) (fun q => nd.1 (by rw [← e1, h]; exact q))
  ·rcases List.mem_cons.mp hy with e2 | h2
   ·exact absurd (List.mem_map_of_mem (f := (·.id)) h1) (fun q => nd.1 (by rw [← e2, ← h]; exact q))
   ·exact ih nd.2 h1 h2
theorem find_id {D : List Entry} (nd : (D.map (·.id)).Nodup) {e : Entry} (he : e ∈ D) : D.find? (fun x => x.id == e.id) = some e := by
 cases q : D.find? (fun x => x.id == e.id) with
 | none =>
  have := List.find?_eq_none.mp q e he
  simp at this
 | some y =>
  have h1 := List.mem_of_find?_eq_some q
  have h2 := List.find?_some q
  simp only [beq_iff_eq] at h2
  rw [id_inj nd h1 he h2]
theorem Rel.entryOf {D : List Entry} {s : State} (R : Rel D s) {e : Entry} (he : e ∈ D) : Vabiti.entryOf s e.id = .ok e := by
 unfold Vabiti.entryOf
 rw [find_id R.nds (R.perm.mem_iff.mp he)]
theorem Rel.noEntry {D : List Entry} {s : State} (R : Rel D s) {i : Nat} (h : ∀ e ∈ D, e.id ≠ i) : Vabiti.entryOf s i = .error (-3) := by
 unfold Vabiti.entryOf
 have : s.entries.find? (fun e => e.id == i) = none := List.find?_eq_none.mpr fun x hx => by
  simp only [beq_iff_eq]
  exact h x (R.perm.mem_iff.mpr hx)
 rw [this]
def endN (b : Int) : Nat := if b = -1 then NEVER else b.toNat
theorem number_ok {i : Int} (h : 0 ≤ i ∧ i ≤ 999999) : number i = .ok i.toNat := if_pos h
theorem number_no {i : Int} (h : ¬ (0 ≤ i ∧ i ≤ 999999)) : number i = .error (-1) := if_neg h
theorem moment_ok {i : Int} (h : 0 ≤ i ∧ i ≤ 1000000000) : moment i = .ok i.toNat := if_pos h
theorem moment_no {i : Int} (h : ¬ (0 ≤ i ∧ i ≤ 1000000000)) : moment i = .error (-1) := if_neg h
theorem keyOf_ok {i : Int} (h : -999999999999 ≤ i ∧ i ≤ 999999999999) : keyOf i = .ok i := if_pos h
theorem keyOf_no {i : Int} (h : ¬ (-999999999999 ≤ i ∧ i ≤ 999999999999)) : keyOf i = .error (-1) := if_neg h
abbrev MomR (i : Int) : Prop := 0 ≤ i ∧ i ≤ 1000000000
abbrev EndR (b : Int) : Prop := b = -1 ∨ MomR b
abbrev NumR (i : Int) : Prop := 0 ≤ i ∧ i ≤ 999999
abbrev KeyR (k : Int) : Prop := -999999999999 ≤ k ∧ k ≤ 999999999999
def stretchOf (x y : R Nat) : R (Nat × Nat) := match x with
 | .error e => .error e
 | .ok a => match y with
  | .error e => .error e
  | .ok b => if a < b then .ok (a, b) else .error (-2)
theorem stretch_eq (a b : Int) : stretch a b = stretchOf (moment a) (if b = -1 then .ok NEVER else moment b) := by
 unfold stretch
 cases moment a with
 | error e => rfl
 | ok x =>
  by_cases h : b = -1
  ·rw [if_pos h]
   show (if b = -1 then _ else _) = _
   rw [if_pos h]
   rfl
  ·rw [if_neg h]
   show (if b = -1 then _ else _) = _
   rw [if_neg h]
   cases moment b with
   | error e => rfl
   | ok y => rfl
theorem end_ok {b : Int} (h : EndR b) : (if b = -1 then Except.ok NEVER else moment b) = (Except.ok (endN b) : R Nat) := by
 by_cases e : b = -1
 ·rw [if_pos e, endN, if_pos e]
 ·rw [if_neg e, endN, if_neg e, moment_ok (h.resolve_left e)]
theorem stretch_ok {a b : Int} (ha : MomR a) (hb : EndR b) (h : a.toNat < endN b) : stretch a b = .ok (a.toNat, endN b) := by
 rw [stretch_eq, moment_ok ha, end_ok hb]
 exact if_pos h
theorem stretch_two {a b : Int} (ha : MomR a) (hb : EndR b) (h : ¬ a.toNat < endN b) : stretch a b = .error (-2) := by
 rw [stretch_eq, moment_ok ha, end_ok hb]
 exact if_neg h
theorem stretch_no {a b : Int} (h : ¬ (MomR a ∧ EndR b)) : stretch a b = .error (-1) := by
 rw [stretch_eq]
 by_cases ha : MomR a
 ·have hb : ¬ EndR b := fun q => h ⟨ha, q⟩
  rw [moment_ok ha, if_neg (fun q => hb (.inl q)), moment_no fun q => hb (.inr q)]
  rfl
 ·rw [moment_no ha]
  rfl
theorem srt_map {f : Entry → Entry} (hf : ∀ e, (f e).id = e.id ∧ (f e).key = e.key ∧ (f e).a = e.a) {l : List Entry} (h : Srt l) : Srt (l.map f) := by
 refine List.pairwise_map.mpr (List.Pairwise.imp (fun {x y} q => ?_) h)
 apply bf_iff.mpr
 have := bf_iff.mp q
 rw [(hf x).1, (hf x).2.1, (hf x).2.2, (hf y).1, (hf y).2.1, (hf y).2.2]
 exact this
theorem srt_filter {p : Entry → Bool} {l : List Entry} (h : Srt l) : Srt (l.filter p) := List.Pairwise.filter p h
theorem nd_filter {p : Entry → Bool} {l : List Entry} (h : (l.map (·.id)).Nodup) : ((l.filter p).map (·.id)).Nodup := by
 refine List.Nodup.sublist (List.Sublist.map _ List.filter_sublist) h
theorem nd_map {f : Entry → Entry} (hf : ∀ e, (f e).id = e.id) {l : List Entry} (h : (l.map (·.id)).Nodup) : ((l.map f).map (·.id)).Nodup := by
 rw [List.map_map]
 have : (fun e : Entry => e.id) ∘ f = fun e => e.id := by funext e; exact hf e
 rw [this]
 exact h
theorem len_filter (D : List Entry) (p : Entry → Bool) : (D.filter p).length ≤ D.length := List.length_filter_le _ _
theorem Rel.filtered {D : List Entry} {s : State} (R : Rel D s) (p : Entry → Bool) : Rel (D.filter p) { entries := s.entries.filter p } :=
 ⟨R.perm.filter p, srt_filter R.srt, nd_filter R.nd, fun e h => R.good e (List.mem_filter.mp h).1, Nat.le_trans (len_filter D p) R.len⟩
theorem Rel.mapped {D : List Entry} {s : State} (R : Rel D s) {f : Entry → Entry} (hf : ∀ e, (f e).id = e.id ∧ (f e).key = e.key ∧ (f e).a = e.a) (hg : ∀ e ∈ D, Good (f e)) : Rel (D.map f) { entries := s.entries.map f } :=
 ⟨R.perm.map f, srt_map hf R.srt, nd_map (fun e => (hf e).1) R.nd, fun e h => by obtain ⟨x, hx, rfl⟩ := List.mem_map.mp h; exact hg x hx, by rw [List.length_map]; exact R.len⟩
theorem Rel.rearranged {D : List Entry} {s : State} (R : Rel D s) {f : Entry → Entry} (hf : ∀ e, (f e).id = e.id) (hg : ∀ e ∈ D, Good (f e)) : Rel (D.map f) { entries := arranged (s.entries.map f) } :=
 ⟨(R.perm.map f).trans (arranged_perm _).symm, arranged_srt (nd_map hf R.nds), nd_map hf R.nd, fun e h => by obtain ⟨x, hx, rfl⟩ := List.mem_map.mp h; exact hg x hx, by rw [List.length_map]; exact R.len⟩
def setE (i : Nat) (n : Entry) (D : List Entry) : List Entry := D.map fun e => if e.id = i then n else e
theorem set_perm {i : Nat} {n : Entry} : ∀ {D : List Entry}, (D.map (·.id)).Nodup → (∃ e ∈ D, e.id = i) → (setE i n D).Perm (n :: D.filter fun e => e.id != i)
 | [], _, h => by obtain ⟨e, he, _⟩ := h; cases he
 | x :: D, nd, h => by
  rw [List.map_cons, List.nodup_cons] at nd
  unfold setE
  rw [List.map_cons]
  by_cases hx : x.id = i
  ·rw [if_pos hx, List.filter_cons_of_neg (by simp [hx])]
   have no : ∀ e ∈ D, e.id ≠ i := fun e he q => nd.1 (by rw [hx, ← q]; exact List.mem_map_of_mem (f := (·.id)) he)
   have e1 : D.map (fun e => if e.id = i then n else e) = D := by
    refine (List.map_congr_left fun e he => ?_).trans (List.map_id D)
    rw [if_neg (no e he)]; rfl
   have e2 : D.filter (fun e => e.id != i) = D := filter_all' fun e he => by simp [no e he]
   rw [e1, e2]
  ·rw [if_neg hx, List.filter_cons_of_pos (by simp [hx])]
   have h' : ∃ e ∈ D, e.id = i := by
    obtain ⟨e, he, q⟩ := h
    rcases List.mem_cons.mp he with rfl | he
    ·exact absurd q hx
    ·exact ⟨e, he, q⟩
   exact ((set_perm nd.2 h').cons x).trans (List.Perm.swap n x _)
theorem Rel.replaced {D : List Entry} {s : State} (R : Rel D s) {i : Nat} {n : Entry} (hi : ∃ e ∈ D, e.id = i) (hn : n.id = i) (hg : Good n) : Rel (setE i n D) { entries := putIn n (others s i) } := by
 have p1 : (others s i).Perm (D.filter fun e => e.id != i) := (R.perm.filter _).symm
 refine ⟨(set_perm R.nd hi).trans ((p1.symm.cons n).trans (putIn_perm n _).symm), putIn_srt (srt_filter R.srt) fun y hy => ?_, ?_, fun e he => ?_, by unfold setE; rw [List.length_map]; exact R.len⟩
 ·have := (List.mem_filter.mp hy).2
  rw [hn]
  intro q
  rw [q] at this
  simp at this
 ·unfold setE
  refine nd_map (f := fun e => if e.id = i then n else e) (fun e => ?_) R.nd
  split
  ·rename_i q; rw [q]; exact hn
  ·rfl
 ·obtain ⟨x, hx, rfl⟩ := List.mem_map.mp he
  split
  ·exact hg
  ·exact R.good x hx
theorem Rel.added {D : List Entry} {s : State} (R : Rel D s) {n : Entry} (hn : ∀ e ∈ D, e.id ≠ n.id) (hg : Good n) (hl : D.length < 200) : Rel (D ++ [n]) { entries := putIn n s.entries } := by
 refine ⟨(List.perm_append_singleton n D).trans ((R.perm.cons n).trans (putIn_perm n _).symm), putIn_srt R.srt fun y hy q => hn y (R.perm.mem_iff.mpr hy) q.symm, ?_, fun e he => ?_, by rw [List.length_append]; exact hl⟩
 ·rw [List.map_append, List.map_cons, List.map_nil, List.nodup_append]
  refine ⟨R.nd, by simp, fun a ha b hb => ?_⟩
  obtain ⟨e, he, rfl⟩ := List.mem_map.mp ha
  rw [List.mem_singleton] at hb
  rw [hb]
  exact hn e he
 ·rcases List.mem_append.mp he with he | he
  ·exact R.good e he
  ·rw [List.mem_singleton] at he
   rw [he]; exact hg
end SM
end
section
namespace SM
open Vabiti
def Does (D : List Entry) (c : Call) (D' : List Entry) (ans : List Int) : Prop := ∀ s, Rel D s → ∃ s', Vabiti.step s c = (s', (Vabiti.step s c).2) ∧ VabitiNeutral.encode (Vabiti.step s c).2 = ans ∧ Rel D' s'
theorem does_err {D : List Entry} {c : Call} {n : Int} (h : ∀ s, Rel D s → (changing s c).getD (asking s c) = .error n) : Does D c D [n] := fun s R => by
 refine ⟨s, ?_, ?_, R⟩ <;> unfold Vabiti.step <;> rw [h s R] <;> rfl
theorem does_tell {D : List Entry} {c : Call} {l : List Int} (h : ∀ s, Rel D s → (changing s c).getD (asking s c) = .ok (.tell l)) : Does D c D l := fun s R => by
 refine ⟨s, ?_, ?_, R⟩ <;> unfold Vabiti.step <;> rw [h s R] <;> rfl
theorem does_keep {D D' : List Entry} {c : Call} {l : List Int} (h : ∀ s, Rel D s → ∃ es, (changing s c).getD (asking s c) = .ok (.keep es l) ∧ Rel D' { entries := es }) : Does D c D' l := fun s R => by
 obtain ⟨es, e, R'⟩ := h s R
 refine ⟨{ entries := es }, ?_, ?_, R'⟩ <;> unfold Vabiti.step <;> rw [e] <;> rfl
theorem bind_ok {α β : Type} {x : R α} {v : α} (h : x = .ok v) (f : α → R β) : (x >>= f) = f v := by rw [h]; rfl
theorem bind_err {α β : Type} {x : R α} {n : Int} (h : x = .error n) (f : α → R β) : (x >>= f) = .error n := by rw [h]; rfl
theorem add_1 {D : List Entry} {i k a b : Int} (h : ¬ (NumR i ∧ KeyR k ∧ MomR a ∧ EndR b)) : Does D (.add i k a b) D [-1] := does_err fun s _ => by
 show (number i >>= fun i => keyOf k >>= fun k => stretch a b >>= fun x => _) = _
 by_cases h1 : NumR i
 ·rw [bind_ok (number_ok h1)]
  by_cases h2 : KeyR k
  ·rw [bind_ok (keyOf_ok h2)]
   exact bind_err (stretch_no fun q => h ⟨h1, h2, q⟩) _
  ·exact bind_err (keyOf_no h2) _
 ·exact bind_err (number_no h1) _
theorem add_2 {D : List Entry} {i k a b : Int} (h1 : NumR i) (h2 : KeyR k) (h3 : MomR a) (h4 : EndR b) (h : ¬ a.toNat < endN b) : Does D (.add i k a b) D [-2] := does_err fun s _ => by
 show (number i >>= fun i => keyOf k >>= fun k => stretch a b >>= fun x => _) = _
 rw [bind_ok (number_ok h1), bind_ok (keyOf_ok h2)]
 exact bind_err (stretch_two h3 h4 h) _
theorem add_go {s : State} {i k a b : Int} (h1 : NumR i) (h2 : KeyR k) (h3 : MomR a) (h4 : EndR b) (h : a.toNat < endN b) : (changing s (.add i k a b)).getD (asking s (.add i k a b)) =
  if (s.entries.any fun e => e.id == i.toNat) = true then .error (-4) else if MOST ≤ s.entries.length then .error (-6) else .ok (.keep (putIn { id := i.toNat, key := k, a := a.toNat, b := endN b } s.entries) [((s.entries.length + 1 : Nat) : Int)]) := by
 show (number i >>= fun i => keyOf k >>= fun k => stretch a b >>= fun x => _) = _
 rw [bind_ok (number_ok h1), bind_ok (keyOf_ok h2), bind_ok (stretch_ok h3 h4 h)]
theorem add_4 {D : List Entry} {i k a b : Int} (h1 : NumR i) (h2 : KeyR k) (h3 : MomR a) (h4 : EndR b) (h : a.toNat < endN b) (hi : ∃ e ∈ D, e.id = i.toNat) : Does D (.add i k a b) D [-4] := does_err fun s R => by
 rw [add_go h1 h2 h3 h4 h, R.any_id, if_pos]
 obtain ⟨e, he, q⟩ := hi
 exact List.any_eq_true.mpr ⟨e, he, beq_iff_eq.mpr q⟩
theorem no_any {D : List Entry} {i : Nat} (hi : ∀ e ∈ D, e.id ≠ i) : ¬ (D.any fun e => e.id == i) = true := fun q => by
 obtain ⟨e, he, q⟩ := List.any_eq_true.mp q
 exact hi e he (beq_iff_eq.mp q)
theorem add_6 {D : List Entry} {i k a b : Int} (h1 : NumR i) (h2 : KeyR k) (h3 : MomR a) (h4 : EndR b) (h : a.toNat < endN b) (hi : ∀ e ∈ D, e.id ≠ i.toNat) (hl : 200 ≤ D.length) : Does D (.add i k a b) D [-6] := does_err fun s R => by
 rw [add_go h1 h2 h3 h4 h, R.any_id, if_neg (no_any hi), R.len_eq, if_pos (show MOST ≤ D.length from hl)]
theorem good_of {i k a b : Int} (h1 : NumR i) (h2 : KeyR k) (h3 : MomR a) (h4 : EndR b) (h : a.toNat < endN b) : Good { id := i.toNat, key := k, a := a.toNat, b := endN b } :=
 ⟨by show i.toNat ≤ 999999; omega, h2.1, h2.2, by show a.toNat ≤ 1000000000; omega, h, by
  show endN b ≤ NEVER
  unfold endN
  split
  ·exact Nat.le_refl _
  ·rename_i q
   have := h4.resolve_left q
   rw [never_eq]; omega⟩
theorem add_ok {D : List Entry} {i k a b : Int} (h1 : NumR i) (h2 : KeyR k) (h3 : MomR a) (h4 : EndR b) (h : a.toNat < endN b) (hi : ∀ e ∈ D, e.id ≠ i.toNat) (hl : ¬ 200 ≤ D.length) :
  Does D (.add i k a b) (D ++ [{ id := i.toNat, key := k, a := a.toNat, b := endN b }]) [((D.length + 1 : Nat) : Int)] := does_keep fun s R => by
 refine ⟨putIn { id := i.toNat, key := k, a := a.toNat, b := endN b } s.entries, ?_, R.added (fun e he => hi e he) (good_of h1 h2 h3 h4 h) (by omega)⟩
 rw [add_go h1 h2 h3 h4 h, R.any_id, if_neg (no_any hi), R.len_eq, if_neg (show ¬ MOST ≤ D.length from hl)]
theorem drop_1 {D : List Entry} {i : Int} (h : ¬ NumR i) : Does D (.drop i) D [-1] := does_err fun s _ => by
 show (number i >>= fun i => Vabiti.entryOf s i >>= fun _ => _) = _
 exact bind_err (number_no h) _
theorem drop_3 {D : List Entry} {i : Int} (h : NumR i) (hi : ∀ e ∈ D, e.id ≠ i.toNat) : Does D (.drop i) D [-3] := does_err fun s R => by
 show (number i >>= fun i => Vabiti.entryOf s i >>= fun _ => _) = _
 rw [bind_ok (number_ok h)]
 exact bind_err (R.noEntry hi) _
theorem toNat_of {i : Int} {e : Entry} (q : e.id = i.toNat) {s : State} {r : R Entry} (h : Vabiti.entryOf s e.id = r) : Vabiti.entryOf s i.toNat = r := by rw [← q]; exact h
theorem filter_id_len {D : List Entry} {i : Nat} (nd : (D.map (·.id)).Nodup) (hi : ∃ e ∈ D, e.id = i) : (D.filter fun e => e.id != i).length + 1 = D.length := by
 obtain ⟨e, he, q⟩ := hi
 have p := set_perm (n := e) nd ⟨e, he, q⟩
 have := p.length_eq
 unfold setE at this
 rw [List.length_map, List.length_cons] at this
 omega
theorem drop_ok {D : List Entry} {i : Int} (h : NumR i) {e : Entry} (he : e ∈ D) (q : e.id = i.toNat) : Does D (.drop i) (D.filter fun e => e.id != i.toNat) [((D.length - 1 : Nat) : Int)] := does_keep fun s R => by
 refine ⟨others s i.toNat, ?_, R.filtered _⟩
 show (number i >>= fun i => Vabiti.entryOf s i >>= fun _ => _) = _
 rw [bind_ok (number_ok h), bind_ok (toNat_of q (R.entryOf he)), R.len_eq]
theorem move_1 {D : List Entry} {i a b : Int} (h : ¬ (NumR i ∧ MomR a ∧ EndR b)) : Does D (.move i a b) D [-1] := does_err fun s _ => by
 show (number i >>= fun i => stretch a b >>= fun x => _) = _
 by_cases h1 : NumR i
 ·rw [bind_ok (number_ok h1)]
  exact bind_err (stretch_no fun q => h ⟨h1, q⟩) _
 ·exact bind_err (number_no h1) _
theorem move_2 {D : List Entry} {i a b : Int} (h1 : NumR i) (h3 : MomR a) (h4 : EndR b) (h : ¬ a.toNat < endN b) : Does D (.move i a b) D [-2] := does_err fun s _ => by
 show (number i >>= fun i => stretch a b >>= fun x => _) = _
 rw [bind_ok (number_ok h1)]
 exact bind_err (stretch_two h3 h4 h) _
theorem move_3 {D : List Entry} {i a b : Int} (h1 : NumR i) (h3 : MomR a) (h4 : EndR b) (h : a.toNat < endN b) (hi : ∀ e ∈ D, e.id ≠ i.toNat) : Does D (.move i a b) D [-3] := does_err fun s R => by
 show (number i >>= fun i => stretch a b >>= fun x => Vabiti.entryOf s i >>= fun e => _) = _
 rw [bind_ok (number_ok h1), bind_ok (stretch_ok h3 h4 h)]
 exact bind_err (R.noEntry hi) _
theorem good_move {i : Int} {e : Entry} (g : Good e) {a b : Int} (h3 : MomR a) (h4 : EndR b) (h : a.toNat < endN b) (h1 : NumR i) : Good { e with a := a.toNat, b := endN b } := by
 have := good_of h1 ⟨g.lo, g.hi⟩ h3 h4 h
 exact ⟨g.id, g.lo, g.hi, this.a, h, this.b⟩
theorem move_ok {D : List Entry} {i a b : Int} (h1 : NumR i) (h3 : MomR a) (h4 : EndR b) (h : a.toNat < endN b) {e : Entry} (he : e ∈ D) (q : e.id = i.toNat) :
  Does D (.move i a b) (setE i.toNat { e with a := a.toNat, b := endN b } D) [(e.a : Int), endTold e.b] := does_keep fun s R => by
 refine ⟨putIn { e with a := a.toNat, b := endN b } (others s i.toNat), ?_, R.replaced ⟨e, he, q⟩ q (good_move (R.good e he) h3 h4 h h1)⟩
 show (number i >>= fun i => stretch a b >>= fun x => Vabiti.entryOf s i >>= fun e => _) = _
 rw [bind_ok (number_ok h1), bind_ok (stretch_ok h3 h4 h), bind_ok (toNat_of q (R.entryOf he))]
theorem rekey_1 {D : List Entry} {i k : Int} (h : ¬ (NumR i ∧ KeyR k)) : Does D (.rekey i k) D [-1] := does_err fun s _ => by
 show (number i >>= fun i => keyOf k >>= fun k => _) = _
 by_cases h1 : NumR i
 ·rw [bind_ok (number_ok h1)]
  exact bind_err (keyOf_no fun q => h ⟨h1, q⟩) _
 ·exact bind_err (number_no h1) _
theorem rekey_3 {D : List Entry} {i k : Int} (h1 : NumR i) (h2 : KeyR k) (hi : ∀ e ∈ D, e.id ≠ i.toNat) : Does D (.rekey i k) D [-3] := does_err fun s R => by
 show (number i >>= fun i => keyOf k >>= fun k => Vabiti.entryOf s i >>= fun e => _) = _
 rw [bind_ok (number_ok h1), bind_ok (keyOf_ok h2)]
 exact bind_err (R.noEntry hi) _
theorem rekey_ok {D : List Entry} {i k : Int} (h1 : NumR i) (h2 : KeyR k) {e : Entry} (he : e ∈ D) (q : e.id = i.toNat) :
  Does D (.rekey i k) (setE i.toNat { e with key := k } D) [0, e.key] := does_keep fun s R => by
 refine ⟨putIn { e with key := k } (others s i.toNat), ?_, R.replaced ⟨e, he, q⟩ q ⟨(R.good e he).id, h2.1, h2.2, (R.good e he).a, (R.good e he).ab, (R.good e he).b⟩⟩
 show (number i >>= fun i => keyOf k >>= fun k => Vabiti.entryOf s i >>= fun e => _) = _
 rw [bind_ok (number_ok h1), bind_ok (keyOf_ok h2), bind_ok (toNat_of q (R.entryOf he))]
theorem part_len (p : Entry → Bool) : ∀ l : List Entry, l.length = (l.filter p).length + (l.filter fun e => !p e).length
 | [] => rfl
 | x :: l => by
  have := part_len p l
  cases q : p x with
  | true =>
   rw [List.filter_cons_of_pos q, List.filter_cons_of_neg (by rw [q]; exact Bool.false_ne_true), List.length_cons, List.length_cons]
   omega
  | false =>
   rw [List.filter_cons_of_neg (by rw [q]; exact Bool.false_ne_true), List.filter_cons_of_pos (by rw [q]; rfl), List.length_cons, List.length_cons]
   omega
theorem close_1 {D : List Entry} {j k v : Int} (h : ¬ (KeyR j ∧ KeyR k ∧ MomR v)) : Does D (.close j k v) D [-1] := does_err fun s _ => by
 show (keyOf j >>= fun j => keyOf k >>= fun k => moment v >>= fun v => _) = _
 by_cases h1 : KeyR j
 ·rw [bind_ok (keyOf_ok h1)]
  by_cases h2 : KeyR k
  ·rw [bind_ok (keyOf_ok h2)]
   exact bind_err (moment_no fun q => h ⟨h1, h2, q⟩) _
  ·exact bind_err (keyOf_no h2) _
 ·exact bind_err (keyOf_no h1) _
def goneBy (j k : Int) (v : Nat) (e : Entry) : Bool := inKeys j k e && decide (v ≤ e.a)
def cutBy (j k : Int) (v : Nat) (e : Entry) : Bool := inKeys j k e && (decide (e.a < v) && decide (v < e.b))
def closed (j k : Int) (v : Nat) (e : Entry) : Entry := if inKeys j k e = true then ended v e else e
theorem closed_same (j k : Int) (v : Nat) (e : Entry) : (closed j k v e).id = e.id ∧ (closed j k v e).key = e.key ∧ (closed j k v e).a = e.a := by
 unfold closed ended
 split
 ·split <;> exact ⟨rfl, rfl, rfl⟩
 ·exact ⟨rfl, rfl, rfl⟩
theorem closed_good {j k : Int} {v : Nat} {e : Entry} (g : Good e) : Good (closed j k v e) := by
 unfold closed ended
 split
 ·split
  ·rename_i h
   exact ⟨g.id, g.lo, g.hi, g.a, h.1, by show v ≤ NEVER; have := g.b; omega⟩
  ·exact g
 ·exact g
theorem close_ok {D : List Entry} {j k v : Int} (h1 : KeyR j) (h2 : KeyR k) (h3 : MomR v) : Does D (.close j k v) ((D.filter fun e => !goneBy j k v.toNat e).map (closed j k v.toNat))
  [(((D.filter (cutBy j k v.toNat)).length : Nat) : Int), (((D.filter (goneBy j k v.toNat)).length : Nat) : Int)] := does_keep fun s R => by
 refine ⟨(s.entries.filter fun e => !goneBy j k v.toNat e).map (closed j k v.toNat), ?_, (R.filtered _).mapped (closed_same _ _ _) fun e he => closed_good (R.good e (List.mem_filter.mp he).1)⟩
 show (keyOf j >>= fun j => keyOf k >>= fun k => moment v >>= fun v => _) = _
 rw [bind_ok (keyOf_ok h1), bind_ok (keyOf_ok h2), bind_ok (moment_ok h3)]
 have e1 : ((s.entries.filter fun e => !goneBy j k v.toNat e).filter (cutBy j k v.toNat)).length = (D.filter (cutBy j k v.toNat)).length := by
  rw [List.filter_filter, ← R.filter_len]
  congr 1
  refine List.filter_congr fun e _ => ?_
  show (cutBy j k v.toNat e && !goneBy j k v.toNat e) = cutBy j k v.toNat e
  unfold cutBy goneBy
  cases inKeys j k e with
  | false => rfl
  | true =>
   by_cases q : e.a < v.toNat
   ·rw [decide_eq_true q, decide_eq_false (show ¬ v.toNat ≤ e.a by omega)]
    cases decide (v.toNat < e.b) <;> rfl
   ·rw [decide_eq_false q]
    cases decide (v.toNat < e.b) <;> rfl
 have e2 : s.entries.length - (s.entries.filter fun e => !goneBy j k v.toNat e).length = (D.filter (goneBy j k v.toNat)).length := by
  have := part_len (goneBy j k v.toNat) s.entries
  rw [R.filter_len (goneBy j k v.toNat)] at this
  omega
 rw [← e1, ← e2]
 rfl
theorem purge_1 {D : List Entry} {v : Int} (h : ¬ MomR v) : Does D (.purge v) D [-1] := does_err fun s _ => by
 show (moment v >>= fun v => _) = _
 exact bind_err (moment_no h) _
theorem purge_ok {D : List Entry} {v : Int} (h : MomR v) : Does D (.purge v) (D.filter fun e => !decide (e.b ≤ v.toNat)) [(((D.filter fun e => decide (e.b ≤ v.toNat)).length : Nat) : Int)] := does_keep fun s R => by
 have e0 : (fun e : Entry => !decide (e.b ≤ v.toNat)) = fun e => decide (v.toNat < e.b) := by
  funext e
  by_cases q : e.b ≤ v.toNat
  ·rw [decide_eq_true q, decide_eq_false (by omega)]; rfl
  ·rw [decide_eq_false q, decide_eq_true (by omega)]; rfl
 refine ⟨s.entries.filter fun e => !decide (e.b ≤ v.toNat), ?_, R.filtered _⟩
 show (moment v >>= fun v => _) = _
 rw [bind_ok (moment_ok h), e0]
 have e2 : s.entries.length - (s.entries.filter fun e => decide (v.toNat < e.b)).length = (D.filter fun e => decide (e.b ≤ v.toNat)).length := by
  have := part_len (fun e => decide (e.b ≤ v.toNat)) s.entries
  rw [R.filter_len (fun e => decide (e.b ≤ v.toNat)), e0] at this
  omega
 rw [← e2]
theorem shift_1 {D : List Entry} {j k v : Int} (h : ¬ (KeyR j ∧ KeyR k ∧ MomR v)) : Does D (.shift j k v) D [-1] := does_err fun s _ => by
 show (keyOf j >>= fun j => keyOf k >>= fun k => moment v >>= fun v => _) = _
 by_cases h1 : KeyR j
 ·rw [bind_ok (keyOf_ok h1)]
  by_cases h2 : KeyR k
  ·rw [bind_ok (keyOf_ok h2)]
   exact bind_err (moment_no fun q => h ⟨h1, h2, q⟩) _
  ·exact bind_err (keyOf_no h2) _
 ·exact bind_err (keyOf_no h1) _
def lastB (e : Entry) : Nat := if e.b = NEVER then e.a else e.b
theorem shift_go {D : List Entry} {s : State} (R : Rel D s) {j k n : Int} (h1 : KeyR j) (h2 : KeyR k) (h3 : MomR n) : (changing s (.shift j k n)).getD (asking s (.shift j k n)) =
  if (∀ e ∈ D, inKeys j k e = true → lastB e + n.toNat ≤ 1000000000) then .ok (.keep (arranged (s.entries.map fun e => if inKeys j k e = true then shifted n.toNat e else e)) [((D.filter (inKeys j k)).length : Nat)]) else .error (-5) := by
 show (keyOf j >>= fun j => keyOf k >>= fun k => moment n >>= fun n => _) = _
 rw [bind_ok (keyOf_ok h1), bind_ok (keyOf_ok h2), bind_ok (moment_ok h3)]
 have e1 : (s.entries.all fun e => !inKeys j k e || (decide (e.a + n.toNat ≤ Vabita.LAST) && (e.b == NEVER || decide (e.b + n.toNat ≤ Vabita.LAST)))) = true ↔ (∀ e ∈ D, inKeys j k e = true → lastB e + n.toNat ≤ 1000000000) := by
  rw [List.all_eq_true]
  constructor
  ·intro h e he hk
   have q := h e (R.perm.mem_iff.mp he)
   rw [hk] at q
   simp only [Bool.not_true, Bool.false_or, Bool.and_eq_true, decide_eq_true_eq, Bool.or_eq_true, beq_iff_eq] at q
   rw [last_eq] at q
   unfold lastB
   split
   ·exact q.1
   ·rename_i hb
    exact q.2.resolve_left hb
  ·intro h e he
   cases hk : inKeys j k e with
   | false => rfl
   | true =>
    have he' := R.perm.mem_iff.mpr he
    have q := h e he' hk
    have g := R.good e he'
    have gab := g.ab
    simp only [Bool.not_true, Bool.false_or, Bool.and_eq_true, decide_eq_true_eq, Bool.or_eq_true, beq_iff_eq]
    rw [last_eq]
    unfold lastB at q
    split at q
    ·rename_i hb
     exact ⟨q, .inl hb⟩
    ·exact ⟨by omega, .inr q⟩
 rw [R.filter_len]
 by_cases c : ∀ e ∈ D, inKeys j k e = true → lastB e + n.toNat ≤ 1000000000
 ·rw [if_pos c]
  exact if_pos (e1.mpr c)
 ·rw [if_neg c]
  exact if_neg fun q => c (e1.mp q)
theorem shift_5 {D : List Entry} {j k n : Int} (h1 : KeyR j) (h2 : KeyR k) (h3 : MomR n) (h : ¬ ∀ e ∈ D, inKeys j k e = true → lastB e + n.toNat ≤ 1000000000) : Does D (.shift j k n) D [-5] := does_err fun s R => by
 rw [shift_go R h1 h2 h3, if_neg h]
def shiftedIn (j k : Int) (n : Nat) (e : Entry) : Entry := if inKeys j k e = true then shifted n e else e
theorem shift_ok {D : List Entry} {j k n : Int} (h1 : KeyR j) (h2 : KeyR k) (h3 : MomR n) (h : ∀ e ∈ D, inKeys j k e = true → lastB e + n.toNat ≤ 1000000000) :
  Does D (.shift j k n) (D.map (shiftedIn j k n.toNat)) [(((D.filter (inKeys j k)).length : Nat) : Int)] := does_keep fun s R => by
 refine ⟨arranged (s.entries.map (shiftedIn j k n.toNat)), ?_, R.rearranged (fun e => ?_) fun e he => ?_⟩
 ·rw [shift_go R h1 h2 h3, if_pos h]
  rfl
 ·unfold shiftedIn; split <;> rfl
 ·have g := R.good e he
  have ga := g.a
  have gb := g.b
  have gab := g.ab
  unfold shiftedIn
  split
  ·rename_i hk
   have q := h e he hk
   unfold lastB at q
   by_cases hb : e.b = NEVER
   ·rw [if_pos hb] at q
    refine ⟨g.id, g.lo, g.hi, q, ?_, ?_⟩ <;> unfold shifted <;> dsimp only <;> rw [if_pos hb]
    ·rw [never_eq]; omega
    ·exact Nat.le_refl _
   ·rw [if_neg hb] at q
    refine ⟨g.id, g.lo, g.hi, by unfold shifted; dsimp only; omega, ?_, ?_⟩ <;> unfold shifted <;> dsimp only <;> rw [if_neg hb]
    ·omega
    ·rw [never_eq]; omega
  ·exact g
end SM
end
section
namespace SM
open Vabiti
theorem Rel.arr {D : List Entry} {s : State} (R : Rel D s) : s.entries = arranged D :=
 srt_unique R.srt (arranged_srt R.nd) (R.perm.symm.trans (arranged_perm D).symm)
theorem get_1 {D : List Entry} {i : Int} (h : ¬ NumR i) : Does D (.get i) D [-1] := does_err fun s _ => by
 show (number i >>= fun i => _) = _
 exact bind_err (number_no h) _
theorem get_3 {D : List Entry} {i : Int} (h : NumR i) (hi : ∀ e ∈ D, e.id ≠ i.toNat) : Does D (.get i) D [-3] := does_err fun s R => by
 show (number i >>= fun i => Vabiti.entryOf s i >>= fun e => _) = _
 rw [bind_ok (number_ok h)]
 exact bind_err (R.noEntry hi) _
theorem get_ok {D : List Entry} {i : Int} (h : NumR i) {e : Entry} (he : e ∈ D) (q : e.id = i.toNat) : Does D (.get i) D (entryTold e) := does_tell fun s R => by
 show (number i >>= fun i => Vabiti.entryOf s i >>= fun e => _) = _
 rw [bind_ok (number_ok h), bind_ok (toNat_of q (R.entryOf he))]
theorem count_ok {D : List Entry} : Does D .count D [((D.length : Nat) : Int)] := does_tell fun s R => by
 show Except.ok (Out.tell [((s.entries.length : Nat) : Int)]) = _
 rw [R.len_eq]
theorem stab_1 {D : List Entry} {v : Int} (h : ¬ MomR v) : Does D (.stab v) D [-1] := does_err fun s _ => by
 show (moment v >>= fun v => _) = _
 exact bind_err (moment_no h) _
theorem stab_ok {D : List Entry} {v : Int} (h : MomR v) : Does D (.stab v) D (foundTold (search { j := -GREATEST, k := GREATEST, a := v.toNat, b := v.toNat + 1 } (treeOf (arranged D))).1 (search { j := -GREATEST, k := GREATEST, a := v.toNat, b := v.toNat + 1 } (treeOf (arranged D))).2) := does_tell fun s R => by
 show (moment v >>= fun v => _) = _
 rw [bind_ok (moment_ok h), R.arr]
def winOf (j k a b : Int) : Window := { j := j, k := k, a := a.toNat, b := endN b }
theorem window_no {j k a b : Int} (h : ¬ (KeyR j ∧ KeyR k ∧ MomR a ∧ EndR b)) : window j k a b = .error (-1) := by
 show (keyOf j >>= fun j => keyOf k >>= fun k => stretch a b >>= fun x => _) = _
 by_cases h1 : KeyR j
 ·rw [bind_ok (keyOf_ok h1)]
  by_cases h2 : KeyR k
  ·rw [bind_ok (keyOf_ok h2)]
   exact bind_err (stretch_no fun q => h ⟨h1, h2, q⟩) _
  ·exact bind_err (keyOf_no h2) _
 ·exact bind_err (keyOf_no h1) _
theorem window_two {j k a b : Int} (h1 : KeyR j) (h2 : KeyR k) (h3 : MomR a) (h4 : EndR b) (h : ¬ a.toNat < endN b) : window j k a b = .error (-2) := by
 show (keyOf j >>= fun j => keyOf k >>= fun k => stretch a b >>= fun x => _) = _
 rw [bind_ok (keyOf_ok h1), bind_ok (keyOf_ok h2)]
 exact bind_err (stretch_two h3 h4 h) _
theorem window_ok {j k a b : Int} (h1 : KeyR j) (h2 : KeyR k) (h3 : MomR a) (h4 : EndR b) (h : a.toNat < endN b) : window j k a b = .ok (winOf j k a b) := by
 show (keyOf j >>= fun j => keyOf k >>= fun k => stretch a b >>= fun x => _) = _
 rw [bind_ok (keyOf_ok h1), bind_ok (keyOf_ok h2), bind_ok (stretch_ok h3 h4 h)]
 rfl
inductive Sw : (Int → Int → Int → Int → Call) → (Window → Entry → Bool) → Prop
 | find : Sw .find (fun _ _ => true)
 | inside : Sw .inside (fun w e => decide (w.a ≤ e.a) && decide (e.b ≤ w.b))
 | around : Sw .around (fun w e => decide (e.a ≤ w.a) && decide (w.b ≤ e.b))
theorem Sw.eq {C : Int → Int → Int → Int → Call} {f : Window → Entry → Bool} (h : Sw C f) (s : State) (j k a b : Int) : (changing s (C j k a b)).getD (asking s (C j k a b)) = searched s j k a b f := by
 cases h <;> rfl
theorem sw_1 {C : Int → Int → Int → Int → Call} {f : Window → Entry → Bool} (c : Sw C f) {D : List Entry} {j k a b : Int} (h : ¬ (KeyR j ∧ KeyR k ∧ MomR a ∧ EndR b)) : Does D (C j k a b) D [-1] := does_err fun s _ => by
 rw [c.eq]
 exact bind_err (window_no h) _
theorem sw_2 {C : Int → Int → Int → Int → Call} {f : Window → Entry → Bool} (c : Sw C f) {D : List Entry} {j k a b : Int} (h1 : KeyR j) (h2 : KeyR k) (h3 : MomR a) (h4 : EndR b) (h : ¬ a.toNat < endN b) : Does D (C j k a b) D [-2] := does_err fun s _ => by
 rw [c.eq]
 exact bind_err (window_two h1 h2 h3 h4 h) _
theorem sw_ok {C : Int → Int → Int → Int → Call} {f : Window → Entry → Bool} (c : Sw C f) {D : List Entry} {j k a b : Int} (h1 : KeyR j) (h2 : KeyR k) (h3 : MomR a) (h4 : EndR b) (h : a.toNat < endN b) :
  Does D (C j k a b) D (foundTold ((search (winOf j k a b) (treeOf (arranged D))).1.filter (f (winOf j k a b))) (search (winOf j k a b) (treeOf (arranged D))).2) := does_tell fun s R => by
 rw [c.eq]
 show (window j k a b >>= fun w => _) = _
 rw [bind_ok (window_ok h1 h2 h3 h4 h), R.arr]
theorem place_1 {D : List Entry} {i : Int} (h : ¬ NumR i) : Does D (.place i) D [-1] := does_err fun s _ => by
 show (number i >>= fun i => _) = _
 exact bind_err (number_no h) _
theorem place_3 {D : List Entry} {i : Int} (h : NumR i) (hi : ∀ e ∈ D, e.id ≠ i.toNat) : Does D (.place i) D [-3] := does_err fun s R => by
 show (number i >>= fun i => Vabiti.entryOf s i >>= fun e => _) = _
 rw [bind_ok (number_ok h)]
 exact bind_err (R.noEntry hi) _
theorem place_ok {D : List Entry} {i : Int} (h : NumR i) {e : Entry} (he : e ∈ D) (q : e.id = i.toNat) : Does D (.place i) D [(((D.filter fun x => before x e).length : Nat) : Int)] := does_tell fun s R => by
 show (number i >>= fun i => Vabiti.entryOf s i >>= fun e => _) = _
 rw [bind_ok (number_ok h), bind_ok (toNat_of q (R.entryOf he)), R.filter_len]
theorem nth_1 {D : List Entry} {i : Int} (h : ¬ MomR i) : Does D (.nth i) D [-1] := does_err fun s _ => by
 show (ranged i 0 Vabita.LAST >>= fun i => _) = _
 exact bind_err (moment_no h) _
theorem nth_ask {s : State} {i : Int} (h : MomR i) : (changing s (.nth i)).getD (asking s (.nth i)) = match s.entries[i.toNat]? with
  | some e => .ok (.tell (entryTold e))
  | none => .error (-3) := by
 show (ranged i 0 Vabita.LAST >>= fun i => _) = _
 exact bind_ok (moment_ok h) _
theorem nth_3 {D : List Entry} {i : Int} (h : MomR i) (hi : D.length ≤ i.toNat) : Does D (.nth i) D [-3] := does_err fun s R => by
 rw [nth_ask h, List.getElem?_eq_none_iff.mpr (by rw [R.len_eq]; exact hi)]
theorem nth_ok {D : List Entry} {i : Int} (h : MomR i) {e : Entry} (he : (arranged D)[i.toNat]? = some e) : Does D (.nth i) D (entryTold e) := does_tell fun s R => by
 rw [nth_ask h, R.arr, he]
theorem held_1 {D : List Entry} {k : Int} (h : ¬ KeyR k) : Does D (.held k) D [-1] := does_err fun s _ => by
 show (keyOf k >>= fun k => _) = _
 exact bind_err (keyOf_no h) _
theorem held_ok {D : List Entry} {k : Int} (h : KeyR k) : Does D (.held k) D (((held (ofKey (arranged D) k)).length : Int) :: (held (ofKey (arranged D) k)).map Int.ofNat) := does_tell fun s R => by
 show (keyOf k >>= fun k => _) = _
 rw [bind_ok (keyOf_ok h), R.arr]
theorem clash_1 {D : List Entry} {k : Int} (h : ¬ KeyR k) : Does D (.clash k) D [-1] := does_err fun s _ => by
 show (keyOf k >>= fun k => _) = _
 exact bind_err (keyOf_no h) _
theorem clash_ok {D : List Entry} {k : Int} (h : KeyR k) : Does D (.clash k) D (optional (clash (ofKey (arranged D) k))) := does_tell fun s R => by
 show (keyOf k >>= fun k => _) = _
 rw [bind_ok (keyOf_ok h), R.arr]
theorem covered_1 {D : List Entry} {k a b : Int} (h : ¬ (KeyR k ∧ MomR a ∧ EndR b)) : Does D (.covered k a b) D [-1] := does_err fun s _ => by
 show (keyOf k >>= fun k => stretch a b >>= fun x => _) = _
 by_cases h1 : KeyR k
 ·rw [bind_ok (keyOf_ok h1)]
  exact bind_err (stretch_no fun q => h ⟨h1, q⟩) _
 ·exact bind_err (keyOf_no h1) _
theorem covered_2 {D : List Entry} {k a b : Int} (h1 : KeyR k) (h3 : MomR a) (h4 : EndR b) (h : ¬ a.toNat < endN b) : Does D (.covered k a b) D [-2] := does_err fun s _ => by
 show (keyOf k >>= fun k => stretch a b >>= fun x => _) = _
 rw [bind_ok (keyOf_ok h1)]
 exact bind_err (stretch_two h3 h4 h) _
def coveredTold (x : Option Nat) : List Int := match x with
 | none => [1]
 | some v => [0, (v : Int)]
theorem covered_ok {D : List Entry} {k a b : Int} (h1 : KeyR k) (h3 : MomR a) (h4 : EndR b) (h : a.toNat < endN b) : Does D (.covered k a b) D (coveredTold (uncovered (ofKey (arranged D) k) a.toNat (endN b))) := does_tell fun s R => by
 show (keyOf k >>= fun k => stretch a b >>= fun x => _) = _
 rw [bind_ok (keyOf_ok h1), bind_ok (stretch_ok h3 h4 h), R.arr]
 rfl
abbrev LenR (n : Int) : Prop := 1 ≤ n ∧ n ≤ 1000000000
theorem free_1 {D : List Entry} {k a n : Int} (h : ¬ (KeyR k ∧ MomR a ∧ LenR n)) : Does D (.free k a n) D [-1] := does_err fun s _ => by
 show (keyOf k >>= fun k => moment a >>= fun a => ranged n 1 Vabita.LAST >>= fun n => _) = _
 by_cases h1 : KeyR k
 ·rw [bind_ok (keyOf_ok h1)]
  by_cases h2 : MomR a
  ·rw [bind_ok (moment_ok h2)]
   exact bind_err (show ranged n 1 Vabita.LAST = .error (-1) from if_neg fun q => h ⟨h1, h2, q⟩) _
  ·exact bind_err (moment_no h2) _
 ·exact bind_err (keyOf_no h1) _
theorem free_ok {D : List Entry} {k a n : Int} (h1 : KeyR k) (h2 : MomR a) (h3 : LenR n) : Does D (.free k a n) D (optional (free (ofKey (arranged D) k) a.toNat n.toNat)) := does_tell fun s R => by
 show (keyOf k >>= fun k => moment a >>= fun a => ranged n 1 Vabita.LAST >>= fun n => _) = _
 rw [bind_ok (keyOf_ok h1), bind_ok (moment_ok h2), bind_ok (show ranged n 1 Vabita.LAST = .ok n.toNat from if_pos h3), R.arr]
theorem prior_1 {D : List Entry} {k v : Int} (h : ¬ (KeyR k ∧ MomR v)) : Does D (.prior k v) D [-1] := does_err fun s _ => by
 show (keyOf k >>= fun k => moment v >>= fun v => _) = _
 by_cases h1 : KeyR k
 ·rw [bind_ok (keyOf_ok h1)]
  exact bind_err (moment_no fun q => h ⟨h1, q⟩) _
 ·exact bind_err (keyOf_no h1) _
theorem prior_ok {D : List Entry} {k v : Int} (h1 : KeyR k) (h2 : MomR v) : Does D (.prior k v) D (optionalEntry (prior (ofKey (arranged D) k) v.toNat)) := does_tell fun s R => by
 show (keyOf k >>= fun k => moment v >>= fun v => _) = _
 rw [bind_ok (keyOf_ok h1), bind_ok (moment_ok h2), R.arr]
theorem following_1 {D : List Entry} {k v : Int} (h : ¬ (KeyR k ∧ MomR v)) : Does D (.following k v) D [-1] := does_err fun s _ => by
 show (keyOf k >>= fun k => moment v >>= fun v => _) = _
 by_cases h1 : KeyR k
 ·rw [bind_ok (keyOf_ok h1)]
  exact bind_err (moment_no fun q => h ⟨h1, q⟩) _
 ·exact bind_err (keyOf_no h1) _
theorem following_ok {D : List Entry} {k v : Int} (h1 : KeyR k) (h2 : MomR v) : Does D (.following k v) D (optionalEntry (following (ofKey (arranged D) k) v.toNat)) := does_tell fun s R => by
 show (keyOf k >>= fun k => moment v >>= fun v => _) = _
 rw [bind_ok (keyOf_ok h1), bind_ok (moment_ok h2), R.arr]
theorem busiest_1 {D : List Entry} {a b : Int} (h : ¬ (MomR a ∧ EndR b)) : Does D (.busiest a b) D [-1] := does_err fun s _ => by
 show (stretch a b >>= fun x => _) = _
 exact bind_err (stretch_no h) _
theorem busiest_2 {D : List Entry} {a b : Int} (h3 : MomR a) (h4 : EndR b) (h : ¬ a.toNat < endN b) : Does D (.busiest a b) D [-2] := does_err fun s _ => by
 show (stretch a b >>= fun x => _) = _
 exact bind_err (stretch_two h3 h4 h) _
theorem busiest_ok {D : List Entry} {a b : Int} (h3 : MomR a) (h4 : EndR b) (h : a.toNat < endN b) : Does D (.busiest a b) D [((busiest (arranged D) a.toNat (endN b)).1 : Int), ((busiest (arranged D) a.toNat (endN b)).2 : Int)] := does_tell fun s R => by
 show (stretch a b >>= fun x => _) = _
 rw [bind_ok (stretch_ok h3 h4 h), R.arr]
theorem path_1 {D : List Entry} {i : Int} (h : ¬ NumR i) : Does D (.path i) D [-1] := does_err fun s _ => by
 show (number i >>= fun i => _) = _
 exact bind_err (number_no h) _
theorem path_3 {D : List Entry} {i : Int} (h : NumR i) (hi : ∀ e ∈ D, e.id ≠ i.toNat) : Does D (.path i) D [-3] := does_err fun s R => by
 show (number i >>= fun i => Vabiti.entryOf s i >>= fun e => _) = _
 rw [bind_ok (number_ok h)]
 exact bind_err (R.noEntry hi) _
theorem path_ok {D : List Entry} {i : Int} (h : NumR i) {e : Entry} (he : e ∈ D) (q : e.id = i.toNat) : Does D (.path i) D (((path e (treeOf (arranged D))).length : Int) :: (path e (treeOf (arranged D))).map Int.ofNat) := does_tell fun s R => by
 show (number i >>= fun i => Vabiti.entryOf s i >>= fun e => _) = _
 rw [bind_ok (number_ok h), bind_ok (toNat_of q (R.entryOf he)), R.arr]
theorem shape_ok {D : List Entry} : Does D .shape D ((D.length : Int) :: (depths 0 (treeOf (arranged D))).flatMap fun x => [(x.1 : Int), (x.2 : Int)]) := does_tell fun s R => by
 show Except.ok (Out.tell _) = _
 rw [← R.len_eq, ← R.arr]
end SM
end
section
namespace SM
open Vabiti
abbrev Calls := List (List (List Int))
def due (s : State) (cs : Calls) : List Int := PyFlat.told (PyFlat.played VabitiNeutral.step s cs)
theorem due_nil (s : State) : due s [] = [] := rfl
theorem due_cons (s : State) (c : List (List Int)) (cs : Calls) : due s (c :: cs) = (((VabitiNeutral.step s c).2.length : Int) :: (VabitiNeutral.step s c).2) ++ due (VabitiNeutral.step s c).1 cs := by
 unfold due
 rw [PyFlat.played]
 unfold PyFlat.told
 rw [List.flatMap_cons]
def forms : List (Int × Nat) := [(0, 4), (1, 1), (2, 3), (3, 2), (4, 3), (5, 1), (6, 3), (7, 1), (8, 0), (9, 1), (10, 4), (11, 4), (12, 4), (13, 1), (14, 1), (15, 1), (16, 1), (17, 3), (18, 3), (19, 2), (20, 2), (21, 2), (22, 1), (23, 0)]
theorem shape_mem {p : Int} {n k : Nat} (h : PyVabiti.shape p = some (n, k)) : k = 0 ∧ (p, n) ∈ forms := by
 unfold PyVabiti.shape at h
 by_cases h0 : p = 0
 ·rw [if_pos h0] at h; cases h; subst h0; exact ⟨rfl, by decide⟩
 rw [if_neg h0] at h
 by_cases h1 : p = 1
 ·rw [if_pos h1] at h; cases h; subst h1; exact ⟨rfl, by decide⟩
 rw [if_neg h1] at h
 by_cases h2 : p = 2
 ·rw [if_pos h2] at h; cases h; subst h2; exact ⟨rfl, by decide⟩
 rw [if_neg h2] at h
 by_cases h3 : p = 3
 ·rw [if_pos h3] at h; cases h; subst h3; exact ⟨rfl, by decide⟩
 rw [if_neg h3] at h
 by_cases h4 : p = 4
 ·rw [if_pos h4] at h; cases h; subst h4; exact ⟨rfl, by decide⟩
 rw [if_neg h4] at h
 by_cases h5 : p = 5
 ·rw [if_pos h5] at h; cases h; subst h5; exact ⟨rfl, by decide⟩
 rw [if_neg h5] at h
 by_cases h6 : p = 6
 ·rw [if_pos h6] at h; cases h; subst h6; exact ⟨rfl, by decide⟩
 rw [if_neg h6] at h
 by_cases h7 : p = 7
 ·rw [if_pos h7] at h; cases h; subst h7; exact ⟨rfl, by decide⟩
 rw [if_neg h7] at h
 by_cases h8 : p = 8
 ·rw [if_pos h8] at h; cases h; subst h8; exact ⟨rfl, by decide⟩
 rw [if_neg h8] at h
 by_cases h9 : p = 9
 ·rw [if_pos h9] at h; cases h; subst h9; exact ⟨rfl, by decide⟩
 rw [if_neg h9] at h
 by_cases h10 : p = 10
 ·rw [if_pos h10] at h; cases h; subst h10; exact ⟨rfl, by decide⟩
 rw [if_neg h10] at h
 by_cases h11 : p = 11
 ·rw [if_pos h11] at h; cases h; subst h11; exact ⟨rfl, by decide⟩
 rw [if_neg h11] at h
 by_cases h12 : p = 12
 ·rw [if_pos h12] at h; cases h; subst h12; exact ⟨rfl, by decide⟩
 rw [if_neg h12] at h
 by_cases h13 : p = 13
 ·rw [if_pos h13] at h; cases h; subst h13; exact ⟨rfl, by decide⟩
 rw [if_neg h13] at h
 by_cases h14 : p = 14
 ·rw [if_pos h14] at h; cases h; subst h14; exact ⟨rfl, by decide⟩
 rw [if_neg h14] at h
 by_cases h15 : p = 15
 ·rw [if_pos h15] at h; cases h; subst h15; exact ⟨rfl, by decide⟩
 rw [if_neg h15] at h
 by_cases h16 : p = 16
 ·rw [if_pos h16] at h; cases h; subst h16; exact ⟨rfl, by decide⟩
 rw [if_neg h16] at h
 by_cases h17 : p = 17
 ·rw [if_pos h17] at h; cases h; subst h17; exact ⟨rfl, by decide⟩
 rw [if_neg h17] at h
 by_cases h18 : p = 18
 ·rw [if_pos h18] at h; cases h; subst h18; exact ⟨rfl, by decide⟩
 rw [if_neg h18] at h
 by_cases h19 : p = 19
 ·rw [if_pos h19] at h; cases h; subst h19; exact ⟨rfl, by decide⟩
 rw [if_neg h19] at h
 by_cases h20 : p = 20
 ·rw [if_pos h20] at h; cases h; subst h20; exact ⟨rfl, by decide⟩
 rw [if_neg h20] at h
 by_cases h21 : p = 21
 ·rw [if_pos h21] at h; cases h; subst h21; exact ⟨rfl, by decide⟩
 rw [if_neg h21] at h
 by_cases h22 : p = 22
 ·rw [if_pos h22] at h; cases h; subst h22; exact ⟨rfl, by decide⟩
 rw [if_neg h22] at h
 by_cases h23 : p = 23
 ·rw [if_pos h23] at h; cases h; subst h23; exact ⟨rfl, by decide⟩
 rw [if_neg h23] at h
 cases h
theorem shape_rows {p : Int} {n k : Nat} (h : PyVabiti.shape p = some (n, k)) : k = 0 := (shape_mem h).1
theorem calls_next {f : Nat} {p : Int} {r : List Int} {cs : Calls} (h : PyFlat.calls PyVabiti.shape f (p :: r) = some cs) :
  ∃ n f' cs', PyVabiti.shape p = some (n, 0) ∧ n ≤ r.length ∧ cs = [p :: r.take n] :: cs' ∧ PyFlat.calls PyVabiti.shape f' (r.drop n) = some cs' := by
 cases f with
 | zero => cases h
 | succ f =>
  rw [PyFlat.calls] at h
  simp only [PyFlat.call] at h
  cases q : PyVabiti.shape p with
  | none => simp only [q] at h; cases h
  | some nk =>
   obtain ⟨n, k⟩ := nk
   have hk := shape_rows q
   subst hk
   simp only [q] at h
   by_cases hl : r.length < n
   ·simp only [if_pos hl] at h
    cases h
   ·simp only [if_neg hl, PyFlat.rows] at h
    cases q2 : PyFlat.calls PyVabiti.shape f (r.drop n) with
    | none => simp only [q2] at h; cases h
    | some cs' =>
     simp only [q2] at h
     cases h
     exact ⟨n, f, cs', rfl, Nat.le_of_not_lt hl, rfl, q2⟩
theorem calls_nil {f : Nat} {cs : Calls} (h : PyFlat.calls PyVabiti.shape f [] = some cs) : cs = [] := by
 cases f <;> (rw [PyFlat.calls] at h; cases h; rfl)
theorem answers_eq {l : List Int} (h : PyVabiti.answers_asked l = true) : ∃ cs, PyFlat.calls PyVabiti.shape l.length l = some cs ∧ cs.length ≤ 400 ∧ PyVabiti.answers l = due start (cs.map PyVabiti.whole) := by
 unfold PyVabiti.answers_asked at h
 unfold PyVabiti.answers
 cases q : PyVabiti.calls l with
 | none => rw [q] at h; cases h
 | some ds =>
  rw [q] at h
  unfold PyVabiti.calls at q
  cases q2 : PyFlat.calls PyVabiti.shape l.length l with
  | none => rw [q2] at q; cases q
  | some cs =>
   rw [q2] at q
   cases q
   refine ⟨cs, rfl, ?_, rfl⟩
   have := (Bool.and_eq_true_iff.mp h).1
   unfold PyFlat.atMost at this
   have := of_decide_eq_true this
   rw [List.length_map] at this
   exact this
inductive Sp : Int → List Int → Call → Prop
 | add (x0 x1 x2 x3 : Int) : Sp 0 [x0, x1, x2, x3] (.add x0 x1 x2 x3)
 | drop (x0 : Int) : Sp 1 [x0] (.drop x0)
 | move (x0 x1 x2 : Int) : Sp 2 [x0, x1, x2] (.move x0 x1 x2)
 | rekey (x0 x1 : Int) : Sp 3 [x0, x1] (.rekey x0 x1)
 | close (x0 x1 x2 : Int) : Sp 4 [x0, x1, x2] (.close x0 x1 x2)
 | purge (x0 : Int) : Sp 5 [x0] (.purge x0)
 | shift (x0 x1 x2 : Int) : Sp 6 [x0, x1, x2] (.shift x0 x1 x2)
 | get (x0 : Int) : Sp 7 [x0] (.get x0)
 | count : Sp 8 [] .count
 | stab (x0 : Int) : Sp 9 [x0] (.stab x0)
 | find (x0 x1 x2 x3 : Int) : Sp 10 [x0, x1, x2, x3] (.find x0 x1 x2 x3)
 | inside (x0 x1 x2 x3 : Int) : Sp 11 [x0, x1, x2, x3] (.inside x0 x1 x2 x3)
 | around (x0 x1 x2 x3 : Int) : Sp 12 [x0, x1, x2, x3] (.around x0 x1 x2 x3)
 | place (x0 : Int) : Sp 13 [x0] (.place x0)
 | nth (x0 : Int) : Sp 14 [x0] (.nth x0)
 | held (x0 : Int) : Sp 15 [x0] (.held x0)
 | clash (x0 : Int) : Sp 16 [x0] (.clash x0)
 | covered (x0 x1 x2 : Int) : Sp 17 [x0, x1, x2] (.covered x0 x1 x2)
 | free (x0 x1 x2 : Int) : Sp 18 [x0, x1, x2] (.free x0 x1 x2)
 | prior (x0 x1 : Int) : Sp 19 [x0, x1] (.prior x0 x1)
 | following (x0 x1 : Int) : Sp 20 [x0, x1] (.following x0 x1)
 | busiest (x0 x1 : Int) : Sp 21 [x0, x1] (.busiest x0 x1)
 | path (x0 : Int) : Sp 22 [x0] (.path x0)
 | shape : Sp 23 [] .shape
theorem len0 {l : List Int} (h : l.length = 0) : l = [] := by cases l with
 | nil => rfl
 | cons a l => cases h
theorem len1 {l : List Int} (h : l.length = 1) : ∃ a, l = [a] := by cases l with
 | nil => cases h
 | cons a l => exact ⟨a, by rw [len0 (l := l) (by simpa using h)]⟩
theorem len2 {l : List Int} (h : l.length = 2) : ∃ a b, l = [a, b] := by cases l with
 | nil => cases h
 | cons a l => obtain ⟨b, e⟩ := len1 (l := l) (by simpa using h); exact ⟨a, b, by rw [e]⟩
theorem len3 {l : List Int} (h : l.length = 3) : ∃ a b c, l = [a, b, c] := by cases l with
 | nil => cases h
 | cons a l => obtain ⟨b, c, e⟩ := len2 (l := l) (by simpa using h); exact ⟨a, b, c, by rw [e]⟩
theorem len4 {l : List Int} (h : l.length = 4) : ∃ a b c d, l = [a, b, c, d] := by cases l with
 | nil => cases h
 | cons a l => obtain ⟨b, c, d, e⟩ := len3 (l := l) (by simpa using h); exact ⟨a, b, c, d, by rw [e]⟩
theorem spelled {p : Int} {n : Nat} (h : PyVabiti.shape p = some (n, 0)) {xs : List Int} (hx : xs.length = n) : ∃ c, Sp p xs c := by
 have m := (shape_mem h).2
 unfold forms at m
 rcases List.mem_cons.mp m with e | m
 ·cases e; obtain ⟨a, b, c, d, rfl⟩ := len4 hx; exact ⟨_, .add _ _ _ _⟩
 rcases List.mem_cons.mp m with e | m
 ·cases e; obtain ⟨a, rfl⟩ := len1 hx; exact ⟨_, .drop _⟩
 rcases List.mem_cons.mp m with e | m
 ·cases e; obtain ⟨a, b, c, rfl⟩ := len3 hx; exact ⟨_, .move _ _ _⟩
 rcases List.mem_cons.mp m with e | m
 ·cases e; obtain ⟨a, b, rfl⟩ := len2 hx; exact ⟨_, .rekey _ _⟩
 rcases List.mem_cons.mp m with e | m
 ·cases e; obtain ⟨a, b, c, rfl⟩ := len3 hx; exact ⟨_, .close _ _ _⟩
 rcases List.mem_cons.mp m with e | m
 ·cases e; obtain ⟨a, rfl⟩ := len1 hx; exact ⟨_, .purge _⟩
 rcases List.mem_cons.mp m with e | m
 ·cases e; obtain ⟨a, b, c, rfl⟩ := len3 hx; exact ⟨_, .shift _ _ _⟩
 rcases List.mem_cons.mp m with e | m
 ·cases e; obtain ⟨a, rfl⟩ := len1 hx; exact ⟨_, .get _⟩
 rcases List.mem_cons.mp m with e | m
 ·cases e; obtain rfl := len0 hx; exact ⟨_, .count⟩
 rcases List.mem_cons.mp m with e | m
 ·cases e; obtain ⟨a, rfl⟩ := len1 hx; exact ⟨_, .stab _⟩
 rcases List.mem_cons.mp m with e | m
 ·cases e; obtain ⟨a, b, c, d, rfl⟩ := len4 hx; exact ⟨_, .find _ _ _ _⟩
 rcases List.mem_cons.mp m with e | m
 ·cases e; obtain ⟨a, b, c, d, rfl⟩ := len4 hx; exact ⟨_, .inside _ _ _ _⟩
 rcases List.mem_cons.mp m with e | m
 ·cases e; obtain ⟨a, b, c, d, rfl⟩ := len4 hx; exact ⟨_, .around _ _ _ _⟩
 rcases List.mem_cons.mp m with e | m
 ·cases e; obtain ⟨a, rfl⟩ := len1 hx; exact ⟨_, .place _⟩
 rcases List.mem_cons.mp m with e | m
 ·cases e; obtain ⟨a, rfl⟩ := len1 hx; exact ⟨_, .nth _⟩
 rcases List.mem_cons.mp m with e | m
 ·cases e; obtain ⟨a, rfl⟩ := len1 hx; exact ⟨_, .held _⟩
 rcases List.mem_cons.mp m with e | m
 ·cases e; obtain ⟨a, rfl⟩ := len1 hx; exact ⟨_, .clash _⟩
 rcases List.mem_cons.mp m with e | m
 ·cases e; obtain ⟨a, b, c, rfl⟩ := len3 hx; exact ⟨_, .covered _ _ _⟩
 rcases List.mem_cons.mp m with e | m
 ·cases e; obtain ⟨a, b, c, rfl⟩ := len3 hx; exact ⟨_, .free _ _ _⟩
 rcases List.mem_cons.mp m with e | m
 ·cases e; obtain ⟨a, b, rfl⟩ := len2 hx; exact ⟨_, .prior _ _⟩
 rcases List.mem_cons.mp m with e | m
 ·cases e; obtain ⟨a, b, rfl⟩ := len2 hx; exact ⟨_, .following _ _⟩
 rcases List.mem_cons.mp m with e | m
 ·cases e; obtain ⟨a, b, rfl⟩ := len2 hx; exact ⟨_, .busiest _ _⟩
 rcases List.mem_cons.mp m with e | m
 ·cases e; obtain ⟨a, rfl⟩ := len1 hx; exact ⟨_, .path _⟩
 rcases List.mem_cons.mp m with e | m
 ·cases e; obtain rfl := len0 hx; exact ⟨_, .shape⟩
 cases m
theorem spelled_step {p : Int} {xs : List Int} {c : Call} (h : Sp p xs c) (s : State) : VabitiNeutral.step s (PyVabiti.whole [p :: xs]) = ((Vabiti.step s c).1, VabitiNeutral.encode (Vabiti.step s c).2) := by
 cases h <;> rfl
theorem does_step {p : Int} {xs : List Int} {c : Call} (h : Sp p xs c) {D D' : List Entry} {ans : List Int} (d : Does D c D' ans) {s : State} (R : Rel D s) :
  ∃ s', VabitiNeutral.step s (PyVabiti.whole [p :: xs]) = (s', ans) ∧ Rel D' s' := by
 obtain ⟨s', e, e2, R'⟩ := d s R
 refine ⟨s', ?_, R'⟩
 rw [spelled_step h, e2, e]
theorem due_step {p : Int} {xs : List Int} {c : Call} (h : Sp p xs c) {D D' : List Entry} {ans : List Int} (d : Does D c D' ans) {s : State} (R : Rel D s) (cs : Calls) :
  ∃ s', Rel D' s' ∧ due s (PyVabiti.whole [p :: xs] :: cs) = ((ans.length : Int) :: ans) ++ due s' cs := by
 obtain ⟨s', e, R'⟩ := does_step h d R
 exact ⟨s', R', by rw [due_cons, e]⟩
end SM
end
section
namespace SM
open Vabiti
open Vabita (sorted into changes normal LAST)
theorem into_mem {x v : Nat} : ∀ {l : List Nat}, v ∈ into x l ↔ v = x ∨ v ∈ l
 | [] => by simp [into]
 | y :: r => by
  have ih := into_mem (x := x) (v := v) (l := r)
  unfold into
  split
  ·simp
  ·split
   ·rename_i h; subst h; simp
   ·rw [List.mem_cons, ih, List.mem_cons]
    constructor
    ·rintro (h | h | h)
     ·exact .inr (.inl h)
     ·exact .inl h
     ·exact .inr (.inr h)
    ·rintro (h | h | h)
     ·exact .inr (.inl h)
     ·exact .inl h
     ·exact .inr (.inr h)
theorem into_pw {x : Nat} : ∀ {l : List Nat}, l.Pairwise (· < ·) → (into x l).Pairwise (· < ·)
 | [], _ => List.pairwise_cons.mpr ⟨by simp, .nil⟩
 | y :: r, h => by
  have ⟨h1, h2⟩ := List.pairwise_cons.mp h
  unfold into
  split
  ·rename_i hx
   refine List.pairwise_cons.mpr ⟨fun z hz => ?_, h⟩
   rcases List.mem_cons.mp hz with e | hz
   ·rw [e]; exact hx
   ·exact Nat.lt_trans hx (h1 z hz)
  ·split
   ·exact h
   ·rename_i a b
    refine List.pairwise_cons.mpr ⟨fun z hz => ?_, into_pw h2⟩
    rcases into_mem.mp hz with e | hz
    ·rw [e]; omega
    ·exact h1 z hz
theorem sorted_mem {v : Nat} : ∀ {l : List Nat}, v ∈ sorted l ↔ v ∈ l
 | [] => by simp [sorted]
 | x :: l => by
  show v ∈ into x (sorted l) ↔ _
  rw [into_mem, sorted_mem, List.mem_cons]
theorem sorted_pw : ∀ l : List Nat, (sorted l).Pairwise (· < ·)
 | [] => .nil
 | x :: l => into_pw (sorted_pw l)
theorem inc_unique : ∀ {l m : List Nat}, l.Pairwise (· < ·) → m.Pairwise (· < ·) → (∀ v, v ∈ l ↔ v ∈ m) → l = m
 | [], [], _, _, _ => rfl
 | [], y :: m, _, _, h => by have := (h y).mpr List.mem_cons_self; cases this
 | x :: l, [], _, _, h => by have := (h x).mp List.mem_cons_self; cases this
 | x :: l, y :: m, hl, hm, h => by
  have ⟨l1, l2⟩ := List.pairwise_cons.mp hl
  have ⟨m1, m2⟩ := List.pairwise_cons.mp hm
  have e : x = y := by
   have a1 := (h x).mp List.mem_cons_self
   have a2 := (h y).mpr List.mem_cons_self
   rcases List.mem_cons.mp a1 with e | a1
   ·exact e
   ·rcases List.mem_cons.mp a2 with e | a2
    ·exact e.symm
    ·have := l1 y a2; have := m1 x a1; omega
  subst e
  rw [inc_unique l2 m2 fun v => ?_]
  constructor
  ·intro hv
   have := (h v).mp (List.mem_cons_of_mem _ hv)
   rcases List.mem_cons.mp this with e | z
   ·have := l1 v hv; omega
   ·exact z
  ·intro hv
   have := (h v).mpr (List.mem_cons_of_mem _ hv)
   rcases List.mem_cons.mp this with e | z
   ·have := m1 v hv; omega
   ·exact z
theorem find_some {q : Nat → Bool} : ∀ {l : List Nat} {v : Nat}, l.Pairwise (· < ·) → v ∈ l → q v = true → (∀ u ∈ l, u < v → q u = false) → l.find? q = some v
 | [], _, _, h, _, _ => by cases h
 | x :: l, v, hp, h, hq, hn => by
  have ⟨l1, l2⟩ := List.pairwise_cons.mp hp
  rcases List.mem_cons.mp h with e | h
  ·subst e; rw [List.find?_cons, hq]
  ·rw [List.find?_cons, hn x List.mem_cons_self (l1 v h)]
   exact find_some l2 h hq fun u hu => hn u (List.mem_cons_of_mem _ hu)
theorem find_no {q : Nat → Bool} {l : List Nat} (h : ∀ u ∈ l, q u = false) : l.find? q = none := List.find?_eq_none.mpr fun u hu => by rw [h u hu]; exact Bool.false_ne_true
theorem holds_iff {e : Entry} {v : Nat} : holds e v = true ↔ e.a ≤ v ∧ v < e.b := by
 unfold holds
 rw [Bool.and_eq_true, decide_eq_true_eq, decide_eq_true_eq]
theorem many_zero {l : List Entry} {v : Nat} : many l v = 0 ↔ ∀ e ∈ l, ¬ (e.a ≤ v ∧ v < e.b) := by
 unfold many
 rw [List.length_eq_zero_iff, List.filter_eq_nil_iff]
 constructor
 ·intro h e he z; exact h e he (holds_iff.mpr z)
 ·intro h e he z; exact h e he (holds_iff.mp z)
theorem many_pos {l : List Entry} {v : Nat} : many l v ≠ 0 ↔ ∃ e ∈ l, e.a ≤ v ∧ v < e.b := by
 rw [Ne, many_zero]
 constructor
 ·intro h
  refine Classical.byContradiction fun z => h fun e he q => z ⟨e, he, q⟩
 ·rintro ⟨e, he, q⟩ h; exact h e he q
theorem many_perm {l m : List Entry} (p : l.Perm m) (v : Nat) : many l v = many m v := (p.filter _).length_eq
theorem filter_le {p q : Entry → Bool} : ∀ {l : List Entry}, (∀ e ∈ l, p e = true → q e = true) → (l.filter p).length ≤ (l.filter q).length
 | [], _ => Nat.le_refl _
 | x :: l, h => by
  have ih := filter_le (l := l) fun e he => h e (List.mem_cons_of_mem _ he)
  cases hp : p x with
  | true =>
   have hq := h x List.mem_cons_self hp
   rw [List.filter_cons_of_pos hp, List.filter_cons_of_pos hq, List.length_cons, List.length_cons]
   omega
  | false =>
   rw [List.filter_cons_of_neg (by rw [hp]; exact Bool.false_ne_true)]
   cases hq : q x with
   | true => rw [List.filter_cons_of_pos hq, List.length_cons]; omega
   | false => rw [List.filter_cons_of_neg (by rw [hq]; exact Bool.false_ne_true)]; exact ih
theorem many_le {l : List Entry} {u v : Nat} (h : ∀ e ∈ l, e.a ≤ u → u < e.b → e.a ≤ v ∧ v < e.b) : many l u ≤ many l v := filter_le fun e he z => by
 have := holds_iff.mp z
 exact holds_iff.mpr (h e he this.1 this.2)
structure LvD (l : List Entry) (ms : List Nat) : Prop where
 srt : ms.Pairwise (· < ·)
 mem : ∀ m, m ∈ ms ↔ ∃ e ∈ l, e.a = m ∨ (e.b = m ∧ m ≠ NEVER)
 good : ∀ e ∈ l, Good e
section
variable {l : List Entry} {ms : List Nat}
theorem LvD.le (h : LvD l ms) {m : Nat} (hm : m ∈ ms) : m ≤ 1000000000 := by
 obtain ⟨e, he, z⟩ := (h.mem m).mp hm
 have g := h.good e he
 have ga := g.a
 have gb := g.b
 have hn := never_eq
 rcases z with z | z
 ·omega
 ·have := z.2; omega
theorem LvD.const (h : LvD l ms) {u v : Nat} (huv : u ≤ v) (hv : v ≤ 1000000000) (hn : ∀ m ∈ ms, m ≤ u ∨ v < m) : many l v = many l u := by
 have hN := never_eq
 have key : ∀ e ∈ l, (e.a ≤ v ∧ v < e.b) ↔ (e.a ≤ u ∧ u < e.b) := by
  intro e he
  have h1 := hn e.a ((h.mem _).mpr ⟨e, he, .inl rfl⟩)
  by_cases hb : e.b = NEVER
  ·omega
  ·have h2 := hn e.b ((h.mem _).mpr ⟨e, he, .inr ⟨rfl, hb⟩⟩)
   omega
 exact Nat.le_antisymm (many_le fun e he a b => (key e he).mp ⟨a, b⟩) (many_le fun e he a b => (key e he).mpr ⟨a, b⟩)
theorem LvD.zero (h : LvD l ms) {v : Nat} (hn : ∀ m ∈ ms, v < m) : many l v = 0 := by
 rw [many_zero]
 intro e he z
 have := hn e.a ((h.mem _).mpr ⟨e, he, .inl rfl⟩)
 omega
def shF (c : Nat → Nat) : List Nat → Option Nat → List (Nat × Nat)
 | [], none => []
 | [], some b => [(b, NEVER)]
 | m :: r, none => shF c r (some m)
 | m :: r, some b => if c m = 0 then (b, m) :: shF c r none else shF c r (some b)
def Ord : Nat → List (Nat × Nat) → Prop
 | _, [] => True
 | lo, (s, e) :: r => lo ≤ s ∧ s < e ∧ s ≤ 1000000000 ∧ ((e = NEVER ∧ r = []) ∨ (e ≤ 1000000000 ∧ Ord (e + 1) r))
def Cov (l : List Entry) (lo : Nat) (st : List (Nat × Nat)) : Prop := ∀ v, lo ≤ v → v ≤ 1000000000 → (many l v ≠ 0 ↔ ∃ x ∈ st, x.1 ≤ v ∧ v < x.2)
theorem Ord.mono {lo lo' : Nat} (h : lo' ≤ lo) : ∀ {st : List (Nat × Nat)}, Ord lo st → Ord lo' st
 | [], _ => trivial
 | (s, e) :: r, z => ⟨Nat.le_trans h z.1, z.2⟩
theorem Ord.lo {lo : Nat} : ∀ {st : List (Nat × Nat)}, Ord lo st → ∀ x ∈ st, lo ≤ x.1 ∧ x.1 < x.2 ∧ x.1 ≤ 1000000000 ∧ (x.2 = NEVER ∨ x.2 ≤ 1000000000)
 | [], _, x, hx => by cases hx
 | (s, e) :: r, z, x, hx => by
  obtain ⟨h1, h2, h3, h4⟩ := z
  rcases List.mem_cons.mp hx with rfl | hx
  ·exact ⟨h1, h2, h3, h4.imp (·.1) (·.1)⟩
  ·rcases h4 with ⟨_, rfl⟩ | ⟨h4, h5⟩
   ·cases hx
   ·have := Ord.lo h5 x hx
    exact ⟨by omega, this.2⟩
theorem shF_ok (h : LvD l ms) : ∀ (r dn : List Nat), ms = dn ++ r →
  (∀ lo, (∀ m ∈ r, lo ≤ m) → (∀ v, lo ≤ v + 1 → v ≤ 1000000000 → (∀ m ∈ r, v < m) → many l v = 0) → Ord lo (shF (many l) r none) ∧ Cov l lo (shF (many l) r none)) ∧
  (∀ lo b, lo ≤ b → b ≤ 1000000000 → (∀ m ∈ r, b < m) → (∀ v, b ≤ v → v ≤ 1000000000 → (∀ m ∈ r, v < m) → many l v ≠ 0) → Ord lo (shF (many l) r (some b)) ∧ Cov l b (shF (many l) r (some b))) := by
 intro r
 have hN := never_eq
 induction r with
 | nil =>
  intro dn _
  refine ⟨fun lo _ hz => ⟨trivial, fun v h1 h2 => ⟨fun z => absurd (hz v (by omega) h2 (fun m hm => by cases hm)) z, fun ⟨x, hx, _⟩ => by cases hx⟩⟩, fun lo b h1 h2 _ hp => ⟨⟨h1, by omega, h2, .inl ⟨rfl, rfl⟩⟩, fun v h3 h4 => ⟨fun _ => ⟨(b, NEVER), List.mem_singleton.mpr rfl, h3, by show v < NEVER; omega⟩, fun _ => hp v h3 h4 (fun m hm => by cases hm)⟩⟩⟩
 | cons m r ih =>
  intro dn hs
  have hs' : ms = (dn ++ [m]) ++ r := by rw [hs]; simp
  obtain ⟨ihn, ihs⟩ := ih (dn ++ [m]) hs'
  have hsrt := h.srt
  rw [hs] at hsrt
  obtain ⟨_, hmr, hdr⟩ := List.pairwise_append.mp hsrt
  have ⟨m1, _⟩ := List.pairwise_cons.mp hmr
  have hmm : m ∈ ms := by rw [hs]; simp
  have hm9 := h.le hmm
  have cst : ∀ v, m ≤ v → v ≤ 1000000000 → (∀ x ∈ r, v < x) → many l v = many l m := fun v a1 a2 a3 => h.const a1 a2 fun x hx => by
   rw [hs] at hx
   rcases List.mem_append.mp hx with z | z
   ·exact .inl (Nat.le_of_lt (hdr x z m List.mem_cons_self))
   ·rcases List.mem_cons.mp z with z | z
    ·exact .inl (by omega)
    ·exact .inr (a3 x z)
  refine ⟨fun lo hlo hz => ?_, fun lo b h1 h2 hb hp => ?_⟩
  ·have hlm := hlo m List.mem_cons_self
   have hpos : many l m ≠ 0 := by
    obtain ⟨e, he, z⟩ := (h.mem m).mp hmm
    have g := (h.good e he).ab
    rcases z with z | z
    ·exact many_pos.mpr ⟨e, he, by omega, by omega⟩
    ·have := hz (m - 1) (by omega) (by omega) fun x hx => by
      rcases List.mem_cons.mp hx with q | q
      ·omega
      ·have := m1 x q; omega
     rw [many_zero] at this
     exact absurd ⟨by omega, by omega⟩ (this e he)
   obtain ⟨o, c⟩ := ihs lo m hlm hm9 m1 fun v a1 a2 a3 => by rw [cst v a1 a2 a3]; exact hpos
   have o' := (ihs m m (Nat.le_refl _) hm9 m1 fun v a1 a2 a3 => by rw [cst v a1 a2 a3]; exact hpos).1
   refine ⟨o, fun v a1 a2 => ?_⟩
   by_cases hv : m ≤ v
   ·exact c v hv a2
   ·have e0 := hz v (by omega) a2 fun x hx => by
     rcases List.mem_cons.mp hx with q | q
     ·omega
     ·have := m1 x q; omega
    exact ⟨fun z => absurd e0 z, fun ⟨x, hx, z⟩ => by have := (o'.lo x hx).1; omega⟩
  ·have hbm := hb m List.mem_cons_self
   show Ord lo (if many l m = 0 then (b, m) :: shF (many l) r none else shF (many l) r (some b)) ∧ Cov l b (if many l m = 0 then (b, m) :: shF (many l) r none else shF (many l) r (some b))
   by_cases c0 : many l m = 0
   ·rw [if_pos c0]
    obtain ⟨o, c⟩ := ihn (m + 1) (fun x hx => m1 x hx) fun v a1 a2 a3 => by rw [cst v (by omega) a2 a3]; exact c0
    refine ⟨⟨h1, hbm, h2, .inr ⟨hm9, o⟩⟩, fun v a1 a2 => ?_⟩
    by_cases hv : v < m
    ·have hpv := hp v a1 a2 fun x hx => by
      rcases List.mem_cons.mp hx with q | q
      ·omega
      ·have := m1 x q; omega
     exact ⟨fun _ => ⟨(b, m), List.mem_cons_self, a1, hv⟩, fun _ => hpv⟩
    ·by_cases hvm : v = m
     ·subst hvm
      refine ⟨fun z => absurd c0 z, fun ⟨x, hx, z⟩ => ?_⟩
      rcases List.mem_cons.mp hx with q | q
      ·rw [q] at z; have : v < v := z.2; omega
      ·have := (o.lo x q).1; omega
     ·rw [c v (by omega) a2]
      constructor
      ·rintro ⟨x, hx, z⟩; exact ⟨x, List.mem_cons_of_mem _ hx, z⟩
      ·rintro ⟨x, hx, z⟩
       rcases List.mem_cons.mp hx with q | q
       ·rw [q] at z; have : v < m := z.2; omega
       ·exact ⟨x, q, z⟩
   ·rw [if_neg c0]
    refine ihs lo b h1 h2 (fun x hx => by have := m1 x hx; omega) fun v a1 a2 a3 => ?_
    by_cases hv : m ≤ v
    ·rw [cst v hv a2 a3]; exact c0
    ·exact hp v a1 a2 fun x hx => by
      rcases List.mem_cons.mp hx with q | q
      ·omega
      ·exact a3 x q
abbrev strz (l : List Entry) (ms : List Nat) : List (Nat × Nat) := shF (many l) ms none
theorem LvD.st (h : LvD l ms) : Ord 0 (strz l ms) ∧ Cov l 0 (strz l ms) := by
 refine (shF_ok h ms [] rfl).1 0 (fun _ _ => Nat.zero_le _) fun v _ _ hz => h.zero hz
end
end SM
end
section
namespace SM
open Vabiti
open Vabita (sorted into changes normal LAST)
section
variable {l : List Entry} {ms : List Nat} {st : List (Nat × Nat)}
theorem Ord.apart : ∀ {lo : Nat} {st : List (Nat × Nat)}, Ord lo st → ∀ x ∈ st, ∀ y ∈ st, x = y ∨ x.2 < y.1 ∨ y.2 < x.1
 | _, [], _, x, hx, _, _ => by cases hx
 | lo, (s, e) :: r, h, x, hx, y, hy => by
  obtain ⟨h1, h2, h3, h4⟩ := h
  have hr : ∀ z ∈ r, e < z.1 := fun z hz => by
   rcases h4 with ⟨_, rfl⟩ | ⟨_, h5⟩
   ·cases hz
   ·have := (h5.lo z hz).1; omega
  rcases List.mem_cons.mp hx with rfl | hx
  ·rcases List.mem_cons.mp hy with rfl | hy
   ·exact .inl rfl
   ·exact .inr (.inl (hr y hy))
  ·rcases List.mem_cons.mp hy with rfl | hy
   ·exact .inr (.inr (hr x hx))
   ·rcases h4 with ⟨_, rfl⟩ | ⟨_, h5⟩
    ·cases hx
    ·exact Ord.apart h5 x hx y hy
theorem cov_in (o : Ord 0 st) (c : Cov l 0 st) {x : Nat × Nat} (hx : x ∈ st) {v : Nat} (h1 : x.1 ≤ v) (h2 : v < x.2) (h9 : v ≤ 1000000000) : many l v ≠ 0 := (c v (Nat.zero_le _) h9).mpr ⟨x, hx, h1, h2⟩
theorem cov_end (o : Ord 0 st) (c : Cov l 0 st) {x : Nat × Nat} (hx : x ∈ st) (h9 : x.2 ≤ 1000000000) : many l x.2 = 0 := by
 refine Classical.byContradiction fun z => ?_
 obtain ⟨y, hy, h1, h2⟩ := (c x.2 (Nat.zero_le _) h9).mp z
 have hx' := (o.lo x hx).2.1
 rcases o.apart x hx y hy with e | e | e
 ·rw [e] at h2; omega
 ·omega
 ·omega
theorem cov_before (o : Ord 0 st) (c : Cov l 0 st) {x : Nat × Nat} (hx : x ∈ st) (h0 : 0 < x.1) : many l (x.1 - 1) = 0 := by
 have hl := o.lo x hx
 refine Classical.byContradiction fun z => ?_
 obtain ⟨y, hy, h1, h2⟩ := (c (x.1 - 1) (Nat.zero_le _) (by omega)).mp z
 rcases o.apart x hx y hy with e | e | e
 ·rw [e] at h1; have : 0 < y.1 := by rw [← e]; exact h0
  omega
 ·omega
 ·omega
def bnds (st : List (Nat × Nat)) : List Nat := st.flatMap fun x => [x.1, x.2].filter fun b => decide (b ≠ NEVER)
theorem bnds_mem {v : Nat} : v ∈ bnds st ↔ ∃ x ∈ st, (v = x.1 ∨ v = x.2) ∧ v ≠ NEVER := by
 unfold bnds
 rw [List.mem_flatMap]
 constructor
 ·rintro ⟨x, hx, z⟩
  obtain ⟨z1, z2⟩ := List.mem_filter.mp z
  simp at z1 z2
  exact ⟨x, hx, z1, z2⟩
 ·rintro ⟨x, hx, z1, z2⟩
  exact ⟨x, hx, List.mem_filter.mpr ⟨by simpa using z1, by simpa using z2⟩⟩
theorem bnds_pw : ∀ {lo : Nat} {st : List (Nat × Nat)}, Ord lo st → (bnds st).Pairwise (· < ·) ∧ ∀ v ∈ bnds st, lo ≤ v
 | _, [], _ => ⟨.nil, fun v hv => by cases hv⟩
 | lo, (s, e) :: r, h => by
  have hN := never_eq
  obtain ⟨h1, h2, h3, h4⟩ := h
  have es : decide (s ≠ NEVER) = true := decide_eq_true (by omega)
  show ([s, e].filter (fun b => decide (b ≠ NEVER)) ++ bnds r).Pairwise (· < ·) ∧ ∀ v ∈ [s, e].filter (fun b => decide (b ≠ NEVER)) ++ bnds r, lo ≤ v
  rcases h4 with ⟨rfl, rfl⟩ | ⟨h4, h5⟩
  ·have e1 : ([s, NEVER] : List Nat).filter (fun b => decide (b ≠ NEVER)) = [s] := by
    rw [List.filter_cons, if_pos es, List.filter_cons, if_neg (by simp), List.filter_nil]
   rw [e1]
   refine ⟨by simp [bnds], fun v hv => ?_⟩
   simp [bnds] at hv
   omega
  ·have ee : decide (e ≠ NEVER) = true := decide_eq_true (by omega)
   have e1 : ([s, e] : List Nat).filter (fun b => decide (b ≠ NEVER)) = [s, e] := by
    rw [List.filter_cons, if_pos es, List.filter_cons, if_pos ee, List.filter_nil]
   rw [e1]
   obtain ⟨i1, i2⟩ := bnds_pw h5
   refine ⟨List.pairwise_cons.mpr ⟨fun z hz => ?_, List.pairwise_cons.mpr ⟨fun z hz => ?_, i1⟩⟩, fun v hv => ?_⟩
   ·rcases List.mem_cons.mp hz with q | q
    ·omega
    ·have := i2 z q; omega
   ·have := i2 z hz; omega
   ·rcases List.mem_cons.mp hv with q | q
    ·omega
    ·rcases List.mem_cons.mp q with q | q
     ·omega
     ·have := i2 v q; omega
theorem any_iff {v : Nat} : (l.any fun e => holds e v) = true ↔ many l v ≠ 0 := by
 rw [many_pos, List.any_eq_true]
 constructor
 ·rintro ⟨e, he, z⟩; exact ⟨e, he, holds_iff.mp z⟩
 ·rintro ⟨e, he, z⟩; exact ⟨e, he, holds_iff.mpr z⟩
theorem held_eq (good : ∀ e ∈ l, Good e) (o : Ord 0 st) (c : Cov l 0 st) : held l = bnds st := by
 have hN := never_eq
 have hL := last_eq
 unfold held normal
 refine inc_unique (((sorted_pw _).filter _).filter _) (bnds_pw o).1 fun v => ?_
 rw [List.mem_filter, List.mem_filter, sorted_mem, bnds_mem, decide_eq_true_eq, List.mem_flatMap, hL]
 have ch : changes (fun v => l.any fun e => holds e v) v = true ↔ (v = 0 ∧ many l 0 ≠ 0) ∨ (0 < v ∧ ¬ (many l v ≠ 0 ↔ many l (v - 1) ≠ 0)) := by
  unfold changes
  by_cases h0 : v = 0
  ·rw [if_pos h0, any_iff]
   omega
  ·rw [if_neg h0, bne_iff_ne, Ne, Bool.eq_iff_iff, any_iff, any_iff]
   constructor
   ·intro z; exact .inr ⟨by omega, z⟩
   ·rintro (z | z)
    ·omega
    ·exact z.2
 rw [ch]
 constructor
 ·rintro ⟨⟨_, z⟩, h9⟩
  rcases z with ⟨rfl, z⟩ | ⟨h0, z⟩
  ·obtain ⟨x, hx, a1, a2⟩ := (c 0 (Nat.le_refl _) (by omega)).mp z
   exact ⟨x, hx, .inl (by omega), by omega⟩
  ·by_cases hp : many l v ≠ 0
   ·obtain ⟨x, hx, a1, a2⟩ := (c v (Nat.zero_le _) h9).mp hp
    refine ⟨x, hx, .inl ?_, by omega⟩
    refine Classical.byContradiction fun q => z ⟨fun _ => cov_in o c hx (v := v - 1) (by omega) (by omega) (by omega), fun _ => hp⟩
   ·have hq : many l (v - 1) ≠ 0 := Classical.byContradiction fun q => z ⟨fun y => absurd y hp, fun y => absurd y q⟩
    obtain ⟨x, hx, a1, a2⟩ := (c (v - 1) (Nat.zero_le _) (by omega)).mp hq
    refine ⟨x, hx, .inr ?_, by omega⟩
    refine Classical.byContradiction fun q => hp (cov_in o c hx (v := v) (by omega) (by omega) h9)
 ·rintro ⟨x, hx, z, hn⟩
  have hl := o.lo x hx
  have h9 : v ≤ 1000000000 := by
   rcases z with z | z
   ·omega
   ·rcases hl.2.2.2 with q | q <;> omega
  have key : (v = 0 ∧ many l 0 ≠ 0) ∨ (0 < v ∧ ¬ (many l v ≠ 0 ↔ many l (v - 1) ≠ 0)) := by
   rcases z with rfl | rfl
   ·have hp := cov_in o c hx (Nat.le_refl _) hl.2.1 h9
    by_cases h0 : x.1 = 0
    ·rw [h0] at hp; exact .inl ⟨h0, hp⟩
    ·exact .inr ⟨by omega, fun q => q.mp hp (cov_before o c hx (by omega))⟩
   ·have hp := cov_in o c hx (v := x.2 - 1) (by omega) (by omega) (by omega)
    exact .inr ⟨by omega, fun q => q.mpr hp (cov_end o c hx h9)⟩
  refine ⟨⟨?_, key⟩, h9⟩
  refine Classical.byContradiction fun q => ?_
  have nb : ∀ e ∈ l, e.a ≠ v ∧ e.b ≠ v := fun e he => ⟨fun z => q ⟨e, he, by simp [z]⟩, fun z => q ⟨e, he, by simp [z]⟩⟩
  rcases key with ⟨h0, z⟩ | ⟨h0, z⟩
  ·obtain ⟨e, he, a1, a2⟩ := many_pos.mp z
   have := (nb e he).1; omega
  ·refine z ⟨fun y => ?_, fun y => ?_⟩
   ·obtain ⟨e, he, a1, a2⟩ := many_pos.mp y
    have := nb e he
    exact many_pos.mpr ⟨e, he, by omega, by omega⟩
   ·obtain ⟨e, he, a1, a2⟩ := many_pos.mp y
    have := nb e he
    exact many_pos.mpr ⟨e, he, by omega, by omega⟩
theorem clash_some (h : LvD l ms) {m : Nat} (hm : m ∈ ms) (h2 : 2 ≤ many l m) (hf : ∀ x ∈ ms, x < m → ¬ 2 ≤ many l x) : clash l = some m := by
 unfold clash
 have h9 := h.le hm
 refine find_some (sorted_pw _) ?_ (decide_eq_true h2) fun u hu hlt => decide_eq_false ?_
 ·rw [sorted_mem, List.mem_map]
  refine Classical.byContradiction fun q => ?_
  have na : ∀ e ∈ l, e.a ≠ m := fun e he z => q ⟨e, he, z⟩
  have hpos : m ≠ 0 := fun z => by
   obtain ⟨e, he, a1, _⟩ := many_pos.mp (show many l m ≠ 0 by omega)
   have := na e he; omega
  have hle : many l m ≤ many l (m - 1) := many_le fun e he a1 a2 => by have := na e he; omega
  by_cases hex : ∃ x ∈ ms, x < m
  ·obtain ⟨x, hx, hxm, hmax⟩ : ∃ x ∈ ms, x < m ∧ ∀ y ∈ ms, y < m → y ≤ x := by
    have : ∀ (L : List Nat), (∃ x ∈ L, x < m) → ∃ x ∈ L, x < m ∧ ∀ y ∈ L, y < m → y ≤ x := by
     intro L
     induction L with
     | nil => rintro ⟨x, hx, _⟩; cases hx
     | cons a L ih =>
      intro hx
      by_cases hL : ∃ x ∈ L, x < m
      ·obtain ⟨x, hx, h1, h2⟩ := ih hL
       by_cases ha : a < m ∧ x < a
       ·exact ⟨a, List.mem_cons_self, ha.1, fun y hy hym => by
         rcases List.mem_cons.mp hy with q | q
         ·omega
         ·have := h2 y q hym; omega⟩
       ·exact ⟨x, List.mem_cons_of_mem _ hx, h1, fun y hy hym => by
         rcases List.mem_cons.mp hy with q | q
         ·omega
         ·exact h2 y q hym⟩
      ·obtain ⟨x, hx, hxm⟩ := hx
       rcases List.mem_cons.mp hx with q | q
       ·exact ⟨a, List.mem_cons_self, by omega, fun y hy hym => by
         rcases List.mem_cons.mp hy with q | q
         ·omega
         ·exact absurd ⟨y, q, hym⟩ hL⟩
       ·exact absurd ⟨x, q, hxm⟩ hL
    exact this ms hex
   have := h.const (u := x) (v := m - 1) (by omega) (by omega) fun y hy => by
    by_cases z : y < m
    ·exact .inl (hmax y hy z)
    ·exact .inr (by omega)
   have := hf x hx hxm
   omega
  ·have := h.zero (v := m - 1) fun x hx => by
    have : ¬ x < m := fun z => hex ⟨x, hx, z⟩
    omega
   omega
 ·rw [sorted_mem, List.mem_map] at hu
  obtain ⟨e, he, z⟩ := hu
  exact hf u ((h.mem u).mpr ⟨e, he, .inl z⟩) hlt
theorem clash_none (h : LvD l ms) (hf : ∀ x ∈ ms, ¬ 2 ≤ many l x) : clash l = none := by
 unfold clash
 refine find_no fun u hu => decide_eq_false ?_
 rw [sorted_mem, List.mem_map] at hu
 obtain ⟨e, he, z⟩ := hu
 exact hf u ((h.mem u).mpr ⟨e, he, .inl z⟩)
theorem unc_here (good : ∀ e ∈ l, Good e) (o : Ord 0 st) (c : Cov l 0 st) {a b : Nat} (ha : a ≤ 1000000000) (hab : a < b) (hn : ∀ x ∈ st, ¬ (x.1 ≤ a ∧ a < x.2)) : uncovered l a b = some a := by
 have h0 : many l a = 0 := Classical.byContradiction fun z => by
  obtain ⟨x, hx, q⟩ := (c a (Nat.zero_le _) ha).mp z
  exact hn x hx q
 unfold uncovered
 refine find_some (sorted_pw _) (sorted_mem.mpr List.mem_cons_self) (by simp [hab, h0]) fun u hu hlt => ?_
 rw [decide_eq_false (by omega)]
 rfl
theorem unc_in (good : ∀ e ∈ l, Good e) (o : Ord 0 st) (c : Cov l 0 st) {a b : Nat} (ha : a ≤ 1000000000) (hb : b ≤ NEVER) {x : Nat × Nat} (hx : x ∈ st) (h1 : x.1 ≤ a) (h2 : a < x.2) : uncovered l a b = if b ≤ x.2 then none else some x.2 := by
 have hN := never_eq
 have hl := o.lo x hx
 unfold uncovered
 by_cases hbx : b ≤ x.2
 ·rw [if_pos hbx]
  refine find_no fun u hu => ?_
  by_cases q : a ≤ u ∧ u < b
  ·have := cov_in o c hx (v := u) (by omega) (by omega) (by omega)
   simp [q.1, q.2, this]
  ·simp
   intro q1 q2
   exact absurd ⟨q1, q2⟩ q
 ·rw [if_neg hbx]
  have h9 : x.2 ≤ 1000000000 := by rcases hl.2.2.2 with q | q <;> omega
  have he := cov_end o c hx h9
  refine find_some (sorted_pw _) ?_ (by simp [he]; omega) fun u hu hlt => ?_
  ·rw [sorted_mem]
   refine List.mem_cons_of_mem _ (List.mem_map.mpr ?_)
   obtain ⟨e, hem, a1, a2⟩ := many_pos.mp (cov_in o c hx (v := x.2 - 1) (by omega) (by omega) (by omega))
   have := (many_zero.mp he) e hem
   exact ⟨e, hem, by omega⟩
  ·by_cases q : a ≤ u
   ·have := cov_in o c hx (v := u) (by omega) hlt (by omega)
    simp [this]
   ·simp
    intro q1
    exact absurd q1 q
end
end SM
end
section
namespace SM
open Vabiti
open Vabita (sorted into changes normal LAST)
section
variable {l : List Entry} {ms : List Nat} {st : List (Nat × Nat)}
def frF (n : Nat) : List (Nat × Nat) → Nat → Option Nat
 | [], m => if m = NEVER then none else some m
 | (s, e) :: r, m => if m + n ≤ s then some m else frF n r (max m e)
theorem fr_iff (good : ∀ e ∈ l, Good e) (o : Ord 0 st) (c : Cov l 0 st) {v n : Nat} (hv : v ≤ 1000000000) (hn : 1 ≤ n) : (∀ e ∈ l, e.b ≤ v ∨ v + n ≤ e.a) ↔ ∀ x ∈ st, x.2 ≤ v ∨ v + n ≤ x.1 := by
 constructor
 ·intro h x hx
  refine Classical.byContradiction fun q => ?_
  have hl := o.lo x hx
  have := cov_in o c hx (v := max x.1 v) (by omega) (by omega) (by omega)
  obtain ⟨e, he, a1, a2⟩ := many_pos.mp this
  have := h e he
  omega
 ·intro h e he
  refine Classical.byContradiction fun q => ?_
  have g := good e he
  have ga := g.a
  have gb := g.ab
  have : many l (max e.a v) ≠ 0 := many_pos.mpr ⟨e, he, by omega, by omega⟩
  obtain ⟨x, hx, a1, a2⟩ := (c _ (Nat.zero_le _) (by omega)).mp this
  have := h x hx
  omega
theorem frF_ok (good : ∀ e ∈ l, Good e) (o : Ord 0 st) (c : Cov l 0 st) {a n : Nat} (ha : a ≤ 1000000000) (hn : 1 ≤ n) : ∀ (r dn : List (Nat × Nat)) (m : Nat), st = dn ++ r → (m = a ∨ ∃ e ∈ l, e.b = m) → a ≤ m → (m ≤ 1000000000 ∨ (m = NEVER ∧ r = [])) → (∀ x ∈ dn, x.2 ≤ m) →
  (∀ u, a ≤ u → u < m → u ≤ 1000000000 → ¬ ∀ x ∈ st, x.2 ≤ u ∨ u + n ≤ x.1) → free l a n = frF n r m := by
 have hN := never_eq
 have hL := last_eq
 intro r
 induction r with
 | nil =>
  intro dn m hs hm ham hm9 hdn hno
  show _ = if m = NEVER then none else some m
  unfold free
  by_cases hmn : m = NEVER
  ·rw [if_pos hmn]
   refine find_no fun u hu => ?_
   by_cases q : a ≤ u ∧ u ≤ 1000000000
   ·have h1 := hno u q.1 (by omega) q.2
    rw [← fr_iff good o c q.2 hn] at h1
    have : (l.all fun e => decide (e.b ≤ u) || decide (u + n ≤ e.a)) = false := by
     cases z : l.all fun e => decide (e.b ≤ u) || decide (u + n ≤ e.a) with
     | false => rfl
     | true =>
      refine absurd (fun e he => ?_) h1
      have := List.all_eq_true.mp z e he
      simpa using this
    rw [this]
    simp
   ·rw [hL]
    by_cases q1 : a ≤ u
    ·rw [decide_eq_false (show ¬ u ≤ 1000000000 from fun z => q ⟨q1, z⟩)]
     simp
    ·rw [decide_eq_false q1]
     rfl
  ·rw [if_neg hmn]
   have hm9' : m ≤ 1000000000 := hm9.resolve_right fun z => hmn z.1
   have hok : ∀ x ∈ st, x.2 ≤ m ∨ m + n ≤ x.1 := fun x hx => by
    rw [hs, List.append_nil] at hx
    exact .inl (hdn x hx)
   refine find_some (sorted_pw _) ?_ ?_ fun u hu hlt => ?_
   ·rw [sorted_mem]
    rcases hm with q | ⟨e, he, q⟩
    ·rw [q]; exact List.mem_cons_self
    ·exact List.mem_cons_of_mem _ (List.mem_map.mpr ⟨e, he, q⟩)
   ·rw [hL, decide_eq_true ham, decide_eq_true hm9']
    simp
    rw [← fr_iff good o c hm9' hn] at hok
    exact hok
   ·by_cases q1 : a ≤ u
    ·have h1 := hno u q1 hlt (by omega)
     rw [← fr_iff good o c (by omega) hn] at h1
     have : (l.all fun e => decide (e.b ≤ u) || decide (u + n ≤ e.a)) = false := by
      cases z : l.all fun e => decide (e.b ≤ u) || decide (u + n ≤ e.a) with
      | false => rfl
      | true =>
       refine absurd (fun e he => ?_) h1
       have := List.all_eq_true.mp z e he
       simpa using this
     rw [this]
     simp
    ·rw [decide_eq_false q1]
     rfl
 | cons x r ih =>
  intro dn m hs hm ham hm9 hdn hno
  obtain ⟨s, e⟩ := x
  have hxm : (s, e) ∈ st := by rw [hs]; simp
  have hl := o.lo _ hxm
  have hm9' : m ≤ 1000000000 := hm9.resolve_right fun z => by cases z.2
  show _ = if m + n ≤ s then some m else frF n r (max m e)
  by_cases hc : m + n ≤ s
  ·rw [if_pos hc]
   have hok : ∀ x ∈ st, x.2 ≤ m ∨ m + n ≤ x.1 := fun x hx => by
    rw [hs] at hx
    rcases List.mem_append.mp hx with q | q
    ·exact .inl (hdn x q)
    ·rcases List.mem_cons.mp q with q | q
     ·rw [q]; exact .inr hc
     ·have hx' : x ∈ st := by rw [hs]; simp [q]
      rcases o.apart _ hxm x hx' with z | z | z
      ·rw [← z]; exact .inr hc
      ·have : e < x.1 := z
       have : s < e := hl.2.1
       exact .inr (by omega)
      ·
       have := ord_later o hs x q
       exact .inr (by have : e < x.1 := this; have : s < e := hl.2.1; omega)
   unfold free
   refine find_some (sorted_pw _) ?_ ?_ fun u hu hlt => ?_
   ·rw [sorted_mem]
    rcases hm with q | ⟨e, he, q⟩
    ·rw [q]; exact List.mem_cons_self
    ·exact List.mem_cons_of_mem _ (List.mem_map.mpr ⟨e, he, q⟩)
   ·rw [hL, decide_eq_true ham, decide_eq_true hm9']
    simp
    rw [← fr_iff good o c hm9' hn] at hok
    exact hok
   ·by_cases q1 : a ≤ u
    ·have h1 := hno u q1 hlt (by omega)
     rw [← fr_iff good o c (by omega) hn] at h1
     have : (l.all fun e => decide (e.b ≤ u) || decide (u + n ≤ e.a)) = false := by
      cases z : l.all fun e => decide (e.b ≤ u) || decide (u + n ≤ e.a) with
      | false => rfl
      | true =>
       refine absurd (fun e he => ?_) h1
       have := List.all_eq_true.mp z e he
       simpa using this
     rw [this]
     simp
    ·rw [decide_eq_false q1]
     rfl
  ·rw [if_neg hc]
   have hlt : s < e := hl.2.1
   refine ih (dn ++ [(s, e)]) (max m e) (by rw [hs]; simp) ?_ (by omega) ?_ (fun x hx => ?_) fun u h1 h2 h9 hall => ?_
   ·by_cases q : m ≤ e
    ·by_cases q2 : m = e
     ·rw [show max m e = m by omega]; exact hm
     ·rw [show max m e = e by omega]
      rcases hl.2.2.2 with z | z
      ·have z' : e = NEVER := z
       have hend : many l 1000000000 ≠ 0 := cov_in o c hxm (v := 1000000000) hl.2.2.1 (by show 1000000000 < e; omega) (Nat.le_refl _)
       obtain ⟨f, hf, b1, b2⟩ := many_pos.mp hend
       have := (good f hf).b
       exact .inr ⟨f, hf, by omega⟩
      ·have z' : e ≤ 1000000000 := z
       have h0 := cov_end o c hxm z
       obtain ⟨f, hf, b1, b2⟩ := many_pos.mp (cov_in o c hxm (v := e - 1) (by show s ≤ e - 1; omega) (by show e - 1 < e; omega) (by omega))
       have := (many_zero.mp h0) f hf
       have : ¬ (f.a ≤ e ∧ e < f.b) := this
       exact .inr ⟨f, hf, by omega⟩
    ·rw [show max m e = m by omega]; exact hm
   ·rcases hl.2.2.2 with z | z
    ·have z' : e = NEVER := z
     exact .inr ⟨by omega, ord_last o hs z'⟩
    ·have z' : e ≤ 1000000000 := z
     exact .inl (by omega)
   ·rcases List.mem_append.mp hx with q | q
    ·have := hdn x q; omega
    ·rw [List.mem_singleton] at q
     rw [q]
     show e ≤ max m e
     omega
   ·by_cases q : u < m
    ·exact hno u h1 q h9 hall
    ·have := hall _ hxm
     have : e ≤ u ∨ u + n ≤ s := this
     omega
where
 ord_later {lo : Nat} : ∀ {st dn r : List (Nat × Nat)} {s e : Nat}, Ord lo st → st = dn ++ (s, e) :: r → ∀ x ∈ r, e < x.1 := by
  intro st dn
  induction dn generalizing st lo with
  | nil =>
   intro r s e o hs x hx
   subst hs
   rcases o.2.2.2 with ⟨_, z⟩ | ⟨_, z⟩
   ·rw [z] at hx; cases hx
   ·have := (z.lo x hx).1; omega
  | cons y dn ih =>
   intro r s e o hs x hx
   obtain ⟨s', e'⟩ := y
   subst hs
   rcases o.2.2.2 with ⟨_, z⟩ | ⟨_, z⟩
   ·simp at z
   ·exact ih z rfl x hx
 ord_last {lo : Nat} : ∀ {st dn r : List (Nat × Nat)} {s e : Nat}, Ord lo st → st = dn ++ (s, e) :: r → e = NEVER → r = [] := by
  intro st dn
  induction dn generalizing st lo with
  | nil =>
   intro r s e o hs he
   subst hs
   have hN := never_eq
   rcases o.2.2.2 with ⟨_, z⟩ | ⟨z, _⟩
   ·exact z
   ·omega
  | cons y dn ih =>
   intro r s e o hs he
   obtain ⟨s', e'⟩ := y
   subst hs
   rcases o.2.2.2 with ⟨_, z⟩ | ⟨_, z⟩
   ·simp at z
   ·exact ih z rfl he
theorem free_eq (good : ∀ e ∈ l, Good e) (o : Ord 0 st) (c : Cov l 0 st) {a n : Nat} (ha : a ≤ 1000000000) (hn : 1 ≤ n) : free l a n = frF n st a :=
 frF_ok good o c ha hn st [] a rfl (.inl rfl) (Nat.le_refl _) (.inl ha) (fun x hx => by cases hx) fun u h1 h2 => by omega
structure Bz (l : List Entry) (a b : Nat) (r : Nat × Nat) : Prop where
 lo : a ≤ r.2
 hi : r.2 < b
 at_ : many l r.2 = r.1
 most : ∀ u, a ≤ u → u < b → u ≤ 1000000000 → many l u ≤ r.1
 first : ∀ u, a ≤ u → u < r.2 → many l u < r.1
theorem Bz.unique {a b : Nat} {r s : Nat × Nat} (hr : r.2 ≤ 1000000000) (hs : s.2 ≤ 1000000000) (x : Bz l a b r) (y : Bz l a b s) : r = s := by
 have h1 := x.most s.2 y.lo y.hi hs
 have h2 := y.most r.2 x.lo x.hi hr
 rw [y.at_] at h1
 rw [x.at_] at h2
 have e1 : r.1 = s.1 := by omega
 have e2 : r.2 = s.2 := by
  by_cases q : r.2 < s.2
  ·have := y.first r.2 x.lo q
   rw [x.at_] at this
   omega
  ·by_cases q : s.2 < r.2
   ·have := x.first s.2 y.lo q
    rw [y.at_] at this
    omega
   ·omega
 exact Prod.ext e1 e2
theorem foldl_bz : ∀ (cs : List Nat) (m : Nat × Nat) (dn : List Nat), (dn ++ cs).Pairwise (· < ·) → (∀ v ∈ dn, many l v ≤ m.1) → m.2 ∈ dn → many l m.2 = m.1 → (∀ v ∈ dn, v < m.2 → many l v < m.1) →
  ∃ r, cs.foldl (fun m v => if m.1 < many l v then (many l v, v) else m) m = r ∧ (∀ v ∈ dn ++ cs, many l v ≤ r.1) ∧ r.2 ∈ dn ++ cs ∧ many l r.2 = r.1 ∧ (∀ v ∈ dn ++ cs, v < r.2 → many l v < r.1)
 | [], m, dn, _, h1, h2, h3, h4 => ⟨m, rfl, by rw [List.append_nil]; exact ⟨h1, h2, h3, h4⟩⟩
 | v :: cs, m, dn, hp, h1, h2, h3, h4 => by
  have hp' : ((dn ++ [v]) ++ cs).Pairwise (· < ·) := by simpa using hp
  have hdv : ∀ x ∈ dn, x < v := fun x hx => (List.pairwise_append.mp hp).2.2 x hx v List.mem_cons_self
  have e : dn ++ v :: cs = (dn ++ [v]) ++ cs := by simp
  rw [e]
  show ∃ r, cs.foldl _ (if m.1 < many l v then (many l v, v) else m) = r ∧ _
  by_cases c : m.1 < many l v
  ·rw [if_pos c]
   refine foldl_bz cs (many l v, v) (dn ++ [v]) hp' (fun x hx => ?_) (by simp) rfl (fun x hx hlt => ?_)
   ·rcases List.mem_append.mp hx with q | q
    ·have := h1 x q; show many l x ≤ many l v; omega
    ·rw [List.mem_singleton] at q; rw [q]; exact Nat.le_refl _
   ·rcases List.mem_append.mp hx with q | q
    ·have := h1 x q; show many l x < many l v; omega
    ·rw [List.mem_singleton] at q; rw [q] at hlt; exact absurd hlt (Nat.lt_irrefl _)
  ·rw [if_neg c]
   refine foldl_bz cs m (dn ++ [v]) hp' (fun x hx => ?_) (by simp [h2]) h3 (fun x hx hlt => ?_)
   ·rcases List.mem_append.mp hx with q | q
    ·exact h1 x q
    ·rw [List.mem_singleton] at q; rw [q]; omega
   ·rcases List.mem_append.mp hx with q | q
    ·exact h4 x q hlt
    ·rw [List.mem_singleton] at q
     rw [q] at hlt
     have := hdv _ h2
     omega
theorem busiest_bz (good : ∀ e ∈ l, Good e) {a b : Nat} (ha : a ≤ 1000000000) (hab : a < b) : Bz l a b (busiest l a b) ∧ (busiest l a b).2 ≤ 1000000000 := by
 have hcp : ((sorted (a :: l.map fun e => e.a)).filter fun v => decide (a ≤ v) && decide (v < b)).Pairwise (· < ·) := (sorted_pw _).filter _
 have hcm : ∀ v, v ∈ ((sorted (a :: l.map fun e => e.a)).filter fun v => decide (a ≤ v) && decide (v < b)) ↔ (v = a ∨ ∃ e ∈ l, e.a = v) ∧ a ≤ v ∧ v < b := by
  intro v
  rw [List.mem_filter, sorted_mem, List.mem_cons, List.mem_map]
  simp
 unfold busiest
 cases hcs : (sorted (a :: l.map fun e => e.a)).filter fun v => decide (a ≤ v) && decide (v < b) with
 | nil =>
  have := (hcm a).mpr ⟨.inl rfl, Nat.le_refl _, hab⟩
  rw [hcs] at this
  cases this
 | cons x cs =>
  rw [hcs] at hcp hcm
  have hxa : x = a := by
   have h1 := (hcm x).mp List.mem_cons_self
   have h2 := (hcm a).mpr ⟨.inl rfl, Nat.le_refl _, hab⟩
   rcases List.mem_cons.mp h2 with q | q
   ·exact q.symm
   ·have := (List.pairwise_cons.mp hcp).1 a q; omega
  subst hxa
  have e0 : (x :: cs).foldl (fun m v => if m.1 < many l v then (many l v, v) else m) (0, x) = cs.foldl (fun m v => if m.1 < many l v then (many l v, v) else m) (many l x, x) := by
   show cs.foldl _ (if 0 < many l x then (many l x, x) else (0, x)) = _
   by_cases c : 0 < many l x
   ·rw [if_pos c]
   ·rw [if_neg c]
    have : many l x = 0 := by omega
    rw [this]
  rw [e0]
  obtain ⟨r, hr, h1, h2, h3, h4⟩ := foldl_bz cs (many l x, x) [x] hcp (fun v hv => by rw [List.mem_singleton] at hv; rw [hv]; exact Nat.le_refl _) (by simp) rfl (fun v hv hlt => by rw [List.mem_singleton] at hv; rw [hv] at hlt; exact absurd hlt (Nat.lt_irrefl _))
  rw [hr]
  have h2' := (hcm r.2).mp h2
  have key : ∀ u, x ≤ u → u < b → ∃ v ∈ x :: cs, v ≤ u ∧ many l u ≤ many l v := by
   intro u a1 a2
   have : ∀ (L : List Nat), (∃ s ∈ L, s ≤ u) → ∃ s ∈ L, s ≤ u ∧ ∀ y ∈ L, y ≤ u → y ≤ s := by
    intro L
    induction L with
    | nil => rintro ⟨s, hs, _⟩; cases hs
    | cons y L ih =>
     intro hs
     by_cases hL : ∃ s ∈ L, s ≤ u
     ·obtain ⟨s, hs, g1, g2⟩ := ih hL
      by_cases hy : y ≤ u ∧ s < y
      ·exact ⟨y, List.mem_cons_self, hy.1, fun z hz hzu => by
        rcases List.mem_cons.mp hz with q | q
        ·omega
        ·have := g2 z q hzu; omega⟩
      ·exact ⟨s, List.mem_cons_of_mem _ hs, g1, fun z hz hzu => by
        rcases List.mem_cons.mp hz with q | q
        ·omega
        ·exact g2 z q hzu⟩
     ·obtain ⟨s, hs, g⟩ := hs
      rcases List.mem_cons.mp hs with q | q
      ·exact ⟨y, List.mem_cons_self, by omega, fun z hz hzu => by
        rcases List.mem_cons.mp hz with q | q
        ·omega
        ·exact absurd ⟨z, q, hzu⟩ hL⟩
      ·exact absurd ⟨s, q, g⟩ hL
   obtain ⟨s, hs, g1, g2⟩ := this (x :: cs) ⟨x, List.mem_cons_self, a1⟩
   refine ⟨s, hs, g1, many_le fun e he b1 b2 => ?_⟩
   have hsx := ((hcm s).mp hs).2.1
   by_cases q : x ≤ e.a
   ·have := g2 e.a ((hcm e.a).mpr ⟨.inr ⟨e, he, rfl⟩, q, by omega⟩) b1
    omega
   ·omega
  refine ⟨⟨h2'.2.1, h2'.2.2, h3, fun u a1 a2 _ => ?_, fun u a1 a2 => ?_⟩, ?_⟩
  ·obtain ⟨v, hv, _, g⟩ := key u a1 a2
   have := h1 v hv
   omega
  ·obtain ⟨v, hv, g1, g2⟩ := key u a1 (by omega)
   have := h4 v hv (by omega)
   omega
  ·rcases h2'.1 with q | ⟨e, he, q⟩
   ·omega
   ·have := (good e he).a; omega
def bzF (c : Nat → Nat) (a b : Nat) (m : Nat × Nat) (x : Nat) : Nat × Nat := if x ≤ a then (c x, m.2) else if x < b ∧ m.1 < c x then (c x, x) else m
theorem bzF_ok (h : LvD l ms) {a b : Nat} (ha : a ≤ 1000000000) (hab : a < b) : ∀ (r dn : List Nat) (m : Nat × Nat), ms = dn ++ r → ((∃ x ∈ r, x ≤ a) → m.2 = a) → ((∀ x ∈ r, a < x) → m.2 ≤ 1000000000 ∧ a ≤ m.2 ∧ m.2 < b ∧ many l m.2 = m.1 ∧ (∀ u, a ≤ u → u < b → u ≤ 1000000000 → (∀ x ∈ r, u < x) → many l u ≤ m.1) ∧ (∀ u, a ≤ u → u < m.2 → many l u < m.1)) →
  Bz l a b (r.foldl (bzF (many l) a b) m) ∧ (r.foldl (bzF (many l) a b) m).2 ≤ 1000000000 := by
 intro r
 induction r with
 | nil =>
  intro dn m _ _ h2
  obtain ⟨g0, g1, g2, g3, g4, g5⟩ := h2 fun x hx => by cases hx
  exact ⟨⟨g1, g2, g3, (fun u a1 a2 a3 => g4 u a1 a2 a3 fun x hx => absurd hx List.not_mem_nil), g5⟩, g0⟩
 | cons x r ih =>
  intro dn m hs h1 h2
  have hs' : ms = (dn ++ [x]) ++ r := by rw [hs]; simp
  have hsrt := h.srt
  rw [hs] at hsrt
  obtain ⟨_, hmr, hdr⟩ := List.pairwise_append.mp hsrt
  have ⟨m1, _⟩ := List.pairwise_cons.mp hmr
  have hxm : x ∈ ms := by rw [hs]; simp
  have hx9 := h.le hxm
  have cst : ∀ v, x ≤ v → v ≤ 1000000000 → (∀ y ∈ r, v < y) → many l v = many l x := fun v a1 a2 a3 => h.const a1 a2 fun y hy => by
   rw [hs] at hy
   rcases List.mem_append.mp hy with z | z
   ·exact .inl (Nat.le_of_lt (hdr y z x List.mem_cons_self))
   ·rcases List.mem_cons.mp z with z | z
    ·exact .inl (by omega)
    ·exact .inr (a3 y z)
  show Bz l a b (r.foldl (bzF (many l) a b) (bzF (many l) a b m x)) ∧ _
  refine ih (dn ++ [x]) (bzF (many l) a b m x) hs' ?_ ?_
  ·rintro ⟨y, hy, hya⟩
   have hxa : x ≤ a := by have := m1 y hy; omega
   unfold bzF
   rw [if_pos hxa]
   exact h1 ⟨x, List.mem_cons_self, hxa⟩
  ·intro hr
   unfold bzF
   by_cases hxa : x ≤ a
   ·rw [if_pos hxa]
    have hm2 := h1 ⟨x, List.mem_cons_self, hxa⟩
    have hc := cst a hxa ha hr
    refine ⟨by show m.2 ≤ _; omega, by show a ≤ m.2; omega, by show m.2 < b; omega, by show many l m.2 = many l x; rw [hm2, hc], fun u a1 a2 a3 a4 => ?_, fun u a1 a2 => ?_⟩
    ·rw [cst u (by omega) a3 a4]
     exact Nat.le_refl _
    ·have : u < m.2 := a2
     omega
   ·rw [if_neg hxa]
    have hall : ∀ y ∈ x :: r, a < y := fun y hy => by
     rcases List.mem_cons.mp hy with q | q
     ·omega
     ·exact hr y q
    obtain ⟨g0, g1, g2, g3, g4, g5⟩ := h2 hall
    by_cases c : x < b ∧ m.1 < many l x
    ·rw [if_pos c]
     refine ⟨hx9, by show a ≤ x; omega, c.1, rfl, fun u a1 a2 a3 a4 => ?_, fun u a1 a2 => ?_⟩
     ·by_cases q : x ≤ u
      ·rw [cst u q a3 a4]; exact Nat.le_refl _
      ·have := g4 u a1 a2 a3 fun y hy => by
        rcases List.mem_cons.mp hy with z | z
        ·omega
        ·exact a4 y z
       show many l u ≤ many l x
       omega
     ·have a2' : u < x := a2
      have := g4 u a1 (by omega) (by omega) fun y hy => by
       rcases List.mem_cons.mp hy with z | z
       ·omega
       ·have := m1 y z; omega
      show many l u < many l x
      omega
    ·rw [if_neg c]
     refine ⟨g0, g1, g2, g3, fun u a1 a2 a3 a4 => ?_, g5⟩
     by_cases q : x ≤ u
     ·rw [cst u q a3 a4]
      by_cases q2 : x < b
      ·have : ¬ m.1 < many l x := fun z => c ⟨q2, z⟩
       omega
      ·omega
     ·exact g4 u a1 a2 a3 fun y hy => by
       rcases List.mem_cons.mp hy with z | z
       ·omega
       ·exact a4 y z
theorem busiest_eq (h : LvD l ms) {a b : Nat} (ha : a ≤ 1000000000) (hab : a < b) : busiest l a b = ms.foldl (bzF (many l) a b) (0, a) := by
 obtain ⟨x1, x2⟩ := busiest_bz h.good ha hab
 obtain ⟨y1, y2⟩ := bzF_ok h ha hab ms [] (0, a) rfl (fun _ => rfl) fun hz => by
  have h0 : many l a = 0 := h.zero hz
  refine ⟨ha, Nat.le_refl _, hab, h0, fun u a1 a2 a3 a4 => ?_, fun u a1 a2 => ?_⟩
  ·rw [h.zero a4]; exact Nat.le_refl _
  ·have : u < a := a2
   omega
 exact Bz.unique x2 y2 x1 y1
theorem prior_go (v : Nat) : ∀ (L : List Entry) (m : Option Entry), (L.filter fun e => decide (e.b ≤ v)).foldl (fun m e => match m with
 | some x => if e.b < x.b then some x else some e
 | none => some e) m = L.foldl (fun m e => if e.b ≤ v then (match m with
 | some x => if e.b < x.b then some x else some e
 | none => some e) else m) m
 | [], m => rfl
 | e :: L, m => by
  by_cases c : e.b ≤ v
  ·rw [List.filter_cons, if_pos (by simp [c]), List.foldl_cons, List.foldl_cons, if_pos c]
   exact prior_go v L _
  ·rw [List.filter_cons, if_neg (by simp [c]), List.foldl_cons, if_neg c]
   exact prior_go v L m
end
end SM
end
section
namespace L2
open PySem PySem.Spec PyProof.Rows
def top (i : Nat) : Stmt := PySem.Challenge.pw_stretchindex_s01_answers.main.body.getD i (.Pass ⟨0, 0, 0, 0⟩)
abbrev s_Entry_init : Stmt := inClass (top 8) 0
abbrev s_end_from_told : Stmt := top 9
abbrev s_end_as_told : Stmt := top 10
abbrev s_entry_as_told : Stmt := top 11
abbrev s_rank : Stmt := top 12
abbrev s_in_order : Stmt := top 13
abbrev s_with_keys : Stmt := top 14
abbrev s_argument_names : Stmt := top 23
abbrev s_in_range : Stmt := top 24
abbrev s_argument_refusal : Stmt := top 25
abbrev s_add : Stmt := top 27
abbrev s_drop : Stmt := top 28
abbrev s_move : Stmt := top 29
abbrev s_rekey : Stmt := top 30
abbrev s_close : Stmt := top 31
abbrev s_purge : Stmt := top 32
abbrev s_remove_all : Stmt := top 33
abbrev s_shift : Stmt := top 34
abbrev s_last_bound : Stmt := top 35
abbrev s_is_change : Stmt := top 37
abbrev s_change : Stmt := top 38
abbrev s_levels : Stmt := top 40
abbrev s_stretches_held : Stmt := top 41
abbrev s_first_meeting : Stmt := top 42
abbrev s_greatest_level : Stmt := top 43
abbrev s_Node_init : Stmt := inClass (top 45) 0
abbrev s_Window_init : Stmt := inClass (top 46) 0
abbrev s_weight : Stmt := top 47
abbrev s_tree_of : Stmt := top 48
abbrev s_close_lighter : Stmt := top 49
abbrev s_close_last : Stmt := top 50
abbrev s_hits : Stmt := top 51
abbrev s_passed_over : Stmt := top 52
abbrev s_search : Stmt := top 53
abbrev s_depths : Stmt := top 54
abbrev s_way_down : Stmt := top 55
abbrev s_get : Stmt := top 57
abbrev s_count : Stmt := top 58
abbrev s_stab : Stmt := top 59
abbrev s_find : Stmt := top 60
abbrev s_inside : Stmt := top 61
abbrev s_around : Stmt := top 62
abbrev s_place : Stmt := top 63
abbrev s_nth : Stmt := top 64
abbrev s_held : Stmt := top 65
abbrev s_clash : Stmt := top 66
abbrev s_covered : Stmt := top 67
abbrev s_free : Stmt := top 68
abbrev s_prior : Stmt := top 69
abbrev s_following : Stmt := top 70
abbrev s_busiest : Stmt := top 71
abbrev s_path : Stmt := top 72
abbrev s_shape : Stmt := top 73
abbrev s_whole_tree : Stmt := top 74
abbrev s_with_key : Stmt := top 75
abbrev s_window_told : Stmt := top 76
abbrev s_counted : Stmt := top 77
abbrev s_with_count : Stmt := top 78
abbrev s_entry_or_none : Stmt := top 79
abbrev s_question : Stmt := top 81
abbrev s_answers : Stmt := top 83
abbrev s_answer_one : Stmt := top 84
theorem sc_Entry_init : FnScope ["self", "number", "key", "first", "end"] ["self", "number", "key", "first", "end"] (defScope s_Entry_init) := ⟨rfl, rfl, rfl, by decide +kernel, rfl, by decide +kernel, by decide +kernel⟩
theorem sc_end_from_told : FnScope ["told"] ["told"] (defScope s_end_from_told) := ⟨rfl, rfl, rfl, by decide +kernel, rfl, by decide +kernel, by decide +kernel⟩
theorem sc_end_as_told : FnScope ["end"] ["end"] (defScope s_end_as_told) := ⟨rfl, rfl, rfl, by decide +kernel, rfl, by decide +kernel, by decide +kernel⟩
theorem sc_entry_as_told : FnScope ["entry"] ["entry"] (defScope s_entry_as_told) := ⟨rfl, rfl, rfl, by decide +kernel, rfl, by decide +kernel, by decide +kernel⟩
theorem sc_rank : FnScope ["entry"] ["entry"] (defScope s_rank) := ⟨rfl, rfl, rfl, by decide +kernel, rfl, by decide +kernel, by decide +kernel⟩
theorem sc_in_order : FnScope ["entries"] ["entries"] (defScope s_in_order) := ⟨rfl, rfl, rfl, by decide +kernel, rfl, by decide +kernel, by decide +kernel⟩
theorem sc_with_keys : FnScope ["entries", "low", "high", "entry"] ["entries", "low", "high"] (defScope s_with_keys) := ⟨rfl, rfl, rfl, by decide +kernel, rfl, by decide +kernel, by decide +kernel⟩
theorem sc_argument_names : FnScope ["call"] ["call"] (defScope s_argument_names) := ⟨rfl, rfl, rfl, by decide +kernel, rfl, by decide +kernel, by decide +kernel⟩
theorem sc_in_range : FnScope ["name", "number"] ["name", "number"] (defScope s_in_range) := ⟨rfl, rfl, rfl, by decide +kernel, rfl, by decide +kernel, by decide +kernel⟩
theorem sc_argument_refusal : FnScope ["told", "name"] ["told"] (defScope s_argument_refusal) := ⟨rfl, rfl, rfl, by decide +kernel, rfl, by decide +kernel, by decide +kernel⟩
theorem sc_add : FnScope ["entries", "told", "number"] ["entries", "told"] (defScope s_add) := ⟨rfl, rfl, rfl, by decide +kernel, rfl, by decide +kernel, by decide +kernel⟩
theorem sc_drop : FnScope ["entries", "told"] ["entries", "told"] (defScope s_drop) := ⟨rfl, rfl, rfl, by decide +kernel, rfl, by decide +kernel, by decide +kernel⟩
theorem sc_move : FnScope ["entries", "told", "entry", "before"] ["entries", "told"] (defScope s_move) := ⟨rfl, rfl, rfl, by decide +kernel, rfl, by decide +kernel, by decide +kernel⟩
theorem sc_rekey : FnScope ["entries", "told", "entry", "before"] ["entries", "told"] (defScope s_rekey) := ⟨rfl, rfl, rfl, by decide +kernel, rfl, by decide +kernel, by decide +kernel⟩
theorem sc_close : FnScope ["entries", "told", "moment", "meant", "gone", "entry", "cut"] ["entries", "told"] (defScope s_close) := ⟨rfl, rfl, rfl, by decide +kernel, rfl, by decide +kernel, by decide +kernel⟩
theorem sc_purge : FnScope ["entries", "told", "gone", "entry"] ["entries", "told"] (defScope s_purge) := ⟨rfl, rfl, rfl, by decide +kernel, rfl, by decide +kernel, by decide +kernel⟩
theorem sc_remove_all : FnScope ["entries", "gone", "entry"] ["entries", "gone"] (defScope s_remove_all) := ⟨rfl, rfl, rfl, by decide +kernel, rfl, by decide +kernel, by decide +kernel⟩
theorem sc_shift : FnScope ["entries", "told", "meant", "entry"] ["entries", "told"] (defScope s_shift) := ⟨rfl, rfl, rfl, by decide +kernel, rfl, by decide +kernel, by decide +kernel⟩
theorem sc_last_bound : FnScope ["entry"] ["entry"] (defScope s_last_bound) := ⟨rfl, rfl, rfl, by decide +kernel, rfl, by decide +kernel, by decide +kernel⟩
theorem sc_is_change : FnScope ["call"] ["call"] (defScope s_is_change) := ⟨rfl, rfl, rfl, by decide +kernel, rfl, by decide +kernel, by decide +kernel⟩
theorem sc_change : FnScope ["call", "entries", "told"] ["call", "entries", "told"] (defScope s_change) := ⟨rfl, rfl, rfl, by decide +kernel, rfl, by decide +kernel, by decide +kernel⟩
theorem sc_levels : FnScope ["entries", "differences", "entry", "pairs", "level", "moment"] ["entries"] (defScope s_levels) := ⟨rfl, rfl, rfl, by decide +kernel, rfl, by decide +kernel, by decide +kernel⟩
theorem sc_stretches_held : FnScope ["entries", "stretches", "begun", "pair"] ["entries"] (defScope s_stretches_held) := ⟨rfl, rfl, rfl, by decide +kernel, rfl, by decide +kernel, by decide +kernel⟩
theorem sc_first_meeting : FnScope ["entries", "pair"] ["entries"] (defScope s_first_meeting) := ⟨rfl, rfl, rfl, by decide +kernel, rfl, by decide +kernel, by decide +kernel⟩
theorem sc_greatest_level : FnScope ["entries", "first", "end", "most", "reached", "pair"] ["entries", "first", "end"] (defScope s_greatest_level) := ⟨rfl, rfl, rfl, by decide +kernel, rfl, by decide +kernel, by decide +kernel⟩
theorem sc_Node_init : FnScope ["self", "entry"] ["self", "entry"] (defScope s_Node_init) := ⟨rfl, rfl, rfl, by decide +kernel, rfl, by decide +kernel, by decide +kernel⟩
theorem sc_Window_init : FnScope ["self", "low", "high", "first", "end"] ["self", "low", "high", "first", "end"] (defScope s_Window_init) := ⟨rfl, rfl, rfl, by decide +kernel, rfl, by decide +kernel, by decide +kernel⟩
theorem sc_weight : FnScope ["number"] ["number"] (defScope s_weight) := ⟨rfl, rfl, rfl, by decide +kernel, rfl, by decide +kernel, by decide +kernel⟩
theorem sc_tree_of : FnScope ["entries", "open_nodes", "entry", "node", "above", "top"] ["entries"] (defScope s_tree_of) := ⟨rfl, rfl, rfl, by decide +kernel, rfl, by decide +kernel, by decide +kernel⟩
theorem sc_close_lighter : FnScope ["open_nodes", "bound", "closed"] ["open_nodes", "bound"] (defScope s_close_lighter) := ⟨rfl, rfl, rfl, by decide +kernel, rfl, by decide +kernel, by decide +kernel⟩
theorem sc_close_last : FnScope ["open_nodes", "node", "below"] ["open_nodes"] (defScope s_close_last) := ⟨rfl, rfl, rfl, by decide +kernel, rfl, by decide +kernel, by decide +kernel⟩
theorem sc_hits : FnScope ["entry", "window", "has_key"] ["entry", "window"] (defScope s_hits) := ⟨rfl, rfl, rfl, by decide +kernel, rfl, by decide +kernel, by decide +kernel⟩
theorem sc_passed_over : FnScope ["tree", "window"] ["tree", "window"] (defScope s_passed_over) := ⟨rfl, rfl, rfl, by decide +kernel, rfl, by decide +kernel, by decide +kernel⟩
theorem sc_search : FnScope ["tree", "window", "found", "looked_at", "waiting", "node"] ["tree", "window"] (defScope s_search) := ⟨rfl, rfl, rfl, by decide +kernel, rfl, by decide +kernel, by decide +kernel⟩
theorem sc_depths : FnScope ["tree", "pairs", "waiting", "node", "depth", "last"] ["tree"] (defScope s_depths) := ⟨rfl, rfl, rfl, by decide +kernel, rfl, by decide +kernel, by decide +kernel⟩
theorem sc_way_down : FnScope ["tree", "entry", "way", "node"] ["tree", "entry"] (defScope s_way_down) := ⟨rfl, rfl, rfl, by decide +kernel, rfl, by decide +kernel, by decide +kernel⟩
theorem sc_get : FnScope ["entries", "told"] ["entries", "told"] (defScope s_get) := ⟨rfl, rfl, rfl, by decide +kernel, rfl, by decide +kernel, by decide +kernel⟩
theorem sc_count : FnScope ["entries", "told"] ["entries", "told"] (defScope s_count) := ⟨rfl, rfl, rfl, by decide +kernel, rfl, by decide +kernel, by decide +kernel⟩
theorem sc_stab : FnScope ["entries", "told", "window", "result"] ["entries", "told"] (defScope s_stab) := ⟨rfl, rfl, rfl, by decide +kernel, rfl, by decide +kernel, by decide +kernel⟩
theorem sc_find : FnScope ["entries", "told", "result"] ["entries", "told"] (defScope s_find) := ⟨rfl, rfl, rfl, by decide +kernel, rfl, by decide +kernel, by decide +kernel⟩
theorem sc_inside : FnScope ["entries", "told", "window", "result", "within", "entry"] ["entries", "told"] (defScope s_inside) := ⟨rfl, rfl, rfl, by decide +kernel, rfl, by decide +kernel, by decide +kernel⟩
theorem sc_around : FnScope ["entries", "told", "window", "result", "beyond", "entry"] ["entries", "told"] (defScope s_around) := ⟨rfl, rfl, rfl, by decide +kernel, rfl, by decide +kernel, by decide +kernel⟩
theorem sc_place : FnScope ["entries", "told", "own", "entry"] ["entries", "told"] (defScope s_place) := ⟨rfl, rfl, rfl, by decide +kernel, rfl, by decide +kernel, by decide +kernel⟩
theorem sc_nth : FnScope ["entries", "told", "ordered"] ["entries", "told"] (defScope s_nth) := ⟨rfl, rfl, rfl, by decide +kernel, rfl, by decide +kernel, by decide +kernel⟩
theorem sc_held : FnScope ["entries", "told", "bounds", "stretch", "bound"] ["entries", "told"] (defScope s_held) := ⟨rfl, rfl, rfl, by decide +kernel, rfl, by decide +kernel, by decide +kernel⟩
theorem sc_clash : FnScope ["entries", "told", "moment"] ["entries", "told"] (defScope s_clash) := ⟨rfl, rfl, rfl, by decide +kernel, rfl, by decide +kernel, by decide +kernel⟩
theorem sc_covered : FnScope ["entries", "told", "first", "stretch"] ["entries", "told"] (defScope s_covered) := ⟨rfl, rfl, rfl, by decide +kernel, rfl, by decide +kernel, by decide +kernel⟩
theorem sc_free : FnScope ["entries", "told", "moment", "stretch"] ["entries", "told"] (defScope s_free) := ⟨rfl, rfl, rfl, by decide +kernel, rfl, by decide +kernel, by decide +kernel⟩
theorem sc_prior : FnScope ["entries", "told", "best", "entry"] ["entries", "told"] (defScope s_prior) := ⟨rfl, rfl, rfl, by decide +kernel, rfl, by decide +kernel, by decide +kernel⟩
theorem sc_following : FnScope ["entries", "told", "entry"] ["entries", "told"] (defScope s_following) := ⟨rfl, rfl, rfl, by decide +kernel, rfl, by decide +kernel, by decide +kernel⟩
theorem sc_busiest : FnScope ["entries", "told", "result"] ["entries", "told"] (defScope s_busiest) := ⟨rfl, rfl, rfl, by decide +kernel, rfl, by decide +kernel, by decide +kernel⟩
theorem sc_path : FnScope ["entries", "told", "way", "entry"] ["entries", "told"] (defScope s_path) := ⟨rfl, rfl, rfl, by decide +kernel, rfl, by decide +kernel, by decide +kernel⟩
theorem sc_shape : FnScope ["entries", "told", "answer", "pair"] ["entries", "told"] (defScope s_shape) := ⟨rfl, rfl, rfl, by decide +kernel, rfl, by decide +kernel, by decide +kernel⟩
theorem sc_whole_tree : FnScope ["entries"] ["entries"] (defScope s_whole_tree) := ⟨rfl, rfl, rfl, by decide +kernel, rfl, by decide +kernel, by decide +kernel⟩
theorem sc_with_key : FnScope ["entries", "told"] ["entries", "told"] (defScope s_with_key) := ⟨rfl, rfl, rfl, by decide +kernel, rfl, by decide +kernel, by decide +kernel⟩
theorem sc_window_told : FnScope ["told"] ["told"] (defScope s_window_told) := ⟨rfl, rfl, rfl, by decide +kernel, rfl, by decide +kernel, by decide +kernel⟩
theorem sc_counted : FnScope ["entries", "looked_at", "answer", "entry"] ["entries", "looked_at"] (defScope s_counted) := ⟨rfl, rfl, rfl, by decide +kernel, rfl, by decide +kernel, by decide +kernel⟩
theorem sc_with_count : FnScope ["numbers"] ["numbers"] (defScope s_with_count) := ⟨rfl, rfl, rfl, by decide +kernel, rfl, by decide +kernel, by decide +kernel⟩
theorem sc_entry_or_none : FnScope ["entry"] ["entry"] (defScope s_entry_or_none) := ⟨rfl, rfl, rfl, by decide +kernel, rfl, by decide +kernel, by decide +kernel⟩
theorem sc_question : FnScope ["call", "entries", "told"] ["call", "entries", "told"] (defScope s_question) := ⟨rfl, rfl, rfl, by decide +kernel, rfl, by decide +kernel, by decide +kernel⟩
theorem sc_answers : FnScope ["calls", "entries", "told_back", "place", "call", "names", "behind", "answer"] ["calls"] (defScope s_answers) := ⟨rfl, rfl, rfl, by decide +kernel, rfl, by decide +kernel, by decide +kernel⟩
theorem sc_answer_one : FnScope ["call", "entries", "told", "refusal"] ["call", "entries", "told"] (defScope s_answer_one) := ⟨rfl, rfl, rfl, by decide +kernel, rfl, by decide +kernel, by decide +kernel⟩
structure Txt (K : PySem.W.Frag) (mg : Str → Option Value) : Prop where
 g_GREATEST_NUMBER : GInt mg "GREATEST_NUMBER" 999999
 g_LEAST_KEY : GInt mg "LEAST_KEY" (-999999999999)
 g_GREATEST_KEY : GInt mg "GREATEST_KEY" 999999999999
 g_LAST_MOMENT : GInt mg "LAST_MOMENT" 1000000000
 g_MOST_ENTRIES : GInt mg "MOST_ENTRIES" 200
 g_NEVER : GInt mg "NEVER" 1000000000000000000
 g_NEVER_AS_TOLD : GInt mg "NEVER_AS_TOLD" (-1)
 g_OUT_OF_RANGE : GInt mg "OUT_OF_RANGE" (-1)
 g_EMPTY_STRETCH : GInt mg "EMPTY_STRETCH" (-2)
 g_NO_SUCH_ENTRY : GInt mg "NO_SUCH_ENTRY" (-3)
 g_NUMBER_TAKEN : GInt mg "NUMBER_TAKEN" (-4)
 g_BEYOND_LAST_MOMENT : GInt mg "BEYOND_LAST_MOMENT" (-5)
 g_FULL : GInt mg "FULL" (-6)
 len : mg "len" = none
 min : mg "min" = none
 max : mg "max" = none
 sorted : mg "sorted" = none
 list : mg "list" = none
 dict : mg "dict" = none
 zip : mg "zip" = none
end L2
end
section
namespace L2
open PySem PySem.Spec PyProof.Rows
section
variable {σ : St} {H : Hp} {Q : VK} {D : Ends} {QT : Bool → Hp → Prop} {QA : List V → Hp → Prop} {te ta tb tc td ty tv tx : TE} {t u : TT} {ts us : TS} {tl : TA} {r r' : R2} {i j : Nat} {v : V} {K : PySem.W.Frag} {X : Cx}
@[simp] theorem x_var : tVar i σ H Q = ∃ v, σ[i]? = some (some v) ∧ Q v H := rfl
@[simp] theorem x_c : tC v σ H Q = Q v H := rfl
@[simp] theorem x_op : tOp r ta tb σ H Q = ta σ H fun x H1 => tb σ H1 fun y H2 => r x y H2 Q := rfl
@[simp] theorem x_un {g : V → Hp → VK → Prop} : tUn g ta σ H Q = ta σ H fun x H1 => g x H1 Q := rfl
@[simp] theorem x_rU {g : Int → V} {i : Int} : rU g (.int i) H Q = Q (g i) H := by simp [rU]
@[simp] theorem x_rI0 {g : Int → Int → V} {i j : Int} : rI0 g (.int i) (.int j) H Q = Q (g i j) H := by simp [rI0]
@[simp] theorem x_rI {C : Int → Int → Prop} {g : Int → Int → V} {i j : Int} : rI C g (.int i) (.int j) H Q = (C i j ∧ Q (g i j) H) := by simp [rI]
@[simp] theorem x_eqI {i j : Int} : rEq (.int i) (.int j) H Q = Q (.bl (decide (i = j))) H := by simp [rEq, scal]
@[simp] theorem x_eqS {i j : Str} : rEq (.str i) (.str j) H Q = Q (.bl (decide (i = j))) H := by simp [rEq, scal]
@[simp] theorem x_neI {i j : Int} : rNe (.int i) (.int j) H Q = Q (.bl (!decide (i = j))) H := by simp [rNe, scal]
def bT (x : V) (k : Bool → Prop) : Prop := ∃ b, x = .bl b ∧ k b
@[simp] theorem x_bT {b : Bool} {k : Bool → Prop} : bT (.bl b) k = k b := by simp [bT]
@[simp] theorem x_test : tTest te σ H QT = te σ H fun x H' => bT x fun k => QT k H' := rfl
@[simp] theorem x_tB : tB te σ H QT = te σ H fun x H' => bT x fun k => QT k H' := rfl
@[simp] theorem x_chain : tChain r r' ta tb tc σ H Q = ta σ H fun x H1 => tb σ H1 fun y H2 => r x y H2 fun z H3 => bT z fun k => (if k = true then tc σ H3 fun w' H4 => r' y w' H4 Q else Q (.bl false) H3) := rfl
@[simp] theorem x_and : tAnd t u σ H QT = t σ H fun c H1 => if c = true then u σ H1 QT else QT false H1 := rfl
@[simp] theorem x_or : tOr t u σ H QT = t σ H fun c H1 => if c = true then QT true H1 else u σ H1 QT := rfl
@[simp] theorem x_not : tNot t σ H QT = t σ H fun c H1 => QT (!c) H1 := rfl
@[simp] theorem x_andV : tAndV ta tb σ H Q = ta σ H fun x H1 => bT x fun c => if c = true then tb σ H1 Q else Q (.bl false) H1 := rfl
@[simp] theorem x_orV : tOrV ta tb σ H Q = ta σ H fun x H1 => bT x fun c => if c = true then Q (.bl true) H1 else tb σ H1 Q := rfl
@[simp] theorem x_if : tIf t ta tb σ H Q = t σ H fun c H1 => if c = true then ta σ H1 Q else tb σ H1 Q := rfl
@[simp] theorem x_next : tNext D σ H = D.nx σ H := rfl
@[simp] theorem x_seq : tSeq ts us D σ H = ts { D with nx := us D } σ H := rfl
@[simp] theorem x_drop : tDrop te D σ H = te σ H fun _ H1 => D.nx σ H1 := rfl
@[simp] theorem x_ret : tRet te D σ H = te σ H D.rt := rfl
@[simp] theorem x_ifS : tIfS t ts us D σ H = t σ H fun b H1 => if b = true then ts D σ H1 else us D σ H1 := rfl
@[simp] theorem x_asg {g : TG} : tAsg te g D σ H = te σ H fun x H1 => g x σ H1 D.nx := rfl
@[simp] theorem x_gname {k : St → Hp → Prop} : gName i v σ H k = k (σ.set i (some v)) H := rfl
@[simp] theorem x_aug {ti : TIp} : tAug i te ti D σ H = ∃ x, σ[i]? = some (some x) ∧ te σ H fun y H1 => ti x y H1 fun z H2 => D.nx (σ.set i (some z)) H2 := rfl
@[simp] theorem x_ipI {f : Int → Int → Int} {i j : Int} : ipI f (.int i) (.int j) H Q = Q (.int (f i j)) H := by simp [ipI]
@[simp] theorem x_nil : tNil σ H QA = QA [] H := rfl
@[simp] theorem x_cons : tCons ta tl σ H QA = ta σ H fun x H1 => tl σ H1 fun xs H2 => QA (x :: xs) H2 := rfl
@[simp] theorem x_tup : tTup tl σ H Q = tl σ H fun xs H1 => xs.length ≤ sizeLine ∧ ∀ p, H1 p = none → Q (.ref p) (upd H1 p (.tup xs)) := rfl
@[simp] theorem x_lst : tLst tl σ H Q = tl σ H fun xs H1 => xs.length ≤ sizeLine ∧ ∀ p, H1 p = none → Q (.ref p) (upd H1 p (.lst xs)) := rfl
@[simp] theorem x_call {sp : Sp} {E : XK} : tCall sp [] E tl σ H Q = tl σ H fun vs H1 => sp vs H1 Q E := by simp [tCall]
@[simp] theorem x_make {C : Addr} {sp : Sp} {E : XK} : tMake C sp [] E tl σ H Q = tl σ H fun vs H1 => ∀ x dx, H1 x = none → H1 dx = none → dx ≠ x → sp (.ref x :: vs) (upd (upd H1 dx (.own x)) x (.ins C dx [])) (fun v H2 => v = .non ∧ Q (.ref x) H2) E := by simp [tMake]
@[simp] theorem x_cb {g : List V → Hp → VK → Prop} : tCB g tl σ H Q = tl σ H fun vs H1 => g vs H1 Q := rfl
@[simp] theorem x_bm0 {T : String} {g : V → List V → Hp → VK → Prop} : tBM0 K T g ta σ H Q = ta σ H fun x H1 => tyV K T x H1 ∧ g x [] H1 Q := rfl
@[simp] theorem x_bm {T : String} {g : V → List V → Hp → VK → Prop} : tBM K T g ta tl σ H Q = ta σ H fun x H1 => tyV K T x H1 ∧ tl σ H1 fun xs H2 => g x xs H2 Q := rfl
def fldR (K : PySem.W.Frag) (f : Str) (x : V) (H1 : Hp) (Q : VK) : Prop := ∃ a C dx fs v, x = .ref a ∧ H1 a = some (.ins C dx fs) ∧ Cls K C ∧ NoAttr K C f ∧ fs.lookup f = some v ∧ Q v H1
def setR (K : PySem.W.Frag) (f : Str) (y x : V) (H2 : Hp) (k : Hp → Prop) : Prop := ∃ a C dx fs, x = .ref a ∧ H2 a = some (.ins C dx fs) ∧ Cls K C ∧ NoAttr K C f ∧ fs.length < 1000 ∧ k (upd H2 a (.ins C dx (putF f y fs)))
@[simp] theorem x_fld {f : Str} : tFld K ta f σ H Q = ta σ H fun x H1 => fldR K f x H1 Q := rfl
@[simp] theorem x_sfld {f : Str} : sFld K ta tv f D σ H = tv σ H fun y H1 => ta σ H1 fun x H2 => setR K f y x H2 fun H3 => D.nx σ H3 := rfl
@[simp] theorem x_cxK {CX : CXT} {P : Program} {w : World} {mg : Str → Option Value} {base : Heap} {N : List Str} {q : Str} {sc : Scope} {f : Addr} {cd : Value} {A : Around} {o : List Env} {s : Shared} {E : XK} : (cxOf CX P w K mg base N q sc f cd A o s H E).K = K := rfl
def dgetR (x y : V) (H2 : Hp) (Q : VK) : Prop := ∃ a v, x = .ref a ∧ DGet H2 a y (some v) ∧ Q v H2
@[simp] theorem x_dget : tDGet td ty σ H Q = td σ H fun x H1 => ty σ H1 fun y H2 => dgetR x y H2 Q := rfl
def dinR (y x : V) (H2 : Hp) (k : Bool → Prop) : Prop := ∃ a o, x = .ref a ∧ DGet H2 a y o ∧ k o.isSome
@[simp] theorem x_din : tDIn ty td σ H Q = ty σ H fun y H1 => td σ H1 fun x H2 => dinR y x H2 fun b => Q (.bl b) H2 := rfl
@[simp] theorem x_dnotin : tDNotIn ty td σ H Q = ty σ H fun y H1 => td σ H1 fun x H2 => dinR y x H2 fun b => Q (.bl (!b)) H2 := rfl
@[simp] theorem x_dput : sDPut td ty tv D σ H = tv σ H fun v H1 => td σ H1 fun x H2 => ty σ H2 fun y H3 => ∃ a H4, x = .ref a ∧ DPut H3 a y v H4 ∧ D.nx σ H4 := rfl
end
theorem len2_le : (2 : Nat) ≤ sizeLine := by decide
theorem fits {n : Nat} (h : n ≤ 100000) : n ≤ sizeLine := Nat.le_trans h (by decide)
theorem fits' {n : Nat} (h : n ≤ 100000) : n < sizeLine := Nat.lt_of_le_of_lt h (by decide)
theorem Same.new {H : Hp} {p : Addr} {o : HO} (h : H p = none) : Same H (upd H p o) := fun b u e => by rw [upd_ne (ne_of_none e h)]; exact e
def SameB (d : Addr) (H H' : Hp) : Prop := ∀ b o, H b = some o → b ≠ d → H' b = some o
theorem Same.b {d : Addr} {H H' : Hp} (h : Same H H') : SameB d H H' := fun b o e _ => h b o e
theorem SameB.upd {d : Addr} {H : Hp} {o : HO} : SameB d H (upd H d o) := fun b u e n => by rw [upd_ne n]; exact e
theorem SameB.trans {d : Addr} {H H1 H2 : Hp} (h : SameB d H H1) (k : SameB d H1 H2) : SameB d H H2 := fun b o e n => k b o (h b o e n) n
theorem SameB.same {d : Addr} {H H' : Hp} {o : HO} (h : SameB d H H') (e : H d = some o) : Same H (L2.upd H' d o) := fun b u q => by
 by_cases z : b = d
 ·subst z; rw [upd_same, ← e]; exact q
 ·rw [upd_ne z]; exact h b u q z
structure Wk (J : It) (S : Hp → Prop) (n : Nat) (f : Nat → V) : Prop where
 go : ∀ i H, i < n → S H → J.go i H
 yld : ∀ i H x H', i < n → S H → J.yld i H x H' → H' = H ∧ x = f i
 stop : ∀ H, S H → J.stop n H
theorem for_wk {J : It} {S : Hp → Prop} {n : Nat} {f : Nat → V} (w : Wk J S n f) {g : TG} {tb : TS} {D : Ends} {σ : St} {H : Hp} (Pv : Nat → St → Hp → Prop) (h0 : Pv 0 σ H) (hl : ∀ i σ H, i ≤ n → Pv i σ H → S H)
  (hs : ∀ i σ H, i < n → Pv i σ H → g (f i) σ H fun σ2 H2 => tb { D with nx := Pv (i + 1), ct := Pv (i + 1), bk := D.nx } σ2 H2) (hd : ∀ σ H, Pv n σ H → D.nx σ H) :
  ∃ W : Nat → Nat → St → Hp → Prop, (∃ m, W 0 m σ H) ∧ ∀ i m σ H, W i m σ H →
   (J.stop i H ∧ D.nx σ H) ∨ (J.go i H ∧ ∃ N : St → Hp → Prop, (∀ σ' H', N σ' H' → ∃ m', m' < m ∧ W (i + 1) m' σ' H') ∧ ∀ x H', J.yld i H x H' → g x σ H' fun σ2 H2 => tb { D with nx := N, ct := N, bk := D.nx } σ2 H2) := by
 refine ⟨fun i m σ H => m = n - i ∧ i ≤ n ∧ Pv i σ H, ⟨n, by simp, Nat.zero_le _, h0⟩, ?_⟩
 rintro i m σ H ⟨rfl, hi, p⟩
 have q := hl i σ H hi p
 by_cases hlt : i < n
 ·refine .inr ⟨w.go i H hlt q, Pv (i + 1), fun σ' H' p' => ⟨n - (i + 1), by omega, rfl, hlt, p'⟩, fun x H' y => ?_⟩
  obtain ⟨e, z⟩ := w.yld i H x H' hlt q y
  subst e z
  exact hs i σ _ hlt p
 ·have e : i = n := by omega
  subst e
  exact .inl ⟨w.stop H q, hd σ H p⟩
theorem lc_wk {J : It} {S : Hp → Prop} {n : Nat} {f : Nat → V} (w : Wk J S n f) {g : TG} {tt : TT} {te : TE} {vs : List Nat} {σ : St} {H1 : Hp} {D : Addr} {Qd : Hp → Prop} (Pv : Nat → Hp → Prop) (h0 : Pv 0 (upd H1 D (.lst []))) (hl : ∀ i H, i ≤ n → Pv i H → S H)
  (hs : ∀ i H, i < n → Pv i H → g (f i) (wipe σ vs) H fun σ2 H2 => wipe σ2 vs = wipe σ vs ∧ tt σ2 H2 fun b H3 =>
   if b = true then te σ2 H3 fun y H4 => ∃ acc, H4 D = some (.lst acc) ∧ acc.length < sizeLine ∧ Pv (i + 1) (upd H4 D (.lst (acc ++ [y]))) else Pv (i + 1) H3) (hd : ∀ H, Pv n H → Qd H) :
  ∃ W : Nat → Nat → Hp → Prop, (∃ m, W 0 m (upd H1 D (.lst []))) ∧ ∀ i m H, W i m H →
   (J.stop i H ∧ Qd H) ∨ (J.go i H ∧ ∃ Nx : Hp → Prop, (∀ H', Nx H' → ∃ m', m' < m ∧ W (i + 1) m' H') ∧ ∀ x H', J.yld i H x H' → g x (wipe σ vs) H' fun σ2 H2 => wipe σ2 vs = wipe σ vs ∧ tt σ2 H2 fun b H3 =>
    if b = true then te σ2 H3 fun y H4 => ∃ acc, H4 D = some (.lst acc) ∧ acc.length < sizeLine ∧ Nx (upd H4 D (.lst (acc ++ [y]))) else Nx H3) := by
 refine ⟨fun i m H => m = n - i ∧ i ≤ n ∧ Pv i H, ⟨n, by simp, Nat.zero_le _, h0⟩, ?_⟩
 rintro i m H ⟨rfl, hi, p⟩
 have q := hl i H hi p
 by_cases hlt : i < n
 ·refine .inr ⟨w.go i H hlt q, Pv (i + 1), fun H' p' => ⟨n - (i + 1), by omega, rfl, hlt, p'⟩, fun x H' y => ?_⟩
  obtain ⟨e, z⟩ := w.yld i H x H' hlt q y
  subst e z
  exact hs i _ hlt p
 ·have e : i = n := by omega
  subst e
  exact .inl ⟨w.stop H q, hd H p⟩
theorem wk_list {K : PySem.W.Frag} {a : Addr} {xs : List V} : Wk (Itl K a) (fun H => SqL K H a xs) xs.length (fun i => xs.getD i .non) :=
 ⟨fun i H h q => ⟨xs, xs[i], q, by simp [h]⟩, fun i H x H' h q y => ⟨y.1, by have := y.2 xs q; simp [this]⟩, fun H q => ⟨xs, q, Nat.le_refl _⟩⟩
theorem wk_tup {K : PySem.W.Frag} {a : Addr} {xs : List V} : Wk (Itt K a) (fun H => SqT K H a xs) xs.length (fun i => xs.getD i .non) :=
 ⟨fun i H h q => ⟨xs, xs[i], q, by simp [h]⟩, fun i H x H' h q y => ⟨y.1, by have := y.2 xs q; simp [this]⟩, fun H q => ⟨xs, q, Nat.le_refl _⟩⟩
theorem wk_vals {d : Addr} {o : Obj} {kvs : List (Key × V)} : Wk (Itd d o kvs) (fun H => H d = some (.frz o (.dK kvs))) kvs.length (fun i => ((kvs.map (·.2)).getD i .non)) :=
 ⟨fun i H h q => ⟨q, h⟩, fun i H x H' h q y => ⟨y.1, by obtain ⟨k, e⟩ := y.2; simp [e]⟩, fun H q => ⟨q, Nat.le_refl _⟩⟩
theorem wk_keys {d : Addr} {o : Obj} {kvs : List (Key × V)} : Wk (Itk d o kvs) (fun H => H d = some (.frz o (.dK kvs))) kvs.length (fun i => ((kvs.map fun p => kV p.1).getD i .non)) :=
 ⟨fun i H h q => ⟨q, h⟩, fun i H x H' h q y => ⟨y.1, by obtain ⟨k, v, e, z⟩ := y.2; simp [e, z]⟩, fun H q => ⟨q, Nat.le_refl _⟩⟩
theorem lc_filter {α : Type} {J : It} {S : Hp → Prop} {xs : List α} {f : α → V} (w : Wk J S xs.length (fun i => ((xs.map f).getD i .non))) {j : Nat} {tt : TT} {te : TE} {σ : St} {H1 : Hp} {D : Addr} {Qd : Hp → Prop} (p : α → Bool) (g : α → V)
  (hD : H1 D = none) (hS : ∀ H', Same H1 H' → S H') (hz : xs.length ≤ 100000)
  (ht : ∀ x ∈ xs, ∀ H2 (k : Bool → Hp → Prop), Same H1 H2 → (∀ H3, Same H2 H3 → k (p x) H3) → tt ((wipe σ [j]).set j (some (f x))) H2 k)
  (he : ∀ x ∈ xs, p x = true → ∀ H2 (k : VK), Same H1 H2 → k (g x) H2 → te ((wipe σ [j]).set j (some (f x))) H2 k)
  (hd : ∀ H', Same H1 H' → H' D = some (.lst ((xs.filter p).map g)) → Qd H') :
  ∃ W : Nat → Nat → Hp → Prop, (∃ m, W 0 m (upd H1 D (.lst []))) ∧ ∀ i m H, W i m H →
   (J.stop i H ∧ Qd H) ∨ (J.go i H ∧ ∃ Nx : Hp → Prop, (∀ H', Nx H' → ∃ m', m' < m ∧ W (i + 1) m' H') ∧ ∀ x H', J.yld i H x H' → gName j x (wipe σ [j]) H' fun σ2 H2 => wipe σ2 [j] = wipe σ [j] ∧ tt σ2 H2 fun b H3 =>
    if b = true then te σ2 H3 fun y H4 => ∃ acc, H4 D = some (.lst acc) ∧ acc.length < sizeLine ∧ Nx (upd H4 D (.lst (acc ++ [y]))) else Nx H3) := by
 refine lc_wk w (fun i H => Same H1 H ∧ H D = some (.lst (((xs.take i).filter p).map g))) ⟨Same.new hD, by rw [upd_same]; simp⟩ (fun i H _ h => hS H h.1) (fun i H hi h => ?_) (fun H h => hd H h.1 (by rw [List.take_length] at h; exact h.2))
 obtain ⟨s1, h2⟩ := h
 have hx : xs[i]? = some xs[i] := List.getElem?_eq_getElem hi
 have ef : (xs.map f).getD i .non = f xs[i] := by simp [hx]
 have hm : xs[i] ∈ xs := List.getElem_mem hi
 have et : xs.take (i + 1) = xs.take i ++ [xs[i]] := take_snoc' hx
 rw [ef]
 refine ⟨?_, ht _ hm H _ s1 fun H3 s3 => ?_⟩
 ·show (((wipe σ [j]).set j (some (f xs[i]))).set j none) = ((σ.set j none) : St)
  show ((((σ.set j none).set j (some (f xs[i]))).set j none) : St) = σ.set j none
  rw [List.set_set, List.set_set]
 ·by_cases hp : p xs[i] = true
  ·rw [hp]
   refine iteT (he _ hm hp H3 _ (s1.trans s3) ⟨_, s3 _ _ h2, ?_, fun b o e => ?_, ?_⟩)
   ·refine fits' (Nat.le_trans ?_ hz)
    rw [List.length_map]
    exact Nat.le_trans (List.length_filter_le _ _) (by rw [List.length_take]; exact Nat.min_le_right _ _)
   ·rw [upd_ne (ne_of_none e hD)]
    exact (s1.trans s3) b o e
   ·rw [upd_same, et, List.filter_append, List.map_append]
    simp [hp]
  ·have hp' : p xs[i] = false := by simpa using hp
   rw [hp']
   refine iteF ⟨s1.trans s3, ?_⟩
   rw [s3 _ _ h2, et, List.filter_append]
   simp [hp']
abbrev BIG : Int := 1000000000000000000
def fromT (t : Int) : Int := if t = -1 then BIG else t
def asT (b : Int) : Int := if b = BIG then -1 else b
section
variable {P : Program} {w : World} {K : PySem.W.Frag} {mg : Str → Option Value} {base : Heap}
def sp_end_from_told : Sp := fun vs H Q _ => ∃ t : Int, vs = [.int t] ∧ Q (.int (fromT t)) H
@[simp] theorem y_from {t : Int} {H : Hp} {Q : VK} {E : XK} : sp_end_from_told [.int t] H Q E = Q (.int (fromT t)) H := by simp [sp_end_from_told]
theorem ok_end_from_told {f : Addr} {fd : FuncData} (F : Fun K "end_from_told" "end_from_told" s_end_from_told f fd) (T : Txt K mg) : FnOk P w K mg base CX0 1 f fd ["told"] sp_end_from_told := by
 refine F.ok sc_end_from_told (fun vs H Q E h => ?_) (fun cdv A outer s H vs Q E hr h => ?_)
 ·obtain ⟨t, rfl, _⟩ := h
  rfl
 ·obtain ⟨t, rfl, k⟩ := h
  refine ⟨_, (pss_one (ps_ret (pe_ifExp (pt_cmpR op_eq (pv 0) (pe_gint T.g_NEVER_AS_TOLD rfl) (nomark _)) (pe_gint T.g_NEVER rfl) (pv 0)))), ?_⟩
  by_cases h : t = -1 <;> simp_all [start, fromT]
end
end L2
end
section
namespace L2
open PySem PySem.Spec PyProof.Rows
structure REnt where
 n : Int
 k : Int
 a : Int
 b : Int
structure RNode where
 e : V
 w : Int
 l : V
 r : V
 lo : Int
 hi : Int
structure RWin where
 j : Int
 k : Int
 a : Int
 b : Int
def ef (r : REnt) : List (Str × V) := [("number", .int r.n), ("key", .int r.k), ("first", .int r.a), ("end", .int r.b)]
def nf (r : RNode) : List (Str × V) := [("entry", r.e), ("weight", .int r.w), ("left", r.l), ("right", r.r), ("least_first", .int r.lo), ("greatest_end", .int r.hi)]
def wf (r : RWin) : List (Str × V) := [("low", .int r.j), ("high", .int r.k), ("first", .int r.a), ("end", .int r.b)]
structure ClE (K : PySem.W.Frag) (C : Addr) : Prop where
 cl : Cls K C
 a1 : NoAttr K C "number"
 a2 : NoAttr K C "key"
 a3 : NoAttr K C "first"
 a4 : NoAttr K C "end"
structure ClN (K : PySem.W.Frag) (C : Addr) : Prop where
 cl : Cls K C
 a1 : NoAttr K C "entry"
 a2 : NoAttr K C "weight"
 a3 : NoAttr K C "left"
 a4 : NoAttr K C "right"
 a5 : NoAttr K C "least_first"
 a6 : NoAttr K C "greatest_end"
structure ClW (K : PySem.W.Frag) (C : Addr) : Prop where
 cl : Cls K C
 a1 : NoAttr K C "low"
 a2 : NoAttr K C "high"
 a3 : NoAttr K C "first"
 a4 : NoAttr K C "end"
def EntO (K : PySem.W.Frag) (o : HO) (r : REnt) : Prop := ∃ C dx, ClE K C ∧ o = .ins C dx (ef r)
def NodeO (K : PySem.W.Frag) (o : HO) (r : RNode) : Prop := ∃ C dx, ClN K C ∧ o = .ins C dx (nf r)
def WinO (K : PySem.W.Frag) (o : HO) (r : RWin) : Prop := ∃ C dx, ClW K C ∧ o = .ins C dx (wf r)
def EntAt (K : PySem.W.Frag) (H : Hp) (p : Addr) (r : REnt) : Prop := ∃ o, H p = some o ∧ EntO K o r
def NodeAt (K : PySem.W.Frag) (H : Hp) (p : Addr) (r : RNode) : Prop := ∃ o, H p = some o ∧ NodeO K o r
def WinAt (K : PySem.W.Frag) (H : Hp) (p : Addr) (r : RWin) : Prop := ∃ o, H p = some o ∧ WinO K o r
section
variable {K : PySem.W.Frag} {H H' : Hp} {p q : Addr} {f : Str} {C dx : Addr} {fs : List (Str × V)} {v : V} {o : HO}
theorem EntAt.same {r : REnt} (h : EntAt K H p r) (s : Same H H') : EntAt K H' p r := let ⟨o, e, x⟩ := h; ⟨o, s _ _ e, x⟩
theorem NodeAt.same {r : RNode} (h : NodeAt K H p r) (s : Same H H') : NodeAt K H' p r := let ⟨o, e, x⟩ := h; ⟨o, s _ _ e, x⟩
theorem WinAt.same {r : RWin} (h : WinAt K H p r) (s : Same H H') : WinAt K H' p r := let ⟨o, e, x⟩ := h; ⟨o, s _ _ e, x⟩
theorem EntAt.b {r : REnt} {d : Addr} (h : EntAt K H p r) (s : SameB d H H') (n : p ≠ d) : EntAt K H' p r := let ⟨o, e, x⟩ := h; ⟨o, s _ _ e n, x⟩
theorem EntAt.upd {r : REnt} (h : EntAt K H p r) (n : H q = none) : EntAt K (upd H q o) p r := h.same (Same.new n)
theorem NodeAt.upd {r : RNode} (h : NodeAt K H p r) (n : H q = none) : NodeAt K (upd H q o) p r := h.same (Same.new n)
theorem WinAt.upd {r : RWin} (h : WinAt K H p r) (n : H q = none) : WinAt K (upd H q o) p r := h.same (Same.new n)
theorem EntAt.updNe {r : REnt} (h : EntAt K H p r) (n : p ≠ q) : EntAt K (L2.upd H q o) p r := let ⟨u, e, x⟩ := h; ⟨u, by rw [upd_ne n]; exact e, x⟩
theorem NodeAt.updNe {r : RNode} (h : NodeAt K H p r) (n : p ≠ q) : NodeAt K (L2.upd H q o) p r := let ⟨u, e, x⟩ := h; ⟨u, by rw [upd_ne n]; exact e, x⟩
theorem EntAt.ne {r : REnt} (h : EntAt K H p r) (e : H q = some o) (n : ∀ C dx fs, o ≠ .ins C dx fs) : p ≠ q := by
 obtain ⟨u, eu, C, dx, _, rfl⟩ := h
 exact ne_of eu e fun z => n C dx _ z.symm
theorem EntAt.neN {r : REnt} {x : RNode} (h : EntAt K H p r) (h' : NodeAt K H q x) : p ≠ q := by
 obtain ⟨u, eu, C, dx, _, rfl⟩ := h
 obtain ⟨u', eu', C', dx', _, rfl⟩ := h'
 refine ne_of eu eu' fun z => ?_
 injection z with _ _ z
 have := congrArg List.length z
 simp [ef, nf] at this
theorem NodeAt.ne {r : RNode} (h : NodeAt K H p r) (e : H q = some o) (n : ∀ C dx fs, o ≠ .ins C dx fs) : p ≠ q := by
 obtain ⟨u, eu, C, dx, _, rfl⟩ := h
 exact ne_of eu e fun z => n C dx _ z.symm
theorem fld_of {Q : VK} (e : H p = some (.ins C dx fs)) (c : Cls K C) (n : NoAttr K C f) (l : fs.lookup f = some v) : fldR K f (.ref p) H Q = Q v H := by
 refine propext ⟨?_, fun h => ⟨p, C, dx, fs, v, rfl, e, c, n, l, h⟩⟩
 rintro ⟨a, C', dx', fs', v', e1, e2, _, _, l', h⟩
 cases e1
 rw [e] at e2
 cases e2
 rw [l] at l'
 cases l'
 exact h
theorem set_of {k : Hp → Prop} {y : V} (e : H p = some (.ins C dx fs)) (c : Cls K C) (n : NoAttr K C f) (z : fs.length < 1000) (h : k (upd H p (.ins C dx (putF f y fs)))) : setR K f y (.ref p) H k := ⟨p, C, dx, fs, rfl, e, c, n, z, h⟩
theorem EntAt.flds {r : REnt} (h : EntAt K H p r) : (∀ Q, fldR K "number" (.ref p) H Q = Q (.int r.n) H) ∧ (∀ Q, fldR K "key" (.ref p) H Q = Q (.int r.k) H) ∧ (∀ Q, fldR K "first" (.ref p) H Q = Q (.int r.a) H) ∧ (∀ Q, fldR K "end" (.ref p) H Q = Q (.int r.b) H) := by
 obtain ⟨o, e, C, dx, c, rfl⟩ := h
 exact ⟨fun Q => fld_of e c.cl c.a1 rfl, fun Q => fld_of e c.cl c.a2 rfl, fun Q => fld_of e c.cl c.a3 rfl, fun Q => fld_of e c.cl c.a4 rfl⟩
theorem WinAt.flds {r : RWin} (h : WinAt K H p r) : (∀ Q, fldR K "low" (.ref p) H Q = Q (.int r.j) H) ∧ (∀ Q, fldR K "high" (.ref p) H Q = Q (.int r.k) H) ∧ (∀ Q, fldR K "first" (.ref p) H Q = Q (.int r.a) H) ∧ (∀ Q, fldR K "end" (.ref p) H Q = Q (.int r.b) H) := by
 obtain ⟨o, e, C, dx, c, rfl⟩ := h
 exact ⟨fun Q => fld_of e c.cl c.a1 rfl, fun Q => fld_of e c.cl c.a2 rfl, fun Q => fld_of e c.cl c.a3 rfl, fun Q => fld_of e c.cl c.a4 rfl⟩
theorem NodeAt.flds {r : RNode} (h : NodeAt K H p r) : (∀ Q, fldR K "entry" (.ref p) H Q = Q r.e H) ∧ (∀ Q, fldR K "weight" (.ref p) H Q = Q (.int r.w) H) ∧ (∀ Q, fldR K "left" (.ref p) H Q = Q r.l H) ∧ (∀ Q, fldR K "right" (.ref p) H Q = Q r.r H) ∧ (∀ Q, fldR K "least_first" (.ref p) H Q = Q (.int r.lo) H) ∧ (∀ Q, fldR K "greatest_end" (.ref p) H Q = Q (.int r.hi) H) := by
 obtain ⟨o, e, C, dx, c, rfl⟩ := h
 exact ⟨fun Q => fld_of e c.cl c.a1 rfl, fun Q => fld_of e c.cl c.a2 rfl, fun Q => fld_of e c.cl c.a3 rfl, fun Q => fld_of e c.cl c.a4 rfl, fun Q => fld_of e c.cl c.a5 rfl, fun Q => fld_of e c.cl c.a6 rfl⟩
theorem EntAt.setA {r : REnt} {v : Int} {k : Hp → Prop} (h : EntAt K H p r) (hk : ∀ o, EntO K o { r with a := v } → k (L2.upd H p o)) : setR K "first" (.int v) (.ref p) H k := by
 obtain ⟨o, e, C, dx, c, rfl⟩ := h
 exact set_of e c.cl c.a3 (by show 4 < 1000; decide) (hk _ ⟨C, dx, c, rfl⟩)
theorem EntAt.setB {r : REnt} {v : Int} {k : Hp → Prop} (h : EntAt K H p r) (hk : ∀ o, EntO K o { r with b := v } → k (L2.upd H p o)) : setR K "end" (.int v) (.ref p) H k := by
 obtain ⟨o, e, C, dx, c, rfl⟩ := h
 exact set_of e c.cl c.a4 (by show 4 < 1000; decide) (hk _ ⟨C, dx, c, rfl⟩)
theorem EntAt.setK {r : REnt} {v : Int} {k : Hp → Prop} (h : EntAt K H p r) (hk : ∀ o, EntO K o { r with k := v } → k (L2.upd H p o)) : setR K "key" (.int v) (.ref p) H k := by
 obtain ⟨o, e, C, dx, c, rfl⟩ := h
 exact set_of e c.cl c.a2 (by show 4 < 1000; decide) (hk _ ⟨C, dx, c, rfl⟩)
theorem NodeAt.setL {r : RNode} {v : V} {k : Hp → Prop} (h : NodeAt K H p r) (hk : ∀ o, NodeO K o { r with l := v } → k (L2.upd H p o)) : setR K "left" v (.ref p) H k := by
 obtain ⟨o, e, C, dx, c, rfl⟩ := h
 exact set_of e c.cl c.a3 (by show 6 < 1000; decide) (hk _ ⟨C, dx, c, rfl⟩)
theorem NodeAt.setR {r : RNode} {v : V} {k : Hp → Prop} (h : NodeAt K H p r) (hk : ∀ o, NodeO K o { r with r := v } → k (L2.upd H p o)) : L2.setR K "right" v (.ref p) H k := by
 obtain ⟨o, e, C, dx, c, rfl⟩ := h
 exact set_of e c.cl c.a4 (by show 6 < 1000; decide) (hk _ ⟨C, dx, c, rfl⟩)
theorem NodeAt.setLo {r : RNode} {v : Int} {k : Hp → Prop} (h : NodeAt K H p r) (hk : ∀ o, NodeO K o { r with lo := v } → k (L2.upd H p o)) : L2.setR K "least_first" (.int v) (.ref p) H k := by
 obtain ⟨o, e, C, dx, c, rfl⟩ := h
 exact set_of e c.cl c.a5 (by show 6 < 1000; decide) (hk _ ⟨C, dx, c, rfl⟩)
theorem NodeAt.setHi {r : RNode} {v : Int} {k : Hp → Prop} (h : NodeAt K H p r) (hk : ∀ o, NodeO K o { r with hi := v } → k (L2.upd H p o)) : L2.setR K "greatest_end" (.int v) (.ref p) H k := by
 obtain ⟨o, e, C, dx, c, rfl⟩ := h
 exact set_of e c.cl c.a6 (by show 6 < 1000; decide) (hk _ ⟨C, dx, c, rfl⟩)
end
end L2
end
section
namespace L2
open PySem PySem.Spec PyProof.Rows
section
variable {P : Program} {w : World} {K : PySem.W.Frag} {mg : Str → Option Value} {base : Heap}
def sp_Entry_init (K : PySem.W.Frag) : Sp := fun vs H Q _ => ∃ (x C dx : Addr) (n k a b : Int), vs = [.ref x, .int n, .int k, .int a, .int b] ∧ ClE K C ∧ H x = some (.ins C dx []) ∧ ∀ o, EntO K o ⟨n, k, a, b⟩ → Q .non (upd H x o)
theorem ok_Entry_init {f : Addr} {fd : FuncData} (F : Fun K "__init__" "Entry.__init__" s_Entry_init f fd) : FnOk P w K mg base CX0 1 f fd ["self", "number", "key", "first", "end"] (sp_Entry_init K) := by
 refine F.ok sc_Entry_init (fun vs H Q E h => ?_) (fun cdv A outer s H vs Q E hr h => ?_)
 ·obtain ⟨x, C, dx, n, k, a, b, rfl, _⟩ := h
  rfl
 ·obtain ⟨x, C, dx, n, k, a, b, rfl, c, hx, q⟩ := h
  refine ⟨_, (pss_cons (ps_fld (pv 0) (pv 1) rfl)
 (pss_cons (ps_fld (pv 0) (pv 2) rfl)
 (pss_cons (ps_fld (pv 0) (pv 3) rfl)
 (pss_one (ps_fld (pv 0) (pv 4) rfl))))), ?_⟩
  simp [start]
  refine set_of hx c.cl c.a1 (by show 0 < 1000; decide) (set_of upd_same c.cl c.a2 (by show 1 < 1000; decide) (set_of upd_same c.cl c.a3 (by show 2 < 1000; decide) (set_of upd_same c.cl c.a4 (by show 3 < 1000; decide) ?_)))
  rw [upd_upd, upd_upd, upd_upd]
  exact q _ ⟨C, dx, c, rfl⟩
def sp_Window_init (K : PySem.W.Frag) : Sp := fun vs H Q _ => ∃ (x C dx : Addr) (n k a b : Int), vs = [.ref x, .int n, .int k, .int a, .int b] ∧ ClW K C ∧ H x = some (.ins C dx []) ∧ ∀ o, WinO K o ⟨n, k, a, b⟩ → Q .non (upd H x o)
theorem ok_Window_init {f : Addr} {fd : FuncData} (F : Fun K "__init__" "Window.__init__" s_Window_init f fd) : FnOk P w K mg base CX0 1 f fd ["self", "low", "high", "first", "end"] (sp_Window_init K) := by
 refine F.ok sc_Window_init (fun vs H Q E h => ?_) (fun cdv A outer s H vs Q E hr h => ?_)
 ·obtain ⟨x, C, dx, n, k, a, b, rfl, _⟩ := h
  rfl
 ·obtain ⟨x, C, dx, n, k, a, b, rfl, c, hx, q⟩ := h
  refine ⟨_, (pss_cons (ps_fld (pv 0) (pv 1) rfl)
 (pss_cons (ps_fld (pv 0) (pv 2) rfl)
 (pss_cons (ps_fld (pv 0) (pv 3) rfl)
 (pss_one (ps_fld (pv 0) (pv 4) rfl))))), ?_⟩
  simp [start]
  refine set_of hx c.cl c.a1 (by show 0 < 1000; decide) (set_of upd_same c.cl c.a2 (by show 1 < 1000; decide) (set_of upd_same c.cl c.a3 (by show 2 < 1000; decide) (set_of upd_same c.cl c.a4 (by show 3 < 1000; decide) ?_)))
  rw [upd_upd, upd_upd, upd_upd]
  exact q _ ⟨C, dx, c, rfl⟩
def sp_weight : Sp := fun vs H Q _ => ∃ n : Int, vs = [.int n] ∧ 0 ≤ n ∧ n ≤ 999999 ∧ Q (.int ((n * 48271 + 11) % 2147483647)) H
theorem ok_weight {f : Addr} {fd : FuncData} (F : Fun K "weight" "weight" s_weight f fd) (T : Txt K mg) : FnOk P w K mg base CX0 1 f fd ["number"] sp_weight := by
 refine F.ok sc_weight (fun vs H Q E h => ?_) (fun cdv A outer s H vs Q E hr h => ?_)
 ·obtain ⟨n, rfl, _⟩ := h
  rfl
 ·obtain ⟨n, rfl, h1, h2, q⟩ := h
  refine ⟨_, (pss_one (ps_ret (pe_op op_mod (pe_op op_add (pe_op op_mul (pv 0) pe_int) pe_int) pe_int))), ?_⟩
  simp [start, CMul]
  exact q
def sp_end_as_told : Sp := fun vs H Q _ => ∃ t : Int, vs = [.int t] ∧ Q (.int (asT t)) H
@[simp] theorem y_asT {t : Int} {H : Hp} {Q : VK} {E : XK} : sp_end_as_told [.int t] H Q E = Q (.int (asT t)) H := by simp [sp_end_as_told]
theorem ok_end_as_told {f : Addr} {fd : FuncData} (F : Fun K "end_as_told" "end_as_told" s_end_as_told f fd) (T : Txt K mg) : FnOk P w K mg base CX0 1 f fd ["end"] sp_end_as_told := by
 refine F.ok sc_end_as_told (fun vs H Q E h => ?_) (fun cdv A outer s H vs Q E hr h => ?_)
 ·obtain ⟨t, rfl, _⟩ := h
  rfl
 ·obtain ⟨t, rfl, k⟩ := h
  refine ⟨_, (pss_one (ps_ret (pe_ifExp (pt_cmpR op_eq (pv 0) (pe_gint T.g_NEVER rfl) (nomark _)) (pe_gint T.g_NEVER_AS_TOLD rfl) (pv 0)))), ?_⟩
  by_cases h : t = BIG <;> simp_all [start, asT]
def toldE (r : REnt) : List Int := [r.n, r.k, r.a, asT r.b]
def sp_entry_as_told (K : PySem.W.Frag) : Sp := fun vs H Q _ => ∃ (p : Addr) (r : REnt), vs = [.ref p] ∧ EntAt K H p r ∧ ∀ l, H l = none → Q (.ref l) (upd H l (.lst ((toldE r).map V.int)))
theorem ok_entry_as_told {f : Addr} {fd : FuncData} (F : Fun K "entry_as_told" "entry_as_told" s_entry_as_told f fd) (D_end_as_told : Df P w K mg base 1 "end_as_told" ["end"] sp_end_as_told) : FnOk P w K mg base CX0 2 f fd ["entry"] (sp_entry_as_told K) := by
 refine F.ok sc_entry_as_told (fun vs H Q E h => ?_) (fun cdv A outer s H vs Q E hr h => ?_)
 ·obtain ⟨p, r, rfl, _⟩ := h
  rfl
 ·obtain ⟨p, r, rfl, he, q⟩ := h
  refine ⟨_, (pss_one (ps_ret (pe_lst (pa_cons (pe_fld (pv 0) rfl) (pa_cons (pe_fld (pv 0) rfl) (pa_cons (pe_fld (pv 0) rfl) (pa_cons (pe_fn D_end_as_told (hr.mono (by decide)) rfl (pa_cons (pe_fld (pv 0) rfl) pa_nil)) pa_nil))))))), ?_⟩
  simp [start, he.flds]
  exact ⟨fits (by decide), q⟩
def rkE (r : REnt) : List Int := [r.k, r.a, r.n]
def sp_rank (K : PySem.W.Frag) : Sp := fun vs H Q _ => ∃ (p : Addr) (r : REnt), vs = [.ref p] ∧ EntAt K H p r ∧ ∀ l, H l = none → Q (.ref l) (upd H l (.tup ((rkE r).map V.int)))
theorem ok_rank {f : Addr} {fd : FuncData} (F : Fun K "rank" "rank" s_rank f fd) : FnOk P w K mg base CX0 1 f fd ["entry"] (sp_rank K) := by
 refine F.ok sc_rank (fun vs H Q E h => ?_) (fun cdv A outer s H vs Q E hr h => ?_)
 ·obtain ⟨p, r, rfl, _⟩ := h
  rfl
 ·obtain ⟨p, r, rfl, he, q⟩ := h
  refine ⟨_, (pss_one (ps_ret (pe_tup (pa_cons (pe_fld (pv 0) rfl) (pa_cons (pe_fld (pv 0) rfl) (pa_cons (pe_fld (pv 0) rfl) pa_nil)))))), ?_⟩
  simp [start, he.flds]
  exact ⟨fits (by decide), q⟩
def lastB (r : REnt) : Int := if r.b = BIG then r.a else r.b
def sp_last_bound (K : PySem.W.Frag) : Sp := fun vs H Q _ => ∃ (p : Addr) (r : REnt), vs = [.ref p] ∧ EntAt K H p r ∧ Q (.int (lastB r)) H
theorem ok_last_bound {f : Addr} {fd : FuncData} (F : Fun K "last_bound" "last_bound" s_last_bound f fd) (T : Txt K mg) : FnOk P w K mg base CX0 1 f fd ["entry"] (sp_last_bound K) := by
 refine F.ok sc_last_bound (fun vs H Q E h => ?_) (fun cdv A outer s H vs Q E hr h => ?_)
 ·obtain ⟨p, r, rfl, _⟩ := h
  rfl
 ·obtain ⟨p, r, rfl, he, q⟩ := h
  refine ⟨_, (pss_one (ps_ret (pe_ifExp (pt_cmpR op_eq (pe_fld (pv 0) rfl) (pe_gint T.g_NEVER rfl) (nomark _)) (pe_fld (pv 0) rfl) (pe_fld (pv 0) rfl)))), ?_⟩
  by_cases h : r.b = BIG <;> simp_all [start, he.flds, lastB]
def hitR (x : RWin) (r : REnt) : Bool := decide (x.j ≤ r.k) && decide (r.k ≤ x.k) && (decide (r.a < x.b) && decide (x.a < r.b))
def sp_hits (K : PySem.W.Frag) : Sp := fun vs H Q _ => ∃ (p q : Addr) (r : REnt) (x : RWin), vs = [.ref p, .ref q] ∧ EntAt K H p r ∧ WinAt K H q x ∧ Q (.bl (hitR x r)) H
theorem ok_hits {f : Addr} {fd : FuncData} (F : Fun K "hits" "hits" s_hits f fd) : FnOk P w K mg base CX0 1 f fd ["entry", "window"] (sp_hits K) := by
 refine F.ok sc_hits (fun vs H Q E h => ?_) (fun cdv A outer s H vs Q E hr h => ?_)
 ·obtain ⟨p, q, r, x, rfl, _⟩ := h
  rfl
 ·obtain ⟨p, q, r, x, rfl, he, hw, k⟩ := h
  refine ⟨_, (pss_cons (ps_set (i := 2) sc_hits.nd rfl (Or.inl rfl) (pe_chain op_le op_le (pe_fld (pv 1) rfl) (pe_fld (pv 0) rfl) (pe_fld (pv 1) rfl)))
 (pss_one (ps_ret (pe_and (pv 2) (pe_and (pe_cmpR op_lt (pe_fld (pv 0) rfl) (pe_fld (pv 1) rfl) (nomark _)) (pe_one (pe_cmpR op_lt (pe_fld (pv 1) rfl) (pe_fld (pv 0) rfl) (nomark _)))))))), ?_⟩
  unfold hitR at k
  by_cases h1 : x.j ≤ r.k <;> by_cases h2 : r.k ≤ x.k <;> by_cases h3 : r.a < x.b <;> simp_all [start, he.flds, hw.flds] <;> (intros; exfalso; omega)
def overR (n : RNode) (x : RWin) : Bool := decide (n.hi ≤ x.a) || decide (x.b ≤ n.lo)
def sp_passed_over (K : PySem.W.Frag) : Sp := fun vs H Q _ => ∃ (p q : Addr) (n : RNode) (x : RWin), vs = [.ref p, .ref q] ∧ NodeAt K H p n ∧ WinAt K H q x ∧ Q (.bl (overR n x)) H
theorem ok_passed_over {f : Addr} {fd : FuncData} (F : Fun K "passed_over" "passed_over" s_passed_over f fd) : FnOk P w K mg base CX0 1 f fd ["tree", "window"] (sp_passed_over K) := by
 refine F.ok sc_passed_over (fun vs H Q E h => ?_) (fun cdv A outer s H vs Q E hr h => ?_)
 ·obtain ⟨p, q, n, x, rfl, _⟩ := h
  rfl
 ·obtain ⟨p, q, n, x, rfl, hn, hw, k⟩ := h
  refine ⟨_, (pss_one (ps_ret (pe_or (pe_cmpR op_le (pe_fld (pv 0) rfl) (pe_fld (pv 1) rfl) (nomark _)) (pe_one (pe_cmpR op_ge (pe_fld (pv 0) rfl) (pe_fld (pv 1) rfl) (nomark _)))))), ?_⟩
  unfold overR at k
  by_cases h1 : n.hi ≤ x.a <;> simp_all [start, hn.flds, hw.flds] <;> (intros; exfalso; omega)
end
end L2
end
section
namespace L2
open PySem PySem.Spec PyProof.Rows
theorem pe_fldB {X : Cx} {e : Expr} {f : Str} {pos : Pos} {ta : TE} (K : PySem.W.Frag) (he : PE X e ta) (hb : attributeBase e f X.env (eval e X.env) = eval e X.env) (hK : X.K = K := by rfl) : PE X (.Attribute e f pos) (tFld K ta f) := by
 subst hK
 exact pe_fld he hb
theorem op_ltTB {X : Cx} (K : PySem.W.Frag) (hu : X.A.units < cLine) (hK : X.K = K := by rfl) : OpR X (compareOp .Lt) (rLtT K) := by
 subst hK
 exact op_ltT hu
section
variable {α : Type} {σ : St} {H : Hp} {Q : VK} {D : Ends} {d : Addr} {kvs : List (Key × V)} {xs : List α} {f g : α → V} {p : α → Bool} {i j : Nat} {tt : TT} {te : TE} {K : PySem.W.Frag}
theorem lc_vals' {od : Obj} (hd : H d = some (.dK kvs)) (hk : kvs.map (·.2) = xs.map f) (hσ : σ[i]? = some (some (.ref d))) (hz : xs.length ≤ 100000)
  (ht : ∀ x ∈ xs, ∀ H2 (k : Bool → Hp → Prop), SameB d H H2 → (∀ H3, Same H2 H3 → k (p x) H3) → tt ((wipe σ [j]).set j (some (f x))) H2 k)
  (he : ∀ x ∈ xs, p x = true → ∀ H2 (k : VK), SameB d H H2 → k (g x) H2 → te ((wipe σ [j]).set j (some (f x))) H2 k)
  (hq : ∀ l H', H l = none → SameB d H H' → H' d = some (.frz od (.dK kvs)) → H' l = some (.lst ((xs.filter p).map g)) → Q (.ref l) H') :
  tLc (iVals (tVar i)) (gName j) tt te [j] σ (upd H d (.frz od (.dK kvs))) Q := by
 refine ⟨_, hσ, d, od, kvs, rfl, upd_same, fun l hl => ?_⟩
 have hl0 : H l = none := by
  by_cases e : l = d
  ·subst e; rw [upd_same] at hl; cases hl
  ·rw [upd_ne e] at hl; exact hl
 have hn : kvs.length = xs.length := by simpa using congrArg List.length hk
 have W : Wk (Itd d od kvs) (fun H => H d = some (.frz od (.dK kvs))) xs.length (fun i => (xs.map f).getD i .non) := by rw [← hn, ← hk]; exact wk_vals
 have sb : ∀ {H'}, Same (upd H d (.frz od (.dK kvs))) H' → SameB d H H' := fun s b o e n => s b o (by rw [upd_ne n]; exact e)
 exact lc_filter (α := α) (xs := xs) (f := f) W p g hl (fun H' s => s _ _ upd_same) hz (fun x hx H2 k s hk => ht x hx H2 k (sb s) hk) (fun x hx hp H2 k s hk => he x hx hp H2 k (sb s) hk) fun H' s hl' => hq l H' hl0 (sb s) (s _ _ upd_same) hl'
theorem lock_lc (hd : H d = some (.dK kvs)) (hk : kvs.map (·.2) = xs.map f) (hσ : σ[i]? = some (some (.ref d))) (hz : xs.length ≤ 100000)
  (ht : ∀ x ∈ xs, ∀ H2 (k : Bool → Hp → Prop), SameB d H H2 → (∀ H3, Same H2 H3 → k (p x) H3) → tt ((wipe σ [j]).set j (some (f x))) H2 k)
  (he : ∀ x ∈ xs, p x = true → ∀ H2 (k : VK), SameB d H H2 → k (g x) H2 → te ((wipe σ [j]).set j (some (f x))) H2 k)
  (hq : ∀ l H', H l = none → Same H H' → H' l = some (.lst ((xs.filter p).map g)) → Q (.ref l) H') :
  tLockE (tLc (iVals (tVar i)) (gName j) tt te [j]) σ H Q := by
 refine ⟨d, _, hd, trivial, fun od => lc_vals' hd hk hσ hz ht he fun l H' h1 h2 h3 h4 => ⟨h3, hq l _ h1 (h2.same hd) ?_⟩⟩
 rw [upd_ne (ne_of_none hd h1).symm]
 exact h4
theorem lock_lcS {m : Nat} (hd : H d = some (.dK kvs)) (hk : kvs.map (·.2) = xs.map f) (hσ : σ[i]? = some (some (.ref d))) (hz : xs.length ≤ 100000)
  (ht : ∀ x ∈ xs, ∀ H2 (k : Bool → Hp → Prop), SameB d H H2 → (∀ H3, Same H2 H3 → k (p x) H3) → tt ((wipe σ [j]).set j (some (f x))) H2 k)
  (he : ∀ x ∈ xs, p x = true → ∀ H2 (k : VK), SameB d H H2 → k (g x) H2 → te ((wipe σ [j]).set j (some (f x))) H2 k)
  (hq : ∀ l H', H l = none → Same H H' → H' l = some (.lst ((xs.filter p).map g)) → D.nx (σ.set m (some (.ref l))) H') :
  tLock (tAsg (tLc (iVals (tVar i)) (gName j) tt te [j]) (gName m)) D σ H := by
 refine ⟨d, _, hd, trivial, fun od => lc_vals' hd hk hσ hz ht he fun l H' h1 h2 h3 h4 => ⟨h3, hq l _ h1 (h2.same hd) ?_⟩⟩
 rw [upd_ne (ne_of_none hd h1).symm]
 exact h4
theorem lc_lst {a : Addr} {ti : TE} (hi : ∀ R : VK, R (.ref a) H → ti σ H R) (hl : SqL K H a (xs.map f)) (hz : xs.length ≤ 100000)
  (ht : ∀ x ∈ xs, ∀ H2 (k : Bool → Hp → Prop), Same H H2 → (∀ H3, Same H2 H3 → k (p x) H3) → tt ((wipe σ [j]).set j (some (f x))) H2 k)
  (he : ∀ x ∈ xs, p x = true → ∀ H2 (k : VK), Same H H2 → k (g x) H2 → te ((wipe σ [j]).set j (some (f x))) H2 k)
  (hq : ∀ l H', H l = none → Same H H' → H' l = some (.lst ((xs.filter p).map g)) → Q (.ref l) H') :
  tLc (iList K ti) (gName j) tt te [j] σ H Q := by
 refine hi _ ⟨a, rfl, ⟨_, hl⟩, fun l hl0 => ?_⟩
 have W : Wk (Itl K a) (fun H => SqL K H a (xs.map f)) xs.length (fun i => (xs.map f).getD i .non) := by
  have := wk_list (K := K) (a := a) (xs := xs.map f)
  rw [List.length_map] at this
  exact this
 exact lc_filter (xs := xs) (f := f) W p g hl0 (fun H' s => s.seq hl) hz ht he fun H' s h => hq l H' hl0 s h
end
def pend (b : Nat) : Int := if b = Vabiti.NEVER then BIG else (b : Int)
def raw (e : Vabiti.Entry) : REnt := ⟨e.id, e.key, e.a, pend e.b⟩
theorem pend_le {b c : Nat} (hb : b ≤ Vabiti.NEVER) (hc : c ≤ Vabiti.NEVER) : pend b ≤ pend c ↔ b ≤ c := by
 have hn := SM.never_eq
 unfold pend BIG
 split <;> split <;> omega
theorem pend_lt {b c : Nat} (hb : b ≤ Vabiti.NEVER) (hc : c ≤ Vabiti.NEVER) : pend b < pend c ↔ b < c := by
 have hn := SM.never_eq
 unfold pend BIG
 split <;> split <;> omega
theorem pend_nat {v : Nat} (h : v ≤ 1000000000) : pend v = (v : Int) := by
 have hn := SM.never_eq
 unfold pend
 rw [if_neg (by omega)]
theorem pend_big {b : Nat} (hb : b ≤ Vabiti.NEVER) : pend b = BIG ↔ b = Vabiti.NEVER := by
 have hn := SM.never_eq
 unfold pend BIG
 split <;> omega
theorem asT_pend {b : Nat} (hb : b ≤ Vabiti.NEVER) : asT (pend b) = Vabiti.endTold b := by
 have hn := SM.never_eq
 unfold asT Vabiti.endTold
 by_cases h : b = Vabiti.NEVER
 ·rw [if_pos ((pend_big hb).mpr h), if_pos h]
 ·rw [if_neg (fun q => h ((pend_big hb).mp q)), if_neg h]
  unfold pend
  rw [if_neg h]
theorem fromT_pend {b : Int} (h : SM.EndR b) : fromT b = pend (SM.endN b) := by
 have hn := SM.never_eq
 unfold fromT SM.endN
 by_cases e : b = -1
 ·rw [if_pos e, if_pos e]
  unfold pend
  rw [if_pos rfl]
 ·have := h.resolve_left e
  rw [if_neg e, if_neg e, pend_nat (by omega)]
  omega
theorem endN_le {b : Int} (h : SM.EndR b) : SM.endN b ≤ Vabiti.NEVER := by
 have hn := SM.never_eq
 unfold SM.endN
 split
 ·exact Nat.le_refl _
 ·rename_i e
  have := h.resolve_left e
  omega
theorem told_raw {e : Vabiti.Entry} (g : SM.Good e) : toldE (raw e) = Vabiti.entryTold e := by
 unfold toldE raw Vabiti.entryTold
 rw [asT_pend g.b]
def dkv (L : List (Addr × REnt)) : List (Key × V) := L.map fun x => (Sum.inl x.2.n, V.ref x.1)
structure Ents (K : PySem.W.Frag) (H : Hp) (d : Addr) (L : List (Addr × REnt)) : Prop where
 dict : H d = some (.dK (dkv L))
 at_ : ∀ x ∈ L, EntAt K H x.1 x.2
 nda : (L.map (·.1)).Nodup
 ndn : (L.map fun x => x.2.n).Nodup
section
variable {K : PySem.W.Frag} {H H' : Hp} {d : Addr} {L : List (Addr × REnt)}
theorem Ents.same (h : Ents K H d L) (s : Same H H') : Ents K H' d L := ⟨s _ _ h.dict, fun x hx => (h.at_ x hx).same s, h.nda, h.ndn⟩
theorem Ents.vals (L : List (Addr × REnt)) : (dkv L).map (·.2) = L.map fun x => V.ref x.1 := by
 unfold dkv
 rw [List.map_map]
 rfl
theorem Ents.ne (h : Ents K H d L) {x : Addr × REnt} (hx : x ∈ L) : x.1 ≠ d := (h.at_ x hx).ne h.dict fun _ _ _ q => by cases q
theorem val_some {L : List (Addr × REnt)} {n : Int} {v : V} (h : valV (dkv L) (Sum.inl n) = some v) : ∃ x ∈ L, x.2.n = n ∧ v = .ref x.1 := by
 induction L with
 | nil => cases h
 | cons y L ih =>
  by_cases e : y.2.n = n
  ·have : valV (dkv (y :: L)) (Sum.inl n) = some (V.ref y.1) := valV_pos (p := ((Sum.inl y.2.n : Key), V.ref y.1)) (by rw [e])
   rw [this] at h
   exact ⟨y, List.mem_cons_self, e, (Option.some.inj h).symm⟩
  ·have : valV (dkv (y :: L)) (Sum.inl n) = valV (dkv L) (Sum.inl n) := valV_neg (p := ((Sum.inl y.2.n : Key), V.ref y.1)) (fun q => e (Sum.inl.inj q))
   rw [this] at h
   obtain ⟨x, hx, r⟩ := ih h
   exact ⟨x, List.mem_cons_of_mem _ hx, r⟩
theorem val_none {L : List (Addr × REnt)} {n : Int} (h : valV (dkv L) (Sum.inl n) = none) : ∀ x ∈ L, x.2.n ≠ n := by
 intro x hx e
 have := valV_not h
 exact this (List.mem_map.mpr ⟨(Sum.inl x.2.n, V.ref x.1), List.mem_map.mpr ⟨x, hx, rfl⟩, by rw [e]⟩)
theorem val_of {L : List (Addr × REnt)} (nd : (L.map fun x => x.2.n).Nodup) {x : Addr × REnt} (hx : x ∈ L) : valV (dkv L) (Sum.inl x.2.n) = some (.ref x.1) := by
 induction L with
 | nil => cases hx
 | cons y L ih =>
  rw [List.map_cons, List.nodup_cons] at nd
  rcases List.mem_cons.mp hx with rfl | hx
  ·exact valV_pos (p := ((Sum.inl x.2.n : Key), V.ref x.1)) rfl
  ·have e : ¬ y.2.n = x.2.n := fun q => nd.1 (by rw [q]; exact List.mem_map.mpr ⟨x, hx, rfl⟩)
   rw [← ih nd.2 hx]
   exact valV_neg (p := ((Sum.inl y.2.n : Key), V.ref y.1)) (fun q => e (Sum.inl.inj q))
theorem dget_int {kvs : List (Key × V)} {n : Int} {v : V} {Q : VK} (h : H d = some (.dK kvs)) (hv : valV kvs (Sum.inl n) = some v) (q : Q v H) : dgetR (.ref d) (.int n) H Q := ⟨d, v, rfl, by rw [← hv]; exact DGet.k (k := Sum.inl n) h, q⟩
theorem din_int {kvs : List (Key × V)} {n : Int} {k : Bool → Prop} (h : H d = some (.dK kvs)) (q : k (valV kvs (Sum.inl n)).isSome) : dinR (.int n) (.ref d) H k := ⟨d, _, rfl, DGet.k (k := Sum.inl n) h, q⟩
def Told (H : Hp) (t : Addr) (x : Str) (i : Int) : Prop := ∃ kvs, H t = some (.dK kvs) ∧ valV kvs (Sum.inr x) = some (.int i)
theorem Told.same {t : Addr} {x : Str} {i : Int} (h : Told H t x i) (s : Same H H') : Told H' t x i := let ⟨k, e, r⟩ := h; ⟨k, s _ _ e, r⟩
theorem Told.upd {t p : Addr} {x : Str} {i : Int} {o : HO} (h : Told H t x i) (n : H p = none) : Told (upd H p o) t x i := h.same (Same.new n)
theorem Told.updNe {t p : Addr} {x : Str} {i : Int} {o : HO} (h : Told H t x i) (n : t ≠ p) : Told (L2.upd H p o) t x i := let ⟨k, e, r⟩ := h; ⟨k, by rw [upd_ne n]; exact e, r⟩
theorem Told.b {t d : Addr} {x : Str} {i : Int} (h : Told H t x i) (s : SameB d H H') (n : t ≠ d) : Told H' t x i := let ⟨k, e, r⟩ := h; ⟨k, s _ _ e n, r⟩
theorem Told.g {t : Addr} {x : Str} {i : Int} (h : Told H t x i) (Q : VK) : dgetR (.ref t) (.str x) H Q = Q (.int i) H := by
 obtain ⟨kvs, e, hv⟩ := h
 refine propext ⟨?_, fun q => ⟨t, _, rfl, by rw [← hv]; exact DGet.k (k := Sum.inr x) e, q⟩⟩
 rintro ⟨a, v, ea, g, q⟩
 cases ea
 rcases g with ⟨kvs', k, rd, ey, ev⟩ | ⟨kvs', k, b, rd, ey, _⟩
 ·have ek : k = Sum.inr x := by
   cases k with
   | inl i => cases ey
   | inr y => cases ey; rfl
  rcases rd with rd | ⟨o, rd⟩
  ·rw [e] at rd
   cases rd
   rw [ek, hv] at ev
   cases ev
   exact q
  ·rw [e] at rd
   cases rd
 ·cases ey
end
end L2
end
section
namespace L2
open PySem PySem.Spec PyProof.Rows
open Vabiti (Call)
abbrev VE := Vabiti.Entry
def inK (lo hi : Int) (r : REnt) : Bool := decide (lo ≤ r.k) && decide (r.k ≤ hi)
abbrev refA (x : Addr × REnt) : V := V.ref x.1
@[simp] theorem x_lenD {L : List (Addr × REnt)} : (dkv L).length = L.length := by simp [dkv]
theorem perm_map_ex {α β : Type} {f : α → β} : ∀ {l : List β} {m : List α}, l.Perm (m.map f) → ∃ m' : List α, m'.Perm m ∧ l = m'.map f
 | [], m, h => by
  have : m = [] := by simpa using h.symm.length_eq
  subst this
  exact ⟨[], List.Perm.refl _, rfl⟩
 | b :: l, m, h => by
  obtain ⟨a, ha, e⟩ := List.mem_map.mp (h.mem_iff.mp List.mem_cons_self)
  obtain ⟨s, t, rfl⟩ := List.append_of_mem ha
  subst e
  have h2 : (f a :: l).Perm (f a :: (s ++ t).map f) := h.trans ((List.Perm.map f List.perm_middle).trans (by rw [List.map_cons]))
  obtain ⟨m', p, e⟩ := perm_map_ex (List.Perm.cons_inv h2)
  exact ⟨a :: m', (p.cons a).trans List.perm_middle.symm, by rw [e]; rfl⟩
section
variable {P : Program} {w : World} {K : PySem.W.Frag} {mg : Str → Option Value} {base : Heap}
def sp_with_keys (K : PySem.W.Frag) : Sp := fun vs H Q _ => ∃ (d : Addr) (lo hi : Int) (L : List (Addr × REnt)), vs = [.ref d, .int lo, .int hi] ∧ Ents K H d L ∧ L.length ≤ 200 ∧
 ∀ l H', H l = none → Same H H' → H' l = some (.lst ((L.filter fun x => inK lo hi x.2).map refA)) → Q (.ref l) H'
theorem ok_with_keys {f : Addr} {fd : FuncData} (F : Fun K "with_keys" "with_keys" s_with_keys f fd) : FnOk P w K mg base CX0 1 f fd ["entries", "low", "high"] (sp_with_keys K) := by
 refine F.ok sc_with_keys (fun vs H Q E h => ?_) (fun cdv A outer s H vs Q E hr h => ?_)
 ·obtain ⟨d, lo, hi, L, rfl, _⟩ := h
  rfl
 ·obtain ⟨d, lo, hi, L, rfl, hE, hz, q⟩ := h
  refine ⟨_, (pss_one (ps_ret (pe_lock (pe_lc rfl sc_with_keys.nd (pi_values (pv 0)) (blkOk_by (own := [("entry", 3)]) (by rfl)) (fun _ _ _ _ _ => pg_name (i := 3) sc_with_keys.nd rfl (Or.inl rfl)) (fun _ _ _ _ _ => (pts_one (pt_chain op_le op_le (pv 1) (pe_fldB K (pv 3) rfl) (pv 2)))) (fun _ _ _ _ _ => (pv 3)))))), ?_⟩
  simp [start]
  refine lock_lc (xs := L) (f := refA) (g := refA) (p := fun x => inK lo hi x.2) hE.dict (Ents.vals L) rfl (by omega) (fun x hx H2 k s hk => ?_) (fun x hx hp H2 k s hk => ?_) (fun l H' h1 h2 h3 => q l H' h1 h2 h3)
  ·have he := (hE.at_ x hx).b s (hE.ne hx)
   have hk' := hk H2 (Same.refl _)
   unfold inK at hk'
   simp [wipe, he.flds]
   refine ite2 (fun c1 => ?_) (fun c1 => ?_)
   ·simpa [c1] using hk'
   ·simpa [c1] using hk'
  ·simp [wipe]
   exact hk
structure LE (K : PySem.W.Frag) (H : Hp) (l : Addr) (L : List (Addr × REnt)) : Prop where
 lst : SqL K H l (L.map refA)
 at_ : ∀ x ∈ L, EntAt K H x.1 x.2
theorem LE.same {H H' : Hp} {l : Addr} {L : List (Addr × REnt)} (h : LE K H l L) (s : Same H H') : LE K H' l L := ⟨s.seq h.lst, fun x hx => (h.at_ x hx).same s⟩
abbrev Rk (L : List (Addr × REnt)) : Prop := L.Pairwise fun a b => lexI (rkE b.2) (rkE a.2) = false
def sp_in_order (K : PySem.W.Frag) : Sp := fun vs H Q _ => ∃ (l : Addr) (L : List (Addr × REnt)), vs = [.ref l] ∧ LE K H l L ∧ ∀ m H' L', H m = none → Same H H' → H' m = some (.lst (L'.map refA)) → L'.Perm L → Rk L' → Q (.ref m) H'
theorem ok_in_order {f : Addr} {fd : FuncData} (F : Fun K "in_order" "in_order" s_in_order f fd) (T : Txt K mg) (D_rank : Df P w K mg base 1 "rank" ["entry"] (sp_rank K)) : FnOk P w K mg base CX0 4 f fd ["entries"] (sp_in_order K) := by
 refine F.ok sc_in_order (fun vs H Q E h => ?_) (fun cdv A outer s H vs Q E hr h => ?_)
 ·obtain ⟨l, L, rfl, _⟩ := h
  rfl
 ·obtain ⟨l, L, rfl, hL, q⟩ := h
  refine ⟨_, (pss_one (ps_ret (pe_sortK (kk := 1) (hr.mono (by decide)) rfl T.sorted rfl (pv 0)))), ?_⟩
  refine ⟨_, rfl, l, L.map (·.1), L.map fun x => rkE x.2, "entry", sp_rank K, rfl, by rw [List.map_map]; exact hL.lst, by rw [List.length_map, List.length_map], fun k hk => ?_, D_rank, fun i p k hp hk H' s Q' hq => ?_, fun zs H' m hs s hm => ?_⟩
  ·obtain ⟨x, _, rfl⟩ := List.mem_map.mp hk
   exact fun z => by cases z
  ·rw [List.getElem?_map] at hp hk
   cases e : L[i]? with
   | none => rw [e] at hp; cases hp
   | some x =>
    rw [e] at hp hk
    have e1 : x.1 = p := Option.some.inj hp
    have e2 : rkE x.2 = k := Option.some.inj hk
    subst e1 e2
    exact ⟨x.1, x.2, rfl, (hL.at_ x (List.mem_of_getElem? e)).same s, fun t ht => hq t ht⟩
  ·have hz : (L.map fun x => rkE x.2).zip (L.map (·.1)) = L.map fun x => (rkE x.2, x.1) := by rw [List.zip_map', ]
   have hp := hs.perm
   rw [hz] at hp
   obtain ⟨L', p, e⟩ := perm_map_ex hp
   refine q m _ L' (s.free hm) (s.trans (Same.new hm)) ?_ p ?_
   ·rw [upd_same, e, List.map_map]
    rfl
   ·have := hs.ord
    rw [e, List.pairwise_map] at this
    exact this
theorem nd_inj {α β : Type} {f : α → β} {l : List α} (nd : (l.map f).Nodup) {x y : α} (hx : x ∈ l) (hy : y ∈ l) (e : f x = f y) : x = y := by
 obtain ⟨i, hi⟩ := List.mem_iff_getElem?.mp hx
 obtain ⟨j, hj⟩ := List.mem_iff_getElem?.mp hy
 have a1 : (l.map f)[i]? = some (f x) := by rw [List.getElem?_map, hi]; rfl
 have a2 : (l.map f)[j]? = some (f x) := by rw [List.getElem?_map, hj, e]; rfl
 have := nd_ix nd a1 a2
 subst this
 rw [hi] at hj
 exact Option.some.inj hj
def sp_remove_all (K : PySem.W.Frag) : Sp := fun vs H Q _ => ∃ (d g : Addr) (L : List (Addr × REnt)) (p : Addr × REnt → Bool), vs = [.ref d, .ref g] ∧ Ents K H d L ∧ H g = some (.lst ((L.filter p).map refA)) ∧ ∀ H', SameB d H H' → Ents K H' d (L.filter fun x => !p x) → Q .non H'
theorem dropK_dkv (L : List (Addr × REnt)) (n : Int) : dropK (dkv L) (Sum.inl n) = dkv (L.filter fun x => decide (x.2.n ≠ n)) := by
 unfold dropK dkv
 rw [List.filter_map]
 congr 1
 refine List.filter_congr fun x _ => ?_
 simp
theorem Ents.filter {H : Hp} {d : Addr} {L : List (Addr × REnt)} (h : Ents K H d L) (p : Addr × REnt → Bool) {H' : Hp} (hd : H' d = some (.dK (dkv (L.filter p)))) (s : SameB d H H') : Ents K H' d (L.filter p) :=
 ⟨hd, fun x hx => (h.at_ x (List.mem_filter.mp hx).1).b s (h.ne (List.mem_filter.mp hx).1), List.Nodup.sublist (List.Sublist.map _ List.filter_sublist) h.nda, List.Nodup.sublist (List.Sublist.map _ List.filter_sublist) h.ndn⟩
theorem ok_remove_all {f : Addr} {fd : FuncData} (F : Fun K "remove_all" "remove_all" s_remove_all f fd) : FnOk P w K mg base CX0 1 f fd ["entries", "gone"] (sp_remove_all K) := by
 refine F.ok sc_remove_all (fun vs H Q E h => ?_) (fun cdv A outer s H vs Q E hr h => ?_)
 ·obtain ⟨d, g, L, p, rfl, _⟩ := h
  rfl
 ·obtain ⟨d, g, L, p, rfl, hE, hg, q⟩ := h
  refine ⟨_, (pss_one (ps_for PassesOwn.never rfl (pi_list (pv 1)) (pg_name (i := 2) sc_remove_all.nd rfl (Or.inl rfl))
 (pss_one (ps_expr (pe_dpop1 (pv 0) (pe_fld (pv 2) rfl) ⟨rfl, rfl, rfl, rfl⟩))))), ?_⟩
  have ngd : g ≠ d := ne_of hg hE.dict (fun z => by cases z)
  refine ⟨_, rfl, g, rfl, ⟨_, SqL.of hg⟩, for_wk (wk_list (K := K) (a := g) (xs := (L.filter p).map refA)) (fun i σ H' => ∃ v : Option V, σ = [some (.ref d), some (.ref g), v] ∧ SameB d H H' ∧ H' d = some (.dK (dkv (L.filter fun x => !((L.filter p).take i).any fun y => y.2.n == x.2.n)))) ⟨none, rfl, fun b o e _ => e, ?_⟩ (fun i σ H' _ h => ?_) (fun i σ H' hi h => ?_) (fun σ H' h => ?_)⟩
  ·rw [hE.dict, SM.filter_all' (l := L) fun x _ => by simp]
  ·obtain ⟨v, _, s, _⟩ := h
   exact SqL.of (s _ _ hg ngd)
  ·obtain ⟨v, rfl, s, hd⟩ := h
   rw [List.length_map] at hi
   have hx : (L.filter p)[i]? = some (L.filter p)[i] := List.getElem?_eq_getElem hi
   have hm : (L.filter p)[i] ∈ L := (List.mem_filter.mp (List.getElem_mem hi)).1
   have e1 : ((L.filter p).map refA).getD i .non = refA (L.filter p)[i] := by simp [hx]
   rw [e1]
   have he := (hE.at_ _ hm).b s (hE.ne hm)
   have hin : (L.filter p)[i] ∈ L.filter fun x => !((L.filter p).take i).any fun y => y.2.n == x.2.n := by
    refine List.mem_filter.mpr ⟨hm, ?_⟩
    simp only [Bool.not_eq_true', List.any_eq_false, beq_iff_eq]
    intro y hy e
    obtain ⟨j, hj⟩ := List.mem_iff_getElem?.mp hy
    have hj' := hj
    rw [List.getElem?_take] at hj'
    split at hj'
    ·rename_i hlt
     have nd : ((L.filter p).map fun x => x.2.n).Nodup := List.Nodup.sublist (List.Sublist.map _ List.filter_sublist) hE.ndn
     have a1 : ((L.filter p).map fun x => x.2.n)[j]? = some ((L.filter p)[i]).2.n := by rw [List.getElem?_map, hj']; simp [e]
     have a2 : ((L.filter p).map fun x => x.2.n)[i]? = some ((L.filter p)[i]).2.n := by rw [List.getElem?_map, hx]; rfl
     have := nd_ix nd a1 a2
     omega
    ·cases hj'
   have nd2 : ((L.filter fun x => !((L.filter p).take i).any fun y => y.2.n == x.2.n).map fun x => x.2.n).Nodup := List.Nodup.sublist (List.Sublist.map _ List.filter_sublist) hE.ndn
   simp [tDPop1, he.flds]
   refine ⟨.inl ⟨_, .inl hd⟩, _, hd, _, rfl, ⟨_, val_of nd2 hin⟩, s.trans SameB.upd, ?_⟩
   rw [upd_same, dropK_dkv, List.filter_filter, take_snoc' hx]
   congr 3
   refine List.filter_congr fun x _ => ?_
   rw [List.any_append]
   by_cases e : x.2.n = ((L.filter p)[i]).2.n
   ·simp [e]
   ·simp [e, Ne.symm e]
  ·obtain ⟨v, rfl, s, hd⟩ := h
   refine q H' s (hE.filter _ ?_ s)
   rw [hd, List.length_map, List.take_length]
   congr 3
   refine List.filter_congr fun x hx => ?_
   congr 1
   by_cases e : p x = true
   ·rw [e, List.any_eq_true]
    exact ⟨x, List.mem_filter.mpr ⟨hx, e⟩, by simp⟩
   ·have e' : p x = false := by simpa using e
    rw [e', List.any_eq_false]
    intro y hy q
    have hy' := List.mem_filter.mp hy
    have : y = x := nd_inj hE.ndn hy'.1 hx (by simpa using q)
    rw [this] at hy'
    exact e hy'.2
end
end L2
end
section
namespace L2
open PySem PySem.Spec PyProof.Rows
open Vabiti (Call)
structure InD (K : PySem.W.Frag) (H : Hp) (d : Addr) (D : List VE) (L : List (Addr × REnt)) : Prop where
 ents : Ents K H d L
 rel : L.map (·.2) = D.map raw
 good : ∀ e ∈ D, SM.Good e
 len : D.length ≤ 200
def Keep (H H' : Hp) : Prop := ∀ b o, H b = some o → (∀ kvs, o ≠ .dK kvs) → (∀ C dx fs, o ≠ .ins C dx fs) → H' b = some o
def Tells (K : PySem.W.Frag) (H : Hp) (d : Addr) (D : List VE) (cl : Call) (Q : VK) : Prop := ∀ H' l D' L' ans, SM.Does D cl D' ans → Ents K H' d L' → L'.map (·.2) = D'.map raw → Keep H H' → H' l = some (.lst (ans.map V.int)) → ans.length ≤ 10000 → Q (.ref l) H'
section
variable {P : Program} {w : World} {K : PySem.W.Frag} {mg : Str → Option Value} {base : Heap} {H H' H2 : Hp} {d p : Addr} {D : List VE} {L : List (Addr × REnt)} {o : HO} {Q : VK} {cl : Call}
theorem Keep.of (s : Same H H') : Keep H H' := fun b o e _ _ => s b o e
theorem Keep.trans (a : Keep H H') (b : Keep H' H2) : Keep H H2 := fun c o e h1 h2 => b c o (a c o e h1 h2) h1 h2
theorem Keep.dict {kvs : List (Key × V)} (h : H d = some (.dK kvs)) (s : SameB d H H') : Keep H H' := fun b o e h1 _ => s b o e fun q => by rw [q, h] at e; exact h1 kvs (Option.some.inj e).symm
theorem Keep.ent {r : REnt} (h : EntAt K H p r) : Keep H (upd H p o) := fun b u e _ h2 => by
 rw [upd_ne fun q => ?_]
 ·exact e
 ·obtain ⟨u', e', C, dx, _, rfl⟩ := h
  rw [q, e'] at e
  exact h2 C dx _ (Option.some.inj e).symm
theorem InD.llen (h : InD K H d D L) : L.length = D.length := by simpa using congrArg List.length h.rel
theorem InD.z (h : InD K H d D L) : L.length ≤ 200 := by rw [h.llen]; exact h.len
theorem InD.same (h : InD K H d D L) (s : Same H H') : InD K H' d D L := ⟨h.ents.same s, h.rel, h.good, h.len⟩
theorem InD.mem (h : InD K H d D L) {x : Addr × REnt} (hx : x ∈ L) : ∃ e ∈ D, raw e = x.2 := by
 have : x.2 ∈ D.map raw := by rw [← h.rel]; exact List.mem_map.mpr ⟨x, hx, rfl⟩
 exact List.mem_map.mp this
theorem InD.mem' (h : InD K H d D L) {e : VE} (he : e ∈ D) : ∃ x ∈ L, x.2 = raw e := by
 have : raw e ∈ L.map (·.2) := by rw [h.rel]; exact List.mem_map.mpr ⟨e, he, rfl⟩
 exact List.mem_map.mp this
theorem InD.found (h : InD K H d D L) {i : Int} (hi : SM.NumR i) {v : V} (e : valV (dkv L) (Sum.inl i) = some v) : ∃ x ∈ L, ∃ e ∈ D, x.2 = raw e ∧ e.id = i.toNat ∧ x.2.n = i ∧ v = .ref x.1 := by
 obtain ⟨x, hx, en, ev⟩ := val_some e
 obtain ⟨e, he, er⟩ := h.mem hx
 refine ⟨x, hx, e, he, er.symm, ?_, en, ev⟩
 have : (e.id : Int) = i := by rw [← en, ← er]; rfl
 omega
theorem InD.missing (h : InD K H d D L) {i : Int} (hi : SM.NumR i) (e : valV (dkv L) (Sum.inl i) = none) : ∀ e ∈ D, e.id ≠ i.toNat := by
 intro x hx q
 obtain ⟨y, hy, ey⟩ := h.mem' hx
 refine val_none e y hy ?_
 rw [ey]
 show (x.id : Int) = i
 omega
theorem nd_of_map {α β : Type} {f : α → β} : ∀ {l : List α}, (l.map f).Nodup → l.Nodup
 | [], _ => List.nodup_nil
 | x :: l, h => by
  rw [List.map_cons, List.nodup_cons] at h
  exact List.nodup_cons.mpr ⟨fun m => h.1 (List.mem_map_of_mem m), nd_of_map h.2⟩
theorem InD.ids (h : InD K H d D L) : (D.map (·.id)).Nodup := by
 have a := h.ents.ndn
 have b : (L.map fun x => x.2.n) = (D.map (·.id)).map (fun n : Nat => (n : Int)) := by
  have := congrArg (List.map REnt.n) h.rel
  rw [List.map_map, List.map_map] at this
  rw [List.map_map]
  exact this
 rw [b] at a
 exact nd_of_map a
theorem Tells.just (t : Tells K H d D cl Q) (h : InD K H d D L) {ans : List Int} (dd : SM.Does D cl D ans) (z : ans.length ≤ 10000) {l : Addr} (s : Same H H') (hl : H' l = some (.lst (ans.map V.int))) : Q (.ref l) H' :=
 t H' l D L ans dd (h.ents.same s) h.rel (Keep.of s) hl z
theorem Tells.new (t : Tells K H d D cl Q) (h : InD K H d D L) {ans : List Int} (dd : SM.Does D cl D ans) (z : ans.length ≤ 10000) {l : Addr} (hl : H l = none) : Q (.ref l) (upd H l (.lst (ans.map V.int))) :=
 t.just h dd z (Same.new hl) upd_same
theorem mk_ent {C : Addr} {n k a b : Int} {R : Addr → Hp → Prop} {E : XK} (hC : ClE K C) (h : ∀ x H', H x = none → Same H H' → EntAt K H' x ⟨n, k, a, b⟩ → R x H') :
  ∀ x dx, H x = none → H dx = none → dx ≠ x → sp_Entry_init K [.ref x, .int n, .int k, .int a, .int b] (upd (upd H dx (.own x)) x (.ins C dx [])) (fun v H2 => v = .non ∧ R x H2) E := by
 intro x dx hx hdx ne
 refine ⟨x, C, dx, n, k, a, b, rfl, hC, upd_same, fun o ho => ⟨rfl, h x _ hx (fun b u e => ?_) ⟨o, upd_same, ho⟩⟩⟩
 rw [upd_ne (ne_of_none e hx), upd_ne (ne_of_none e hx), upd_ne (ne_of_none e hdx)]
 exact e
theorem Ents.put (h : Ents K H d L) {x : Addr} {r : REnt} (s : Same H H') (hx : H x = none) (he : EntAt K H' x r) (hn : ∀ y ∈ L, y.2.n ≠ r.n) : Ents K (upd H' d (.dK (dkv L ++ [(Sum.inl r.n, V.ref x)]))) d (L ++ [(x, r)]) := by
 have hd' := s _ _ h.dict
 refine ⟨?_, fun y hy => ?_, ?_, ?_⟩
 ·rw [upd_same]
  simp [dkv]
 ·rcases List.mem_append.mp hy with hy | hy
  ·exact ((h.at_ y hy).same s).updNe (h.ne hy)
  ·rw [List.mem_singleton] at hy
   subst hy
   exact he.updNe (he.ne hd' fun _ _ _ q => by cases q)
 ·rw [List.map_append]
  refine nd_snoc h.nda fun m => ?_
  obtain ⟨y, hy, e⟩ := List.mem_map.mp m
  obtain ⟨o, eo, _⟩ := h.at_ y hy
  have : y.1 = x := e
  rw [this, hx] at eo
  cases eo
 ·rw [List.map_append]
  refine nd_snoc h.ndn fun m => ?_
  obtain ⟨y, hy, e⟩ := List.mem_map.mp m
  exact hn y hy e
def sp_add (K : PySem.W.Frag) : Sp := fun vs H Q _ => ∃ (d t : Addr) (D : List VE) (L : List (Addr × REnt)) (i k a b : Int), vs = [.ref d, .ref t] ∧ InD K H d D L ∧ Told H t "id" i ∧ Told H t "key" k ∧ Told H t "a" a ∧ Told H t "b" b ∧
 SM.NumR i ∧ SM.KeyR k ∧ SM.MomR a ∧ SM.EndR b ∧ a.toNat < SM.endN b ∧ Tells K H d D (.add i k a b) Q
theorem ok_add {f C : Addr} {fd : FuncData} (F : Fun K "add" "add" s_add f fd) (T : Txt K mg) (hC : ClE K C) (M_Entry : Mc P w K mg base 1 "Entry" C ["self", "number", "key", "first", "end"] (sp_Entry_init K)) (D_end_from_told : Df P w K mg base 1 "end_from_told" ["told"] sp_end_from_told) : FnOk P w K mg base CX0 3 f fd ["entries", "told"] (sp_add K) := by
 refine F.ok sc_add (fun vs H Q E h => ?_) (fun cdv A outer s H vs Q E hr h => ?_)
 ·obtain ⟨d, t, D, L, i, k, a, b, rfl, _⟩ := h
  rfl
 ·obtain ⟨d, t, D, L, i, k, a, b, rfl, hI, t1, t2, t3, t4, h1, h2, h3, h4, h5, q⟩ := h
  have hu := hu_of hr
  have hd := hI.ents.dict
  refine ⟨_, (pss_cons (ps_set (i := 2) sc_add.nd rfl (Or.inl rfl) (pe_dget hu (pv 1) pe_str (fun _ _ => rfl)))
 (pss_cons (ps_if (pt_cmp (pc_din hu (pv 2) (pv 0)))
 (pss_one (ps_ret (pe_lst (pa_cons (pe_gint T.g_NUMBER_TAKEN rfl) pa_nil))))
 pss_nil)
 (pss_cons (ps_if (pt_cmpR op_ge (pe_callB call_lenD (by rfl) T.len PySem.boot_len (pa_cons (pv 0) pa_nil)) (pe_gint T.g_MOST_ENTRIES rfl) (nomark _))
 (pss_one (ps_ret (pe_lst (pa_cons (pe_gint T.g_FULL rfl) pa_nil))))
 pss_nil)
 (pss_cons (ps_dput hu (pv 0) (pv 2) (pe_mk M_Entry (hr.mono (by decide)) rfl (pa_cons (pv 2) (pa_cons (pe_dget hu (pv 1) pe_str (fun _ _ => rfl)) (pa_cons (pe_dget hu (pv 1) pe_str (fun _ _ => rfl)) (pa_cons (pe_fn D_end_from_told (hr.mono (by decide)) rfl (pa_cons (pe_dget hu (pv 1) pe_str (fun _ _ => rfl)) pa_nil)) pa_nil))))) rfl)
 (pss_one (ps_ret (pe_lst (pa_cons (pe_callB call_lenD (by rfl) T.len PySem.boot_len (pa_cons (pv 0) pa_nil)) pa_nil)))))))), ?_⟩
  simp [start, t1.g]
  refine din_int hd ?_
  cases e : valV (dkv L) (Sum.inl i) with
  | some v =>
   obtain ⟨x, hx, en, he, er, eid, _, _⟩ := hI.found h1 e
   simp
   exact ⟨fits (by decide), fun p hp => q.new hI (SM.add_4 h1 h2 h3 h4 h5 ⟨en, he, eid⟩) (by decide) hp⟩
  | none =>
   have hno := hI.missing h1 e
   simp [hd]
   by_cases c : 200 ≤ L.length
   ·rw [if_pos (by omega)]
    exact ⟨fits (by decide), fun p hp => q.new hI (SM.add_6 h1 h2 h3 h4 h5 hno (by rw [← hI.llen]; exact c)) (by decide) hp⟩
   ·rw [if_neg (by omega)]
    simp [t2.g, t3.g, t4.g]
    refine mk_ent hC fun x H' hx s he => ?_
    refine ⟨_, DPut.k (k := Sum.inl i) (s _ _ hd) (fits' (by rw [x_lenD]; have := hI.z; omega)), _, upd_same, fits (by decide), fun p hp => ?_⟩
    rw [putK_new _ e] at hp ⊢
    have hE := hI.ents.put (r := ⟨i, k, a, fromT b⟩) s hx he (val_none e)
    have hz : (dkv L ++ [(Sum.inl i, V.ref x)]).length = L.length + 1 := by simp
    refine q _ p _ _ [((D.length + 1 : Nat) : Int)] (SM.add_ok h1 h2 h3 h4 h5 hno (by rw [← hI.llen]; exact c)) (hE.same (Same.new hp)) ?_ ((Keep.dict hd (s.b.trans SameB.upd)).trans (Keep.of (Same.new hp))) ?_ (by simp)
    ·rw [List.map_append, List.map_append, hI.rel]
     have e1 : ((i.toNat : Nat) : Int) = i := by omega
     have e2 : ((a.toNat : Nat) : Int) = a := by omega
     refine congrArg _ ?_
     show [(⟨i, k, a, fromT b⟩ : REnt)] = [⟨((i.toNat : Nat) : Int), k, ((a.toNat : Nat) : Int), pend (SM.endN b)⟩]
     rw [fromT_pend h4, e1, e2]
    ·rw [upd_same, hz, hI.llen]
     rfl
def sp_drop (K : PySem.W.Frag) : Sp := fun vs H Q _ => ∃ (d t : Addr) (D : List VE) (L : List (Addr × REnt)) (i : Int), vs = [.ref d, .ref t] ∧ InD K H d D L ∧ Told H t "id" i ∧ d ≠ t ∧ SM.NumR i ∧ Tells K H d D (.drop i) Q
theorem filter_rel {p : REnt → Bool} {q : VE → Bool} (h : L.map (·.2) = D.map raw) (hpq : ∀ e ∈ D, p (raw e) = q e) : (L.filter fun x => p x.2).map (·.2) = (D.filter q).map raw := by
 have a : (L.filter fun x => p x.2).map (·.2) = (L.map (·.2)).filter p := by rw [List.filter_map]; rfl
 rw [a, h, List.filter_map]
 congr 1
 exact List.filter_congr hpq
theorem ok_drop {f : Addr} {fd : FuncData} (F : Fun K "drop" "drop" s_drop f fd) (T : Txt K mg) : FnOk P w K mg base CX0 1 f fd ["entries", "told"] (sp_drop K) := by
 refine F.ok sc_drop (fun vs H Q E h => ?_) (fun cdv A outer s H vs Q E hr h => ?_)
 ·obtain ⟨d, t, D, L, i, rfl, _⟩ := h
  rfl
 ·obtain ⟨d, t, D, L, i, rfl, hI, t1, nt, h1, q⟩ := h
  have hu := hu_of hr
  have hd := hI.ents.dict
  refine ⟨_, (pss_cons (ps_if (pt_cmp (pc_dnotin hu (pe_dget hu (pv 1) pe_str (fun _ _ => rfl)) (pv 0)))
 (pss_one (ps_ret (pe_lst (pa_cons (pe_gint T.g_NO_SUCH_ENTRY rfl) pa_nil))))
 pss_nil)
 (pss_cons (ps_expr (pe_dpop1 (pv 0) (pe_dget hu (pv 1) pe_str (fun _ _ => rfl)) ⟨rfl, rfl, rfl, rfl⟩))
 (pss_one (ps_ret (pe_lst (pa_cons (pe_callB call_lenD (by rfl) T.len PySem.boot_len (pa_cons (pv 0) pa_nil)) pa_nil)))))), ?_⟩
  simp [start, t1.g]
  refine din_int hd ?_
  cases e : valV (dkv L) (Sum.inl i) with
  | none =>
   simp
   exact ⟨fits (by decide), fun p hp => q.new hI (SM.drop_3 h1 (hI.missing h1 e)) (by decide) hp⟩
  | some v =>
   obtain ⟨x, hx, en, he, er, eid, exn, _⟩ := hI.found h1 e
   simp [tDPop1, t1.g]
   refine ⟨.inl ⟨_, .inl hd⟩, _, hd, Sum.inl i, rfl, ⟨v, e⟩, _, upd_same, fits (by decide), fun p hp => ?_⟩
   rw [dropK_dkv] at hp ⊢
   have s1 : SameB d H (upd H d (.dK (dkv (L.filter fun x => decide (x.2.n ≠ i))))) := SameB.upd
   have hE := hI.ents.filter (fun x => decide (x.2.n ≠ i)) upd_same s1
   have hr' : (L.filter fun x => decide (x.2.n ≠ i)).map (·.2) = (D.filter fun e => e.id != i.toNat).map raw := by
    refine filter_rel (p := fun r => decide (r.n ≠ i)) hI.rel fun e _ => ?_
    show decide ((e.id : Int) ≠ i) = (e.id != i.toNat)
    rw [Bool.eq_iff_iff]
    simp
    omega
   refine q _ p _ _ [((D.length - 1 : Nat) : Int)] (SM.drop_ok h1 he eid) (hE.same (Same.new hp)) hr' ((Keep.dict hd s1).trans (Keep.of (Same.new hp))) ?_ (by simp)
   have hz := congrArg List.length hr'
   rw [List.length_map, List.length_map] at hz
   have hf := SM.filter_id_len hI.ids ⟨en, he, eid⟩
   rw [upd_same, x_lenD, hz, ← hf]
   rfl
end
end L2
end
section
namespace L2
open PySem PySem.Spec PyProof.Rows
open Vabiti (Call)
section
variable {P : Program} {w : World} {K : PySem.W.Frag} {mg : Str → Option Value} {base : Heap} {H H' H2 : Hp} {d p : Addr} {D : List VE} {L C : List (Addr × REnt)} {o : HO} {Q : VK} {cl : Call}
abbrev mapE (φ : REnt → REnt) (L : List (Addr × REnt)) : List (Addr × REnt) := L.map fun y => (y.1, φ y.2)
theorem Ents.map (h : Ents K H d L) {φ : REnt → REnt} (hn : ∀ r, (φ r).n = r.n) (hd : H' d = some (.dK (dkv L))) (hat : ∀ y ∈ L, EntAt K H' y.1 (φ y.2)) : Ents K H' d (mapE φ L) := by
 refine ⟨?_, fun x hx => ?_, ?_, ?_⟩
 ·rw [hd]
  unfold dkv mapE
  rw [List.map_map]
  congr 3
  funext y
  simp [hn]
 ·obtain ⟨y, hy, rfl⟩ := List.mem_map.mp hx
  exact hat y hy
 ·have : (mapE φ L).map (·.1) = L.map (·.1) := by unfold mapE; rw [List.map_map]; rfl
  rw [this]
  exact h.nda
 ·have : (mapE φ L).map (fun x => x.2.n) = L.map fun x => x.2.n := by
   unfold mapE
   rw [List.map_map]
   congr 1
   funext y
   exact hn y.2
  rw [this]
  exact h.ndn
theorem map_rel {φ : REnt → REnt} {ψ : VE → VE} (h : L.map (·.2) = D.map raw) (hf : ∀ e ∈ D, φ (raw e) = raw (ψ e)) : (mapE φ L).map (·.2) = (D.map ψ).map raw := by
 have a : (mapE φ L).map (·.2) = (L.map (·.2)).map φ := by unfold mapE; rw [List.map_map, List.map_map]; rfl
 rw [a, h, List.map_map, List.map_map]
 exact List.map_congr_left hf
structure UpdI (K : PySem.W.Frag) (H H' : Hp) (L C : List (Addr × REnt)) (φ : REnt → REnt) (i : Nat) : Prop where
 done : ∀ y ∈ C.take i, EntAt K H' y.1 (φ y.2)
 todo : ∀ y ∈ L, y ∉ C.take i → EntAt K H' y.1 y.2
 keep : ∀ b o, H b = some o → (∀ y ∈ L, b ≠ y.1) → H' b = some o
theorem UpdI.zero {φ : REnt → REnt} (h : ∀ y ∈ L, EntAt K H y.1 y.2) : UpdI K H H L C φ 0 := ⟨fun y hy => by simp at hy, fun y hy _ => h y hy, fun b o e _ => e⟩
theorem UpdI.step {φ : REnt → REnt} {i : Nat} {y : Addr × REnt} (U : UpdI K H H' L C φ i) (nda : (L.map (·.1)).Nodup) (sub : C.Sublist L) (hy : C[i]? = some y) (ho : EntO K o (φ y.2)) : UpdI K H (upd H' y.1 o) L C φ (i + 1) := by
 have ndC : (C.map (·.1)).Nodup := List.Nodup.sublist (List.Sublist.map _ sub) nda
 have yL : y ∈ L := sub.subset (List.mem_of_getElem? hy)
 have et := take_snoc' hy
 refine ⟨fun z hz => ?_, fun z hz hn => ?_, fun b u e hb => ?_⟩
 ·rw [et] at hz
  rcases List.mem_append.mp hz with hz | hz
  ·have ne : z.1 ≠ y.1 := by
    intro q
    obtain ⟨j, hj⟩ := List.mem_iff_getElem?.mp hz
    rw [List.getElem?_take] at hj
    split at hj
    ·rename_i hlt
     have a1 : (C.map (·.1))[j]? = some y.1 := by rw [List.getElem?_map, hj]; simp [q]
     have a2 : (C.map (·.1))[i]? = some y.1 := by rw [List.getElem?_map, hy]; rfl
     have := nd_ix ndC a1 a2
     omega
    ·cases hj
   exact (U.done z hz).updNe ne
  ·rw [List.mem_singleton] at hz
   subst hz
   exact ⟨o, upd_same, ho⟩
 ·rw [et] at hn
  have hn' : z ∉ C.take i := fun m => hn (List.mem_append_left _ m)
  have ne : z.1 ≠ y.1 := fun q => hn (List.mem_append_right _ (by rw [List.mem_singleton]; exact nd_inj nda hz yL q))
  exact (U.todo z hz hn').updNe ne
 ·rw [upd_ne (hb y yL)]
  exact U.keep b u e hb
def sp_move (K : PySem.W.Frag) : Sp := fun vs H Q _ => ∃ (d t : Addr) (D : List VE) (L : List (Addr × REnt)) (i a b : Int), vs = [.ref d, .ref t] ∧ InD K H d D L ∧ Told H t "id" i ∧ Told H t "a" a ∧ Told H t "b" b ∧
 SM.NumR i ∧ SM.MomR a ∧ SM.EndR b ∧ a.toNat < SM.endN b ∧ Tells K H d D (.move i a b) Q
theorem InD.one (hI : InD K H d D L) {x : Addr × REnt} (hx : x ∈ L) {φ : REnt → REnt} (hd : H' d = H d) (hat : EntAt K H' x.1 (φ x.2)) (hn : ∀ r, (φ r).n = r.n) (hφ : ∀ r, r.n ≠ x.2.n → φ r = r) (ho : ∀ y ∈ L, y.1 ≠ x.1 → EntAt K H' y.1 y.2) : Ents K H' d (mapE φ L) := by
 refine hI.ents.map hn (by rw [hd]; exact hI.ents.dict) fun y hy => ?_
 by_cases e : y.2.n = x.2.n
 ·have : y = x := nd_inj hI.ents.ndn hy hx e
  rw [this]
  exact hat
 ·rw [hφ _ e]
  exact ho y hy fun q => e (by rw [nd_inj hI.ents.nda hy hx q])
theorem Told.ne {t : Addr} {x : Str} {i : Int} {r : REnt} (h : Told H t x i) (he : EntAt K H p r) : t ≠ p := by
 obtain ⟨k, e, _⟩ := h
 exact (he.ne e fun _ _ _ q => by cases q).symm
theorem ok_move {f : Addr} {fd : FuncData} (F : Fun K "move" "move" s_move f fd) (T : Txt K mg) (D_end_as_told : Df P w K mg base 1 "end_as_told" ["end"] sp_end_as_told) (D_end_from_told : Df P w K mg base 1 "end_from_told" ["told"] sp_end_from_told) : FnOk P w K mg base CX0 2 f fd ["entries", "told"] (sp_move K) := by
 refine F.ok sc_move (fun vs H Q E h => ?_) (fun cdv A outer s H vs Q E hr h => ?_)
 ·obtain ⟨d, t, D, L, i, a, b, rfl, _⟩ := h
  rfl
 ·obtain ⟨d, t, D, L, i, a, b, rfl, hI, t1, t2, t3, h1, h2, h3, h4, q⟩ := h
  have hu := hu_of hr
  have hd := hI.ents.dict
  refine ⟨_, (pss_cons (ps_if (pt_cmp (pc_dnotin hu (pe_dget hu (pv 1) pe_str (fun _ _ => rfl)) (pv 0)))
 (pss_one (ps_ret (pe_lst (pa_cons (pe_gint T.g_NO_SUCH_ENTRY rfl) pa_nil))))
 pss_nil)
 (pss_cons (ps_set (i := 2) sc_move.nd rfl (Or.inl rfl) (pe_dget hu (pv 0) (pe_dget hu (pv 1) pe_str (fun _ _ => rfl)) (fun _ _ => rfl)))
 (pss_cons (ps_set (i := 3) sc_move.nd rfl (Or.inl rfl) (pe_lst (pa_cons (pe_fld (pv 2) rfl) (pa_cons (pe_fn D_end_as_told (hr.mono (by decide)) rfl (pa_cons (pe_fld (pv 2) rfl) pa_nil)) pa_nil))))
 (pss_cons (ps_fld (pv 2) (pe_dget hu (pv 1) pe_str (fun _ _ => rfl)) rfl)
 (pss_cons (ps_fld (pv 2) (pe_fn D_end_from_told (hr.mono (by decide)) rfl (pa_cons (pe_dget hu (pv 1) pe_str (fun _ _ => rfl)) pa_nil)) rfl)
 (pss_one (ps_ret (pv 3)))))))), ?_⟩
  simp [start, t1.g]
  refine din_int hd ?_
  cases e : valV (dkv L) (Sum.inl i) with
  | none =>
   simp
   exact ⟨fits (by decide), fun p hp => q.new hI (SM.move_3 h1 h2 h3 h4 (hI.missing h1 e)) (by decide) hp⟩
  | some v =>
   obtain ⟨x, hx, en, hen, er, eid, exn, rfl⟩ := hI.found h1 e
   have he := hI.ents.at_ x hx
   simp [t1.g]
   refine dget_int hd e ?_
   simp [he.flds]
   refine ⟨fits (by decide), fun l hl => ?_⟩
   simp [(t2.upd hl).g]
   refine (he.upd hl).setA fun o ho => ?_
   have hex : EntAt K (upd H l (.lst [V.int x.2.a, V.int (asT x.2.b)])) x.1 x.2 := he.upd hl
   simp [((t3.upd (o := .lst [V.int x.2.a, V.int (asT x.2.b)]) hl).updNe (o := o) ((t3.upd hl).ne hex)).g]
   refine EntAt.setB ⟨o, upd_same, ho⟩ fun o2 ho2 => ?_
   rw [upd_upd]
   have nxd : d ≠ x.1 := (hI.ents.ne hx).symm
   have nlx : l ≠ x.1 := by
    intro z
    obtain ⟨u, eu, _⟩ := he
    rw [← z, hl] at eu
    cases eu
   let φ : REnt → REnt := fun r => if r.n = x.2.n then { r with a := a, b := fromT b } else r
   have hE : Ents K (upd (upd H l (.lst [V.int x.2.a, V.int (asT x.2.b)])) x.1 o2) d (mapE φ L) := by
    refine hI.one hx (φ := φ) ?_ ⟨o2, upd_same, by simp only [φ, if_pos]; exact ho2⟩ (fun r => by simp only [φ]; split <;> rfl) (fun r hr => if_neg hr) fun y hy ne => ((hI.ents.at_ y hy).upd hl).updNe ne
    rw [upd_ne nxd, upd_ne (ne_of_none hd hl)]
   have e1 : ((a.toNat : Nat) : Int) = a := by omega
   have e2 : ∀ e ∈ D, ((e.id : Int) = x.2.n ↔ e.id = i.toNat) := fun e _ => by rw [exn]; omega
   have hrel : (mapE φ L).map (·.2) = (SM.setE i.toNat { en with a := a.toNat, b := SM.endN b } D).map raw := by
    refine map_rel (ψ := fun e => if e.id = i.toNat then { en with a := a.toNat, b := SM.endN b } else e) hI.rel fun e hee => ?_
    simp only [φ]
    by_cases c : e.id = i.toNat
    ·have : e = en := SM.id_inj hI.ids hee hen (by rw [c, eid])
     rw [if_pos c, if_pos (show (raw e).n = x.2.n from (e2 e hee).mpr c), this]
     unfold raw
     simp only
     rw [fromT_pend h3, e1]
    ·rw [if_neg c, if_neg (show ¬ (raw e).n = x.2.n from fun z => c ((e2 e hee).mp z))]
   refine q _ l _ _ [(en.a : Int), Vabiti.endTold en.b] (SM.move_ok h1 h2 h3 h4 hen eid) hE hrel ((Keep.of (Same.new hl)).trans (Keep.ent hex)) ?_ (by simp)
   rw [upd_ne nlx, upd_same, er, ← asT_pend (hI.good en hen).b]
   rfl
def sp_rekey (K : PySem.W.Frag) : Sp := fun vs H Q _ => ∃ (d t : Addr) (D : List VE) (L : List (Addr × REnt)) (i k : Int), vs = [.ref d, .ref t] ∧ InD K H d D L ∧ Told H t "id" i ∧ Told H t "key" k ∧
 SM.NumR i ∧ SM.KeyR k ∧ Tells K H d D (.rekey i k) Q
theorem ok_rekey {f : Addr} {fd : FuncData} (F : Fun K "rekey" "rekey" s_rekey f fd) (T : Txt K mg) : FnOk P w K mg base CX0 1 f fd ["entries", "told"] (sp_rekey K) := by
 refine F.ok sc_rekey (fun vs H Q E h => ?_) (fun cdv A outer s H vs Q E hr h => ?_)
 ·obtain ⟨d, t, D, L, i, a, rfl, _⟩ := h
  rfl
 ·obtain ⟨d, t, D, L, i, k, rfl, hI, t1, t2, h1, h2, q⟩ := h
  have hu := hu_of hr
  have hd := hI.ents.dict
  refine ⟨_, (pss_cons (ps_if (pt_cmp (pc_dnotin hu (pe_dget hu (pv 1) pe_str (fun _ _ => rfl)) (pv 0)))
 (pss_one (ps_ret (pe_lst (pa_cons (pe_gint T.g_NO_SUCH_ENTRY rfl) pa_nil))))
 pss_nil)
 (pss_cons (ps_set (i := 2) sc_rekey.nd rfl (Or.inl rfl) (pe_dget hu (pv 0) (pe_dget hu (pv 1) pe_str (fun _ _ => rfl)) (fun _ _ => rfl)))
 (pss_cons (ps_set (i := 3) sc_rekey.nd rfl (Or.inl rfl) (pe_fld (pv 2) rfl))
 (pss_cons (ps_fld (pv 2) (pe_dget hu (pv 1) pe_str (fun _ _ => rfl)) rfl)
 (pss_one (ps_ret (pe_lst (pa_cons pe_int (pa_cons (pv 3) pa_nil))))))))), ?_⟩
  simp [start, t1.g]
  refine din_int hd ?_
  cases e : valV (dkv L) (Sum.inl i) with
  | none =>
   simp
   exact ⟨fits (by decide), fun p hp => q.new hI (SM.rekey_3 h1 h2 (hI.missing h1 e)) (by decide) hp⟩
  | some v =>
   obtain ⟨x, hx, en, hen, er, eid, exn, rfl⟩ := hI.found h1 e
   have he := hI.ents.at_ x hx
   simp [t1.g]
   refine dget_int hd e ?_
   simp [he.flds, t2.g]
   refine he.setK fun o ho => ?_
   refine ⟨fits (by decide), fun l hl => ?_⟩
   have nxd : d ≠ x.1 := (hI.ents.ne hx).symm
   let φ : REnt → REnt := fun r => if r.n = x.2.n then { r with k := k } else r
   have hE : Ents K (upd H x.1 o) d (mapE φ L) := by
    refine hI.one hx (φ := φ) (upd_ne nxd) ⟨o, upd_same, by simp only [φ, if_pos]; exact ho⟩ (fun r => by simp only [φ]; split <;> rfl) (fun r hr => if_neg hr) fun y hy ne => (hI.ents.at_ y hy).updNe ne
   have e2 : ∀ e ∈ D, ((e.id : Int) = x.2.n ↔ e.id = i.toNat) := fun e _ => by rw [exn]; omega
   have hrel : (mapE φ L).map (·.2) = (SM.setE i.toNat { en with key := k } D).map raw := by
    refine map_rel (ψ := fun e => if e.id = i.toNat then { en with key := k } else e) hI.rel fun e hee => ?_
    simp only [φ]
    by_cases c : e.id = i.toNat
    ·have : e = en := SM.id_inj hI.ids hee hen (by rw [c, eid])
     rw [if_pos c, if_pos (show (raw e).n = x.2.n from (e2 e hee).mpr c), this]
     rfl
    ·rw [if_neg c, if_neg (show ¬ (raw e).n = x.2.n from fun z => c ((e2 e hee).mp z))]
   refine q _ l _ _ [0, en.key] (SM.rekey_ok h1 h2 hen eid) (hE.same (Same.new hl)) hrel ((Keep.ent he).trans (Keep.of (Same.new hl))) ?_ (by simp)
   rw [upd_same, er]
   rfl
end
end L2
end
section
namespace L2
open PySem PySem.Spec PyProof.Rows
open Vabiti (Call)
section
variable {P : Program} {w : World} {K : PySem.W.Frag} {mg : Str → Option Value} {base : Heap} {H H' H2 : Hp} {d p : Addr} {D : List VE} {L C : List (Addr × REnt)} {o : HO} {Q : VK} {cl : Call}
theorem mom_le {b : Nat} {v : Int} (hb : b ≤ Vabiti.NEVER) (hv : SM.MomR v) : decide (pend b ≤ v) = decide (b ≤ v.toNat) := by
 have e : v = pend v.toNat := by rw [pend_nat (by omega)]; omega
 have hn := SM.never_eq
 rw [decide_eq_decide]
 conv => lhs; rw [e]
 exact pend_le hb (by omega)
theorem mom_lt {b : Nat} {v : Int} (hb : b ≤ Vabiti.NEVER) (hv : SM.MomR v) : decide (v < pend b) = decide (v.toNat < b) := by
 have e : v = pend v.toNat := by rw [pend_nat (by omega)]; omega
 have hn := SM.never_eq
 rw [decide_eq_decide]
 conv => lhs; rw [e]
 exact pend_lt (by omega) hb
theorem nd_take {α : Type} : ∀ {l : List α} {i : Nat} {x : α}, l.Nodup → l[i]? = some x → x ∉ l.take i
 | [], _, _, _, h => by simp at h
 | _ :: _, 0, _, _, _ => by simp
 | a :: l, i + 1, x, nd, h => by
  rw [List.nodup_cons] at nd
  have h' : l[i]? = some x := by simpa using h
  rw [List.take_succ_cons, List.mem_cons, not_or]
  exact ⟨fun e => nd.1 (by rw [← e]; exact List.mem_of_getElem? h'), nd_take nd.2 h'⟩
def sp_purge (K : PySem.W.Frag) : Sp := fun vs H Q _ => ∃ (d t : Addr) (D : List VE) (L : List (Addr × REnt)) (v : Int), vs = [.ref d, .ref t] ∧ InD K H d D L ∧ Told H t "v" v ∧ t ≠ d ∧ SM.MomR v ∧ Tells K H d D (.purge v) Q
theorem ok_purge {f : Addr} {fd : FuncData} (F : Fun K "purge" "purge" s_purge f fd) (T : Txt K mg) (D_remove_all : Df P w K mg base 1 "remove_all" ["entries", "gone"] (sp_remove_all K)) : FnOk P w K mg base CX0 2 f fd ["entries", "told"] (sp_purge K) := by
 refine F.ok sc_purge (fun vs H Q E h => ?_) (fun cdv A outer s H vs Q E hr h => ?_)
 ·obtain ⟨d, t, D, L, v, rfl, _⟩ := h
  rfl
 ·obtain ⟨d, t, D, L, v, rfl, hI, t1, nt, hv, q⟩ := h
  have hu := hu_of hr
  have hE := hI.ents
  refine ⟨_, (pss_cons (ps_lock (ps_setLc rfl sc_purge.nd (i := 2) rfl rfl (sw_true rfl rfl rfl rfl) (pi_values (pv 0)) (blkOk_by (own := [("entry", 3)]) (by rfl)) (fun _ _ _ _ _ => pg_name (i := 3) sc_purge.nd rfl (Or.inl rfl)) (fun _ _ _ _ _ => (pts_one (pt_cmpR op_le (pe_fldB K (pv 3) rfl) (pe_dget hu (pv 1) pe_str (fun _ _ => rfl)) (nomark _)))) (fun _ _ _ _ _ => (pv 3))))
 (pss_cons (ps_expr (pe_fn D_remove_all (hr.mono (by decide)) rfl (pa_cons (pv 0) (pa_cons (pv 2) pa_nil))))
 (pss_one (ps_ret (pe_lst (pa_cons (pe_callB call_len_seq (by rfl) T.len PySem.boot_len (pa_cons (pv 2) pa_nil)) pa_nil)))))), ?_⟩
  simp [start]
  refine lock_lcS (xs := L) (f := refA) (g := refA) (p := fun x => decide (x.2.b ≤ v)) hE.dict (Ents.vals L) rfl (by have := hI.z; omega) (fun x hx H2 k s hk => ?_) (fun x hx hp H2 k s hk => ?_) (fun l H' h1 h2 h3 => ?_)
  ·have he := (hE.at_ x hx).b s (hE.ne hx)
   simp [wipe, he.flds, (t1.b s nt).g]
   exact hk H2 (Same.refl _)
  ·simp [wipe]
   exact hk
  ·simp
   refine ⟨d, l, L, fun x => decide (x.2.b ≤ v), rfl, hE.same h2, h3, fun H3 s3 hE3 => ?_⟩
   simp
   refine ⟨_, .inl (SqL.of (s3 _ _ h3 (ne_of_none hE.dict h1).symm)), fits (by decide), fun p hp => ?_⟩
   have key : ∀ e ∈ D, decide ((raw e).b ≤ v) = decide (e.b ≤ v.toNat) := fun e he => mom_le (hI.good e he).b hv
   have hr1 := filter_rel (p := fun r => decide (r.b ≤ v)) hI.rel key
   have hr2 := filter_rel (p := fun r => !decide (r.b ≤ v)) (q := fun e => !decide (e.b ≤ v.toNat)) hI.rel fun e he => by rw [key e he]
   refine q _ p _ _ [(((D.filter fun e => decide (e.b ≤ v.toNat)).length : Nat) : Int)] (SM.purge_ok hv) (hE3.same (Same.new hp)) hr2 (((Keep.of h2).trans (Keep.dict (h2 _ _ hE.dict) s3)).trans (Keep.of (Same.new hp))) ?_ (by simp)
   have hz := congrArg List.length hr1
   rw [List.length_map, List.length_map] at hz
   rw [upd_same, List.length_map, ← hz]
   rfl
def sp_close (K : PySem.W.Frag) : Sp := fun vs H Q _ => ∃ (d t : Addr) (D : List VE) (L : List (Addr × REnt)) (j k v : Int), vs = [.ref d, .ref t] ∧ InD K H d D L ∧ Told H t "j" j ∧ Told H t "k" k ∧ Told H t "v" v ∧ SM.KeyR j ∧ SM.KeyR k ∧ SM.MomR v ∧ Tells K H d D (.close j k v) Q
theorem ok_close {f : Addr} {fd : FuncData} (F : Fun K "close" "close" s_close f fd) (T : Txt K mg) (D_remove_all : Df P w K mg base 1 "remove_all" ["entries", "gone"] (sp_remove_all K)) (D_with_keys : Df P w K mg base 1 "with_keys" ["entries", "low", "high"] (sp_with_keys K)) : FnOk P w K mg base CX0 2 f fd ["entries", "told"] (sp_close K) := by
 refine F.ok sc_close (fun vs H Q E h => ?_) (fun cdv A outer s H vs Q E hr h => ?_)
 ·obtain ⟨d, t, D, L, j, k, v, rfl, _⟩ := h
  rfl
 ·obtain ⟨d, t, D, L, j, k, v, rfl, hI, t1, t2, t3, hj, hk, hv, q⟩ := h
  have hu := hu_of hr
  have hE := hI.ents
  refine ⟨_, (pss_cons (ps_set (i := 2) sc_close.nd rfl (Or.inr rfl) (pe_dget hu (pv 1) pe_str (fun _ _ => rfl)))
 (pss_cons (ps_set (i := 3) sc_close.nd rfl (Or.inl rfl) (pe_fn D_with_keys (hr.mono (by decide)) rfl (pa_cons (pv 0) (pa_cons (pe_dget hu (pv 1) pe_str (fun _ _ => rfl)) (pa_cons (pe_dget hu (pv 1) pe_str (fun _ _ => rfl)) pa_nil)))))
 (pss_cons (ps_setLc rfl sc_close.nd (i := 4) rfl rfl (sw_true rfl rfl rfl rfl) (pi_list (pv 3)) (blkOk_by (own := [("entry", 5)]) (by rfl)) (fun _ _ _ _ _ => pg_name (i := 5) sc_close.nd rfl (Or.inl rfl)) (fun _ _ _ _ _ => (pts_one (pt_cmpR op_ge (pe_fldB K (pv 5) rfl) (pv 2) (nomark _)))) (fun _ _ _ _ _ => (pv 5)))
 (pss_cons (ps_setLc rfl sc_close.nd (i := 6) rfl rfl (sw_true rfl rfl rfl rfl) (pi_list (pv 3)) (blkOk_by (own := [("entry", 5)]) (by rfl)) (fun _ _ _ _ _ => pg_name (i := 5) sc_close.nd rfl (Or.inl rfl)) (fun _ _ _ _ _ => (pts_one (PW.pt (pw_and (pt_cmpR op_lt (pe_fldB K (pv 5) rfl) (pv 2) (nomark _)) (pw_and1 (pt_cmpR op_gt (pe_fldB K (pv 5) rfl) (pv 2) (nomark _))))))) (fun _ _ _ _ _ => (pv 5)))
 (pss_cons (ps_expr (pe_fn D_remove_all (hr.mono (by decide)) rfl (pa_cons (pv 0) (pa_cons (pv 4) pa_nil))))
 (pss_cons (ps_for PassesOwn.never rfl (pi_list (pv 6)) (pg_name (i := 5) sc_close.nd rfl (Or.inl rfl))
 (pss_one (ps_fld (pv 5) (pv 2) rfl)))
 (pss_one (ps_ret (pe_lst (pa_cons (pe_callB call_len_seq (by rfl) T.len PySem.boot_len (pa_cons (pv 6) pa_nil)) (pa_cons (pe_callB call_len_seq (by rfl) T.len PySem.boot_len (pa_cons (pv 4) pa_nil)) pa_nil))))))))))), ?_⟩
  simp [start, t1.g, t2.g, t3.g]
  refine ⟨d, j, k, L, rfl, hE, hI.z, fun m H1 m0 s1 m1 => ?_⟩
  have hE1 := hE.same s1
  simp
  refine lc_lst (xs := L.filter fun x => inK j k x.2) (f := refA) (g := refA) (p := fun x => decide (v ≤ x.2.a)) (a := m) (fun R r => by simp; exact r) (SqL.of m1) (by have := hI.z; have := List.length_filter_le (fun x => inK j k x.2) L; omega) (fun x hx H2 k s hk => ?_) (fun x hx hp H2 k s hk => ?_) (fun g H2 g0 s2 g1 => ?_)
  ·have he := (hE1.at_ x (List.mem_filter.mp hx).1).same s
   simp [wipe, he.flds]
   exact hk H2 (Same.refl _)
  ·simp [wipe]
   exact hk
  have hE2 := hE1.same s2
  refine lc_lst (xs := L.filter fun x => inK j k x.2) (f := refA) (g := refA) (p := fun x => decide (x.2.a < v) && decide (v < x.2.b)) (a := m) (fun R r => by simp; exact r) (SqL.of (s2 _ _ m1)) (by have := hI.z; have := List.length_filter_le (fun x => inK j k x.2) L; omega) (fun x hx H2 k s hk => ?_) (fun x hx hp H2 k s hk => ?_) (fun c H3 c0 s3 c1 => ?_)
  ·have he := (hE2.at_ x (List.mem_filter.mp hx).1).same s
   have hk' := hk H2 (Same.refl _)
   simp [wipe, he.flds]
   refine ite2 (fun c1 => ?_) (fun c1 => ?_)
   ·simpa [c1] using hk'
   ·simpa [c1] using hk'
  ·simp [wipe]
   exact hk
  have hE3 := hE2.same s3
  rw [List.filter_filter] at g1 c1
  refine ⟨d, g, L, fun x => decide (v ≤ x.2.a) && inK j k x.2, rfl, hE3, s3 _ _ g1, fun H4 s4 hE4 => ?_⟩
  simp
  let L1 := L.filter fun x => !(decide (v ≤ x.2.a) && inK j k x.2)
  let p1 : Addr × REnt → Bool := fun a => decide (a.2.a < v) && decide (v < a.2.b) && inK j k a.2
  have hE4 : Ents K H4 d L1 := hE4
  have eC : L.filter p1 = L1.filter p1 := by
   simp only [L1]
   rw [List.filter_filter]
   refine List.filter_congr fun x _ => ?_
   simp only [p1]
   rw [Bool.eq_iff_iff]
   simp
   omega
  have c4 : H4 c = some (.lst ((L1.filter p1).map refA)) := by
   rw [← eC]
   exact s4 _ _ c1 (ne_of_none (hE2.dict) c0).symm
  have g4 : H4 g = some (.lst ((L.filter fun x => decide (v ≤ x.2.a) && inK j k x.2).map refA)) := s4 _ _ (s3 _ _ g1) (ne_of_none hE1.dict g0).symm
  have nl : ∀ {b : Addr} {xs : List V}, H4 b = some (.lst xs) → ∀ y ∈ L1, b ≠ y.1 := fun e y hy => ((hE4.at_ y hy).ne e fun _ _ _ z => by cases z).symm
  refine ⟨_, rfl, c, rfl, ⟨_, SqL.of c4⟩, for_wk (wk_list (K := K) (a := c) (xs := (L1.filter p1).map refA)) (fun i σ H' => ∃ e : Option V, σ = [some (.ref d), some (.ref t), some (.int v), some (.ref m), some (.ref g), e, some (.ref c)] ∧ UpdI K H4 H' L1 (L1.filter p1) (fun r => { r with b := v }) i) ⟨none, rfl, UpdI.zero hE4.at_⟩ (fun i σ H' _ h => ?_) (fun i σ H' hi h => ?_) (fun σ H' h => ?_)⟩
  ·obtain ⟨e, _, U⟩ := h
   exact SqL.of (U.keep _ _ c4 (nl c4))
  ·obtain ⟨e, rfl, U⟩ := h
   rw [List.length_map] at hi
   have hx : (L1.filter p1)[i]? = some (L1.filter p1)[i] := List.getElem?_eq_getElem hi
   have e1 : ((L1.filter p1).map refA).getD i .non = refA (L1.filter p1)[i] := by simp [hx]
   have hm := (List.mem_filter.mp (List.getElem_mem hi)).1
   have hnt : (L1.filter p1)[i] ∉ (L1.filter p1).take i := nd_take (nd_of_map (List.Nodup.sublist (List.Sublist.map _ List.filter_sublist) hE4.nda)) hx
   rw [e1]
   simp
   refine (U.todo _ hm hnt).setB fun o ho => ?_
   exact U.step hE4.nda List.filter_sublist hx ho
  ·obtain ⟨e, rfl, U⟩ := h
   rw [List.length_map] at U
   have hd5 : H' d = some (.dK (dkv L1)) := U.keep _ _ hE4.dict fun y hy => (hE4.ne hy).symm
   have c5 := U.keep _ _ c4 (nl c4)
   have g5 := U.keep _ _ g4 (nl g4)
   let φ : REnt → REnt := fun r => if (decide (r.a < v) && decide (v < r.b) && inK j k r) = true then { r with b := v } else r
   have hE5 : Ents K H' d (mapE φ L1) := by
    refine hE4.map (fun r => by simp only [φ]; split <;> rfl) hd5 fun y hy => ?_
    simp only [φ]
    by_cases cy : p1 y = true
    ·rw [if_pos cy]
     exact U.done y (by rw [List.take_length]; exact List.mem_filter.mpr ⟨hy, cy⟩)
    ·rw [if_neg cy]
     exact U.todo y hy fun z => cy (by rw [List.take_length] at z; exact (List.mem_filter.mp z).2)
   simp
   refine ⟨_, .inl (SqL.of c5), _, .inl (SqL.of g5), fits (by decide), fun p hp => ?_⟩
   have kin : ∀ e : VE, inK j k (raw e) = Vabiti.inKeys j k e := fun e => rfl
   have ea : ∀ e : VE, decide ((raw e).a < v) = decide (e.a < v.toNat) := fun e => by
    rw [decide_eq_decide]
    show (e.a : Int) < v ↔ _
    omega
   have ea' : ∀ e : VE, decide (v ≤ (raw e).a) = decide (v.toNat ≤ e.a) := fun e => by
    rw [decide_eq_decide]
    show v ≤ (e.a : Int) ↔ _
    omega
   have eb : ∀ e ∈ D, decide (v < (raw e).b) = decide (v.toNat < e.b) := fun e he => mom_lt (hI.good e he).b hv
   have hr1 : L1.map (·.2) = (D.filter fun e => !SM.goneBy j k v.toNat e).map raw := by
    refine filter_rel (p := fun r => !(decide (v ≤ r.a) && inK j k r)) hI.rel fun e he => ?_
    rw [ea', kin]
    unfold SM.goneBy
    rw [Bool.and_comm]
   have hr2 : (mapE φ L1).map (·.2) = ((D.filter fun e => !SM.goneBy j k v.toNat e).map (SM.closed j k v.toNat)).map raw := by
    refine map_rel hr1 fun e he => ?_
    have heD := (List.mem_filter.mp he).1
    simp only [φ]
    rw [ea, eb e heD, kin]
    unfold SM.closed Vabiti.ended
    have e1 : ((v.toNat : Nat) : Int) = v := by omega
    cases ck : Vabiti.inKeys j k e with
    | false => simp
    | true =>
     by_cases c1 : e.a < v.toNat <;> by_cases c2 : v.toNat < e.b <;> simp [c1, c2]
     unfold raw
     simp only
     rw [pend_nat (by omega), e1]
   have hr3 := filter_rel (p := fun r => decide (v ≤ r.a) && inK j k r) (q := SM.goneBy j k v.toNat) hI.rel fun e he => by
    rw [ea', kin]
    unfold SM.goneBy
    rw [Bool.and_comm]
   have hr4 := filter_rel (p := fun r => decide (r.a < v) && decide (v < r.b) && inK j k r) (q := SM.cutBy j k v.toNat) hI.rel fun e he => by
    rw [ea, eb e he, kin]
    unfold SM.cutBy
    rw [Bool.and_comm]
   refine q _ p _ _ _ (SM.close_ok hj hk hv) (hE5.same (Same.new hp)) hr2 ?_ ?_ (by simp)
   ·refine ((((Keep.of s1).trans (Keep.of s2)).trans (Keep.of s3)).trans ((Keep.dict hE3.dict s4).trans ?_)).trans (Keep.of (Same.new hp))
    intro b o e n1 n2
    refine U.keep b o e fun y hy z => ?_
    obtain ⟨u, eu, C, dx, _, rfl⟩ := hE4.at_ y hy
    rw [z, eu] at e
    exact n2 C dx _ (Option.some.inj e).symm
   ·have z3 := congrArg List.length hr3
    have z4 := congrArg List.length hr4
    rw [List.length_map, List.length_map] at z3 z4
    rw [upd_same, List.length_map, List.length_map, ← eC]
    simp only [List.map_cons, List.map_nil]
    rw [← z3, ← z4]
theorem EntAt.addA {r : REnt} {n : Int} {ta tv : TE} {Dn : Ends} {σ : St} (h : EntAt K H p r) (ha : ∀ R : VK, R (.ref p) H → ta σ H R) (hv : ∀ R : VK, R (.int n) H → tv σ H R) (hk : ∀ o, EntO K o { r with a := r.a + n } → Dn.nx σ (L2.upd H p o)) : sFldAug K ta tv rAdd "first" Dn σ H := by
 obtain ⟨o, e, C, dx, c, rfl⟩ := h
 exact ha _ ⟨p, C, dx, _, _, rfl, e, c.cl, c.a3, rfl, hv _ ⟨_, _, rfl, rfl, dx, _, e, by show 4 < 1000; decide, hk _ ⟨C, dx, c, rfl⟩⟩⟩
theorem EntAt.addB {r : REnt} {n : Int} {ta tv : TE} {Dn : Ends} {σ : St} (h : EntAt K H p r) (ha : ∀ R : VK, R (.ref p) H → ta σ H R) (hv : ∀ R : VK, R (.int n) H → tv σ H R) (hk : ∀ o, EntO K o { r with b := r.b + n } → Dn.nx σ (L2.upd H p o)) : sFldAug K ta tv rAdd "end" Dn σ H := by
 obtain ⟨o, e, C, dx, c, rfl⟩ := h
 exact ha _ ⟨p, C, dx, _, _, rfl, e, c.cl, c.a4, rfl, hv _ ⟨_, _, rfl, rfl, dx, _, e, by show 4 < 1000; decide, hk _ ⟨C, dx, c, rfl⟩⟩⟩
def shR (n : Int) (r : REnt) : REnt := { r with a := r.a + n, b := if r.b = BIG then r.b else r.b + n }
theorem lastB_raw {e : VE} (g : SM.Good e) : lastB (raw e) = ((SM.lastB e : Nat) : Int) := by
 unfold lastB SM.lastB
 by_cases c : e.b = Vabiti.NEVER
 ·rw [if_pos c, if_pos (show (raw e).b = BIG from (pend_big g.b).mpr c)]
  rfl
 ·rw [if_neg c, if_neg (show ¬ (raw e).b = BIG from fun z => c ((pend_big g.b).mp z))]
  show pend e.b = _
  unfold pend
  rw [if_neg c]
def sp_shift (K : PySem.W.Frag) : Sp := fun vs H Q _ => ∃ (d t : Addr) (D : List VE) (L : List (Addr × REnt)) (j k n : Int), vs = [.ref d, .ref t] ∧ InD K H d D L ∧ Told H t "j" j ∧ Told H t "k" k ∧ Told H t "n" n ∧ SM.KeyR j ∧ SM.KeyR k ∧ SM.MomR n ∧ Tells K H d D (.shift j k n) Q
theorem ok_shift {f : Addr} {fd : FuncData} (F : Fun K "shift" "shift" s_shift f fd) (T : Txt K mg) (D_with_keys : Df P w K mg base 1 "with_keys" ["entries", "low", "high"] (sp_with_keys K)) (D_last_bound : Df P w K mg base 1 "last_bound" ["entry"] (sp_last_bound K)) : FnOk P w K mg base CX0 2 f fd ["entries", "told"] (sp_shift K) := by
 refine F.ok sc_shift (fun vs H Q E h => ?_) (fun cdv A outer s H vs Q E hr h => ?_)
 ·obtain ⟨d, t, D, L, j, k, n, rfl, _⟩ := h
  rfl
 ·obtain ⟨d, t, D, L, j, k, n, rfl, hI, t1, t2, t3, hj, hk, hn, q⟩ := h
  have hu := hu_of hr
  have hE := hI.ents
  refine ⟨_, (pss_cons (ps_set (i := 2) sc_shift.nd rfl (Or.inl rfl) (pe_fn D_with_keys (hr.mono (by decide)) rfl (pa_cons (pv 0) (pa_cons (pe_dget hu (pv 1) pe_str (fun _ _ => rfl)) (pa_cons (pe_dget hu (pv 1) pe_str (fun _ _ => rfl)) pa_nil)))))
 (pss_cons (ps_for PassesOwn.never rfl (pi_list (pv 2)) (pg_name (i := 3) sc_shift.nd rfl (Or.inl rfl))
 (pss_one (ps_if (pt_cmpR op_gt (pe_op op_add (pe_fn D_last_bound (hr.mono (by decide)) rfl (pa_cons (pv 3) pa_nil)) (pe_dget hu (pv 1) pe_str (fun _ _ => rfl))) (pe_gint T.g_LAST_MOMENT rfl) (nomark _))
 (pss_one (ps_ret (pe_lst (pa_cons (pe_gint T.g_BEYOND_LAST_MOMENT rfl) pa_nil))))
 pss_nil)))
 (pss_cons (ps_for PassesOwn.never rfl (pi_list (pv 2)) (pg_name (i := 3) sc_shift.nd rfl (Or.inl rfl))
 (pss_cons (ps_fldaug (pv 3) (pe_dget hu (pv 1) pe_str (fun _ _ => rfl)) in_add)
 (pss_one (ps_if (pt_cmpR op_ne (pe_fld (pv 3) rfl) (pe_gint T.g_NEVER rfl) (nomark _))
 (pss_one (ps_fldaug (pv 3) (pe_dget hu (pv 1) pe_str (fun _ _ => rfl)) in_add))
 pss_nil))))
 (pss_one (ps_ret (pe_lst (pa_cons (pe_callB call_len_seq (by rfl) T.len PySem.boot_len (pa_cons (pv 2) pa_nil)) pa_nil))))))), ?_⟩
  simp [start, t1.g, t2.g]
  refine ⟨d, j, k, L, rfl, hE, hI.z, fun m H1 m0 s1 m1 => ?_⟩
  have hE1 := hE.same s1
  have t31 := t3.same s1
  let C := L.filter fun x => inK j k x.2
  have m1 : H1 m = some (.lst (C.map refA)) := m1
  have subC : C.Sublist L := List.filter_sublist
  have kin : ∀ e : VE, inK j k (raw e) = Vabiti.inKeys j k e := fun e => rfl
  simp
  refine ⟨_, rfl, m, rfl, ⟨_, SqL.of m1⟩, for_wk (wk_list (K := K) (a := m) (xs := C.map refA)) (fun i σ H' => ∃ e : Option V, σ = [some (.ref d), some (.ref t), some (.ref m), e] ∧ H' = H1 ∧ ∀ x ∈ C.take i, lastB x.2 + n ≤ 1000000000) ⟨none, rfl, rfl, fun x hx => by simp at hx⟩ (fun i σ H' _ h => ?_) (fun i σ H' hi h => ?_) (fun σ H' h => ?_)⟩
  ·obtain ⟨e, _, rfl, _⟩ := h
   exact SqL.of m1
  ·obtain ⟨e, rfl, rfl, hall⟩ := h
   rw [List.length_map] at hi
   have hx : C[i]? = some C[i] := List.getElem?_eq_getElem hi
   have e1 : (C.map refA).getD i .non = refA C[i] := by simp [hx]
   have hm := List.getElem_mem hi
   have he := hE1.at_ _ (subC.subset hm)
   rw [e1]
   simp
   refine ⟨_, _, rfl, he, ?_⟩
   simp [t31.g]
   refine ite2 (fun c => ?_) (fun c => ?_)
   ·refine ⟨fits (by decide), fun p hp => (q.just hI (SM.shift_5 hj hk hn fun hall2 => ?_) (by decide) (s1.trans (Same.new hp)) upd_same)⟩
    obtain ⟨e, he, er⟩ := hI.mem (subC.subset hm)
    have h2 := hall2 e he (by rw [← kin, er]; exact (List.mem_filter.mp hm).2)
    rw [← er, lastB_raw (hI.good e he)] at c
    omega
   ·intro xa xb hx'
    rw [take_snoc' hx] at hx'
    rcases List.mem_append.mp hx' with z | z
    ·exact hall (xa, xb) z
    ·rw [List.mem_singleton] at z
     have z2 : xb = C[i].2 := congrArg Prod.snd z
     rw [z2]
     omega
  ·obtain ⟨e, rfl, rfl, hall⟩ := h
   rw [List.length_map, List.take_length] at hall
   have nl : ∀ {b : Addr} {xs : List V}, H' b = some (.lst xs) → ∀ y ∈ L, b ≠ y.1 := fun e y hy => ((hE1.at_ y hy).ne e fun _ _ _ z => by cases z).symm
   have nt : ∀ y ∈ L, t ≠ y.1 := fun y hy => t31.ne (hE1.at_ y hy)
   refine ⟨_, rfl, m, rfl, ⟨_, SqL.of m1⟩, for_wk (wk_list (K := K) (a := m) (xs := C.map refA)) (fun i σ H2 => ∃ e : Option V, σ = [some (.ref d), some (.ref t), some (.ref m), e] ∧ UpdI K H' H2 L C (shR n) i) ⟨e, rfl, UpdI.zero hE1.at_⟩ (fun i σ H2 _ h => ?_) (fun i σ H2 hi h => ?_) (fun σ H2 h => ?_)⟩
   ·obtain ⟨e, _, U⟩ := h
    exact SqL.of (U.keep _ _ m1 (nl m1))
   ·obtain ⟨e, rfl, U⟩ := h
    rw [List.length_map] at hi
    have hx : C[i]? = some C[i] := List.getElem?_eq_getElem hi
    have e1 : (C.map refA).getD i .non = refA C[i] := by simp [hx]
    have hm := subC.subset (List.getElem_mem hi)
    have hnt : C[i] ∉ C.take i := nd_take (nd_of_map (List.Nodup.sublist (List.Sublist.map _ subC) hE1.nda)) hx
    have t3U : Told H2 t "n" n := let ⟨kvs, ek, rk⟩ := t31; ⟨kvs, U.keep _ _ ek nt, rk⟩
    rw [e1]
    simp
    refine (U.todo _ hm hnt).addA (n := n) (fun R r => by simp; exact r) (fun R r => by simp [t3U.g]; exact r) fun o ho => ?_
    have he2 : EntAt K (upd H2 C[i].1 o) C[i].1 { C[i].2 with a := C[i].2.a + n } := ⟨o, upd_same, ho⟩
    simp [he2.flds]
    refine ite2 (fun c => ?_) (fun c => ?_)
    ·exact U.step hE1.nda subC hx (by unfold shR; rw [if_pos c]; exact ho)
    ·refine he2.addB (n := n) (fun R r => by simp; exact r) (fun R r => by simp [(t3U.updNe (nt _ hm)).g]; exact r) fun o2 ho2 => ?_
     rw [upd_upd]
     have : EntO K o2 (shR n C[i].2) := by unfold shR; rw [if_neg c]; exact ho2
     simp
     exact U.step hE1.nda subC hx this
   ·obtain ⟨e, rfl, U⟩ := h
    rw [List.length_map] at U
    have hd5 : H2 d = some (.dK (dkv L)) := U.keep _ _ hE1.dict fun y hy => (hE1.ne hy).symm
    have m5 := U.keep _ _ m1 (nl m1)
    let φ : REnt → REnt := fun r => if inK j k r = true then shR n r else r
    have hE5 : Ents K H2 d (mapE φ L) := by
     refine hE1.map (fun r => by simp only [φ]; split <;> rfl) hd5 fun y hy => ?_
     simp only [φ]
     by_cases cy : inK j k y.2 = true
     ·rw [if_pos cy]
      exact U.done y (by rw [List.take_length]; exact List.mem_filter.mpr ⟨hy, cy⟩)
     ·rw [if_neg cy]
      exact U.todo y hy fun z => cy (by rw [List.take_length] at z; exact (List.mem_filter.mp z).2)
    simp
    refine ⟨_, .inl (SqL.of m5), fits (by decide), fun p hp => ?_⟩
    have hr2 : (mapE φ L).map (·.2) = (D.map (SM.shiftedIn j k n.toNat)).map raw := by
     refine map_rel hI.rel fun e he => ?_
     simp only [φ]
     unfold SM.shiftedIn
     rw [kin]
     cases ck : Vabiti.inKeys j k e with
     | false => simp
     | true =>
      simp only [if_true]
      have g := hI.good e he
      have gb := g.b
      unfold shR Vabiti.shifted raw
      have e1 : ((n.toNat : Nat) : Int) = n := by omega
      have hN := SM.never_eq
      simp only
      by_cases cb : e.b = Vabiti.NEVER
      ·rw [if_pos ((pend_big gb).mpr cb), if_pos cb, cb]
       simp [e1]
      ·rw [if_neg (fun z => cb ((pend_big gb).mp z)), if_neg cb]
       obtain ⟨x, hx, ex⟩ := hI.mem' he
       have := hall x (List.mem_filter.mpr ⟨hx, by rw [ex, kin]; exact ck⟩)
       rw [ex, lastB_raw g] at this
       unfold SM.lastB at this
       rw [if_neg cb] at this
       rw [pend_nat (show e.b ≤ 1000000000 by omega), pend_nat (show e.b + n.toNat ≤ 1000000000 by omega)]
       simp [e1]
    have hr3 := filter_rel (p := fun r => inK j k r) (q := Vabiti.inKeys j k) hI.rel fun e he => rfl
    have hok : ∀ e ∈ D, Vabiti.inKeys j k e = true → SM.lastB e + n.toNat ≤ 1000000000 := fun e he ck => by
     obtain ⟨x, hx, ex⟩ := hI.mem' he
     have := hall x (List.mem_filter.mpr ⟨hx, by rw [ex, kin]; exact ck⟩)
     rw [ex, lastB_raw (hI.good e he)] at this
     omega
    refine q _ p _ _ _ (SM.shift_ok hj hk hn hok) (hE5.same (Same.new hp)) hr2 ?_ ?_ (by simp)
    ·refine ((Keep.of s1).trans ?_).trans (Keep.of (Same.new hp))
     intro b o e n1 n2
     refine U.keep b o e fun y hy z => ?_
     obtain ⟨u, eu, C, dx, _, rfl⟩ := hE1.at_ y hy
     rw [z, eu] at e
     exact n2 C dx _ (Option.some.inj e).symm
    ·have z3 := congrArg List.length hr3
     rw [List.length_map, List.length_map] at z3
     rw [upd_same, List.length_map]
     simp only [List.map_cons, List.map_nil]
     rw [← z3]
end
end L2
end
section
namespace L2
open PySem PySem.Spec PyProof.Rows
open Vabiti (Call least greatest weight)
abbrev VT := Vabiti.Tree
def forB (J : It) (g : TG) (tb : TS) (D : Ends) (σ : St) (H1 : Hp) : Prop := ∃ W : Nat → Nat → St → Hp → Prop, (∃ m, W 0 m σ H1) ∧ ∀ i m σ H, W i m σ H →
 (J.stop i H ∧ D.nx σ H) ∨ (J.go i H ∧ ∃ N : St → Hp → Prop, (∀ σ' H', N σ' H' → ∃ m', m' < m ∧ W (i + 1) m' σ' H') ∧ ∀ x H', J.yld i H x H' → g x σ H' fun σ2 H2 => tb { D with nx := N, ct := N, bk := D.nx } σ2 H2)
theorem x_for {wi : TI} {g : TG} {tb : TS} {D : Ends} {σ : St} {H : Hp} : tFor wi g tb D σ H = wi σ H fun J H1 => forB J g tb D σ H1 := rfl
def itT (K : PySem.W.Frag) (x : V) (H1 : Hp) (R : It → Hp → Prop) : Prop := ∃ a, x = .ref a ∧ (∃ xs, SqT K H1 a xs) ∧ R (Itt K a) H1
def itL (K : PySem.W.Frag) (x : V) (H1 : Hp) (R : It → Hp → Prop) : Prop := ∃ a, x = .ref a ∧ (∃ xs, SqL K H1 a xs) ∧ R (Itl K a) H1
theorem x_iT {K : PySem.W.Frag} {tl : TE} {σ : St} {H : Hp} {R : It → Hp → Prop} : iTup K tl σ H R = tl σ H fun x H1 => itT K x H1 fun J H2 => R J H2 := rfl
theorem x_iL {K : PySem.W.Frag} {tl : TE} {σ : St} {H : Hp} {R : It → Hp → Prop} : iList K tl σ H R = tl σ H fun x H1 => itL K x H1 fun J H2 => R J H2 := rfl
theorem forT {K : PySem.W.Frag} {a : Addr} {xs : List V} {g : TG} {tb : TS} {D : Ends} {σ : St} {H : Hp} (Pv : Nat → St → Hp → Prop) (h0 : Pv 0 σ H) (hl : ∀ i σ H, i ≤ xs.length → Pv i σ H → SqT K H a xs)
  (hs : ∀ i σ H, i < xs.length → Pv i σ H → g (xs.getD i .non) σ H fun σ2 H2 => tb { D with nx := Pv (i + 1), ct := Pv (i + 1), bk := D.nx } σ2 H2) (hd : ∀ σ H, Pv xs.length σ H → D.nx σ H) : itT K (.ref a) H fun J H1 => forB J g tb D σ H1 :=
 ⟨a, rfl, ⟨_, hl 0 σ H (Nat.zero_le _) h0⟩, for_wk wk_tup Pv h0 hl hs hd⟩
theorem forL {K : PySem.W.Frag} {a : Addr} {xs : List V} {g : TG} {tb : TS} {D : Ends} {σ : St} {H : Hp} (Pv : Nat → St → Hp → Prop) (h0 : Pv 0 σ H) (hl : ∀ i σ H, i ≤ xs.length → Pv i σ H → SqL K H a xs)
  (hs : ∀ i σ H, i < xs.length → Pv i σ H → g (xs.getD i .non) σ H fun σ2 H2 => tb { D with nx := Pv (i + 1), ct := Pv (i + 1), bk := D.nx } σ2 H2) (hd : ∀ σ H, Pv xs.length σ H → D.nx σ H) : itL K (.ref a) H fun J H1 => forB J g tb D σ H1 :=
 ⟨a, rfl, ⟨_, hl 0 σ H (Nat.zero_le _) h0⟩, for_wk wk_list Pv h0 hl hs hd⟩
def wt (n : Int) : Int := (n * 48271 + 11) % 2147483647
theorem wt_id (n : Nat) : wt (n : Int) = ((weight n : Nat) : Int) := by
 unfold wt weight
 omega
def nodeR (q : Addr) (e : VE) (vl vr : V) (lo hi : Nat) : RNode := ⟨.ref q, (weight e.id : Nat), vl, vr, (lo : Int), pend hi⟩
def TGood : VT → Prop
 | .leaf => True
 | .node l e r => SM.Good e ∧ TGood l ∧ TGood r
theorem great_le : ∀ {t : VT}, TGood t → greatest t ≤ Vabiti.NEVER
 | .leaf, _ => Nat.zero_le _
 | .node l e r, h => by
  have h1 := great_le h.2.1
  have h2 := great_le h.2.2
  have h3 := h.1.b
  show max (greatest l) (max e.b (greatest r)) ≤ _
  omega
def TreeAt (K : PySem.W.Frag) (H : Hp) (S : Addr → Prop) : V → VT → Prop
 | v, .leaf => v = .non
 | v, .node l e r => ∃ p q vl vr, v = .ref p ∧ S p ∧ NodeAt K H p (nodeR q e vl vr (least (.node l e r)) (greatest (.node l e r))) ∧ EntAt K H q (raw e) ∧ TreeAt K H S vl l ∧ TreeAt K H S vr r
section
variable {P : Program} {w : World} {K : PySem.W.Frag} {mg : Str → Option Value} {base : Heap} {H H' H2 : Hp} {S S' : Addr → Prop} {Q : VK}
theorem TreeAt.frame (k : ∀ b o, H b = some o → (S b ∨ ∃ r, EntAt K H b r) → H' b = some o) (hS : ∀ b, S b → S' b) : ∀ {t : VT} {v : V}, TreeAt K H S v t → TreeAt K H' S' v t
 | .leaf, _, h => h
 | .node l e r, v, h => by
  obtain ⟨p, q, vl, vr, ev, sp, ⟨o, eo, ho⟩, ⟨u, eu, hu⟩, hl, hr⟩ := h
  exact ⟨p, q, vl, vr, ev, hS p sp, ⟨o, k _ _ eo (.inl sp), ho⟩, ⟨u, k _ _ eu (.inr ⟨_, u, eu, hu⟩), hu⟩, TreeAt.frame k hS hl, TreeAt.frame k hS hr⟩
theorem TreeAt.same {t : VT} {v : V} (h : TreeAt K H S v t) (s : Same H H') : TreeAt K H' S v t := h.frame (fun b o e _ => s b o e) fun _ z => z
def sp_Node_init (K : PySem.W.Frag) : Sp := fun vs H Q _ => ∃ (x C dx p : Addr) (e : VE), vs = [.ref x, .ref p] ∧ ClN K C ∧ H x = some (.ins C dx []) ∧ EntAt K H p (raw e) ∧ e.id ≤ 999999 ∧ ∀ o, NodeO K o (nodeR p e .non .non e.a e.b) → Q .non (upd H x o)
theorem ok_Node_init {f : Addr} {fd : FuncData} (F : Fun K "__init__" "Node.__init__" s_Node_init f fd) (D_weight : Df P w K mg base 1 "weight" ["number"] sp_weight) : FnOk P w K mg base CX0 2 f fd ["self", "entry"] (sp_Node_init K) := by
 refine F.ok sc_Node_init (fun vs H Q E h => ?_) (fun cdv A outer s H vs Q E hr h => ?_)
 ·obtain ⟨x, C, dx, p, e, rfl, _⟩ := h
  rfl
 ·obtain ⟨x, C, dx, p, e, rfl, c, hx, he, hz, q⟩ := h
  refine ⟨_, (pss_cons (ps_fld (pv 0) (pv 1) rfl)
 (pss_cons (ps_fld (pv 0) (pe_fn D_weight (hr.mono (by decide)) rfl (pa_cons (pe_fld (pv 1) rfl) pa_nil)) rfl)
 (pss_cons (ps_fld (pv 0) pe_non rfl)
 (pss_cons (ps_fld (pv 0) pe_non rfl)
 (pss_cons (ps_fld (pv 0) (pe_fld (pv 1) rfl) rfl)
 (pss_one (ps_fld (pv 0) (pe_fld (pv 1) rfl) rfl))))))), ?_⟩
  have ne : p ≠ x := by
   obtain ⟨o, eo, C', dx', _, rfl⟩ := he
   refine ne_of eo hx fun z => ?_
   injection z with _ _ z
   cases z
  have hne : ∀ o, EntAt K (upd H x o) p (raw e) := fun o => he.updNe ne
  simp [start]
  refine set_of hx c.cl c.a1 (by show 0 < 1000; decide) ?_
  simp [(hne _).flds]
  refine ⟨_, rfl, by show (0 : Int) ≤ (e.id : Int); omega, by show (e.id : Int) ≤ 999999; omega, ?_⟩
  refine set_of upd_same c.cl c.a2 (by show 1 < 1000; decide) (set_of upd_same c.cl c.a3 (by show 2 < 1000; decide) (set_of upd_same c.cl c.a4 (by show 3 < 1000; decide) ?_))
  rw [upd_upd, upd_upd, upd_upd, (hne _).flds.2.2.1]
  refine set_of upd_same c.cl c.a5 (by show 4 < 1000; decide) ?_
  rw [upd_upd, (hne _).flds.2.2.2]
  refine set_of upd_same c.cl c.a6 (by show 5 < 1000; decide) ?_
  rw [upd_upd]
  refine q _ ⟨C, dx, c, ?_⟩
  unfold nodeR nf
  simp only [← wt_id]
  rfl
theorem mk_node {C p : Addr} {e : VE} {R : Addr → Hp → Prop} {E : XK} (hC : ClN K C) (he : EntAt K H p (raw e)) (hz : e.id ≤ 999999) (h : ∀ x H', H x = none → Same H H' → NodeAt K H' x (nodeR p e .non .non e.a e.b) → R x H') :
  ∀ x dx, H x = none → H dx = none → ¬ dx = x → sp_Node_init K [.ref x, .ref p] (upd (upd H dx (.own x)) x (.ins C dx [])) (fun v H2 => v = .non ∧ R x H2) E := by
 intro x dx hx hdx ne
 have s0 : Same H (upd (upd H dx (.own x)) x (.ins C dx [])) := fun b u e => by
  rw [upd_ne (ne_of_none e hx), upd_ne (ne_of_none e hdx)]
  exact e
 refine ⟨x, C, dx, p, e, rfl, hC, upd_same, he.same s0, hz, fun o ho => ⟨rfl, h x _ hx (fun b u e => ?_) ⟨o, upd_same, ho⟩⟩⟩
 rw [upd_ne (ne_of_none e hx)]
 exact s0 b u e
def sp_close_last (K : PySem.W.Frag) : Sp := fun vs H Q _ => ∃ (l p q : Addr) (qs : List V) (S : Addr → Prop) (tl tr : VT) (e : VE) (vl vr : V), vs = [.ref l] ∧ H l = some (.lst (qs ++ [.ref p])) ∧ NodeAt K H p (nodeR q e vl vr e.a e.b) ∧ TreeAt K H S vl tl ∧ TreeAt K H S vr tr ∧ ¬ S p ∧ SM.Good e ∧ TGood tl ∧ TGood tr ∧
 ∀ H', H' l = some (.lst qs) → NodeAt K H' p (nodeR q e vl vr (least (.node tl e tr)) (greatest (.node tl e tr))) → (∀ b o, H b = some o → b ≠ l → b ≠ p → H' b = some o) → Q (.ref p) H'
theorem pend_max {a b : Nat} (ha : a ≤ Vabiti.NEVER) (hb : b ≤ Vabiti.NEVER) : (if pend b > pend a then pend b else pend a) = pend (max a b) := by
 by_cases h : a < b
 ·rw [if_pos ((pend_lt ha hb).mpr h), Nat.max_eq_right (Nat.le_of_lt h)]
 ·rw [if_neg (fun z => h ((pend_lt ha hb).mp z)), Nat.max_eq_left (Nat.le_of_not_lt h)]
theorem ok_close_last {f : Addr} {fd : FuncData} (F : Fun K "close_last" "close_last" s_close_last f fd) (T : Txt K mg) : FnOk P w K mg base CX0 1 f fd ["open_nodes"] (sp_close_last K) := by
 refine F.ok sc_close_last (fun vs H Q E h => ?_) (fun cdv A outer s H vs Q E hr h => ?_)
 ·obtain ⟨l, p, q, qs, S, tl, tr, e, vl, vr, rfl, _⟩ := h
  rfl
 ·obtain ⟨l, p, q, qs, S, tl, tr, e, vl, vr, rfl, hl, hp, hL, hR, nS, ge, gl, gr, k⟩ := h
  refine ⟨_, (pss_cons (ps_set (i := 1) sc_close_last.nd rfl (Or.inl rfl) (pe_bm0 PySem.F.plainAttrs_list PySem.F.slot_list_pop PySem.F.type_list_pop mt_pop (pv 0)))
 (pss_cons (ps_for PassesOwn.never rfl (pi_tup (pe_tup (pa_cons (pe_fld (pv 1) rfl) (pa_cons (pe_fld (pv 1) rfl) pa_nil)))) (pg_name (i := 2) sc_close_last.nd rfl (Or.inl rfl))
 (pss_one (ps_if (pt_cmpR op_notN (pv 2) pe_non (nomark _))
 (pss_cons (ps_fld (pv 1) (pe_callB (call_min2 rfl) (by rfl) T.min boot_min (pa_cons (pe_fld (pv 1) rfl) (pa_cons (pe_fld (pv 2) rfl) pa_nil))) rfl)
 (pss_one (ps_fld (pv 1) (pe_callB (call_max2 rfl) (by rfl) T.max boot_max (pa_cons (pe_fld (pv 1) rfl) (pa_cons (pe_fld (pv 2) rfl) pa_nil))) rfl)))
 pss_nil)))
 (pss_one (ps_ret (pv 1))))), ?_⟩
  have npl : p ≠ l := hp.ne hl fun _ _ _ z => by cases z
  have hp1 : NodeAt K (upd H l (.lst qs)) p (nodeR q e vl vr e.a e.b) := hp.updNe npl
  simp [start, rPop, hl, x_for, x_iT, hp1.flds]
  refine ⟨.inl ⟨rfl, _, SqL.of hl⟩, fits (by decide), fun t ht => ?_⟩
  let H1 := upd (upd H l (.lst qs)) t (.tup [vl, vr])
  have hne : H t = none := by
   by_cases z : t = l
   ·rw [z, upd_same] at ht; cases ht
   ·rw [upd_ne z] at ht; exact ht
  have k1 : ∀ b o, H b = some o → b ≠ l → H1 b = some o := fun b o eb nb => by
   simp only [H1]
   rw [upd_ne (ne_of_none eb hne), upd_ne nb]
   exact eb
  have l1 : H1 l = some (.lst qs) := by
   simp only [H1]
   rw [upd_ne (ne_of_none hl hne), upd_same]
  have hp2 : NodeAt K H1 p (nodeR q e vl vr e.a e.b) := hp1.upd ht
  let lo : Nat → Nat := fun i => if i = 0 then e.a else if i = 1 then min e.a (least tl) else min (min e.a (least tl)) (least tr)
  let hi : Nat → Nat := fun i => if i = 0 then e.b else if i = 1 then max e.b (greatest tl) else max (max e.b (greatest tl)) (greatest tr)
  have g1 := great_le gl
  have g2 := great_le gr
  have g3 := ge.b
  have nT : ∀ {b : Addr}, H b = some (.lst (qs ++ [.ref p])) → True := fun _ => trivial
  refine forT (xs := [vl, vr]) (fun i σ H' => ∃ b : Option V, σ = [some (.ref l), some (.ref p), b] ∧ NodeAt K H' p (nodeR q e vl vr (lo i) (hi i)) ∧ SameB p H1 H') ⟨none, rfl, hp2, fun b o e _ => e⟩ (fun i σ H' _ h => ?_) (fun i σ H' hi' h => ?_) (fun σ H' h => ?_)
  ·obtain ⟨b, _, _, s1⟩ := h
   have : H1 t = some (.tup [vl, vr]) := upd_same
   exact SqT.of (s1 _ _ this (ne_of_none hp1.choose_spec.1 ht).symm)
  ·obtain ⟨b, rfl, hn, s1⟩ := h
   obtain ⟨v, tb, ev, hv, gb, elo, ehi⟩ : ∃ v tb, ([vl, vr] : List V).getD i .non = v ∧ TreeAt K H S v tb ∧ TGood tb ∧ lo (i + 1) = min (lo i) (least tb) ∧ hi (i + 1) = max (hi i) (greatest tb) := by
    have : i = 0 ∨ i = 1 := by
     have : i < 2 := hi'
     omega
    rcases this with rfl | rfl
    ·exact ⟨vl, tl, rfl, hL, gl, by simp [lo], by simp [hi]⟩
    ·exact ⟨vr, tr, rfl, hR, gr, by simp [lo], by simp [hi]⟩
   rw [ev]
   have hile : hi i ≤ Vabiti.NEVER := by
    simp only [hi]
    split
    ·exact g3
    ·split <;> omega
   have lole : lo i ≤ 1000000000 := by
    have := ge.a
    simp only [lo]
    split
    ·exact this
    ·split <;> omega
   cases tb with
   | leaf =>
    have : v = .non := hv
    subst this
    have e1 : lo (i + 1) = lo i := by rw [elo]; show min (lo i) Vabiti.NEVER = _; have := SM.never_eq; omega
    have e2 : hi (i + 1) = hi i := by rw [ehi]; show max (hi i) 0 = _; omega
    simp
    rw [e1, e2]
    exact ⟨hn, s1⟩
   | node tbl be tbr =>
    obtain ⟨bp, bq, bl, br, rfl, sb, hb, _⟩ := hv
    have nbp : bp ≠ p := fun z => nS (by rw [← z]; exact sb)
    have nbl : bp ≠ l := hb.ne hl fun _ _ _ z => by cases z
    have hb1 : NodeAt K H' bp (nodeR bq be bl br (least (.node tbl be tbr)) (greatest (.node tbl be tbr))) := let ⟨o, eo, ho⟩ := hb; ⟨o, s1 _ _ (k1 _ _ eo nbl) nbp, ho⟩
    have gbt := great_le gb
    simp [hn.flds, hb1.flds]
    refine ⟨_, _, ⟨rfl, rfl⟩, hn.setLo fun o ho => ?_⟩
    have hn2 : NodeAt K (upd H' p o) p { nodeR q e vl vr (lo i) (hi i) with lo := (if (nodeR bq be bl br (least (.node tbl be tbr)) (greatest (.node tbl be tbr))).lo < (nodeR q e vl vr (lo i) (hi i)).lo then (nodeR bq be bl br (least (.node tbl be tbr)) (greatest (.node tbl be tbr))).lo else (nodeR q e vl vr (lo i) (hi i)).lo) } := ⟨o, upd_same, ho⟩
    have hb2 := hb1.updNe (o := o) nbp
    simp [hn2.flds, hb2.flds]
    refine ⟨_, _, ⟨rfl, rfl⟩, hn2.setHi fun o2 ho2 => ?_⟩
    rw [upd_upd]
    refine ⟨⟨o2, upd_same, ?_⟩, s1.trans SameB.upd⟩
    have : ((lo (i + 1) : Nat) : Int) = (if ((least (.node tbl be tbr) : Nat) : Int) < ((lo i : Nat) : Int) then ((least (.node tbl be tbr) : Nat) : Int) else ((lo i : Nat) : Int)) := by
     rw [elo]
     split <;> omega
    unfold nodeR
    rw [this, ehi, ← pend_max hile gbt]
    exact ho2
  ·obtain ⟨b, rfl, hn, s1⟩ := h
   simp
   have e1 : lo 2 = least (.node tl e tr) := by
    show (if 2 = 0 then _ else if 2 = 1 then _ else _) = min (least tl) (min e.a (least tr))
    simp
    omega
   have e2 : hi 2 = greatest (.node tl e tr) := by
    show (if 2 = 0 then _ else if 2 = 1 then _ else _) = max (greatest tl) (max e.b (greatest tr))
    simp
    omega
   have hn' : NodeAt K H' p (nodeR q e vl vr (lo 2) (hi 2)) := hn
   rw [e1, e2] at hn'
   exact k H' (s1 _ _ l1 npl.symm) hn' fun b o eb nb np => s1 _ _ (k1 _ _ eb nb) np
end
end L2
end
section
namespace L2
open PySem PySem.Spec PyProof.Rows
open Vabiti (Call least greatest weight)
section
variable {P : Program} {w : World} {K : PySem.W.Frag} {mg : Str → Option Value} {base : Heap} {H H' H2 : Hp} {S S' : Addr → Prop} {Q : VK}
def StkAt (K : PySem.W.Frag) (H : Hp) (S : Addr → Prop) : List Addr → SM.Stk → V → Prop
 | [], [], _ => True
 | p :: ps, (l, e) :: st, vr => (∃ q vl, NodeAt K H p (nodeR q e vl vr e.a e.b) ∧ EntAt K H q (raw e) ∧ TreeAt K H S vl l) ∧ SM.Good e ∧ TGood l ∧ ¬ S p ∧ StkAt K H S ps st (.ref p)
 | _, _, _ => False
theorem StkAt.frame (hS : ∀ b, S b → S' b) : ∀ {ps : List Addr} {st : SM.Stk} {vr : V}, StkAt K H S ps st vr → (∀ p ∈ ps, ¬ S' p) → (∀ b o, H b = some o → (S b ∨ b ∈ ps ∨ ∃ r, EntAt K H b r) → H' b = some o) → StkAt K H' S' ps st vr
 | [], [], _, _, _, _ => trivial
 | p :: ps, (l, e) :: st, vr, h, hn, k => by
  obtain ⟨⟨q, vl, ⟨o, eo, ho⟩, ⟨u, eu, hu⟩, ht⟩, ge, gl, _, hr⟩ := h
  refine ⟨⟨q, vl, ⟨o, k _ _ eo (.inr (.inl List.mem_cons_self)), ho⟩, ⟨u, k _ _ eu (.inr (.inr ⟨_, u, eu, hu⟩)), hu⟩, ht.frame (fun b o e z => k b o e (z.imp id .inr)) hS⟩, ge, gl, hn p List.mem_cons_self, ?_⟩
  exact StkAt.frame hS hr (fun p hp => hn p (List.mem_cons_of_mem _ hp)) fun b o e z => k b o e (z.imp id (Or.imp (List.mem_cons_of_mem _) id))
 | [], _ :: _, _, h, _, _ => h.elim
 | _ :: _, [], _, h, _, _ => h.elim
theorem StkAt.len : ∀ {ps : List Addr} {st : SM.Stk} {vr : V}, StkAt K H S ps st vr → ps.length = st.length
 | [], [], _, _ => rfl
 | p :: ps, (l, e) :: st, vr, h => by rw [List.length_cons, List.length_cons, StkAt.len h.2.2.2.2]
 | [], _ :: _, _, h => h.elim
 | _ :: _, [], _, h => h.elim
theorem StkAt.node : ∀ {ps : List Addr} {st : SM.Stk} {vr : V}, StkAt K H S ps st vr → ∀ p ∈ ps, ∃ r, NodeAt K H p r
 | [], [], _, _, p, hp => by cases hp
 | p' :: ps, (l, e) :: st, vr, h, p, hp => by
  rcases List.mem_cons.mp hp with rfl | hp
  ·obtain ⟨⟨q, vl, hn, _⟩, _⟩ := h
   exact ⟨_, hn⟩
  ·exact StkAt.node h.2.2.2.2 p hp
 | [], _ :: _, _, h, _, _ => h.elim
 | _ :: _, [], _, h, _, _ => h.elim
theorem StkAt.out : ∀ {ps : List Addr} {st : SM.Stk} {vr : V}, StkAt K H S ps st vr → ∀ p ∈ ps, ¬ S p
 | [], [], _, _, p, hp => by cases hp
 | p' :: ps, (l, e) :: st, vr, h, p, hp => by
  rcases List.mem_cons.mp hp with rfl | hp
  ·exact h.2.2.2.1
  ·exact StkAt.out h.2.2.2.2 p hp
 | [], _ :: _, _, h, _, _ => h.elim
 | _ :: _, [], _, h, _, _ => h.elim
def opn (ps : List Addr) : List V := ps.reverse.map V.ref
@[simp] theorem opn_len (ps : List Addr) : (opn ps).length = ps.length := by simp [opn]
theorem opn_cons (p : Addr) (ps : List Addr) : opn (p :: ps) = opn ps ++ [.ref p] := by simp [opn]
theorem StkAt.right {p : Addr} {ps : List Addr} {st : SM.Stk} {v v' : V} (h : StkAt K H S (p :: ps) st v) (nd : (p :: ps).Nodup) {k : Hp → Prop} (hk : ∀ o, StkAt K (upd H p o) S (p :: ps) st v' → k (upd H p o)) : setR K "right" v' (.ref p) H k := by
 cases st with
 | nil => exact h.elim
 | cons te st =>
  obtain ⟨l, e⟩ := te
  obtain ⟨⟨q, vl, hn, hq, ht⟩, ge, gl, nS, hr⟩ := h
  refine hn.setR fun o ho => hk o ?_
  have npps := (List.nodup_cons.mp nd).1
  have kk : ∀ b u, H b = some u → (S b ∨ b ∈ ps ∨ ∃ r, EntAt K H b r) → upd H p o b = some u := fun b u eb z => by
   rw [upd_ne]
   ·exact eb
   ·rcases z with z | z | ⟨r, hb⟩
    ·exact fun q => nS (by rw [← q]; exact z)
    ·exact fun q => npps (by rw [← q]; exact z)
    ·exact hb.neN hn
  exact ⟨⟨q, vl, ⟨o, upd_same, ho⟩, hq.updNe (hq.neN hn), ht.frame (fun b u eb z => kk b u eb (z.imp id .inr)) fun _ z => z⟩, ge, gl, nS, hr.frame (fun _ z => z) hr.out kk⟩
theorem StkAt.pop {l p : Addr} {ps : List Addr} {tl t : VT} {e : VE} {st : SM.Stk} {vr : V} (h : StkAt K H S (p :: ps) ((tl, e) :: st) vr) (ht : TreeAt K H S vr t) (gt : TGood t) (hl : H l = some (.lst (opn (p :: ps)))) (nd : (p :: ps).Nodup) (nSl : ¬ S l) {E : XK}
  (k : ∀ H', H' l = some (.lst (opn ps)) → StkAt K H' (fun b => S b ∨ b = p) ps st (.ref p) → TreeAt K H' (fun b => S b ∨ b = p) (.ref p) (.node tl e t) → TGood (.node tl e t) → (∀ b o, H b = some o → b ≠ l → b ≠ p → H' b = some o) → Q (.ref p) H') : sp_close_last K [.ref l] H Q E := by
 obtain ⟨⟨q, vl, hn, hq, htl⟩, ge, gl, nS, hr⟩ := h
 rw [opn_cons] at hl
 refine ⟨l, p, q, opn ps, S, tl, t, e, vl, vr, rfl, hl, hn, htl, ht, nS, ge, gl, gt, fun H' h1 h2 h3 => ?_⟩
 have nlst : ∀ C dx fs, HO.lst (opn ps ++ [.ref p]) ≠ .ins C dx fs := fun _ _ _ z => by cases z
 obtain ⟨npps, ndps⟩ := List.nodup_cons.mp nd
 have kk : ∀ b o, H b = some o → (S b ∨ b ∈ ps ∨ ∃ r, EntAt K H b r) → H' b = some o := fun b o eb z => by
  rcases z with z | z | ⟨r, hb⟩
  ·exact h3 b o eb (fun q => nSl (by rw [← q]; exact z)) fun q => nS (by rw [← q]; exact z)
  ·obtain ⟨r, hb⟩ := hr.node b z
   exact h3 b o eb (hb.ne hl nlst) fun q => npps (by rw [← q]; exact z)
  ·exact h3 b o eb (hb.ne hl nlst) (hb.neN hn)
 have kt : ∀ b o, H b = some o → (S b ∨ ∃ r, EntAt K H b r) → H' b = some o := fun b o eb z => kk b o eb (z.imp id .inr)
 obtain ⟨u, eu, hu⟩ := hq
 refine k H' h1 (hr.frame (fun _ z => .inl z) (fun x hx z => ?_) kk) ⟨p, q, vl, vr, rfl, .inr rfl, h2, ⟨u, kt _ _ eu (.inr ⟨_, u, eu, hu⟩), hu⟩, htl.frame kt (fun _ z => .inl z), ht.frame kt (fun _ z => .inl z)⟩ ⟨ge, gl, gt⟩ h3
 rcases z with z | z
 ·exact hr.out x hx z
 ·exact npps (by rw [← z]; exact hx)
theorem ex_upd {b p : Addr} {u : HO} (h : ∃ o, H b = some o) : ∃ o, upd H p u b = some o := by
 by_cases e : b = p
 ·exact ⟨u, by rw [e, upd_same]⟩
 ·rw [upd_ne e]; exact h
def sp_close_lighter (K : PySem.W.Frag) : Sp := fun vs H Q _ => ∃ (l : Addr) (ps : List Addr) (st : SM.Stk) (S : Addr → Prop) (x : VE), vs = [.ref l, .int (weight x.id : Nat)] ∧ H l = some (.lst (opn ps)) ∧ StkAt K H S ps st .non ∧ ps.Nodup ∧ ¬ S l ∧ (∀ b, S b → ∃ o, H b = some o) ∧
 ∀ H' v ps' S', (∀ b, S' b → ∃ o, H' b = some o) → (∀ b, S b → S' b) → (∀ b, S' b → S b ∨ b ∈ ps) → ps'.Sublist ps → H' l = some (.lst (opn ps')) → StkAt K H' S' ps' (SM.popW (weight x.id) st .leaf).1 v → TreeAt K H' S' v (SM.popW (weight x.id) st .leaf).2 → TGood (SM.popW (weight x.id) st .leaf).2 → (∀ b o, H b = some o → b ≠ l → b ∉ ps → H' b = some o) → Q v H'
structure ClI (K : PySem.W.Frag) (H : Hp) (l : Addr) (ps : List Addr) (S : Addr → Prop) (H' : Hp) (v : V) (ps' : List Addr) (S' : Addr → Prop) (st' : SM.Stk) (t : VT) : Prop where
 ex : ∀ b, S' b → ∃ o, H' b = some o
 up : ∀ b, S b → S' b
 dn : ∀ b, S' b → S b ∨ b ∈ ps
 sub : ps'.Sublist ps
 lst : H' l = some (.lst (opn ps'))
 stk : StkAt K H' S' ps' st' v
 tree : TreeAt K H' S' v t
 good : TGood t
 keep : ∀ b o, H b = some o → b ≠ l → b ∉ ps → H' b = some o
theorem ClI.start {l : Addr} {ps : List Addr} {st : SM.Stk} (hl : H l = some (.lst (opn ps))) (h : StkAt K H S ps st .non) (ex : ∀ b, S b → ∃ o, H b = some o) : ClI K H l ps S H .non ps S st .leaf := ⟨ex, fun _ z => z, fun _ z => .inl z, List.Sublist.refl _, hl, h, rfl, trivial, fun _ _ e _ _ => e⟩
theorem ClI.pop {l p : Addr} {ps ps' : List Addr} {v : V} {tl t : VT} {e : VE} {st : SM.Stk} (c : ClI K H l ps S H' v (p :: ps') S' ((tl, e) :: st) t) (nd : ps.Nodup) (nS : ¬ S l) {E : XK} (nl : l ∉ ps)
  (k : ∀ H2 S2, ClI K H l ps S H2 (.ref p) ps' S2 st (.node tl e t) → Q (.ref p) H2) : sp_close_last K [.ref l] H' Q E := by
 have nSl : ¬ S' l := fun z => (c.dn l z).elim nS nl
 have hp : p ∈ ps := c.sub.subset List.mem_cons_self
 refine c.stk.pop c.tree c.good c.lst (List.Nodup.sublist c.sub nd) nSl fun H2 h1 h2 h3 h4 h5 => k H2 _ ⟨fun b z => ?_, fun b z => .inl (c.up b z), fun b z => ?_, (List.sublist_cons_self _ _).trans c.sub, h1, h2, h3, h4, fun b o eb n1 n2 => ?_⟩
 ·by_cases e : b = p
  ·obtain ⟨p', q, vl, vr, e1, _, ⟨o, eo, _⟩, _⟩ := h3
   cases e1
   exact ⟨o, by rw [e]; exact eo⟩
  ·rcases z with z | z
   ·obtain ⟨o, eo⟩ := c.ex b z
    exact ⟨o, h5 b o eo (fun q => nSl (by rw [← q]; exact z)) e⟩
   ·exact absurd z e
 ·rcases z with z | z
  ·exact c.dn b z
  ·exact .inr (by rw [z]; exact hp)
 ·exact h5 b o (c.keep b o eb n1 n2) n1 fun q => n2 (by rw [q]; exact hp)
theorem opn_last (p : Addr) (ps : List Addr) : atI (opn (p :: ps)) (-1) = some (V.ref p) := by
 rw [opn_cons]
 exact atI_last _ _
theorem ok_close_lighter {f : Addr} {fd : FuncData} (F : Fun K "close_lighter" "close_lighter" s_close_lighter f fd) (T : Txt K mg) (D_close_last : Df P w K mg base 1 "close_last" ["open_nodes"] (sp_close_last K)) : FnOk P w K mg base CX0 2 f fd ["open_nodes", "bound"] (sp_close_lighter K) := by
 refine F.ok sc_close_lighter (fun vs H Q E h => ?_) (fun cdv A outer s H vs Q E hr h => ?_)
 ·obtain ⟨l, ps, st, S, x, rfl, _⟩ := h
  rfl
 ·obtain ⟨l, ps, st, S, x, rfl, hl, hst, nd, nS, hex, k⟩ := h
  refine ⟨_, (pss_cons (ps_set (i := 2) sc_close_lighter.nd rfl (Or.inl rfl) pe_non)
 (pss_cons (ps_while PassesOwn.never (PW.pt (pw_and (pt_cmpR op_gt (pe_callB call_len_seq (by rfl) T.len PySem.boot_len (pa_cons (pv 0) pa_nil)) pe_int (nomark _)) (pw_and1 (pt_cmpR op_lt (pe_fld (pe_ix ix_list (pv 0) (pe_un un_neg pe_int) (fun _ _ => rfl)) rfl) (pv 1) (nomark _)))))
 (pss_one (ps_set (i := 2) sc_close_lighter.nd rfl (Or.inl rfl) (pe_fn D_close_last (hr.mono (by decide)) rfl (pa_cons (pv 0) pa_nil)))))
 (pss_one (ps_ret (pv 2))))), ?_⟩
  have nl : l ∉ ps := fun m => by
   obtain ⟨r, hr⟩ := hst.node l m
   exact hr.ne hl (fun _ _ _ z => by cases z) rfl
  simp [start]
  refine ⟨fun m σ H' => ∃ v ps' S' st' t, σ = [some (.ref l), some (.int (weight x.id : Nat)), some v] ∧ m = ps'.length ∧ ClI K H l ps S H' v ps' S' st' t ∧ SM.popW (weight x.id) st' t = SM.popW (weight x.id) st .leaf, ⟨_, .non, ps, S, st, .leaf, rfl, rfl, ClI.start hl hst hex, rfl⟩, ?_⟩
  rintro m σ H' ⟨v, ps', S', st', t, rfl, rfl, c, hpop⟩
  simp
  refine ⟨_, .inl (SqL.of c.lst), ?_⟩
  cases ps' with
  | nil =>
   have hst' : st' = [] := by
    have := c.stk.len
    simpa using this.symm
   subst hst'
   simp
   have e1 : SM.popW (weight x.id) ([] : SM.Stk) t = ([], t) := rfl
   rw [e1] at hpop
   refine k H' v [] S' c.ex c.up c.dn c.sub c.lst ?_ ?_ ?_ c.keep
   ·rw [← hpop]; exact c.stk
   ·rw [← hpop]; exact c.tree
   ·rw [← hpop]; exact c.good
  | cons p ps' =>
   cases st' with
   | nil => exact c.stk.elim
   | cons te st' =>
    obtain ⟨tl, e⟩ := te
    have hst' := c.stk
    obtain ⟨⟨q, vl, hn, hq, htl⟩, ge, gl, nSp, hr'⟩ := hst'
    simp [rIxL]
    refine ⟨_, SqL.of c.lst, _, opn_last p ps', ?_⟩
    simp [hn.flds]
    refine ite2 (fun cw => ?_) (fun cw => ?_)
    ·have cw' : weight e.id < weight x.id := by
      have : ((weight e.id : Nat) : Int) < ((weight x.id : Nat) : Int) := cw
      omega
     have e1 : SM.popW (weight x.id) ((tl, e) :: st') t = SM.popW (weight x.id) st' (.node tl e t) := by
      rw [SM.popW, if_pos cw']
     refine ⟨fun σ' H' => ∃ v, σ' = [some (.ref l), some (.int (weight x.id : Nat)), some v] ∧ ∃ S2, ClI K H l ps S H' v ps' S2 st' (.node tl e t), ?_, c.pop nd nS nl fun H2 S2 c2 => ⟨_, rfl, S2, c2⟩⟩
     rintro σ' H2 ⟨v2, rfl, S2, c2⟩
     exact ⟨ps'.length, Nat.lt_succ_self _, v2, rfl, ps', rfl, S2, st', _, c2, by rw [← e1]; exact hpop⟩
    ·have cw' : ¬ weight e.id < weight x.id := fun z => cw (by
      show ((weight e.id : Nat) : Int) < ((weight x.id : Nat) : Int)
      omega)
     have e1 : SM.popW (weight x.id) ((tl, e) :: st') t = ((tl, e) :: st', t) := by
      rw [SM.popW, if_neg cw']
     rw [e1] at hpop
     refine k H' v _ S' c.ex c.up c.dn c.sub c.lst ?_ ?_ ?_ c.keep
     ·rw [← hpop]; exact c.stk
     ·rw [← hpop]; exact c.tree
     ·rw [← hpop]; exact c.good
theorem in_arr {L L' : List (Addr × REnt)} {D : List VE} (h : L.map (·.2) = D.map raw) (nd : (D.map (·.id)).Nodup) (p : L'.Perm L) (rk : Rk L') : L'.map (·.2) = (Vabiti.arranged D).map raw := by
 have p2 : (L'.map (·.2)).Perm (D.map raw) := by rw [← h]; exact p.map _
 obtain ⟨D', pD, e⟩ := perm_map_ex p2
 have nd' : (D'.map (·.id)).Nodup := (pD.map _).nodup_iff.mpr nd
 have hr : (D'.map raw).Pairwise fun a b => lexI (rkE b) (rkE a) = false := by
  rw [← e, List.pairwise_map]
  exact rk
 rw [List.pairwise_map] at hr
 have hs : SM.Srt D' := by
  have nd2 : D'.Pairwise fun a b => a.id ≠ b.id := by
   have := List.pairwise_map.mp nd'
   exact this
  refine (hr.and nd2).imp fun {a b} ⟨h1, h2⟩ => ?_
  refine SM.bf_total (fun z => h2 z.symm) ?_
  cases hb : Vabiti.before b a with
  | false => rfl
  | true =>
   have q := SM.bf_iff.mp hb
   simp only [rkE, raw, lexI] at h1
   simp at h1
   omega
 rw [e, SM.srt_unique hs (SM.arranged_srt nd) (pD.trans (SM.arranged_perm D).symm)]
def sp_tree_of (K : PySem.W.Frag) : Sp := fun vs H Q _ => ∃ (a : Addr) (L : List (Addr × REnt)) (D : List VE), vs = [.ref a] ∧ LE K H a L ∧ L.map (·.2) = D.map raw ∧ (∀ e ∈ D, SM.Good e) ∧ (D.map (·.id)).Nodup ∧ D.length ≤ 200 ∧
 ∀ H' v, Same H H' → TreeAt K H' (fun _ => True) v (Vabiti.treeOf (Vabiti.arranged D)) → TGood (Vabiti.treeOf (Vabiti.arranged D)) → Q v H'
theorem ok_tree_of {f C : Addr} {fd : FuncData} (F : Fun K "tree_of" "tree_of" s_tree_of f fd) (T : Txt K mg) (hC : ClN K C) (M_Node : Mc P w K mg base 2 "Node" C ["self", "entry"] (sp_Node_init K)) (D_close_last : Df P w K mg base 1 "close_last" ["open_nodes"] (sp_close_last K)) (D_close_lighter : Df P w K mg base 2 "close_lighter" ["open_nodes", "bound"] (sp_close_lighter K)) (D_in_order : Df P w K mg base 4 "in_order" ["entries"] (sp_in_order K)) : FnOk P w K mg base CX0 5 f fd ["entries"] (sp_tree_of K) := by
 refine F.ok sc_tree_of (fun vs H Q E h => ?_) (fun cdv A outer s H vs Q E hr h => ?_)
 ·obtain ⟨a, L, D, rfl, _⟩ := h
  rfl
 ·obtain ⟨a, L, D, rfl, hL, hrel, good, nd, hz, k⟩ := h
  refine ⟨_, (pss_cons (ps_set (i := 1) sc_tree_of.nd rfl (Or.inl rfl) (pe_lst pa_nil))
 (pss_cons (ps_for PassesOwn.never rfl (pi_list (pe_fn D_in_order (hr.mono (by decide)) rfl (pa_cons (pv 0) pa_nil))) (pg_name (i := 2) sc_tree_of.nd rfl (Or.inl rfl))
 (pss_cons (ps_set (i := 3) sc_tree_of.nd rfl (Or.inl rfl) (pe_mk M_Node (hr.mono (by decide)) rfl (pa_cons (pv 2) pa_nil)))
 (pss_cons (ps_fld (pv 3) (pe_fn D_close_lighter (hr.mono (by decide)) rfl (pa_cons (pv 1) (pa_cons (pe_fld (pv 3) rfl) pa_nil))) rfl)
 (pss_cons (ps_if (pt_cmpR op_gt (pe_callB call_len_seq (by rfl) T.len PySem.boot_len (pa_cons (pv 1) pa_nil)) pe_int (nomark _))
 (pss_cons (ps_set (i := 4) sc_tree_of.nd rfl (Or.inl rfl) (pe_ix ix_list (pv 1) (pe_un un_neg pe_int) (fun _ _ => rfl)))
 (pss_one (ps_fld (pv 4) (pv 3) rfl)))
 pss_nil)
 (pss_one (ps_expr (pe_bm PySem.F.plainAttrs_list PySem.F.slot_list_append PySem.F.type_list_append mt_append (pv 1) (pa_cons (pv 3) pa_nil))))))))
 (pss_cons (ps_set (i := 5) sc_tree_of.nd rfl (Or.inl rfl) pe_non)
 (pss_cons (ps_while PassesOwn.never (pt_cmpR op_gt (pe_callB call_len_seq (by rfl) T.len PySem.boot_len (pa_cons (pv 1) pa_nil)) pe_int (nomark _))
 (pss_one (ps_set (i := 5) sc_tree_of.nd rfl (Or.inl rfl) (pe_fn D_close_last (hr.mono (by decide)) rfl (pa_cons (pv 1) pa_nil)))))
 (pss_one (ps_ret (pv 5))))))), ?_⟩
  simp [start, x_for, x_iL]
  refine fun l hl => ?_
  refine ⟨a, L, rfl, hL.same (Same.new hl), fun m H1 L' m0 s1 m1 pL rk => ?_⟩
  have hr2 := in_arr hrel nd pL rk
  let A' := Vabiti.arranged D
  have hr2 : L'.map (·.2) = A'.map raw := hr2
  have hlen : L'.length = A'.length := by simpa using congrArg List.length hr2
  have goodA : ∀ e ∈ A', SM.Good e := fun e he => good e ((SM.arranged_perm D).mem_iff.mp he)
  have l1 : H1 l = some (.lst []) := s1 _ _ upd_same
  have hat : ∀ x ∈ L', EntAt K H1 x.1 x.2 := fun x hx => ((hL.at_ x (pL.mem_iff.mp hx)).upd hl).same s1
  have nml : m ≠ l := (ne_of_none (H := upd H l (.lst [])) upd_same m0).symm
  refine forL (xs := L'.map refA) (fun i σ H' => ∃ (v2 v3 v4 : Option V) (ps : List Addr) (S : Addr → Prop), σ = [some (.ref a), some (.ref l), v2, v3, v4, none] ∧ H' l = some (.lst (opn ps)) ∧ StkAt K H' S ps ((A'.take i).foldl SM.pushE []) .non ∧ ps.Nodup ∧ ps.length ≤ i ∧ (∀ p ∈ ps, H1 p = none) ∧ (∀ b, S b → H1 b = none) ∧ (∀ b, S b → ∃ o, H' b = some o) ∧ SameB l H1 H') ⟨none, none, none, [], fun _ => False, rfl, l1, trivial, List.nodup_nil, Nat.le_refl _, (fun p hp => by cases hp), (fun b hb => hb.elim), (fun b hb => hb.elim), fun b o e _ => e⟩ (fun i σ H' _ h => ?_) (fun i σ H' hi h => ?_) (fun σ H' h => ?_)
  ·obtain ⟨v2, v3, v4, ps, S, _, _, _, _, _, _, _, _, sb⟩ := h
   exact SqL.of (sb _ _ m1 nml)
  ·obtain ⟨v2, v3, v4, ps, S, rfl, hl', hst, ndp, hpl, hp0, hS0, hSx, sb⟩ := h
   rw [List.length_map] at hi
   have hx : L'[i]? = some L'[i] := List.getElem?_eq_getElem hi
   have hiA : i < A'.length := by rw [← hlen]; exact hi
   have hxA : A'[i]? = some A'[i] := List.getElem?_eq_getElem hiA
   have er : L'[i].2 = raw A'[i] := by
    have a1 : (L'.map (·.2))[i]? = some L'[i].2 := by rw [List.getElem?_map, hx]; rfl
    rw [hr2, List.getElem?_map, hxA] at a1
    exact (Option.some.inj a1).symm
   have e1 : (L'.map refA).getD i .non = refA L'[i] := by simp [hx]
   have gx := goodA A'[i] (List.getElem_mem hiA)
   have nsl : ¬ S l := fun z => by rw [hS0 l z] at l1; cases l1
   have he0 : EntAt K H1 L'[i].1 (raw A'[i]) := by rw [← er]; exact hat _ (List.getElem_mem hi)
   have he : EntAt K H' L'[i].1 (raw A'[i]) := he0.b sb (he0.ne l1 fun _ _ _ z => by cases z)
   rw [e1]
   simp
   refine mk_node hC he gx.id fun x H2 hx0 s2 hn2 => ?_
   simp [hn2.flds]
   have hl2 := s2 _ _ hl'
   have hst2 : StkAt K H2 S ps ((A'.take i).foldl SM.pushE []) .non := hst.frame (fun _ z => z) hst.out fun b o e _ => s2 b o e
   have xps : x ∉ ps := fun z => by
    obtain ⟨r, o, eo, _⟩ := hst.node x z
    rw [hx0] at eo
    cases eo
   have x1 : H1 x = none := by
    cases e : H1 x with
    | none => rfl
    | some o =>
     by_cases z : x = l
     ·rw [z, hl'] at hx0; cases hx0
     ·rw [sb _ _ e z] at hx0; cases hx0
   have nxl : x ≠ l := fun z => by rw [z, hl'] at hx0; cases hx0
   refine ⟨l, ps, _, S, A'[i], rfl, hl2, hst2, ndp, nsl, (fun b z => (hSx b z).imp fun o eo => s2 _ _ eo), fun H3 v ps' S' hex hup hdn hsub hl3 hst3 ht3 gt3 k3 => ?_⟩
   have hn3 : NodeAt K H3 x (nodeR L'[i].1 A'[i] .non .non A'[i].a A'[i].b) := let ⟨o, eo, ho⟩ := hn2; ⟨o, k3 _ _ eo nxl xps, ho⟩
   refine hn3.setL fun o4 ho4 => ?_
   have xS : ¬ S' x := fun z => by
    rcases hdn x z with z | z
    ·obtain ⟨o, eo⟩ := hSx x z
     rw [hx0] at eo
     cases eo
    ·exact xps z
   have x4 : NodeAt K (upd H3 x o4) x (nodeR L'[i].1 A'[i] v .non A'[i].a A'[i].b) := ⟨o4, upd_same, ho4⟩
   have k4 : ∀ b u, H3 b = some u → (S' b ∨ b ∈ ps' ∨ ∃ r, EntAt K H3 b r) → upd H3 x o4 b = some u := fun b u eb z => by
    rw [upd_ne]
    ·exact eb
    ·rcases z with z | z | ⟨r, hb⟩
     ·exact fun q => xS (by rw [← q]; exact z)
     ·exact fun q => xps (by rw [← q]; exact hsub.subset z)
     ·exact hb.neN hn3
   have hl4 : upd H3 x o4 l = some (.lst (opn ps')) := by rw [upd_ne nxl.symm]; exact hl3
   have he3 : EntAt K H3 L'[i].1 (raw A'[i]) := by
    obtain ⟨o, eo, ho⟩ := he.same s2
    have hent : EntAt K H2 L'[i].1 (raw A'[i]) := ⟨o, eo, ho⟩
    exact ⟨o, k3 _ _ eo (hent.ne hl2 fun _ _ _ z => by cases z) (fun z => by
     obtain ⟨r, hr⟩ := hst2.node _ z
     exact hent.neN hr rfl), ho⟩
   have he4 : EntAt K (upd H3 x o4) L'[i].1 (raw A'[i]) := he3.updNe (he3.neN hn3)
   have ht4 : TreeAt K (upd H3 x o4) S' v (SM.popW (weight A'[i].id) ((A'.take i).foldl SM.pushE []) .leaf).2 := ht3.frame (fun b u eb z => k4 b u eb (z.imp id .inr)) fun _ z => z
   have hst4 : StkAt K (upd H3 x o4) S' ps' (SM.popW (weight A'[i].id) ((A'.take i).foldl SM.pushE []) .leaf).1 v := hst3.frame (fun _ z => z) hst3.out k4
   have kb : ∀ b o, H1 b = some o → b ≠ l → upd H3 x o4 b = some o := fun b o eb nb => by
    rw [upd_ne (ne_of_none eb x1)]
    exact k3 _ _ (s2 _ _ (sb _ _ eb nb)) nb fun z => by rw [hp0 b z] at eb; cases eb
   have ndp' : ps'.Nodup := List.Nodup.sublist hsub ndp
   have efold : (A'.take (i + 1)).foldl SM.pushE [] = SM.pushE ((A'.take i).foldl SM.pushE []) A'[i] := by
    rw [take_snoc' hxA, List.foldl_append]
    rfl
   have nSl' : ¬ S' l := fun z => by
    rcases hdn l z with z | z
    ·exact nsl z
    ·rw [hp0 l z] at l1; cases l1
   have fin : ∀ H5, H5 l = some (.lst (opn ps')) → StkAt K H5 S' ps' (SM.popW (weight A'[i].id) ((A'.take i).foldl SM.pushE []) .leaf).1 (.ref x) → NodeAt K H5 x (nodeR L'[i].1 A'[i] v .non A'[i].a A'[i].b) → EntAt K H5 L'[i].1 (raw A'[i]) → TreeAt K H5 S' v (SM.popW (weight A'[i].id) ((A'.take i).foldl SM.pushE []) .leaf).2 → (∀ b o, H1 b = some o → b ≠ l → H5 b = some o) → (∀ b, S' b → ∃ o, H5 b = some o) →
     (tyV K "list" (.ref l) H5 ∧ rAppend (.ref l) [.ref x] H5 fun _ H6 => ∃ ps, H6 l = some (.lst (opn ps)) ∧ ∃ S, StkAt K H6 S ps ((A'.take (i + 1)).foldl SM.pushE []) .non ∧ ps.Nodup ∧ ps.length ≤ i + 1 ∧ (∀ p ∈ ps, H1 p = none) ∧ (∀ b, S b → H1 b = none) ∧ (∀ b, S b → ∃ o, H6 b = some o) ∧ SameB l H1 H6) := by
    intro H5 h1 h2 h3 h4 h5 h6 h7
    have zl : ps'.length ≤ i := Nat.le_trans hsub.length_le hpl
    refine ⟨.inl ⟨rfl, _, SqL.of h1⟩, l, opn ps', .ref x, rfl, rfl, h1, fits' (by rw [opn_len]; have : A'.length = D.length := (SM.arranged_perm D).length_eq; omega), x :: ps', ?_, S', ?_, ?_, ?_, ?_, ?_, fun b z => ex_upd (h7 b z), ?_⟩
    ·rw [upd_same, opn_cons]
    ·rw [efold]
     have kk : ∀ b u, H5 b = some u → (∀ xs, u ≠ .lst xs) → upd H5 l (.lst (opn ps' ++ [.ref x])) b = some u := fun b u eb nu => by
      rw [upd_ne (fun q => by rw [q, h1] at eb; exact nu _ (Option.some.inj eb).symm)]
      exact eb
     have k6 : ∀ b u, H5 b = some u → (S' b ∨ b ∈ ps' ∨ ∃ r, EntAt K H5 b r) → upd H5 l (.lst (opn ps' ++ [.ref x])) b = some u := fun b u eb z => by
      rw [upd_ne]
      ·exact eb
      ·rcases z with z | z | ⟨r, hb⟩
       ·exact fun q => nSl' (by rw [← q]; exact z)
       ·obtain ⟨r, hb⟩ := h2.node b z
        exact hb.ne h1 fun _ _ _ z => by cases z
       ·exact hb.ne h1 fun _ _ _ z => by cases z
     exact ⟨⟨L'[i].1, v, h3.updNe nxl, h4.updNe (h4.ne h1 fun _ _ _ z => by cases z), h5.frame (fun b u eb z => k6 b u eb (z.imp id .inr)) fun _ z => z⟩, gx, gt3, xS, h2.frame (fun _ z => z) h2.out k6⟩
    ·exact List.nodup_cons.mpr ⟨fun z => xps (hsub.subset z), ndp'⟩
    ·rw [List.length_cons]; omega
    ·intro p hp
     rcases List.mem_cons.mp hp with rfl | hp
     ·exact x1
     ·exact hp0 p (hsub.subset hp)
    ·intro b hb
     rcases hdn b hb with z | z
     ·exact hS0 b z
     ·exact hp0 b z
    ·intro b o eb nb
     rw [upd_ne nb]
     exact h6 b o eb nb
   refine ⟨_, .inl (SqL.of hl4), ?_⟩
   rw [opn_len]
   cases ps' with
   | nil =>
    simp
    refine fin _ hl4 ?_ x4 he4 ht4 kb fun b z => ex_upd (hex b z)
    have := hst4
    cases q : (SM.popW (weight A'[i].id) ((A'.take i).foldl SM.pushE []) .leaf).1 with
    | nil => trivial
    | cons a b => rw [q] at this; exact this.elim
   | cons p ps' =>
    rw [if_pos (show 0 < (p :: ps').length from Nat.succ_pos _)]
    refine ⟨l, opn (p :: ps'), -1, .ref p, rfl, rfl, SqL.of hl4, opn_last p ps', ?_⟩
    refine hst4.right ndp' fun o5 h5 => ?_
    have hpn := hst4.node p List.mem_cons_self
    obtain ⟨rp, hpn⟩ := hpn
    have npx : x ≠ p := fun q => xps (hsub.subset (by rw [q]; exact List.mem_cons_self))
    have npl : p ≠ l := hpn.ne hl4 fun _ _ _ z => by cases z
    refine fin _ (by rw [upd_ne npl.symm]; exact hl4) h5 (x4.updNe npx) (he4.updNe (he4.neN hpn)) (ht4.frame (fun b u eb z => ?_) fun _ z => z) (fun b o eb nb => ?_) fun b z => ex_upd (ex_upd (hex b z))
    ·rw [upd_ne]
     ·exact eb
     ·rcases z with z | ⟨r, hb⟩
      ·exact fun q => hst4.out p List.mem_cons_self (by rw [← q]; exact z)
      ·exact hb.neN hpn
    ·rw [upd_ne (fun q => by rw [q, hp0 p (hsub.subset List.mem_cons_self)] at eb; cases eb)]
     exact kb b o eb nb
  ·obtain ⟨v2, v3, v4, ps, S, rfl, hl', hst, ndp, hpl, hp0, hS0, hSx, sb⟩ := h
   rw [List.length_map, hlen, List.take_length] at hst
   have nsl : ¬ S l := fun z => by rw [hS0 l z] at l1; cases l1
   have nlp : l ∉ ps := fun z => by rw [hp0 l z] at l1; cases l1
   simp
   refine ⟨fun m σ H2 => ∃ v ps' S' st' t, σ = [some (.ref a), some (.ref l), v2, v3, v4, some v] ∧ m = ps'.length ∧ ClI K H' l ps S H2 v ps' S' st' t ∧ SM.closeAll st' t = SM.closeAll (A'.foldl SM.pushE []) .leaf, ⟨_, .non, ps, S, _, .leaf, rfl, rfl, ClI.start hl' hst hSx, rfl⟩, ?_⟩
   rintro m σ H2 ⟨v, ps', S', st', t, rfl, rfl, c, hcl⟩
   simp
   refine ⟨_, .inl (SqL.of c.lst), ?_⟩
   rw [opn_len]
   cases ps' with
   | nil =>
    have hst' : st' = [] := by
     have := c.stk.len
     simpa using this.symm
    subst hst'
    simp
    have e1 : t = Vabiti.treeOf A' := by
     rw [← SM.built (SM.arranged_srt nd), ← hcl]
     rfl
    refine k H2 v (fun b o eb => ?_) ?_ ?_
    ·have nbl : b ≠ l := ne_of_none eb hl
     exact c.keep _ _ (sb _ _ (s1 _ _ (by rw [upd_ne nbl]; exact eb)) nbl) nbl fun z => by
      have := s1 _ _ (show upd H l (.lst []) b = some o by rw [upd_ne nbl]; exact eb)
      rw [hp0 b z] at this
      cases this
    ·have := c.tree
     rw [e1] at this
     exact this.frame (fun b o eb _ => eb) fun _ _ => trivial
    ·have := c.good
     rw [e1] at this
     exact this
   | cons p ps' =>
    cases st' with
    | nil => exact c.stk.elim
    | cons te st' =>
     obtain ⟨tl, e⟩ := te
     rw [if_pos (show 0 < (p :: ps').length from Nat.succ_pos _)]
     refine ⟨fun σ' H3 => ∃ v, σ' = [some (.ref a), some (.ref l), v2, v3, v4, some v] ∧ ∃ S2, ClI K H' l ps S H3 v ps' S2 st' (.node tl e t), ?_, c.pop ndp nsl nlp fun H3 S2 c2 => ⟨_, rfl, S2, c2⟩⟩
     rintro σ' H3 ⟨v2, rfl, S2, c2⟩
     exact ⟨ps'.length, Nat.lt_succ_self _, v2, rfl, ps', rfl, S2, st', _, c2, by rw [← hcl]; rfl⟩
end
end L2
end
section
namespace L2
open PySem PySem.Spec PyProof.Rows
open Vabiti (Call least greatest weight)
abbrev VW := Vabiti.Window
structure WR (x : RWin) (w : VW) : Prop where
 j : x.j = w.j
 k : x.k = w.k
 a : x.a = (w.a : Int)
 az : w.a ≤ 1000000000
 b : ∀ a : Nat, a ≤ 1000000000 → ((a : Int) < x.b ↔ a < w.b)
theorem hit_eq {x : RWin} {w : VW} (h : WR x w) {e : VE} (g : SM.Good e) : hitR x (raw e) = Vabiti.hits w e := by
 have hb := h.b e.a g.a
 have ha : (x.a < pend e.b) ↔ w.a < e.b := by
  rw [h.a, ← pend_nat h.az]
  have := SM.never_eq
  exact pend_lt (by have := h.az; omega) g.b
 unfold hitR Vabiti.hits
 rw [h.j, h.k, Bool.and_assoc]
 show (decide _ && (decide _ && (decide ((e.a : Int) < x.b) && decide (x.a < pend e.b)))) = _
 rw [decide_eq_decide.mpr hb, decide_eq_decide.mpr ha]
 rfl
theorem least_le {l r : VT} {e : VE} (g : SM.Good e) : least (.node l e r) ≤ 1000000000 := by
 have := g.a
 show min (least l) (min e.a (least r)) ≤ _
 omega
theorem over_eq {x : RWin} {w : VW} (h : WR x w) {q : Addr} {vl vr : V} {l r : VT} {e : VE} (g : TGood (.node l e r)) : overR (nodeR q e vl vr (least (.node l e r)) (greatest (.node l e r))) x = true ↔ SM.over w (.node l e r) := by
 have hb := h.b _ (least_le (l := l) (r := r) g.1)
 have ha : pend (greatest (.node l e r)) ≤ x.a ↔ greatest (.node l e r) ≤ w.a := by
  rw [h.a, ← pend_nat h.az]
  have := SM.never_eq
  exact pend_le (great_le g) (by have := h.az; omega)
 unfold overR SM.over
 rw [Bool.or_eq_true, decide_eq_true_eq, decide_eq_true_eq]
 show (pend (greatest (.node l e r)) ≤ x.a ∨ x.b ≤ (least (.node l e r) : Int)) ↔ _
 rw [ha]
 have : x.b ≤ (least (.node l e r) : Int) ↔ w.b ≤ least (.node l e r) := by omega
 rw [this]
theorem found_le (w : VW) : ∀ t : VT, (Vabiti.search w t).1.length ≤ SM.tsize t ∧ (Vabiti.search w t).2 ≤ SM.tsize t
 | .leaf => ⟨Nat.le_refl _, Nat.le_refl _⟩
 | .node l e r => by
  by_cases h : SM.over w (.node l e r)
  ·rw [SM.search_over w h]
   exact ⟨Nat.zero_le _, Nat.zero_le _⟩
  ·have h1 := found_le w l
   have h2 := found_le w r
   rw [SM.search_down w h, SM.search_left, SM.search_right]
   have h3 : (SM.hitL w e).length ≤ 1 := by
    unfold SM.hitL
    split <;> simp
   have a1 : (if w.j ≤ e.key then Vabiti.search w l else ([], 0)).1.length ≤ SM.tsize l ∧ (if w.j ≤ e.key then Vabiti.search w l else ([], 0)).2 ≤ SM.tsize l := by
    split
    ·exact h1
    ·exact ⟨Nat.zero_le _, Nat.zero_le _⟩
   have a2 : (if e.key ≤ w.k then Vabiti.search w r else ([], 0)).1.length ≤ SM.tsize r ∧ (if e.key ≤ w.k then Vabiti.search w r else ([], 0)).2 ≤ SM.tsize r := by
    split
    ·exact h2
    ·exact ⟨Nat.zero_le _, Nat.zero_le _⟩
   simp only [SM.tsize, List.length_append]
   omega
section
variable {P : Program} {w : World} {K : PySem.W.Frag} {mg : Str → Option Value} {base : Heap} {H H' H2 : Hp} {S S' : Addr → Prop} {Q : VK}
abbrev TT' (K : PySem.W.Frag) (H : Hp) : V → VT → Prop := TreeAt K H fun _ => True
def WaitAt (K : PySem.W.Frag) (H : Hp) : List Addr → List (VE × VT) → Prop
 | [], [] => True
 | p :: ps, (e, r) :: ws => (∃ q vl vr lo hi, NodeAt K H p (nodeR q e vl vr lo hi) ∧ EntAt K H q (raw e) ∧ TT' K H vr r ∧ SM.Good e ∧ TGood r) ∧ WaitAt K H ps ws
 | _, _ => False
theorem WaitAt.len : ∀ {ps : List Addr} {ws : List (VE × VT)}, WaitAt K H ps ws → ps.length = ws.length
 | [], [], _ => rfl
 | p :: ps, (e, r) :: ws, h => by rw [List.length_cons, List.length_cons, WaitAt.len h.2]
 | [], _ :: _, h => h.elim
 | _ :: _, [], h => h.elim
theorem ws_le (t : VT) (ws : List (VE × VT)) : ws.length ≤ SM.mu t ws := by
 unfold SM.mu
 induction ws with
 | nil => exact Nat.zero_le _
 | cons a ws ih =>
  simp only [List.map_cons, List.sum_cons, List.length_cons] at ih ⊢
  omega
abbrev FE := List (Addr × VE)
abbrev refE (x : Addr × VE) : V := V.ref x.1
def FAt (K : PySem.W.Frag) (H : Hp) (F : FE) : Prop := ∀ x ∈ F, EntAt K H x.1 (raw x.2) ∧ SM.Good x.2
def LessI (I : Nat → St → Hp → Prop) (m : Nat) (σ : St) (H : Hp) : Prop := ∃ m', m' < m ∧ I m' σ H
def SrI (K : PySem.W.Frag) (H : Hp) (tv : V) (q fa wa : Addr) (wn : VW) (t0 : VT) (m : Nat) (σ : St) (H' : Hp) : Prop := ∃ (v : V) (t : VT) (ps : List Addr) (ws : List (VE × VT)) (F : FE) (N : Nat), σ = [some tv, some (.ref q), some (.ref fa), some (.int N), some (.ref wa), some v] ∧ m = SM.mu t ws ∧ m ≤ 400 ∧ TT' K H v t ∧ TGood t ∧ WaitAt K H ps ws ∧ FAt K H F ∧ Same H H' ∧ H' fa = some (.lst (F.map refE)) ∧ H' wa = some (.lst (opn ps)) ∧ F.map (·.2) ++ SM.restF wn t ws = (Vabiti.search wn t0).1 ∧ N + SM.restN wn t ws = (Vabiti.search wn t0).2
def sp_search (K : PySem.W.Frag) : Sp := fun vs H Q _ => ∃ (v : V) (q : Addr) (t : VT) (x : RWin) (wn : VW), vs = [v, .ref q] ∧ TT' K H v t ∧ TGood t ∧ WinAt K H q x ∧ WR x wn ∧ SM.tsize t ≤ 200 ∧
 ∀ H' T fa (F : FE), Same H H' → H' T = some (.tup [.ref fa, .int ((Vabiti.search wn t).2 : Nat)]) → H' fa = some (.lst (F.map refE)) → FAt K H' F → F.map (·.2) = (Vabiti.search wn t).1 → Q (.ref T) H'
theorem ok_search {f : Addr} {fd : FuncData} (F : Fun K "search" "search" s_search f fd) (T : Txt K mg) (D_hits : Df P w K mg base 1 "hits" ["entry", "window"] (sp_hits K)) (D_passed_over : Df P w K mg base 1 "passed_over" ["tree", "window"] (sp_passed_over K)) : FnOk P w K mg base CX0 2 f fd ["tree", "window"] (sp_search K) := by
 refine F.ok sc_search (fun vs H Q E h => ?_) (fun cdv A outer s H vs Q E hr h => ?_)
 ·obtain ⟨v, q, t, x, wn, rfl, _⟩ := h
  rfl
 ·obtain ⟨tv, q, t0, x, wn, rfl, ht, gt, hw, wr, hz, k⟩ := h
  refine ⟨_, (pss_cons (ps_set (i := 2) sc_search.nd rfl (Or.inl rfl) (pe_lst pa_nil))
 (pss_cons (ps_set (i := 3) sc_search.nd rfl (Or.inl rfl) pe_int)
 (pss_cons (ps_set (i := 4) sc_search.nd rfl (Or.inl rfl) (pe_lst pa_nil))
 (pss_cons (ps_set (i := 5) sc_search.nd rfl (Or.inl rfl) (pv 0))
 (pss_cons (ps_while PassesOwn.never (PW.pt (pw_or (pt_cmpR op_notN (pv 5) pe_non (nomark _)) (pw_or1 (pt_cmpR op_gt (pe_callB call_len_seq (by rfl) T.len PySem.boot_len (pa_cons (pv 4) pa_nil)) pe_int (nomark _)))))
 (pss_one (ps_if (pt_cmpR op_isN (pv 5) pe_non (nomark _))
 (pss_cons (ps_set (i := 5) sc_search.nd rfl (Or.inl rfl) (pe_bm0 PySem.F.plainAttrs_list PySem.F.slot_list_pop PySem.F.type_list_pop mt_pop (pv 4)))
 (pss_cons (ps_aug (i := 3) sc_search.nd rfl (Or.inl rfl) pe_int ip_add)
 (pss_cons (ps_if (pt_truth (pe_fn D_hits (hr.mono (by decide)) rfl (pa_cons (pe_fld (pv 5) rfl) (pa_cons (pv 1) pa_nil))) (fun _ => rfl))
 (pss_one (ps_expr (pe_bm PySem.F.plainAttrs_list PySem.F.slot_list_append PySem.F.type_list_append mt_append (pv 2) (pa_cons (pe_fld (pv 5) rfl) pa_nil))))
 pss_nil)
 (pss_one (ps_set (i := 5) sc_search.nd rfl (Or.inl rfl) (pe_ifExp (pt_cmpR op_le (pe_fld (pe_fld (pv 5) rfl) rfl) (pe_fld (pv 1) rfl) (nomark _)) (pe_fld (pv 5) rfl) pe_non))))))
 (pss_one (ps_if (pt_truth (pe_fn D_passed_over (hr.mono (by decide)) rfl (pa_cons (pv 5) (pa_cons (pv 1) pa_nil))) (fun _ => rfl))
 (pss_one (ps_set (i := 5) sc_search.nd rfl (Or.inl rfl) pe_non))
 (pss_cons (ps_expr (pe_bm PySem.F.plainAttrs_list PySem.F.slot_list_append PySem.F.type_list_append mt_append (pv 4) (pa_cons (pv 5) pa_nil)))
 (pss_one (ps_set (i := 5) sc_search.nd rfl (Or.inl rfl) (pe_ifExp (pt_cmpR op_le (pe_fld (pv 1) rfl) (pe_fld (pe_fld (pv 5) rfl) rfl) (nomark _)) (pe_fld (pv 5) rfl) pe_non)))))))))
 (pss_one (ps_ret (pe_tup (pa_cons (pv 2) (pa_cons (pv 3) pa_nil)))))))))), ?_⟩
  simp [start]
  intro fa hfa wa hwa
  have hfa0 : H fa = none := hfa
  have hwa0 : H wa = none := by
   by_cases z : wa = fa
   ·rw [z, upd_same] at hwa; cases hwa
   ·rw [upd_ne z] at hwa; exact hwa
  have nfw : fa ≠ wa := fun z => by rw [← z, upd_same] at hwa; cases hwa
  have fl := found_le wn t0
  refine ⟨SrI K H tv q fa wa wn t0,
   ⟨_, tv, t0, [], [], [], 0, rfl, rfl, ?_, ht, gt, trivial, (fun _ h => by cases h), (Same.new hfa).trans (Same.new hwa), ?_, upd_same, ?_, ?_⟩, ?_⟩
  ·simp only [SM.mu, List.map_nil, List.sum_nil]; omega
  ·rw [upd_ne nfw, upd_same]
   rfl
  ·simp [SM.restF, SM.wsF]
  ·simp [SM.restN, SM.wsN]
  rintro m σ H' ⟨v, t, ps, ws, F, N, rfl, rfl, hm, hv, gv, hws, hF, sm, hfa', hwa', eF, eN⟩
  have hFl : F.length ≤ 200 := by
   have := congrArg List.length eF
   rw [List.length_append, List.length_map] at this
   omega
  have hpl : ps.length ≤ 400 := by rw [hws.len]; exact Nat.le_trans (ws_le t ws) hm
  cases t with
  | leaf =>
   have : v = .non := hv
   subst this
   simp
   refine ⟨_, .inl (SqL.of hwa'), ?_⟩
   rw [opn_len]
   cases ps with
   | nil =>
    have ews : ws = [] := by have := hws.len; simpa using this.symm
    subst ews
    simp
    simp [SM.restF, SM.wsF, SM.restN, SM.wsN, Vabiti.search] at eF eN
    refine ⟨fits (by decide), fun T hT => ?_⟩
    refine k _ T fa F (sm.trans (Same.new hT)) (by rw [upd_same, eN]) (by rw [upd_ne (ne_of_none hfa' hT)]; exact hfa') (fun y hy => ⟨((hF y hy).1.same sm).upd hT, (hF y hy).2⟩) eF
   | cons p ps =>
    cases ws with
    | nil => exact hws.elim
    | cons er ws =>
     obtain ⟨e, r⟩ := er
     obtain ⟨⟨eq, vl, vr, lo, hi, hn, he, hvr, ge, gr⟩, hws'⟩ := hws
     rw [if_pos (show 0 < (p :: ps).length from Nat.succ_pos _)]
     have hn' := hn.same sm
     have he' := he.same sm
     have hw' := hw.same sm
     have sm1 : ∀ o, Same H (upd H' wa o) := fun o b u eb => by rw [upd_ne (ne_of_none eb hwa0)]; exact sm b u eb
     have sm2 : ∀ o o', Same H (upd (upd H' wa o) fa o') := fun o o' b u eb => by rw [upd_ne (ne_of_none eb hfa0)]; exact sm1 o b u eb
     refine ⟨LessI (SrI K H tv q fa wa wn t0) _, fun σ' H'' h => h, .inl ⟨rfl, _, SqL.of hwa'⟩, wa, opn (p :: ps), .ref p, rfl, rfl, hwa', ?_, ?_⟩
     ·rw [opn_cons]
      simp
     rw [opn_cons, List.dropLast_concat]
     have fin : ∀ (H1 : Hp) (F' : FE) (v' : V), TT' K H v' (SM.right wn e r) → FAt K H F' → Same H H1 → H1 fa = some (.lst (F'.map refE)) → H1 wa = some (.lst (opn ps)) → F'.map (·.2) = F.map (·.2) ++ SM.hitL wn e →
       LessI (SrI K H tv q fa wa wn t0) (SM.mu .leaf ((e, r) :: ws)) [some tv, some (.ref q), some (.ref fa), some (.int ((N : Int) + 1)), some (.ref wa), some v'] H1 := by
      intro H1 F' v' h1 h2 h3 h4 h5 h6
      have hlt := SM.mu_pop wn e r ws
      have hp := SM.rest_pop wn e r ws
      refine ⟨_, hlt, v', SM.right wn e r, ps, ws, F', N + 1, by push_cast; rfl, rfl, by omega, h1, ?_, hws', h2, h3, h4, h5, ?_, ?_⟩
      ·unfold SM.right
       split
       ·exact gr
       ·trivial
      ·rw [h6, List.append_assoc, ← hp.1]
       exact eF
      ·rw [hp.2] at eN
       omega
     have hR : TT' K H (if e.key ≤ wn.k then vr else .non) (SM.right wn e r) := by
      unfold SM.right
      split
      ·exact hvr
      ·rfl
     have hn1 := hn.same (sm1 (.lst (opn ps)))
     have he1 := he.same (sm1 (.lst (opn ps)))
     have hw1 := hw.same (sm1 (.lst (opn ps)))
     have hfa1 : upd H' wa (.lst (opn ps)) fa = some (.lst (F.map refE)) := by rw [upd_ne nfw]; exact hfa'
     simp [hn1.flds]
     refine ⟨eq, q, raw e, x, rfl, he1, hw1, ?_⟩
     rw [hit_eq wr ge]
     cases hh : Vabiti.hits wn e with
     | false =>
      refine .inl ⟨rfl, ?_⟩
      have ehl : SM.hitL wn e = [] := by unfold SM.hitL; rw [hh]; simp
      simp only [hn1.flds, nodeR, he1.flds, hw1.flds]
      simp [raw, wr.k]
      refine ite2 (fun c => ?_) (fun c => ?_)
      ·rw [if_pos c] at hR
       rw [hn1.flds.2.2.2.1]
       exact fin _ F vr hR hF (sm1 _) hfa1 upd_same (by rw [ehl, List.append_nil])
      ·rw [if_neg c] at hR
       exact fin _ F .non hR hF (sm1 _) hfa1 upd_same (by rw [ehl, List.append_nil])
     | true =>
      have ehl : SM.hitL wn e = [e] := by unfold SM.hitL; rw [hh]; simp
      refine .inr ⟨rfl, .inl ⟨rfl, _, SqL.of hfa1⟩, ?_⟩
      simp only [hn1.flds, nodeR]
      refine ⟨fa, F.map refE, .ref eq, rfl, rfl, hfa1, fits' (by rw [List.length_map]; omega), ?_⟩
      have e3 : F.map refE ++ [V.ref eq] = (F ++ [(eq, e)]).map refE := by rw [List.map_append]; rfl
      rw [e3]
      have hn2 := hn.same (sm2 (.lst (opn ps)) (.lst ((F ++ [(eq, e)]).map refE)))
      have he2 := he.same (sm2 (.lst (opn ps)) (.lst ((F ++ [(eq, e)]).map refE)))
      have hw2 := hw.same (sm2 (.lst (opn ps)) (.lst ((F ++ [(eq, e)]).map refE)))
      have hwa2 : upd (upd H' wa (.lst (opn ps))) fa (.lst ((F ++ [(eq, e)]).map refE)) wa = some (.lst (opn ps)) := by rw [upd_ne nfw.symm, upd_same]
      have hF2 : FAt K H (F ++ [(eq, e)]) := fun y hy => by
       rcases List.mem_append.mp hy with hy | hy
       ·exact hF y hy
       ·rw [List.mem_singleton] at hy
        rw [hy]
        exact ⟨he, ge⟩
      have eF2 : (F ++ [(eq, e)]).map (·.2) = F.map (·.2) ++ SM.hitL wn e := by rw [ehl, List.map_append]; rfl
      simp only [hn2.flds, nodeR, he2.flds, hw2.flds]
      simp only [x_rI0, x_bT, raw, wr.k, decide_eq_true_eq]
      refine ite2 (fun c => ?_) (fun c => ?_)
      ·rw [if_pos c] at hR
       rw [hn2.flds.2.2.2.1]
       exact fin _ (F ++ [(eq, e)]) vr hR hF2 (sm2 _ _) upd_same hwa2 eF2
      ·rw [if_neg c] at hR
       exact fin _ (F ++ [(eq, e)]) .non hR hF2 (sm2 _ _) upd_same hwa2 eF2
  | node l e r =>
   obtain ⟨p, eq, vl, vr, rfl, _, hn, he, hvl, hvr⟩ := hv
   obtain ⟨ge, gl, gr⟩ := id gv
   have hn' := hn.same sm
   have he' := he.same sm
   have hw' := hw.same sm
   simp
   refine ⟨LessI (SrI K H tv q fa wa wn t0) _, fun σ' H'' h => h, ?_⟩
   refine ⟨p, q, _, x, rfl, hn', hw', ?_⟩
   by_cases hov : SM.over wn (.node l e r)
   ·have ro := SM.rest_over wn hov ws
    refine .inr ⟨(over_eq wr gv).mpr hov ▸ rfl, ?_⟩
    have hlt := SM.mu_over l e r ws
    exact ⟨_, hlt, .non, .leaf, ps, ws, F, N, rfl, rfl, by omega, rfl, trivial, hws, hF, sm, hfa', hwa', by rw [← ro.1]; exact eF, by rw [← ro.2]; exact eN⟩
   ·have ro := SM.rest_down wn hov ws
    have hov' : overR (nodeR eq e vl vr (least (.node l e r)) (greatest (.node l e r))) x = false := by
     cases q : overR (nodeR eq e vl vr (least (.node l e r)) (greatest (.node l e r))) x with
     | false => rfl
     | true => exact absurd ((over_eq wr gv).mp q) hov
    refine .inl ⟨by rw [hov']; rfl, .inl ⟨rfl, _, SqL.of hwa'⟩, wa, opn ps, .ref p, rfl, rfl, hwa', fits' (by rw [opn_len]; omega), ?_⟩
    rw [← opn_cons]
    have sm1 : ∀ o, Same H (upd H' wa o) := fun o b u eb => by rw [upd_ne (ne_of_none eb hwa0)]; exact sm b u eb
    have hn1 := hn.same (sm1 (.lst (opn (p :: ps))))
    have he1 := he.same (sm1 (.lst (opn (p :: ps))))
    have hw1 := hw.same (sm1 (.lst (opn (p :: ps))))
    have hfa1 : upd H' wa (.lst (opn (p :: ps))) fa = some (.lst (F.map refE)) := by rw [upd_ne nfw]; exact hfa'
    have hlt := SM.mu_down wn l e r ws
    have hwn : WaitAt K H (p :: ps) ((e, r) :: ws) := ⟨⟨eq, vl, vr, _, _, hn, he, hvr, ge, gr⟩, hws⟩
    simp only [hn1.flds, nodeR, he1.flds, hw1.flds]
    simp [raw, wr.j]
    refine ite2 (fun c => ?_) (fun c => ?_)
    ·have el : SM.left wn e l = l := by unfold SM.left; rw [if_pos c]
     rw [el] at hlt ro
     rw [hn1.flds.2.2.1]
     exact ⟨_, hlt, vl, l, p :: ps, (e, r) :: ws, F, N, rfl, rfl, by omega, hvl, gl, hwn, hF, sm1 _, hfa1, upd_same, by rw [← ro.1]; exact eF, by rw [← ro.2]; exact eN⟩
    ·have el : SM.left wn e l = .leaf := by unfold SM.left; rw [if_neg c]
     rw [el] at hlt ro
     exact ⟨_, hlt, .non, .leaf, p :: ps, (e, r) :: ws, F, N, rfl, rfl, by omega, rfl, trivial, hwn, hF, sm1 _, hfa1, upd_same, by rw [← ro.1]; exact eF, by rw [← ro.2]; exact eN⟩
end
end L2
end
section
namespace L2
open PySem PySem.Spec PyProof.Rows
open Vabiti (Call least greatest weight)
section
variable {P : Program} {w : World} {K : PySem.W.Frag} {mg : Str → Option Value} {base : Heap} {H H' H2 : Hp} {S S' : Addr → Prop} {Q : VK}
def WaitD (K : PySem.W.Frag) (H H' : Hp) : List Addr → List (VE × VT × Nat) → Prop
 | [], [] => True
 | p :: ps, (e, r, n) :: ws => (∃ a q vl vr lo hi, H' p = some (.tup [.ref a, .int n]) ∧ NodeAt K H a (nodeR q e vl vr lo hi) ∧ EntAt K H q (raw e) ∧ TT' K H vr r) ∧ WaitD K H H' ps ws
 | _, _ => False
theorem WaitD.len : ∀ {ps : List Addr} {ws : List (VE × VT × Nat)}, WaitD K H H' ps ws → ps.length = ws.length
 | [], [], _ => rfl
 | p :: ps, (e, r) :: ws, h => by rw [List.length_cons, List.length_cons, WaitD.len h.2]
 | [], _ :: _, h => h.elim
 | _ :: _, [], h => h.elim
theorem WaitD.mono (k : ∀ b xs, H' b = some (.tup xs) → H2 b = some (.tup xs)) : ∀ {ps : List Addr} {ws : List (VE × VT × Nat)}, WaitD K H H' ps ws → WaitD K H H2 ps ws
 | [], [], _ => trivial
 | p :: ps, (e, r, n) :: ws, h => by
  obtain ⟨⟨a, q, vl, vr, lo, hi, h1, h2⟩, h3⟩ := h
  exact ⟨⟨a, q, vl, vr, lo, hi, k _ _ h1, h2⟩, WaitD.mono k h3⟩
 | [], _ :: _, h => h.elim
 | _ :: _, [], h => h.elim
theorem wd_le (t : VT) (ws : List (VE × VT × Nat)) : ws.length ≤ SM.dmu t ws := by
 unfold SM.dmu
 induction ws with
 | nil => exact Nat.zero_le _
 | cons a ws ih =>
  simp only [List.map_cons, List.sum_cons, List.length_cons] at ih ⊢
  omega
def PAt (H : Hp) : List Addr → List (Nat × Nat) → Prop := Paired fun p x => H p = some (.tup [.int (x.1 : Nat), .int (x.2 : Nat)])
theorem PAt.mono (k : ∀ b xs, H b = some (.tup xs) → H' b = some (.tup xs)) {ps : List Addr} {xs : List (Nat × Nat)} (h : PAt H ps xs) : PAt H' ps xs := Paired.mapP h fun _ _ z => k _ _ z
theorem depths_len : ∀ (t : VT) (n : Nat), (Vabiti.depths n t).length = SM.tsize t
 | .leaf, _ => rfl
 | .node l e r, n => by
  show (Vabiti.depths (n + 1) l ++ ((e.id, n) :: Vabiti.depths (n + 1) r)).length = _
  rw [List.length_append, List.length_cons, depths_len l, depths_len r]
  simp only [SM.tsize]
  omega
def sp_depths (K : PySem.W.Frag) : Sp := fun vs H Q _ => ∃ (v : V) (t : VT), vs = [v] ∧ TT' K H v t ∧ SM.tsize t ≤ 200 ∧ ∀ H' l ps, Same H H' → H l = none → H' l = some (.lst (List.map V.ref ps)) → PAt H' ps (Vabiti.depths 0 t) → Q (.ref l) H'
def DpI (K : PySem.W.Frag) (H : Hp) (tv : V) (pa wa : Addr) (t0 : VT) (m : Nat) (σ : St) (H' : Hp) : Prop := ∃ (v : V) (t : VT) (ps : List Addr) (ws : List (VE × VT × Nat)) (as : List Addr) (F : List (Nat × Nat)) (d : Nat) (la : Option V), σ = [some tv, some (.ref pa), some (.ref wa), some v, some (.int d), la] ∧ m = SM.dmu t ws ∧ m ≤ 400 ∧ TT' K H v t ∧ WaitD K H H' ps ws ∧ PAt H' as F ∧ Same H H' ∧ H' pa = some (.lst (as.map V.ref)) ∧ H' wa = some (.lst (opn ps)) ∧ F ++ SM.dRest t d ws = Vabiti.depths 0 t0
theorem ok_depths {f : Addr} {fd : FuncData} (F : Fun K "depths" "depths" s_depths f fd) (T : Txt K mg) : FnOk P w K mg base CX0 1 f fd ["tree"] (sp_depths K) := by
 refine F.ok sc_depths (fun vs H Q E h => ?_) (fun cdv A outer s H vs Q E hr h => ?_)
 ·obtain ⟨v, t, rfl, _⟩ := h
  rfl
 ·obtain ⟨tv, t0, rfl, ht, hz, k⟩ := h
  refine ⟨_, (pss_cons (ps_set (i := 1) sc_depths.nd rfl (Or.inl rfl) (pe_lst pa_nil))
 (pss_cons (ps_set (i := 2) sc_depths.nd rfl (Or.inl rfl) (pe_lst pa_nil))
 (pss_cons (ps_set (i := 3) sc_depths.nd rfl (Or.inl rfl) (pv 0))
 (pss_cons (ps_set (i := 4) sc_depths.nd rfl (Or.inl rfl) pe_int)
 (pss_cons (ps_while PassesOwn.never (PW.pt (pw_or (pt_cmpR op_notN (pv 3) pe_non (nomark _)) (pw_or1 (pt_cmpR op_gt (pe_callB call_len_seq (by rfl) T.len PySem.boot_len (pa_cons (pv 2) pa_nil)) pe_int (nomark _)))))
 (pss_cons (ps_if (pt_cmpR op_isN (pv 3) pe_non (nomark _))
 (pss_cons (ps_set (i := 5) sc_depths.nd rfl (Or.inl rfl) (pe_bm0 PySem.F.plainAttrs_list PySem.F.slot_list_pop PySem.F.type_list_pop mt_pop (pv 2)))
 (pss_cons (ps_set (i := 3) sc_depths.nd rfl (Or.inl rfl) (pe_ix ix_tup (pv 5) pe_int (fun _ _ => rfl)))
 (pss_cons (ps_set (i := 4) sc_depths.nd rfl (Or.inl rfl) (pe_ix ix_tup (pv 5) pe_int (fun _ _ => rfl)))
 (pss_cons (ps_expr (pe_bm PySem.F.plainAttrs_list PySem.F.slot_list_append PySem.F.type_list_append mt_append (pv 1) (pa_cons (pe_tup (pa_cons (pe_fld (pe_fld (pv 3) rfl) rfl) (pa_cons (pv 4) pa_nil))) pa_nil)))
 (pss_one (ps_set (i := 3) sc_depths.nd rfl (Or.inl rfl) (pe_fld (pv 3) rfl)))))))
 (pss_cons (ps_expr (pe_bm PySem.F.plainAttrs_list PySem.F.slot_list_append PySem.F.type_list_append mt_append (pv 2) (pa_cons (pe_tup (pa_cons (pv 3) (pa_cons (pv 4) pa_nil))) pa_nil)))
 (pss_one (ps_set (i := 3) sc_depths.nd rfl (Or.inl rfl) (pe_fld (pv 3) rfl)))))
 (pss_one (ps_aug (i := 4) sc_depths.nd rfl (Or.inl rfl) pe_int ip_add))))
 (pss_one (ps_ret (pv 1)))))))), ?_⟩
  simp [start]
  intro pa hpa wa hwa
  have hwa0 : H wa = none := by
   by_cases z : wa = pa
   ·rw [z, upd_same] at hwa; cases hwa
   ·rw [upd_ne z] at hwa; exact hwa
  have npw : pa ≠ wa := fun z => by rw [← z, upd_same] at hwa; cases hwa
  refine ⟨DpI K H tv pa wa t0, ⟨_, tv, t0, [], [], [], [], 0, none, rfl, rfl, ?_, ht, trivial, .nil, (Same.new hpa).trans (Same.new hwa), ?_, upd_same, ?_⟩, ?_⟩
  ·simp only [SM.dmu, List.map_nil, List.sum_nil]; omega
  ·rw [upd_ne npw, upd_same]
   rfl
  ·simp [SM.dRest, SM.dsF]
  rintro m σ H' ⟨v, t, ps, ws, as, F, d, la, rfl, rfl, hm, hv, hws, hF, sm, hpa', hwa', eF⟩
  have hal : as.length ≤ 200 := by
   have h1 := Paired.length hF
   have h2 := congrArg List.length eF
   rw [List.length_append, depths_len] at h2
   omega
  have hpl : ps.length ≤ 400 := by rw [hws.len]; exact Nat.le_trans (wd_le t ws) hm
  cases t with
  | leaf =>
   have : v = .non := hv
   subst this
   simp
   refine ⟨_, .inl (SqL.of hwa'), ?_⟩
   rw [opn_len]
   cases ps with
   | nil =>
    have ews : ws = [] := by have := hws.len; simpa using this.symm
    subst ews
    simp
    have e0 : F = Vabiti.depths 0 t0 := by
     rw [← eF]
     simp [SM.dRest, SM.dsF, Vabiti.depths]
    rw [e0] at hF
    exact k H' pa as sm hpa hpa' hF
   | cons p ps =>
    cases ws with
    | nil => exact hws.elim
    | cons er ws =>
     obtain ⟨e, r, n⟩ := er
     obtain ⟨⟨a, eq, vl, vr, lo, hi, hp, hn, he, hvr⟩, hws'⟩ := hws
     rw [if_pos (show 0 < (p :: ps).length from Nat.succ_pos _)]
     refine ⟨LessI (DpI K H tv pa wa t0) _, fun σ' H'' h => h, .inl ⟨rfl, _, SqL.of hwa'⟩, wa, opn (p :: ps), .ref p, rfl, rfl, hwa', ?_, ?_⟩
     ·rw [opn_cons]
      simp
     rw [opn_cons, List.dropLast_concat]
     have sm1 : ∀ o, Same H (upd H' wa o) := fun o b u eb => by rw [upd_ne (ne_of_none eb hwa0)]; exact sm b u eb
     have kt1 : ∀ o b xs, H' b = some (.tup xs) → upd H' wa o b = some (.tup xs) := fun o b xs eb => by
      rw [upd_ne (ne_of eb hwa' fun z => by cases z)]
      exact eb
     have hp1 := kt1 (.lst (opn ps)) _ _ hp
     have hn1 := hn.same (sm1 (.lst (opn ps)))
     have he1 := he.same (sm1 (.lst (opn ps)))
     refine ⟨p, _, 0, .ref a, rfl, rfl, SqT.of hp1, rfl, p, _, 1, .int n, rfl, rfl, SqT.of hp1, rfl, ?_⟩
     have hpa1 : upd H' wa (.lst (opn ps)) pa = some (.lst (as.map V.ref)) := by rw [upd_ne npw]; exact hpa'
     refine ⟨.inl ⟨rfl, _, SqL.of hpa1⟩, ?_⟩
     simp only [hn1.flds, nodeR, he1.flds]
     refine ⟨len2_le, fun T hT => ⟨pa, as.map V.ref, .ref T, rfl, rfl, by rw [upd_ne (ne_of_none hpa1 hT)]; exact hpa1, fits' (by rw [List.length_map]; omega), ?_⟩⟩
     have e3 : as.map V.ref ++ [V.ref T] = (as ++ [T]).map V.ref := by rw [List.map_append]; rfl
     rw [e3]
     let H2 := upd (upd H' wa (.lst (opn ps))) T (.tup [.int (raw e).n, .int n])
     have pa2 : H2 pa = some (.lst (as.map V.ref)) := by simp only [H2]; rw [upd_ne (ne_of_none hpa1 hT)]; exact hpa1
     have sm2 : Same H H2 := (sm1 _).trans (Same.new hT)
     have sm3 : ∀ o, Same H (upd H2 pa o) := fun o b u eb => by rw [upd_ne (ne_of_none eb hpa)]; exact sm2 b u eb
     have kt3 : ∀ o b xs, H' b = some (.tup xs) → upd H2 pa o b = some (.tup xs) := fun o b xs eb => by
      have e2 : H2 b = some (.tup xs) := by
       simp only [H2]
       rw [upd_ne (ne_of_none (kt1 _ _ _ eb) hT)]
       exact kt1 _ _ _ eb
      rw [upd_ne (ne_of e2 pa2 fun z => by cases z)]
      exact e2
     have hn3 := hn.same (sm3 (.lst ((as ++ [T]).map V.ref)))
     have nTp : T ≠ pa := fun z => by rw [z, hpa1] at hT; cases hT
     refine (hn3.flds.2.2.2.1 _).mpr ?_
     simp only [x_ipI]
     have hlt := SM.dmu_pop e r n ws
     refine ⟨_, hlt, vr, r, ps, ws, as ++ [T], F ++ [(e.id, n)], n + 1, _, by push_cast; rfl, rfl, by omega, hvr, hws'.mono (kt3 _), Paired.snoc (PAt.mono (kt3 _) hF) ?_, sm3 _, upd_same, ?_, ?_⟩
     ·rw [upd_ne nTp]
      exact upd_same
     ·rw [upd_ne npw.symm]
      show H2 wa = _
      simp only [H2]
      rw [upd_ne (fun z => by rw [← z, upd_same] at hT; cases hT), upd_same]
     ·rw [SM.d_pop] at eF
      rw [List.append_assoc]
      exact eF
  | node l e r =>
   obtain ⟨p, eq, vl, vr, rfl, _, hn, he, hvl, hvr⟩ := hv
   have hn' := hn.same sm
   simp
   refine ⟨LessI (DpI K H tv pa wa t0) _, fun σ' H'' h => h, .inl ⟨rfl, _, SqL.of hwa'⟩, len2_le, fun T hT => ?_⟩
   have hwa1 : upd H' T (.tup [.ref p, .int d]) wa = some (.lst (opn ps)) := by rw [upd_ne (ne_of_none hwa' hT)]; exact hwa'
   refine ⟨wa, opn ps, .ref T, rfl, rfl, hwa1, fits' (by rw [opn_len]; omega), ?_⟩
   rw [← opn_cons]
   have sm1 : Same H (upd H' T (.tup [.ref p, .int d])) := sm.trans (Same.new hT)
   have sm2 : ∀ o, Same H (upd (upd H' T (.tup [.ref p, .int d])) wa o) := fun o b u eb => by rw [upd_ne (ne_of_none eb hwa0)]; exact sm1 b u eb
   have kt : ∀ o b xs, H' b = some (.tup xs) → upd (upd H' T (.tup [.ref p, .int d])) wa o b = some (.tup xs) := fun o b xs eb => by
    have e2 : upd H' T (.tup [.ref p, .int d]) b = some (.tup xs) := by rw [upd_ne (ne_of_none eb hT)]; exact eb
    rw [upd_ne (ne_of e2 hwa1 fun z => by cases z)]
    exact e2
   have hn2 := hn.same (sm2 (.lst (opn (T :: ps))))
   have nTw : T ≠ wa := fun z => by rw [z, hwa'] at hT; cases hT
   refine (hn2.flds.2.2.1 _).mpr ?_
   have hlt := SM.dmu_down l e r d ws
   refine ⟨_, hlt, vl, l, T :: ps, (e, r, d) :: ws, as, F, d + 1, la, by push_cast; rfl, rfl, by omega, hvl, ⟨⟨p, eq, vl, vr, _, _, ?_, hn, he, hvr⟩, hws.mono (kt _)⟩, PAt.mono (kt _) hF, sm2 _, ?_, upd_same, ?_⟩
   ·rw [upd_ne nTw, upd_same]
   ·rw [upd_ne npw, upd_ne (ne_of_none hpa' hT)]
    exact hpa'
   ·rw [← SM.d_down]
    exact eF
theorem cart_of {es : List VE} (h : SM.Srt es) : SM.Cart es (Vabiti.treeOf es) := by
 have s := SM.push_all_si (xs := es) (st := []) (es := []) .nil
 rw [List.nil_append] at s
 have c := SM.closeAll_cart s .leaf (fun _ _ _ h => by cases h)
 rw [List.append_nil, SM.built h] at c
 exact c
def pathT (x : VE) : VT → List Nat
 | .leaf => []
 | .node l e r => if Vabiti.before x e = true then Vabiti.path x l else if Vabiti.before e x = true then Vabiti.path x r else []
def WdI (K : PySem.W.Frag) (H : Hp) (tv : V) (q wa : Addr) (x : VE) (t0 : VT) (m : Nat) (σ : St) (H' : Hp) : Prop := ∃ (v : V) (t : VT) (es : List VE) (F : FE), σ = [some tv, some (.ref q), some (.ref wa), some v] ∧ m = SM.tsize t ∧ m ≤ 200 ∧ TT' K H v t ∧ SM.Cart es t ∧ SM.Srt es ∧ x ∈ es ∧ (es.map (·.id)).Nodup ∧ F.length + SM.tsize t ≤ 201 ∧ (∀ y ∈ F, EntAt K H y.1 (raw y.2)) ∧ Same H H' ∧ H' wa = some (.lst (F.map refE)) ∧ F.map (·.2.id) ++ pathT x t = Vabiti.path x t0
def sp_way_down (K : PySem.W.Frag) : Sp := fun vs H Q _ => ∃ (v : V) (q : Addr) (t : VT) (es : List VE) (x : VE), vs = [v, .ref q] ∧ TT' K H v t ∧ SM.Cart es t ∧ SM.Srt es ∧ x ∈ es ∧ (es.map (·.id)).Nodup ∧ SM.tsize t ≤ 200 ∧ EntAt K H q (raw x) ∧ ∀ H' l (F : FE), Same H H' → H l = none → H' l = some (.lst (F.map refE)) → (∀ y ∈ F, EntAt K H' y.1 (raw y.2)) → F.map (·.2.id) = Vabiti.path x t → F.length ≤ 201 → Q (.ref l) H'
theorem lex_bf {x e : VE} : HT.lexLt (rkE (raw x)) (rkE (raw e)) = Vabiti.before x e := by
 rw [Bool.eq_iff_iff, SM.bf_iff]
 simp only [rkE, raw, HT.lexLt]
 by_cases h1 : x.key = e.key
 ·by_cases h2 : (x.a : Int) = (e.a : Int)
  ·by_cases h3 : (x.id : Int) = (e.id : Int)
   ·rw [if_pos h1, if_pos h2, if_pos h3]
    simp
    omega
   ·rw [if_pos h1, if_pos h2, if_neg h3, decide_eq_true_eq]
    omega
  ·rw [if_pos h1, if_neg h2, decide_eq_true_eq]
   omega
 ·rw [if_neg h1, decide_eq_true_eq]
  omega
theorem ok_way_down {f : Addr} {fd : FuncData} (F : Fun K "way_down" "way_down" s_way_down f fd) (T : Txt K mg) (D_rank : Df P w K mg base 1 "rank" ["entry"] (sp_rank K)) : FnOk P w K mg base CX0 2 f fd ["tree", "entry"] (sp_way_down K) := by
 refine F.ok sc_way_down (fun vs H Q E h => ?_) (fun cdv A outer s H vs Q E hr h => ?_)
 ·obtain ⟨v, q, t, es, x, rfl, _⟩ := h
  rfl
 ·obtain ⟨tv, q, t0, es0, x, rfl, ht, hc, hs, hx, hnd, hz, hq, k⟩ := h
  refine ⟨_, (pss_cons (ps_set (i := 2) sc_way_down.nd rfl (Or.inl rfl) (pe_lst (pa_cons (pe_fld (pv 0) rfl) pa_nil)))
 (pss_cons (ps_set (i := 3) sc_way_down.nd rfl (Or.inl rfl) (pv 0))
 (pss_cons (ps_while PassesOwn.never (pt_cmpR op_ne (pe_fld (pe_fld (pv 3) rfl) rfl) (pe_fld (pv 1) rfl) (nomark _))
 (pss_cons (ps_set (i := 3) sc_way_down.nd rfl (Or.inl rfl) (pe_ifExp (pt_cmpR (op_ltT hr.units0) (pe_fn D_rank (hr.mono (by decide)) rfl (pa_cons (pv 1) pa_nil)) (pe_fn D_rank (hr.mono (by decide)) rfl (pa_cons (pe_fld (pv 3) rfl) pa_nil)) (nomark _)) (pe_fld (pv 3) rfl) (pe_fld (pv 3) rfl)))
 (pss_one (ps_expr (pe_bm PySem.F.plainAttrs_list PySem.F.slot_list_append PySem.F.type_list_append mt_append (pv 2) (pa_cons (pe_fld (pv 3) rfl) pa_nil))))))
 (pss_one (ps_ret (pv 2)))))), ?_⟩
  cases t0 with
  | leaf => cases hc; cases hx
  | node l e r =>
   obtain ⟨p, eq, vl, vr, rfl, _, hn, he, hvl, hvr⟩ := id ht
   simp [start, hn.flds]
   refine ⟨fits (by decide), fun wa hwa => ?_⟩
   refine ⟨WdI K H (.ref p) q wa x (.node l e r), ⟨_, .ref p, .node l e r, es0, [(eq, e)], rfl, rfl, hz, ht, hc, hs, hx, hnd, by simp; omega, fun y hy => by rw [List.mem_singleton] at hy; rw [hy]; exact he, Same.new hwa, upd_same, rfl⟩, ?_⟩
   rintro m σ H' ⟨v, t, es, F, rfl, rfl, hm, hv, hc, hs, hx, hnd, hFl, hF, sm, hwa', eF⟩
   cases t with
   | leaf => cases hc; cases hx
   | node l' e' r' =>
    obtain ⟨p', eq', vl', vr', rfl, _, hn', he', hvl', hvr'⟩ := id hv
    have hn1 := hn'.same sm
    have he1 := he'.same sm
    have hq1 := hq.same sm
    simp only [x_test, x_op, x_fld, x_var]
    simp
    simp only [hn1.flds, nodeR, he1.flds, hq1.flds]
    simp
    cases hc with
    | @node ll rr _ _ _ cl cr h1 h2 =>
     obtain ⟨sl, sr, hlr⟩ := List.pairwise_append.mp hs
     have sr' := List.pairwise_cons.mp sr
     by_cases hid : e'.id = x.id
     ·have hxe : e' = x := SM.id_inj hnd (by simp) hx hid
      rw [if_pos (by show (e'.id : Int) = (x.id : Int); rw [hid])]
      have ep : pathT x (.node l' e' r') = [] := by
       show (if Vabiti.before x e' = true then _ else if Vabiti.before e' x = true then _ else _) = _
       rw [hxe, SM.bf_irrefl]
       rfl
      rw [ep, List.append_nil] at eF
      exact k H' wa F sm hwa hwa' (fun y hy => (hF y hy).same sm) eF (by omega)
     ·rw [if_neg (by show ¬ (e'.id : Int) = (x.id : Int); omega)]
      refine ⟨LessI (WdI K H (.ref p) q wa x (.node l e r)) _, fun σ' H'' h => h, ?_⟩
      refine ⟨q, raw x, rfl, hq1, fun T1 hT1 => ?_⟩
      have sm1 : Same H (upd H' T1 (.tup ((rkE (raw x)).map V.int))) := sm.trans (Same.new hT1)
      refine ((hn'.same sm1).flds.1 _).mpr ?_
      refine ⟨eq', raw e', rfl, he'.same sm1, fun T2 hT2 => ?_⟩
      have sm2 := sm1.trans (Same.new (o := .tup ((rkE (raw e')).map V.int)) hT2)
      refine ⟨T1, T2, rkE (raw x), rkE (raw e'), rfl, rfl, SqT.of (by rw [upd_ne (fun z => by rw [← z, upd_same] at hT2; cases hT2), upd_same]), SqT.of upd_same, ?_⟩
      rw [lex_bf]
      simp only [x_bT]
      have hwa2 : upd (upd H' T1 (.tup ((rkE (raw x)).map V.int))) T2 (.tup ((rkE (raw e')).map V.int)) wa = some (.lst (F.map refE)) := by
       have h1 : upd H' T1 (.tup ((rkE (raw x)).map V.int)) wa = some (.lst (F.map refE)) := by rw [upd_ne (ne_of_none hwa' hT1)]; exact hwa'
       rw [upd_ne (ne_of_none h1 hT2)]
       exact h1
      have fin : ∀ (v2 : V) (t2 : VT) (es2 : List VE), TT' K H v2 t2 → SM.Cart es2 t2 → SM.Srt es2 → x ∈ es2 → (es2.map (·.id)).Nodup → SM.tsize t2 < SM.tsize (.node l' e' r') → pathT x (.node l' e' r') = Vabiti.path x t2 →
        (tyV K "list" (.ref wa) (upd (upd H' T1 (.tup ((rkE (raw x)).map V.int))) T2 (.tup ((rkE (raw e')).map V.int))) ∧ fldR K "entry" v2 (upd (upd H' T1 (.tup ((rkE (raw x)).map V.int))) T2 (.tup ((rkE (raw e')).map V.int))) fun x_5 H1 => rAppend (.ref wa) [x_5] H1 fun x_6 H1 => LessI (WdI K H (.ref p) q wa x (.node l e r)) (SM.tsize (.node l' e' r')) [some (.ref p), some (.ref q), some (.ref wa), some v2] H1) := by
       intro v2 t2 es2 g1 g2 g3 g4 g5 g6 g7
       refine ⟨.inl ⟨rfl, _, SqL.of hwa2⟩, ?_⟩
       cases t2 with
       | leaf => cases g2; cases g4
       | node l2 e2 r2 =>
        obtain ⟨p2, q2, vl2, vr2, rfl, _, hn2, he2, _⟩ := id g1
        refine ((hn2.same sm2).flds.1 _).mpr ?_
        refine ⟨wa, F.map refE, .ref q2, rfl, rfl, hwa2, fits' (by rw [List.length_map]; omega), ?_⟩
        have e3 : F.map refE ++ [V.ref q2] = (F ++ [(q2, e2)]).map refE := by rw [List.map_append]; rfl
        rw [e3]
        refine ⟨_, g6, .ref p2, .node l2 e2 r2, es2, F ++ [(q2, e2)], rfl, rfl, by omega, g1, g2, g3, g4, g5, by rw [List.length_append, List.length_singleton]; omega, fun y hy => ?_, fun b u eb => ?_, upd_same, ?_⟩
        ·rcases List.mem_append.mp hy with hy | hy
         ·exact hF y hy
         ·rw [List.mem_singleton] at hy
          rw [hy]
          exact he2
        ·rw [upd_ne (ne_of_none eb hwa)]
         exact sm2 b u eb
        ·rw [List.map_append, List.append_assoc, ← eF, g7]
         rfl
      have ndl : (ll.map (·.id)).Nodup := List.Nodup.sublist (List.Sublist.map _ (List.sublist_append_left _ _)) hnd
      have ndr : (rr.map (·.id)).Nodup := List.Nodup.sublist (List.Sublist.map _ ((List.sublist_cons_self _ _).trans (List.sublist_append_right _ _))) hnd
      have hx' : x ∈ ll ∨ x ∈ rr := by
       rcases List.mem_append.mp hx with z | z
       ·exact .inl z
       ·rcases List.mem_cons.mp z with z | z
        ·exact absurd (by rw [z]) hid
        ·exact .inr z
      cases hb : Vabiti.before x e' with
      | true =>
       refine iteT (((hn'.same sm2).flds.2.2.1 _).mpr ?_)
       have hxl : x ∈ ll := hx'.resolve_right fun z => by
        have := SM.bf_asymm (sr'.1 x z)
        rw [hb] at this
        cases this
       refine fin vl' l' ll hvl' cl sl hxl ndl (by simp only [SM.tsize]; omega) ?_
       show (if Vabiti.before x e' = true then _ else _) = _
       rw [if_pos hb]
      | false =>
       refine iteF (((hn'.same sm2).flds.2.2.2.1 _).mpr ?_)
       have hxr : x ∈ rr := hx'.resolve_left fun z => by
        have := hlr x z e' List.mem_cons_self
        rw [show Vabiti.before x e' = true from this] at hb
        cases hb
       refine fin vr' r' rr hvr' cr sr'.2 hxr ndr (by simp only [SM.tsize]; omega) ?_
       show (if Vabiti.before x e' = true then _ else if Vabiti.before e' x = true then _ else _) = _
       rw [if_neg (by rw [hb]; exact Bool.false_ne_true), if_pos (sr'.1 x hxr)]
end
end L2
end
section
namespace L2
open PySem PySem.Spec PyProof.Rows
open Vabiti (Call many)
def sumQ (q : Int → Bool) : List (Int × Int) → Int
 | [] => 0
 | x :: r => (if q x.1 = true then x.2 else 0) + sumQ q r
def sumL (f : Int → Int) : List Int → Int
 | [] => 0
 | k :: r => f k + sumL f r
theorem sumQ_append (q : Int → Bool) : ∀ (l m : List (Int × Int)), sumQ q (l ++ m) = sumQ q l + sumQ q m
 | [], m => by simp [sumQ]
 | x :: l, m => by
  rw [List.cons_append, sumQ, sumQ, sumQ_append q l m]
  omega
theorem sumQ_congr {q r : Int → Bool} : ∀ {l : List (Int × Int)}, (∀ x ∈ l, q x.1 = r x.1) → sumQ q l = sumQ r l
 | [], _ => rfl
 | x :: l, h => by
  rw [sumQ, sumQ, h x List.mem_cons_self, sumQ_congr fun y hy => h y (List.mem_cons_of_mem _ hy)]
theorem sumL_snoc (f : Int → Int) : ∀ (l : List Int) (k : Int), sumL f (l ++ [k]) = sumL f l + f k
 | [], k => by simp [sumL]
 | x :: l, k => by
  rw [List.cons_append, sumL, sumL, sumL_snoc f l k]
  omega
theorem sumL_add (f g : Int → Int) : ∀ l : List Int, sumL (fun k => f k + g k) l = sumL f l + sumL g l
 | [] => rfl
 | x :: l => by
  rw [sumL, sumL, sumL, sumL_add f g l]
  omega
theorem sumL_one (a c : Int) : ∀ {l : List Int}, l.Nodup → sumL (fun k => if (a == k) = true then c else 0) l = if (l.contains a) = true then c else 0
 | [], _ => rfl
 | k :: l, nd => by
  obtain ⟨h1, h2⟩ := List.nodup_cons.mp nd
  rw [sumL, sumL_one a c h2, List.contains_cons]
  by_cases e : a = k
  ·subst e
   have : l.contains a = false := by simpa using h1
   rw [this]
   simp
  ·have : (a == k) = false := by simpa using e
   rw [this]
   simp
theorem sumL_sumQ {ks : List Int} (nd : ks.Nodup) : ∀ ev : List (Int × Int), sumL (fun k => sumQ (fun a => a == k) ev) ks = sumQ (fun a => ks.contains a) ev
 | [] => by
  have : ∀ l : List Int, sumL (fun _ => (0 : Int)) l = 0 := fun l => by
   induction l with
   | nil => rfl
   | cons a l ih => rw [sumL, ih]; rfl
  exact this ks
 | x :: ev => by
  have e1 : (fun k => sumQ (fun a => a == k) (x :: ev)) = fun k => (if (x.1 == k) = true then x.2 else 0) + sumQ (fun a => a == k) ev := rfl
  rw [e1, sumL_add, sumL_one x.1 x.2 nd, sumL_sumQ nd ev]
  rfl
def evE (e : VE) : List (Int × Int) := ((e.a : Int), 1) :: (if e.b = Vabiti.NEVER then [] else [((e.b : Int), -1)])
def evs (D : List VE) : List (Int × Int) := D.flatMap evE
theorem evs_snoc (D : List VE) (e : VE) : evs (D ++ [e]) = evs D ++ evE e := by simp [evs]
theorem evs_mem {D : List VE} {m : Int} : (∃ x ∈ evs D, x.1 = m) ↔ ∃ e ∈ D, (e.a : Int) = m ∨ ((e.b : Int) = m ∧ e.b ≠ Vabiti.NEVER) := by
 unfold evs
 constructor
 ·rintro ⟨x, hx, rfl⟩
  obtain ⟨e, he, hx⟩ := List.mem_flatMap.mp hx
  refine ⟨e, he, ?_⟩
  unfold evE at hx
  rcases List.mem_cons.mp hx with q | q
  ·rw [q]; exact .inl rfl
  ·split at q
   ·cases q
   ·rename_i hb
    rw [List.mem_singleton] at q
    rw [q]; exact .inr ⟨rfl, hb⟩
 ·rintro ⟨e, he, q | ⟨q, hb⟩⟩
  ·exact ⟨((e.a : Int), 1), List.mem_flatMap.mpr ⟨e, he, List.mem_cons_self⟩, q⟩
  ·refine ⟨((e.b : Int), -1), List.mem_flatMap.mpr ⟨e, he, ?_⟩, q⟩
   unfold evE
   rw [if_neg hb]
   simp
theorem sum_many {m : Nat} (hm : m ≤ 1000000000) : ∀ {D : List VE}, (∀ e ∈ D, SM.Good e) → sumQ (fun a => decide (a ≤ (m : Int))) (evs D) = (many D m : Nat)
 | [], _ => rfl
 | e :: D, hg => by
  have ih := sum_many hm (D := D) fun x hx => hg x (List.mem_cons_of_mem _ hx)
  have g := hg e List.mem_cons_self
  have gab := g.ab
  have hN := SM.never_eq
  have e1 : evs (e :: D) = evE e ++ evs D := rfl
  rw [e1, sumQ_append, ih]
  have e2 : many (e :: D) m = (if Vabiti.holds e m = true then 1 else 0) + many D m := by
   unfold many
   by_cases h : Vabiti.holds e m = true
   ·rw [List.filter_cons, if_pos h, List.length_cons, if_pos h]; omega
   ·rw [List.filter_cons, if_neg h, if_neg h]; omega
  rw [e2]
  have e3 : sumQ (fun a => decide (a ≤ (m : Int))) (evE e) = if Vabiti.holds e m = true then 1 else 0 := by
   have hh : Vabiti.holds e m = true ↔ e.a ≤ m ∧ m < e.b := SM.holds_iff
   unfold evE
   by_cases hb : e.b = Vabiti.NEVER
   ·rw [if_pos hb]
    simp only [sumQ, decide_eq_true_eq]
    by_cases c : e.a ≤ m
    ·rw [if_pos (by omega), if_pos (hh.mpr ⟨c, by omega⟩)]; rfl
    ·rw [if_neg (by omega), if_neg (fun z => c (hh.mp z).1)]; rfl
   ·rw [if_neg hb]
    simp only [sumQ, decide_eq_true_eq]
    by_cases c : e.a ≤ m
    ·rw [if_pos (by omega)]
     by_cases c2 : e.b ≤ m
     ·rw [if_pos (by omega), if_neg (fun z => by have := (hh.mp z).2; omega)]; rfl
     ·rw [if_neg (by omega), if_pos (hh.mpr ⟨c, by omega⟩)]; rfl
    ·rw [if_neg (by omega), if_neg (by omega), if_neg (fun z => c (hh.mp z).1)]; rfl
  rw [e3]
  split <;> push_cast <;> omega
structure DictEv (kvs : List (Key × V)) (ev : List (Int × Int)) (ns : List Int) : Prop where
 keys : kvs.map (·.1) = ns.map Sum.inl
 nd : ns.Nodup
 mem : ∀ m, m ∈ ns ↔ ∃ x ∈ ev, x.1 = m
 val : ∀ m ∈ ns, valV kvs (Sum.inl m) = some (.int (sumQ (fun a => a == m) ev))
theorem DictEv.get {kvs : List (Key × V)} {ev : List (Int × Int)} {ns : List Int} (h : DictEv kvs ev ns) (k : Int) : (valV kvs (Sum.inl k)).getD (.int 0) = .int (sumQ (fun a => a == k) ev) := by
 by_cases m : k ∈ ns
 ·rw [h.val k m]; rfl
 ·have hno : valV kvs (Sum.inl k) = none := by
   cases q : valV kvs (Sum.inl k) with
   | none => rfl
   | some v =>
    have := valV_in q
    rw [h.keys] at this
    obtain ⟨n, hn, e⟩ := List.mem_map.mp this
    exact absurd (by rw [← Sum.inl.inj e]; exact hn) m
  rw [hno]
  have : ∀ l : List (Int × Int), (∀ x ∈ l, x.1 ≠ k) → sumQ (fun a => a == k) l = 0 := fun l hl => by
   induction l with
   | nil => rfl
   | cons x l ih =>
    rw [sumQ, ih fun y hy => hl y (List.mem_cons_of_mem _ hy)]
    have : (x.1 == k) = false := by simpa using hl x List.mem_cons_self
    simp [this]
  rw [this ev fun x hx e => m ((h.mem k).mpr ⟨x, hx, e⟩)]
  rfl
theorem DictEv.put {kvs : List (Key × V)} {ev : List (Int × Int)} {ns : List Int} (h : DictEv kvs ev ns) (k δ : Int) : ∃ ns', DictEv (putK kvs (Sum.inl k) (.int (sumQ (fun a => a == k) ev + δ))) (ev ++ [(k, δ)]) ns' := by
 have hval : ∀ m, sumQ (fun a => a == m) (ev ++ [(k, δ)]) = sumQ (fun a => a == m) ev + if k = m then δ else 0 := fun m => by
  rw [sumQ_append]
  simp [sumQ]
 by_cases m : k ∈ ns
 ·refine ⟨ns, ?_, h.nd, fun x => ?_, fun x hx => ?_⟩
  ·unfold putK
   have : (kvs.any fun kv => decide (kv.1 = Sum.inl k)) = true := by rw [valV_any, h.val k m]; rfl
   rw [if_pos this, List.map_map, ← h.keys]
   refine List.map_congr_left fun x _ => ?_
   show (if x.1 = Sum.inl k then (x.1, V.int _) else x).1 = x.1
   split <;> rfl
  ·rw [h.mem x]
   constructor
   ·rintro ⟨y, hy, e⟩; exact ⟨y, List.mem_append_left _ hy, e⟩
   ·rintro ⟨y, hy, e⟩
    rcases List.mem_append.mp hy with q | q
    ·exact ⟨y, q, e⟩
    ·rw [List.mem_singleton] at q
     rw [q] at e
     rw [← (show k = x from e)]
     exact (h.mem k).mp m
  ·rw [valV_put, hval x]
   by_cases e : x = k
   ·rw [if_pos (by rw [e]), if_pos e.symm, e]
   ·rw [if_neg (fun z => e (Sum.inl.inj z)), if_neg (fun z => e z.symm), h.val x hx]
    simp
 ·have hno : valV kvs (Sum.inl k) = none := by
   cases q : valV kvs (Sum.inl k) with
   | none => rfl
   | some v =>
    have := valV_in q
    rw [h.keys] at this
    obtain ⟨n, hn, e⟩ := List.mem_map.mp this
    exact absurd (by rw [← Sum.inl.inj e]; exact hn) m
  refine ⟨ns ++ [k], ?_, nd_snoc h.nd m, fun x => ?_, fun x hx => ?_⟩
  ·rw [putK_new _ hno, List.map_append, List.map_append, h.keys]
   rfl
  ·rw [List.mem_append, h.mem x, List.mem_singleton]
   constructor
   ·rintro (⟨y, hy, e⟩ | e)
    ·exact ⟨y, List.mem_append_left _ hy, e⟩
    ·exact ⟨(k, δ), List.mem_append_right _ (List.mem_singleton.mpr rfl), e.symm⟩
   ·rintro ⟨y, hy, e⟩
    rcases List.mem_append.mp hy with q | q
    ·exact .inl ⟨y, q, e⟩
    ·rw [List.mem_singleton] at q
     rw [q] at e
     exact .inr e.symm
  ·rw [valV_put, hval x]
   by_cases e : x = k
   ·rw [if_pos (by rw [e]), if_pos e.symm, e]
   ·rw [if_neg (fun z => e (Sum.inl.inj z)), if_neg (fun z => e z.symm)]
    rcases List.mem_append.mp hx with q | q
    ·rw [h.val x q]; simp
    ·rw [List.mem_singleton] at q; exact absurd q e
end L2
end
section
namespace L2
open PySem PySem.Spec PyProof.Rows
open Vabiti (Call many)
section
variable {P : Program} {w : World} {K : PySem.W.Frag} {mg : Str → Option Value} {base : Heap} {H H' H2 : Hp} {Q : VK}
def lvs (D : List VE) (ms : List Nat) : List (Nat × Nat) := ms.map fun m => (m, many D m)
def sp_levels (K : PySem.W.Frag) : Sp := fun vs H Q _ => ∃ (a : Addr) (L : List (Addr × REnt)) (D : List VE), vs = [.ref a] ∧ LE K H a L ∧ L.map (·.2) = D.map raw ∧ (∀ e ∈ D, SM.Good e) ∧ D.length ≤ 200 ∧
 ∀ H' l as ms, Same H H' → H l = none → H' l = some (.lst (List.map V.ref as)) → SM.LvD D ms → PAt H' as (lvs D ms) → ms.length ≤ 400 → Q (.ref l) H'
theorem strict_of {l : List Int} (h : l.Pairwise (· ≤ ·)) (nd : l.Nodup) : l.Pairwise (· < ·) := by
 refine (h.and nd).imp fun {a b} ⟨h1, h2⟩ => ?_
 have : a ≠ b := h2
 omega
theorem take_mem {l : List Int} (h : l.Pairwise (· < ·)) {i : Nat} {k : Int} (hi : l[i]? = some k) {x : Int} (hx : x ∈ l) : x ∈ l.take (i + 1) ↔ x ≤ k := by
 obtain ⟨hlt, e⟩ := List.getElem?_eq_some_iff.mp hi
 obtain ⟨j, hj, ej⟩ := List.mem_iff_getElem.mp hx
 rw [List.pairwise_iff_getElem] at h
 constructor
 ·intro hm
  obtain ⟨n, hn, en⟩ := List.mem_iff_getElem.mp hm
  rw [List.getElem_take] at en
  rw [List.length_take] at hn
  by_cases q : n = i
  ·subst q; omega
  ·have := h n i (by omega) hlt (by omega)
   omega
 ·intro hle
  have hji : j ≤ i := by
   refine Classical.byContradiction fun q => ?_
   have := h i j hlt hj (by omega)
   omega
  refine List.mem_iff_getElem.mpr ⟨j, by rw [List.length_take]; omega, ?_⟩
  rw [List.getElem_take]
  exact ej
theorem lev_many {D : List VE} (good : ∀ e ∈ D, SM.Good e) {ns : List Int} (nd : ns.Nodup) (srt : ns.Pairwise (· < ·)) (mem : ∀ m, m ∈ ns ↔ ∃ x ∈ evs D, x.1 = m) {i : Nat} {m : Nat} (hi : ns[i]? = some (m : Int)) (hm : m ≤ 1000000000) :
  sumL (fun k => sumQ (fun a => a == k) (evs D)) (ns.take (i + 1)) = (many D m : Nat) := by
 rw [sumL_sumQ (List.Nodup.sublist (List.take_sublist _ _) nd), ← sum_many hm good]
 refine sumQ_congr fun x hx => ?_
 have hxn : x.1 ∈ ns := (mem x.1).mpr ⟨x, hx, rfl⟩
 have := take_mem srt hi hxn
 rw [Bool.eq_iff_iff, List.contains_iff_mem, this, decide_eq_true_eq]
theorem ok_levels {f : Addr} {fd : FuncData} (F : Fun K "levels" "levels" s_levels f fd) (T : Txt K mg) : FnOk P w K mg base CX0 1 f fd ["entries"] (sp_levels K) := by
 refine F.ok sc_levels (fun vs H Q E h => ?_) (fun cdv A outer s H vs Q E hr h => ?_)
 ·obtain ⟨a, L, D, rfl, _⟩ := h
  rfl
 ·obtain ⟨a, L, D, rfl, hL, hrel, good, hz, k⟩ := h
  have hu := hu_of hr
  have hlen : L.length = D.length := by simpa using congrArg List.length hrel
  refine ⟨_, (pss_cons (ps_set (i := 1) sc_levels.nd rfl (Or.inl rfl) pe_dnewK)
 (pss_cons (ps_for PassesOwn.never rfl (pi_list (pv 0)) (pg_name (i := 2) sc_levels.nd rfl (Or.inl rfl))
 (pss_cons (ps_dput hu (pv 1) (pe_fld (pv 2) rfl) (pe_op op_add (pe_dget2 hu (pv 1) (pe_fld (pv 2) rfl) pe_int ⟨rfl, rfl, rfl, rfl⟩) pe_int) rfl)
 (pss_one (ps_if (pt_cmpR op_ne (pe_fld (pv 2) rfl) (pe_gint T.g_NEVER rfl) (nomark _))
 (pss_one (ps_dput hu (pv 1) (pe_fld (pv 2) rfl) (pe_op op_sub (pe_dget2 hu (pv 1) (pe_fld (pv 2) rfl) pe_int ⟨rfl, rfl, rfl, rfl⟩) pe_int) rfl))
 pss_nil))))
 (pss_cons (ps_set (i := 3) sc_levels.nd rfl (Or.inl rfl) (pe_lst pa_nil))
 (pss_cons (ps_set (i := 4) sc_levels.nd rfl (Or.inl rfl) pe_int)
 (pss_cons (ps_for PassesOwn.never rfl (pi_list (pe_callB (cr_sortD rfl) (by rfl) T.sorted PyProof.Rows.boot_sorted (pa_cons (pv 1) pa_nil))) (pg_name (i := 5) sc_levels.nd rfl (Or.inl rfl))
 (pss_cons (ps_aug (i := 4) sc_levels.nd rfl (Or.inl rfl) (pe_dget hu (pv 1) (pv 5) (fun _ _ => rfl)) ip_add)
 (pss_one (ps_expr (pe_bm PySem.F.plainAttrs_list PySem.F.slot_list_append PySem.F.type_list_append mt_append (pv 3) (pa_cons (pe_tup (pa_cons (pv 5) (pa_cons (pv 4) pa_nil))) pa_nil))))))
 (pss_one (ps_ret (pv 3)))))))), ?_⟩
  simp [start, x_for, x_iL, tDNewK]
  intro dd hdd
  refine forL (xs := L.map refA) (fun i σ H' => ∃ (e : Option V) (kvs : List (Key × V)) (ns : List Int), σ = [some (.ref a), some (.ref dd), e, none, none, none] ∧ H' dd = some (.dK kvs) ∧ DictEv kvs (evs (D.take i)) ns ∧ kvs.length ≤ 2 * i ∧ Same H H') ⟨none, [], [], rfl, upd_same, ⟨rfl, List.nodup_nil, fun m => by simp [evs], fun m hm => by cases hm⟩, Nat.le_refl _, Same.new hdd⟩ (fun i σ H' _ h => ?_) (fun i σ H' hi h => ?_) (fun σ H' h => ?_)
  ·obtain ⟨_, _, _, _, _, _, _, s1⟩ := h
   exact s1.seq hL.lst
  ·obtain ⟨e, kvs, ns, rfl, hd, hev, hkl, s1⟩ := h
   rw [List.length_map] at hi
   have hx : L[i]? = some L[i] := List.getElem?_eq_getElem hi
   have hiD : i < D.length := by omega
   have hxD : D[i]? = some D[i] := List.getElem?_eq_getElem hiD
   have er : L[i].2 = raw D[i] := by
    have a1 : (L.map (·.2))[i]? = some L[i].2 := by rw [List.getElem?_map, hx]; rfl
    rw [hrel, List.getElem?_map, hxD] at a1
    exact (Option.some.inj a1).symm
   have e1 : (L.map refA).getD i .non = refA L[i] := by simp [hx]
   have he0 : EntAt K H L[i].1 (raw D[i]) := by rw [← er]; exact hL.at_ _ (List.getElem_mem hi)
   have gx := good D[i] (List.getElem_mem hiD)
   have he := he0.same s1
   rw [e1]
   simp [tDGet2]
   refine ⟨.inl ⟨_, .inl hd⟩, ?_⟩
   simp only [he.flds]
   refine ⟨_, DGet.k (k := Sum.inl (raw D[i]).a) hd, ?_⟩
   rw [hev.get]
   simp only [x_rI0, he.flds]
   refine ⟨_, DPut.k (k := Sum.inl (raw D[i]).a) hd (fits' (by omega)), ?_⟩
   obtain ⟨ns1, hev1⟩ := hev.put (raw D[i]).a 1
   have hl1 := length_putK kvs (Sum.inl (raw D[i]).a) (.int (sumQ (fun a => a == (raw D[i]).a) (evs (D.take i)) + 1))
   generalize hk1 : putK kvs (Sum.inl (raw D[i]).a) (.int (sumQ (fun a => a == (raw D[i]).a) (evs (D.take i)) + 1)) = kvs1 at hev1 hl1 ⊢
   have s2 : Same H (upd H' dd (.dK kvs1)) := fun b u eb => by rw [upd_ne (ne_of_none eb hdd)]; exact s1 b u eb
   have he2 := he0.same s2
   simp only [he2.flds, x_neI, x_bT]
   have gb := gx.b
   have et : D.take (i + 1) = D.take i ++ [D[i]] := take_snoc' hxD
   by_cases hb : D[i].b = Vabiti.NEVER
   ·rw [show (raw D[i]).b = BIG from (pend_big gb).mpr hb]
    simp
    refine ⟨_, upd_same, ⟨ns1, ?_⟩, by omega, s2⟩
    rw [et, evs_snoc]
    unfold evE
    rw [if_pos hb]
    exact hev1
   ·have hb' : ¬ (raw D[i]).b = BIG := fun z => hb ((pend_big gb).mp z)
    rw [if_pos (by simp [hb'])]
    refine ⟨.inl ⟨_, .inl upd_same⟩, _, DGet.k (k := Sum.inl (raw D[i]).b) upd_same, ?_⟩
    rw [hev1.get]
    simp only [x_rI0, he2.flds]
    refine ⟨_, DPut.k (k := Sum.inl (raw D[i]).b) upd_same (fits' (by omega)), _, upd_same, ?_, ?_, ?_⟩
    ·rw [Int.sub_eq_add_neg]
     obtain ⟨ns2, hev2⟩ := hev1.put (raw D[i]).b (-1)
     refine ⟨ns2, ?_⟩
     rw [et, evs_snoc]
     unfold evE
     rw [if_neg hb]
     have e5 : (raw D[i]).b = (D[i].b : Int) := by
      show pend D[i].b = _
      unfold pend
      rw [if_neg hb]
     rw [e5] at hev2 ⊢
     rw [List.append_assoc] at hev2
     exact hev2
    ·have := length_putK kvs1 (Sum.inl (raw D[i]).b) (.int (sumQ (fun a => a == (raw D[i]).b) (evs (D.take i) ++ [((raw D[i]).a, 1)]) - 1))
     omega
    ·intro b u eb
     rw [upd_ne (ne_of_none eb hdd)]
     exact s2 b u eb
  ·obtain ⟨e, kvs, ns, rfl, hd, hev, hkl, s1⟩ := h
   rw [List.length_map, hlen, List.take_length] at hev
   simp [x_for, x_iL]
   intro pa hpa
   have hpa0 : H pa = none := s1.free hpa
   have hd1 : upd H' pa (.lst []) dd = some (.dK kvs) := by rw [upd_ne (ne_of_none hd hpa)]; exact hd
   refine ⟨dd, kvs, ns, rfl, hd1, hev.keys, fun ns' sl hperm hsrt hsl => ?_⟩
   let H1 := upd (upd H' pa (.lst [])) sl (.lst (ns'.map V.int))
   have s3 : Same H H1 := (s1.trans (Same.new hpa)).trans (Same.new hsl)
   have pa1 : H1 pa = some (.lst []) := by
    simp only [H1]
    rw [upd_ne (fun z => by rw [← z, upd_same] at hsl; cases hsl), upd_same]
   have dd1 : H1 dd = some (.dK kvs) := by
    simp only [H1]
    rw [upd_ne (ne_of_none hd1 hsl)]
    exact hd1
   have sl1 : H1 sl = some (.lst (ns'.map V.int)) := upd_same
   have ndn : ns'.Nodup := hperm.nodup_iff.mpr hev.nd
   have srt := strict_of hsrt ndn
   have memn : ∀ m, m ∈ ns' ↔ ∃ x ∈ evs D, x.1 = m := fun m => by rw [hperm.mem_iff]; exact hev.mem m
   have hnn : ∀ m ∈ ns', ∃ n : Nat, m = (n : Int) ∧ n ≤ 1000000000 := fun m hm => by
    obtain ⟨e, he, z⟩ := evs_mem.mp ((memn m).mp hm)
    have g := good e he
    have ga := g.a
    have gb := g.b
    have hN := SM.never_eq
    rcases z with z | z
    ·exact ⟨e.a, z.symm, ga⟩
    ·exact ⟨e.b, z.1.symm, by omega⟩
   have nslen : ns'.length ≤ 400 := by
    rw [hperm.length_eq]
    have h1 := congrArg List.length hev.keys
    rw [List.length_map, List.length_map] at h1
    rw [List.length_map] at hkl
    omega
   let ms := ns'.map Int.toNat
   have hms : ∀ i : Nat, ∀ k : Int, ns'[i]? = some k → ∃ n : Nat, k = (n : Int) ∧ n ≤ 1000000000 ∧ ms[i]? = some n := fun i k hk => by
    obtain ⟨n, e, z⟩ := hnn k (List.mem_of_getElem? hk)
    refine ⟨n, e, z, ?_⟩
    simp only [ms]
    rw [List.getElem?_map, hk, e]
    simp
   refine forL (xs := ns'.map V.int) (fun i σ H2 => ∃ (mo : Option V) (as : List Addr), σ = [some (.ref a), some (.ref dd), e, some (.ref pa), some (.int (sumL (fun k => sumQ (fun a => a == k) (evs D)) (ns'.take i))), mo] ∧ SameB pa H1 H2 ∧ H2 pa = some (.lst (as.map V.ref)) ∧ PAt H2 as (lvs D (ms.take i))) ⟨none, [], rfl, (fun b o e _ => e), pa1, by show PAt _ [] []; exact .nil⟩ (fun i σ H2 _ h => ?_) (fun i σ H2 hi h => ?_) (fun σ H2 h => ?_)
   ·obtain ⟨_, _, _, sb, _⟩ := h
    exact SqL.of (sb _ _ sl1 (fun z => by rw [z, upd_same] at hsl; cases hsl))
   ·obtain ⟨mo, as, rfl, sb, hp2, hPA⟩ := h
    rw [List.length_map] at hi
    have hx : ns'[i]? = some ns'[i] := List.getElem?_eq_getElem hi
    have e1 : (ns'.map V.int).getD i .non = V.int ns'[i] := by simp [hx]
    obtain ⟨n, en, hn9, hmn⟩ := hms i _ hx
    have hmem : ns'[i] ∈ ns := hperm.mem_iff.mp (List.getElem_mem hi)
    have ndp : dd ≠ pa := ne_of_none hd hpa
    have dd2 := sb _ _ dd1 ndp
    have hasl : as.length ≤ 400 := by
     have := Paired.length hPA
     unfold lvs at this
     rw [List.length_map, List.length_take] at this
     simp only [ms, List.length_map] at this
     omega
    rw [e1]
    simp
    refine dget_int dd2 (hev.val _ hmem) ?_
    have et : sumL (fun k => sumQ (fun a => a == k) (evs D)) (ns'.take i) + sumQ (fun a => a == ns'[i]) (evs D) = sumL (fun k => sumQ (fun a => a == k) (evs D)) (ns'.take (i + 1)) := by
     rw [take_snoc' hx, sumL_snoc]
    simp only [x_ipI]
    rw [et]
    refine ⟨.inl ⟨rfl, _, SqL.of hp2⟩, ?_⟩
    simp
    refine ⟨len2_le, fun T hT => ⟨pa, as.map V.ref, .ref T, rfl, rfl, by rw [upd_ne (ne_of_none hp2 hT)]; exact hp2, fits' (by rw [List.length_map]; omega), ?_⟩⟩
    have e3 : as.map V.ref ++ [V.ref T] = (as ++ [T]).map V.ref := by rw [List.map_append]; rfl
    rw [e3]
    have nTp : T ≠ pa := fun z => by rw [z, hp2] at hT; cases hT
    have eml := lev_many good ndn srt memn (i := i) (m := n) (by rw [hx, en]) hn9
    refine ⟨fun b o eb nb => ?_, as ++ [T], upd_same, ?_⟩
    ·rw [upd_ne nb, upd_ne (ne_of_none (sb _ _ eb nb) hT)]
     exact sb _ _ eb nb
    ·have e4 : lvs D (ms.take (i + 1)) = lvs D (ms.take i) ++ [(n, many D n)] := by
      unfold lvs
      rw [take_snoc' hmn, List.map_append]
      rfl
     rw [e4]
     refine Paired.snoc (PAt.mono (fun b xs eb => ?_) hPA) ?_
     ·rw [upd_ne, upd_ne (ne_of_none eb hT)]
      ·exact eb
      ·intro z
       rw [z, hp2] at eb
       cases eb
     ·rw [upd_ne nTp, upd_same, eml, en]
   ·obtain ⟨mo, as, rfl, sb, hp2, hPA⟩ := h
    rw [List.length_map] at hPA
    have hml : ms.length = ns'.length := by simp [ms]
    rw [← hml, List.take_length] at hPA
    simp
    refine k H2 pa as ms (fun b u eb => sb _ _ (s3 _ _ eb) (ne_of_none eb hpa0)) hpa0 hp2 ⟨?_, fun m => ?_, good⟩ hPA (by omega)
    ·simp only [ms]
     rw [List.pairwise_map]
     refine (List.Pairwise.and_mem.mp srt).imp fun {x y} ⟨hx, hy, hlt⟩ => ?_
     obtain ⟨n1, e1, _⟩ := hnn x hx
     obtain ⟨n2, e2, _⟩ := hnn y hy
     omega
    ·simp only [ms]
     rw [List.mem_map]
     constructor
     ·rintro ⟨x, hx, rfl⟩
      obtain ⟨n, en, hn⟩ := hnn x hx
      obtain ⟨e, he, z⟩ := evs_mem.mp ((memn x).mp hx)
      exact ⟨e, he, by omega⟩
     ·rintro ⟨e, he, z⟩
      have g := good e he
      refine ⟨(m : Int), (memn _).mpr (evs_mem.mpr ⟨e, he, ?_⟩), by omega⟩
      rcases z with z | z
      ·exact .inl (by rw [z])
      ·exact .inr ⟨by rw [z.1], by rw [z.1]; exact z.2⟩
def SAt (H : Hp) : List Addr → List (Nat × Nat) → Prop := Paired fun p x => H p = some (.tup [.int (x.1 : Nat), .int (pend x.2)])
theorem SAt.mono (k : ∀ b xs, H b = some (.tup xs) → H' b = some (.tup xs)) {ps : List Addr} {xs : List (Nat × Nat)} (h : SAt H ps xs) : SAt H' ps xs := Paired.mapP h fun _ _ z => k _ _ z
theorem PAt.get {ps : List Addr} {xs : List (Nat × Nat)} (h : PAt H ps xs) {i : Nat} {x : Nat × Nat} (hx : xs[i]? = some x) : ∃ p, ps[i]? = some p ∧ H p = some (.tup [.int (x.1 : Nat), .int (x.2 : Nat)]) := by
 have hl := Paired.length h
 have hi : i < ps.length := by have := (List.getElem?_eq_some_iff.mp hx).1; omega
 have hp : ps[i]? = some ps[i] := List.getElem?_eq_getElem hi
 obtain ⟨y, hy, z⟩ := paired_get h hp
 rw [hx] at hy
 cases hy
 exact ⟨_, hp, z⟩
def sp_stretches_held (K : PySem.W.Frag) : Sp := fun vs H Q _ => ∃ (a : Addr) (L : List (Addr × REnt)) (D : List VE), vs = [.ref a] ∧ LE K H a L ∧ L.map (·.2) = D.map raw ∧ (∀ e ∈ D, SM.Good e) ∧ D.length ≤ 200 ∧
 ∀ H' l as st, Same H H' → H l = none → H' l = some (.lst (List.map V.ref as)) → SM.Ord 0 st → SM.Cov D 0 st → SAt H' as st → st.length ≤ 500 → Q (.ref l) H'
def shG (c : Nat → Nat) : List Nat → Option Nat × List (Nat × Nat) → Option Nat × List (Nat × Nat)
 | [], x => x
 | m :: r, (none, st) => shG c r (some m, st)
 | m :: r, (some b, st) => if c m = 0 then shG c r (none, st ++ [(b, m)]) else shG c r (some b, st)
def shE (x : Option Nat × List (Nat × Nat)) : List (Nat × Nat) := match x.1 with
 | none => x.2
 | some b => x.2 ++ [(b, Vabiti.NEVER)]
theorem shG_eq (c : Nat → Nat) : ∀ (r : List Nat) (b : Option Nat) (st : List (Nat × Nat)), shE (shG c r (b, st)) = st ++ SM.shF c r b
 | [], none, st => by simp [shG, shE, SM.shF]
 | [], some b, st => by simp [shG, shE, SM.shF]
 | m :: r, none, st => by
  show shE (shG c r (some m, st)) = st ++ SM.shF c r (some m)
  exact shG_eq c r (some m) st
 | m :: r, some b, st => by
  show shE (if c m = 0 then shG c r (none, st ++ [(b, m)]) else shG c r (some b, st)) = st ++ (if c m = 0 then (b, m) :: SM.shF c r none else SM.shF c r (some b))
  by_cases h : c m = 0
  ·rw [if_pos h, if_pos h, shG_eq c r none, List.append_assoc]
   rfl
  ·rw [if_neg h, if_neg h]
   exact shG_eq c r (some b) st
theorem shG_snoc (c : Nat → Nat) : ∀ (r : List Nat) (m : Nat) (x : Option Nat × List (Nat × Nat)), shG c (r ++ [m]) x = shG c [m] (shG c r x)
 | [], m, x => rfl
 | n :: r, m, (none, st) => by
  show shG c (r ++ [m]) (some n, st) = shG c [m] (shG c r (some n, st))
  exact shG_snoc c r m _
 | n :: r, m, (some b, st) => by
  show (if c n = 0 then shG c (r ++ [m]) (none, st ++ [(b, n)]) else shG c (r ++ [m]) (some b, st)) = shG c [m] (if c n = 0 then shG c r (none, st ++ [(b, n)]) else shG c r (some b, st))
  split
  ·exact shG_snoc c r m _
  ·exact shG_snoc c r m _
theorem shG_len (c : Nat → Nat) : ∀ (r : List Nat) (x : Option Nat × List (Nat × Nat)), (shG c r x).2.length ≤ x.2.length + r.length
 | [], x => Nat.le_refl _
 | m :: r, (none, st) => by
  have := shG_len c r (some m, st)
  show (shG c r (some m, st)).2.length ≤ st.length + (r.length + 1)
  have e : ((some m, st) : Option Nat × List (Nat × Nat)).2.length = st.length := rfl
  omega
 | m :: r, (some b, st) => by
  show (if c m = 0 then shG c r (none, st ++ [(b, m)]) else shG c r (some b, st)).2.length ≤ st.length + (r.length + 1)
  split
  ·have := shG_len c r (none, st ++ [(b, m)])
   have e : ((none, st ++ [(b, m)]) : Option Nat × List (Nat × Nat)).2.length = st.length + 1 := by simp
   omega
  ·have := shG_len c r (some b, st)
   have e : ((some b, st) : Option Nat × List (Nat × Nat)).2.length = st.length := rfl
   omega
def optV (b : Option Nat) : V := match b with
 | none => .non
 | some n => .int (n : Nat)
def ShI (D : List VE) (ms : List Nat) (a sa : Addr) (H1 : Hp) (i : Nat) (σ : St) (H' : Hp) : Prop := ∃ (pv : Option V) (b : Option Nat) (st : List (Nat × Nat)) (ps : List Addr), σ = [some (.ref a), some (.ref sa), some (optV b), pv] ∧ (b, st) = shG (many D) (ms.take i) (none, []) ∧ H' sa = some (.lst (ps.map V.ref)) ∧ SAt H' ps st ∧ (∀ n, b = some n → n ∈ ms) ∧ SameB sa H1 H'
theorem ok_stretches_held {f : Addr} {fd : FuncData} (F : Fun K "stretches_held" "stretches_held" s_stretches_held f fd) (T : Txt K mg) (D_levels : Df P w K mg base 1 "levels" ["entries"] (sp_levels K)) : FnOk P w K mg base CX0 2 f fd ["entries"] (sp_stretches_held K) := by
 refine F.ok sc_stretches_held (fun vs H Q E h => ?_) (fun cdv A outer s H vs Q E hr h => ?_)
 ·obtain ⟨a, L, D, rfl, _⟩ := h
  rfl
 ·obtain ⟨a, L, D, rfl, hL, hrel, good, hz, k⟩ := h
  refine ⟨_, (pss_cons (ps_set (i := 1) sc_stretches_held.nd rfl (Or.inl rfl) (pe_lst pa_nil))
 (pss_cons (ps_set (i := 2) sc_stretches_held.nd rfl (Or.inl rfl) pe_non)
 (pss_cons (ps_for PassesOwn.never rfl (pi_list (pe_fn D_levels (hr.mono (by decide)) rfl (pa_cons (pv 0) pa_nil))) (pg_name (i := 3) sc_stretches_held.nd rfl (Or.inl rfl))
 (pss_one (ps_if (pt_cmpR op_isN (pv 2) pe_non (nomark _))
 (pss_one (ps_set (i := 2) sc_stretches_held.nd rfl (Or.inl rfl) (pe_ix ix_tup (pv 3) pe_int (fun _ _ => rfl))))
 (pss_one (ps_if (pt_cmpR op_eq (pe_ix ix_tup (pv 3) pe_int (fun _ _ => rfl)) pe_int (nomark _))
 (pss_cons (ps_expr (pe_bm PySem.F.plainAttrs_list PySem.F.slot_list_append PySem.F.type_list_append mt_append (pv 1) (pa_cons (pe_tup (pa_cons (pv 2) (pa_cons (pe_ix ix_tup (pv 3) pe_int (fun _ _ => rfl)) pa_nil))) pa_nil)))
 (pss_one (ps_set (i := 2) sc_stretches_held.nd rfl (Or.inl rfl) pe_non)))
 pss_nil)))))
 (pss_cons (ps_if (pt_cmpR op_notN (pv 2) pe_non (nomark _))
 (pss_one (ps_expr (pe_bm PySem.F.plainAttrs_list PySem.F.slot_list_append PySem.F.type_list_append mt_append (pv 1) (pa_cons (pe_tup (pa_cons (pv 2) (pa_cons (pe_gint T.g_NEVER rfl) pa_nil))) pa_nil))))
 pss_nil)
 (pss_one (ps_ret (pv 1))))))), ?_⟩
  simp [start, x_for, x_iL]
  intro sa hsa
  refine ⟨a, L, D, rfl, hL.same (Same.new hsa), hrel, good, hz, fun H1 lv as ms s1 hlv hlv1 hLv hPA hml => ?_⟩
  have sa1 : H1 sa = some (.lst []) := s1 _ _ upd_same
  have nls : lv ≠ sa := fun z => by rw [z, upd_same] at hlv; cases hlv
  have s0 : Same H H1 := (Same.new hsa).trans s1
  have hasl : as.length = ms.length := by have := Paired.length hPA; unfold lvs at this; rw [List.length_map] at this; exact this
  obtain ⟨oOrd, oCov⟩ := hLv.st
  refine forL (xs := as.map V.ref) (ShI D ms a sa H1) ⟨none, none, [], [], rfl, rfl, sa1, .nil, (fun n z => by cases z), fun b o e _ => e⟩ (fun i σ H' _ h => ?_) (fun i σ H' hi h => ?_) (fun σ H' h => ?_)
  ·obtain ⟨_, _, _, _, _, _, _, _, _, sb⟩ := h
   exact SqL.of (sb _ _ hlv1 nls)
  ·obtain ⟨pv, b, st, ps, rfl, hG, hs2, hS, hb, sb⟩ := h
   rw [List.length_map] at hi
   have him : i < ms.length := by omega
   have hx : ms[i]? = some ms[i] := List.getElem?_eq_getElem him
   obtain ⟨p, hp, htp⟩ := PAt.get (i := i) (x := (ms[i], many D ms[i])) hPA (by unfold lvs; rw [List.getElem?_map, hx]; rfl)
   have e1 : (as.map V.ref).getD i .non = V.ref p := by simp [hp]
   have np : p ≠ sa := ne_of htp sa1 fun z => by cases z
   have ht2 := sb _ _ htp np
   have hm9 := hLv.le (List.getElem_mem him)
   have hstl := shG_len (many D) (ms.take i) (none, [])
   rw [← hG] at hstl
   have hstl' : st.length ≤ ms.length := by
    have : st.length ≤ 0 + (ms.take i).length := hstl
    rw [List.length_take] at this
    omega
   have hpsl : ps.length = st.length := Paired.length hS
   have hG2 : shG (many D) (ms.take (i + 1)) (none, []) = shG (many D) [ms[i]] (b, st) := by rw [take_snoc' hx, shG_snoc, ← hG]
   rw [e1]
   cases b with
   | none =>
    simp [optV]
    refine ⟨p, _, 0, .int (ms[i] : Nat), rfl, rfl, SqT.of ht2, rfl, ?_⟩
    exact ⟨_, some ms[i], st, ps, rfl, hG2.symm, hs2, hS, fun n z => by cases z; exact List.getElem_mem him, sb⟩
   | some n =>
    simp [optV]
    refine ⟨p, _, 1, .int (many D ms[i] : Nat), rfl, rfl, SqT.of ht2, rfl, ?_⟩
    simp
    by_cases c : many D ms[i] = 0
    ·rw [if_pos c]
     refine ⟨.inl ⟨rfl, _, SqL.of hs2⟩, p, _, 0, .int (ms[i] : Nat), rfl, rfl, SqT.of ht2, rfl, len2_le, fun T hT => ?_⟩
     have hs3 : upd H' T (.tup [.int (n : Nat), .int (ms[i] : Nat)]) sa = some (.lst (ps.map V.ref)) := by rw [upd_ne (ne_of_none hs2 hT)]; exact hs2
     refine ⟨sa, ps.map V.ref, .ref T, rfl, rfl, hs3, fits' (by rw [List.length_map]; omega), ?_⟩
     have e3 : ps.map V.ref ++ [V.ref T] = (ps ++ [T]).map V.ref := by rw [List.map_append]; rfl
     rw [e3]
     have nT : T ≠ sa := fun z => by rw [z, hs2] at hT; cases hT
     refine ⟨_, none, st ++ [(n, ms[i])], ps ++ [T], rfl, ?_, upd_same, Paired.snoc (SAt.mono (fun b xs eb => ?_) hS) ?_, (fun n z => by cases z), fun b o eb nb => ?_⟩
     ·rw [hG2]
      show _ = if many D ms[i] = 0 then _ else _
      rw [if_pos c]
      rfl
     ·rw [upd_ne (fun z => by rw [z, hs2] at eb; cases eb), upd_ne (ne_of_none eb hT)]
      exact eb
     ·rw [upd_ne nT, upd_same, pend_nat hm9]
     ·rw [upd_ne nb, upd_ne (ne_of_none (sb _ _ eb nb) hT)]
      exact sb _ _ eb nb
    ·rw [if_neg c]
     refine ⟨_, some n, st, ps, rfl, ?_, hs2, hS, hb, sb⟩
     rw [hG2]
     show _ = if many D ms[i] = 0 then _ else _
     rw [if_neg c]
     rfl
  ·obtain ⟨pv, b, st, ps, rfl, hG, hs2, hS, hb, sb⟩ := h
   rw [List.length_map, hasl, List.take_length] at hG
   have hE := shG_eq (many D) ms none []
   rw [← hG, List.nil_append] at hE
   have hstl := shG_len (many D) ms (none, [])
   rw [← hG] at hstl
   have hstl' : st.length ≤ ms.length := by
    have : st.length ≤ 0 + ms.length := hstl
    omega
   have hpsl : ps.length = st.length := Paired.length hS
   have hSm : Same H H' := fun b u eb => sb _ _ (s0 _ _ eb) (ne_of_none eb hsa)
   cases b with
   | none =>
    simp [optV]
    have e0 : SM.shF (many D) ms none = st := hE.symm
    refine k H' sa ps st hSm hsa hs2 ?_ ?_ hS (by omega)
    ·rw [← e0]; exact oOrd
    ·rw [← e0]; exact oCov
   | some n =>
    have e0 : SM.shF (many D) ms none = st ++ [(n, Vabiti.NEVER)] := hE.symm
    simp [optV]
    refine ⟨.inl ⟨rfl, _, SqL.of hs2⟩, len2_le, fun T hT => ?_⟩
    have hs3 : upd H' T (.tup [.int (n : Nat), .int 1000000000000000000]) sa = some (.lst (ps.map V.ref)) := by rw [upd_ne (ne_of_none hs2 hT)]; exact hs2
    refine ⟨sa, ps.map V.ref, .ref T, rfl, rfl, hs3, fits' (by rw [List.length_map]; omega), ?_⟩
    have e3 : ps.map V.ref ++ [V.ref T] = (ps ++ [T]).map V.ref := by rw [List.map_append]; rfl
    rw [e3]
    have nT : T ≠ sa := fun z => by rw [z, hs2] at hT; cases hT
    refine k _ sa (ps ++ [T]) (st ++ [(n, Vabiti.NEVER)]) (fun b u eb => ?_) hsa upd_same ?_ ?_ (Paired.snoc (SAt.mono (fun b xs eb => ?_) hS) ?_) (by rw [List.length_append, List.length_singleton]; omega)
    ·rw [upd_ne (ne_of_none eb hsa), upd_ne (ne_of_none (hSm _ _ eb) hT)]
     exact hSm _ _ eb
    ·rw [← e0]; exact oOrd
    ·rw [← e0]; exact oCov
    ·rw [upd_ne (fun z => by rw [z, hs2] at eb; cases eb), upd_ne (ne_of_none eb hT)]
     exact eb
    ·rw [upd_ne nT, upd_same]
     have : pend Vabiti.NEVER = 1000000000000000000 := by unfold pend; rw [if_pos rfl]
     rw [this]
end
end L2
end
section
namespace L2
open PySem PySem.Spec PyProof.Rows
open Vabiti (Call many)
theorem lvd_perm {l m : List VE} {ms : List Nat} (p : l.Perm m) (h : SM.LvD l ms) : SM.LvD m ms := ⟨h.srt, fun x => by
 rw [h.mem x]
 exact ⟨fun ⟨e, he, z⟩ => ⟨e, p.mem_iff.mp he, z⟩, fun ⟨e, he, z⟩ => ⟨e, p.mem_iff.mpr he, z⟩⟩, fun e he => h.good e (p.mem_iff.mpr he)⟩
theorem cov_perm {l m : List VE} {st : List (Nat × Nat)} (p : l.Perm m) (h : SM.Cov l 0 st) : SM.Cov m 0 st := fun v h1 h2 => by rw [← SM.many_perm p]; exact h v h1 h2
theorem clash_eq {l : List VE} {ms : List Nat} (h : SM.LvD l ms) : Vabiti.clash l = ms.find? fun m => decide (2 ≤ many l m) := by
 cases q : ms.find? fun m => decide (2 ≤ many l m) with
 | none =>
  have := List.find?_eq_none.mp q
  exact SM.clash_none h fun x hx => by have := this x hx; simpa using this
 | some m =>
  have h1 := List.mem_of_find?_eq_some q
  have h2 := List.find?_some q
  refine SM.clash_some h h1 (by simpa using h2) fun x hx hlt => ?_
  have go : ∀ (L : List Nat), L.Pairwise (· < ·) → L.find? (fun m => decide (2 ≤ many l m)) = some m → x ∈ L → x < m → ¬ 2 ≤ many l x := by
   intro L
   induction L with
   | nil => intro _ _ hx; cases hx
   | cons a L ih =>
    intro hp hf hx hlt
    have ⟨p1, p2⟩ := List.pairwise_cons.mp hp
    rw [List.find?_cons] at hf
    by_cases c : 2 ≤ many l a
    ·rw [decide_eq_true c] at hf
     have e : a = m := Option.some.inj hf
     rcases List.mem_cons.mp hx with z | z
     ·omega
     ·have := p1 x z; omega
    ·rw [decide_eq_false c] at hf
     rcases List.mem_cons.mp hx with z | z
     ·rw [z]; exact c
     ·exact ih p2 hf z hlt
  exact go ms h.srt q hx hlt
section
variable {P : Program} {w : World} {K : PySem.W.Frag} {mg : Str → Option Value} {base : Heap} {H H' H2 : Hp} {Q : VK}
theorem ix0 {p : Addr} {v w : V} (h : H p = some (.tup [v, w])) (q : Q v H) : rIxT K (.ref p) (.int 0) H Q := ⟨p, _, 0, _, rfl, rfl, SqT.of h, rfl, q⟩
theorem ix1 {p : Addr} {v w : V} (h : H p = some (.tup [v, w])) (q : Q w H) : rIxT K (.ref p) (.int 1) H Q := ⟨p, _, 1, _, rfl, rfl, SqT.of h, rfl, q⟩
def sp_first_meeting (K : PySem.W.Frag) : Sp := fun vs H Q _ => ∃ (a : Addr) (L : List (Addr × REnt)) (D : List VE), vs = [.ref a] ∧ LE K H a L ∧ L.map (·.2) = D.map raw ∧ (∀ e ∈ D, SM.Good e) ∧ D.length ≤ 200 ∧
 ∀ H' ms, Same H H' → SM.LvD D ms → Q (optV (ms.find? fun m => decide (2 ≤ many D m))) H'
theorem ok_first_meeting {f : Addr} {fd : FuncData} (F : Fun K "first_meeting" "first_meeting" s_first_meeting f fd) (T : Txt K mg) (D_levels : Df P w K mg base 1 "levels" ["entries"] (sp_levels K)) : FnOk P w K mg base CX0 2 f fd ["entries"] (sp_first_meeting K) := by
 refine F.ok sc_first_meeting (fun vs H Q E h => ?_) (fun cdv A outer s H vs Q E hr h => ?_)
 ·obtain ⟨a, L, D, rfl, _⟩ := h
  rfl
 ·obtain ⟨a, L, D, rfl, hL, hrel, good, hz, k⟩ := h
  refine ⟨_, (pss_cons (ps_for PassesOwn.never rfl (pi_list (pe_fn D_levels (hr.mono (by decide)) rfl (pa_cons (pv 0) pa_nil))) (pg_name (i := 1) sc_first_meeting.nd rfl (Or.inl rfl))
 (pss_one (ps_if (pt_cmpR op_ge (pe_ix ix_tup (pv 1) pe_int (fun _ _ => rfl)) pe_int (nomark _))
 (pss_one (ps_ret (pe_ix ix_tup (pv 1) pe_int (fun _ _ => rfl))))
 pss_nil)))
 (pss_one (ps_ret pe_non))), ?_⟩
  simp [start, x_for, x_iL]
  refine ⟨a, L, D, rfl, hL, hrel, good, hz, fun H1 lv as ms s1 hlv hlv1 hLv hPA hml => ?_⟩
  have hasl : as.length = ms.length := by have := Paired.length hPA; unfold lvs at this; rw [List.length_map] at this; exact this
  refine forL (xs := as.map V.ref) (fun i σ H' => ∃ (pv : Option V), σ = [some (.ref a), pv] ∧ H' = H1 ∧ ∀ x ∈ ms.take i, ¬ 2 ≤ many D x) ⟨none, rfl, rfl, fun x hx => by simp at hx⟩ (fun i σ H' _ h => ?_) (fun i σ H' hi h => ?_) (fun σ H' h => ?_)
  ·obtain ⟨_, _, rfl, _⟩ := h
   exact SqL.of hlv1
  ·obtain ⟨pv, rfl, rfl, hno⟩ := h
   rw [List.length_map] at hi
   have him : i < ms.length := by omega
   have hx : ms[i]? = some ms[i] := List.getElem?_eq_getElem him
   obtain ⟨p, hp, htp⟩ := PAt.get (i := i) (x := (ms[i], many D ms[i])) hPA (by unfold lvs; rw [List.getElem?_map, hx]; rfl)
   have e1 : (as.map V.ref).getD i .non = V.ref p := by simp [hp]
   rw [e1]
   simp
   refine ⟨p, _, 1, .int (many D ms[i] : Nat), rfl, rfl, SqT.of htp, rfl, ?_⟩
   simp
   by_cases c : 2 ≤ many D ms[i]
   ·rw [if_pos (by omega)]
    refine ⟨p, _, 0, .int (ms[i] : Nat), rfl, rfl, SqT.of htp, rfl, ?_⟩
    have : ms.find? (fun m => decide (2 ≤ many D m)) = some ms[i] := by
     refine SM.find_some hLv.srt (List.getElem_mem him) (decide_eq_true c) fun u hu hlt => decide_eq_false (hno u ?_)
     obtain ⟨j, hj, ej⟩ := List.mem_iff_getElem.mp hu
     have hji : j < i := by
      refine Classical.byContradiction fun q => ?_
      have hpw := List.pairwise_iff_getElem.mp hLv.srt
      by_cases q2 : j = i
      ·subst q2; omega
      ·have := hpw i j him hj (by omega); omega
     exact List.mem_iff_getElem.mpr ⟨j, by rw [List.length_take]; omega, by rw [List.getElem_take]; exact ej⟩
    have q := k H' ms s1 hLv
    rw [this] at q
    exact q
   ·rw [if_neg (by omega)]
    refine fun x hx' => ?_
    rw [take_snoc' hx] at hx'
    rcases List.mem_append.mp hx' with z | z
    ·have := hno x z; omega
    ·rw [List.mem_singleton] at z
     rw [z]; omega
  ·obtain ⟨pv, rfl, rfl, hno⟩ := h
   rw [List.length_map, hasl, List.take_length] at hno
   simp
   have : ms.find? (fun m => decide (2 ≤ many D m)) = none := SM.find_no fun u hu => decide_eq_false (hno u hu)
   have q := k H' ms s1 hLv
   rw [this] at q
   exact q
def sp_greatest_level (K : PySem.W.Frag) : Sp := fun vs H Q _ => ∃ (a : Addr) (L : List (Addr × REnt)) (D : List VE) (x y : Nat), vs = [.ref a, .int (x : Nat), .int (pend y)] ∧ LE K H a L ∧ L.map (·.2) = D.map raw ∧ (∀ e ∈ D, SM.Good e) ∧ D.length ≤ 200 ∧ x ≤ 1000000000 ∧ y ≤ Vabiti.NEVER ∧
 ∀ H' t ms, Same H H' → SM.LvD D ms → H' t = some (.tup [.int ((ms.foldl (SM.bzF (many D) x y) (0, x)).1 : Nat), .int ((ms.foldl (SM.bzF (many D) x y) (0, x)).2 : Nat)]) → Q (.ref t) H'
def GlI (D : List VE) (ms : List Nat) (a : Addr) (x y : Nat) (H1 : Hp) (i : Nat) (σ : St) (H' : Hp) : Prop := ∃ (pv : Option V) (r : Nat × Nat), σ = [some (.ref a), some (.int (x : Nat)), some (.int (pend y)), some (.int (r.1 : Nat)), some (.int (r.2 : Nat)), pv] ∧ H' = H1 ∧ r = (ms.take i).foldl (SM.bzF (many D) x y) (0, x)
theorem ok_greatest_level {f : Addr} {fd : FuncData} (F : Fun K "greatest_level" "greatest_level" s_greatest_level f fd) (T : Txt K mg) (D_levels : Df P w K mg base 1 "levels" ["entries"] (sp_levels K)) : FnOk P w K mg base CX0 2 f fd ["entries", "first", "end"] (sp_greatest_level K) := by
 refine F.ok sc_greatest_level (fun vs H Q E h => ?_) (fun cdv A outer s H vs Q E hr h => ?_)
 ·obtain ⟨a, L, D, x, y, rfl, _⟩ := h
  rfl
 ·obtain ⟨a, L, D, x, y, rfl, hL, hrel, good, hz, hx9, hy9, k⟩ := h
  refine ⟨_, (pss_cons (ps_set (i := 3) sc_greatest_level.nd rfl (Or.inl rfl) pe_int)
 (pss_cons (ps_set (i := 4) sc_greatest_level.nd rfl (Or.inl rfl) (pv 1))
 (pss_cons (ps_for PassesOwn.never rfl (pi_list (pe_fn D_levels (hr.mono (by decide)) rfl (pa_cons (pv 0) pa_nil))) (pg_name (i := 5) sc_greatest_level.nd rfl (Or.inl rfl))
 (pss_one (ps_if (pt_cmpR op_le (pe_ix ix_tup (pv 5) pe_int (fun _ _ => rfl)) (pv 1) (nomark _))
 (pss_one (ps_set (i := 3) sc_greatest_level.nd rfl (Or.inl rfl) (pe_ix ix_tup (pv 5) pe_int (fun _ _ => rfl))))
 (pss_one (ps_if (PW.pt (pw_and (pt_cmpR op_lt (pe_ix ix_tup (pv 5) pe_int (fun _ _ => rfl)) (pv 2) (nomark _)) (pw_and1 (pt_cmpR op_gt (pe_ix ix_tup (pv 5) pe_int (fun _ _ => rfl)) (pv 3) (nomark _)))))
 (pss_cons (ps_set (i := 3) sc_greatest_level.nd rfl (Or.inl rfl) (pe_ix ix_tup (pv 5) pe_int (fun _ _ => rfl)))
 (pss_one (ps_set (i := 4) sc_greatest_level.nd rfl (Or.inl rfl) (pe_ix ix_tup (pv 5) pe_int (fun _ _ => rfl)))))
 pss_nil)))))
 (pss_one (ps_ret (pe_tup (pa_cons (pv 3) (pa_cons (pv 4) pa_nil)))))))), ?_⟩
  simp [start, x_for, x_iL]
  refine ⟨a, L, D, rfl, hL, hrel, good, hz, fun H1 lv as ms s1 hlv hlv1 hLv hPA hml => ?_⟩
  have hasl : as.length = ms.length := by have := Paired.length hPA; unfold lvs at this; rw [List.length_map] at this; exact this
  refine forL (xs := as.map V.ref) (GlI D ms a x y H1) ⟨none, (0, x), rfl, rfl, rfl⟩ (fun i σ H' _ h => ?_) (fun i σ H' hi h => ?_) (fun σ H' h => ?_)
  ·obtain ⟨_, _, _, rfl, _⟩ := h
   exact SqL.of hlv1
  ·obtain ⟨pv, r, rfl, rfl, er⟩ := h
   rw [List.length_map] at hi
   have him : i < ms.length := by omega
   have hx : ms[i]? = some ms[i] := List.getElem?_eq_getElem him
   have hm9 := hLv.le (List.getElem_mem him)
   obtain ⟨p, hp, htp⟩ := PAt.get (i := i) (x := (ms[i], many D ms[i])) hPA (by unfold lvs; rw [List.getElem?_map, hx]; rfl)
   have e1 : (as.map V.ref).getD i .non = V.ref p := by simp [hp]
   have es : (ms.take (i + 1)).foldl (SM.bzF (many D) x y) (0, x) = SM.bzF (many D) x y r ms[i] := by rw [take_snoc' hx, List.foldl_append, ← er]; rfl
   have hpy : ((ms[i] : Nat) : Int) < pend y ↔ ms[i] < y := by
    rw [← pend_nat hm9]
    have := SM.never_eq
    exact pend_lt (by omega) hy9
   rw [e1]
   simp
   refine ix0 htp ?_
   simp
   by_cases c : ms[i] ≤ x
   ·rw [if_pos (by omega)]
    refine ix1 htp ⟨_, (many D ms[i], r.2), rfl, rfl, ?_⟩
    rw [es]
    unfold SM.bzF
    rw [if_pos c]
   ·rw [if_neg (by omega)]
    refine ix0 htp ?_
    simp
    by_cases c2 : ms[i] < y
    ·rw [if_pos (hpy.mpr c2)]
     refine ix1 htp ?_
     simp
     by_cases c3 : r.1 < many D ms[i]
     ·rw [if_pos (by omega)]
      refine ix1 htp (ix0 htp ⟨_, (many D ms[i], ms[i]), rfl, rfl, ?_⟩)
      rw [es]
      unfold SM.bzF
      rw [if_neg c, if_pos ⟨c2, c3⟩]
     ·rw [if_neg (by omega)]
      refine ⟨_, r, rfl, rfl, ?_⟩
      rw [es]
      unfold SM.bzF
      rw [if_neg c, if_neg (fun z => c3 z.2)]
    ·rw [if_neg (fun z => c2 (hpy.mp z))]
     refine ⟨_, r, rfl, rfl, ?_⟩
     rw [es]
     unfold SM.bzF
     rw [if_neg c, if_neg (fun z => c2 z.1)]
  ·obtain ⟨pv, r, rfl, rfl, er⟩ := h
   rw [List.length_map, hasl, List.take_length] at er
   simp
   refine ⟨len2_le, fun t ht => k _ t ms (s1.trans (Same.new ht)) hLv ?_⟩
   rw [upd_same, er]
end
end L2
end
section
namespace L2
open PySem PySem.Spec PyProof.Rows
open Vabiti (Call many)
theorem tsize_cart {es : List VE} {t : VT} (c : SM.Cart es t) : SM.tsize t = es.length := by
 induction c with
 | leaf => rfl
 | @node l r e tl tr _ _ _ _ ih1 ih2 =>
  simp only [SM.tsize, List.length_append, List.length_cons]
  omega
theorem size_tree {D : List VE} (nd : (D.map (·.id)).Nodup) : SM.tsize (Vabiti.treeOf (Vabiti.arranged D)) = D.length := by
 rw [tsize_cart (cart_of (SM.arranged_srt nd)), (SM.arranged_perm D).length_eq]
section
variable {P : Program} {w : World} {K : PySem.W.Frag} {mg : Str → Option Value} {base : Heap} {H H' H2 : Hp} {Q : VK} {σ : St} {td : TE}
@[simp] theorem x_listVals : tListVals td σ H Q = td σ H fun x H1 => ∃ d kvs, x = .ref d ∧ H1 d = some (.dK kvs) ∧ ∀ l, H1 l = none → Q (.ref l) (upd H1 l (.lst (kvs.map (·.2)))) := rfl
theorem Ents.le {d l : Addr} {L : List (Addr × REnt)} (h : Ents K H d L) (hl : H l = none) : LE K (upd H l (.lst ((dkv L).map (·.2)))) l L := ⟨SqL.of (by rw [upd_same, Ents.vals]), fun x hx => (h.at_ x hx).upd hl⟩
def sp_whole_tree (K : PySem.W.Frag) : Sp := fun vs H Q _ => ∃ (d : Addr) (D : List VE) (L : List (Addr × REnt)), vs = [.ref d] ∧ InD K H d D L ∧ ∀ H' v, Same H H' → TT' K H' v (Vabiti.treeOf (Vabiti.arranged D)) → TGood (Vabiti.treeOf (Vabiti.arranged D)) → Q v H'
theorem ok_whole_tree {f : Addr} {fd : FuncData} (F : Fun K "whole_tree" "whole_tree" s_whole_tree f fd) (T : Txt K mg) (D_tree_of : Df P w K mg base 5 "tree_of" ["entries"] (sp_tree_of K)) : FnOk P w K mg base CX0 6 f fd ["entries"] (sp_whole_tree K) := by
 refine F.ok sc_whole_tree (fun vs H Q E h => ?_) (fun cdv A outer s H vs Q E hr h => ?_)
 ·obtain ⟨d, D, L, rfl, _⟩ := h
  rfl
 ·obtain ⟨d, D, L, rfl, hI, k⟩ := h
  refine ⟨_, (pss_one (ps_ret (pe_fn D_tree_of (hr.mono (by decide)) rfl (pa_cons (pe_listVals rfl (by rfl) T.list (pv 0)) pa_nil)))), ?_⟩
  simp [start, hI.ents.dict]
  refine fun l hl => ⟨l, L, D, rfl, ?_, hI.rel, hI.good, hI.ids, hI.len, fun H' v s t g => k H' v ((Same.new hl).trans s) t g⟩
  have := hI.ents.le hl
  simpa using this
def dK (D : List VE) (k : Int) : List VE := D.filter fun e => e.key == k
def sp_with_key (K : PySem.W.Frag) : Sp := fun vs H Q _ => ∃ (d t : Addr) (D : List VE) (L : List (Addr × REnt)) (k : Int), vs = [.ref d, .ref t] ∧ InD K H d D L ∧ Told H t "key" k ∧ ∀ l H' LK, Same H H' → H l = none → LE K H' l LK → LK.map (·.2) = (dK D k).map raw → (dK D k).length ≤ 200 → Q (.ref l) H'
theorem ok_with_key {f : Addr} {fd : FuncData} (F : Fun K "with_key" "with_key" s_with_key f fd) (D_with_keys : Df P w K mg base 1 "with_keys" ["entries", "low", "high"] (sp_with_keys K)) : FnOk P w K mg base CX0 2 f fd ["entries", "told"] (sp_with_key K) := by
 refine F.ok sc_with_key (fun vs H Q E h => ?_) (fun cdv A outer s H vs Q E hr h => ?_)
 ·obtain ⟨d, t, D, L, k, rfl, _⟩ := h
  rfl
 ·obtain ⟨d, t, D, L, kk, rfl, hI, t1, k⟩ := h
  have hu := hu_of hr
  refine ⟨_, (pss_one (ps_ret (pe_fn D_with_keys (hr.mono (by decide)) rfl (pa_cons (pv 0) (pa_cons (pe_dget hu (pv 1) pe_str (fun _ _ => rfl)) (pa_cons (pe_dget hu (pv 1) pe_str (fun _ _ => rfl)) pa_nil)))))), ?_⟩
  simp [start, t1.g]
  refine ⟨d, kk, kk, L, rfl, hI.ents, hI.z, fun l H' hl s h => k l H' _ s hl ⟨SqL.of h, fun x hx => (hI.ents.at_ x (List.mem_filter.mp hx).1).same s⟩ ?_ ?_⟩
  ·refine filter_rel (p := fun r => inK kk kk r) hI.rel fun e _ => ?_
   show (decide (kk ≤ e.key) && decide (e.key ≤ kk)) = (e.key == kk)
   rw [Bool.eq_iff_iff, Bool.and_eq_true, decide_eq_true_eq, decide_eq_true_eq, beq_iff_eq]
   omega
  ·have := List.length_filter_le (fun e : VE => e.key == kk) D
   have := hI.len
   unfold dK
   omega
theorem mk_win {C : Addr} {n k a b : Int} {R : Addr → Hp → Prop} {E : XK} (hC : ClW K C) (h : ∀ x H', H x = none → Same H H' → WinAt K H' x ⟨n, k, a, b⟩ → R x H') :
  ∀ x dx, H x = none → H dx = none → ¬ dx = x → sp_Window_init K [.ref x, .int n, .int k, .int a, .int b] (upd (upd H dx (.own x)) x (.ins C dx [])) (fun v H2 => v = .non ∧ R x H2) E := by
 intro x dx hx hdx ne
 refine ⟨x, C, dx, n, k, a, b, rfl, hC, upd_same, fun o ho => ⟨rfl, h x _ hx (fun b u e => ?_) ⟨o, upd_same, ho⟩⟩⟩
 rw [upd_ne (ne_of_none e hx), upd_ne (ne_of_none e hx), upd_ne (ne_of_none e hdx)]
 exact e
def sp_window_told (K : PySem.W.Frag) : Sp := fun vs H Q _ => ∃ (t : Addr) (j k a b : Int), vs = [.ref t] ∧ Told H t "j" j ∧ Told H t "k" k ∧ Told H t "a" a ∧ Told H t "b" b ∧ ∀ x H', Same H H' → WinAt K H' x ⟨j, k, a, fromT b⟩ → Q (.ref x) H'
theorem ok_window_told {f C : Addr} {fd : FuncData} (F : Fun K "window_told" "window_told" s_window_told f fd) (hC : ClW K C) (M_Window : Mc P w K mg base 1 "Window" C ["self", "low", "high", "first", "end"] (sp_Window_init K)) (D_end_from_told : Df P w K mg base 1 "end_from_told" ["told"] sp_end_from_told) : FnOk P w K mg base CX0 3 f fd ["told"] (sp_window_told K) := by
 refine F.ok sc_window_told (fun vs H Q E h => ?_) (fun cdv A outer s H vs Q E hr h => ?_)
 ·obtain ⟨t, j, k, a, b, rfl, _⟩ := h
  rfl
 ·obtain ⟨t, j, kk, a, b, rfl, t1, t2, t3, t4, k⟩ := h
  have hu := hu_of hr
  refine ⟨_, (pss_one (ps_ret (pe_mk M_Window (hr.mono (by decide)) rfl (pa_cons (pe_dget hu (pv 0) pe_str (fun _ _ => rfl)) (pa_cons (pe_dget hu (pv 0) pe_str (fun _ _ => rfl)) (pa_cons (pe_dget hu (pv 0) pe_str (fun _ _ => rfl)) (pa_cons (pe_fn D_end_from_told (hr.mono (by decide)) rfl (pa_cons (pe_dget hu (pv 0) pe_str (fun _ _ => rfl)) pa_nil)) pa_nil))))))), ?_⟩
  simp [start, t1.g, t2.g, t3.g, t4.g]
  exact mk_win hC fun x H' hx s hw => k x H' s hw
def sp_counted (K : PySem.W.Frag) : Sp := fun vs H Q _ => ∃ (l : Addr) (F : FE) (n : Int), vs = [.ref l, .int n] ∧ H l = some (.lst (F.map refE)) ∧ FAt K H F ∧ F.length ≤ 200 ∧ ∀ H' r, Same H H' → H' r = some (.lst ((((F.length : Nat) : Int) :: n :: F.map fun x => (x.2.id : Int)).map V.int)) → Q (.ref r) H'
theorem ok_counted {f : Addr} {fd : FuncData} (F : Fun K "counted" "counted" s_counted f fd) (T : Txt K mg) : FnOk P w K mg base CX0 1 f fd ["entries", "looked_at"] (sp_counted K) := by
 refine F.ok sc_counted (fun vs H Q E h => ?_) (fun cdv A outer s H vs Q E hr h => ?_)
 ·obtain ⟨l, F, n, rfl, _⟩ := h
  rfl
 ·obtain ⟨l, F, n, rfl, hl, hF, hz, k⟩ := h
  refine ⟨_, (pss_cons (ps_set (i := 2) sc_counted.nd rfl (Or.inl rfl) (pe_lst (pa_cons (pe_callB call_len_seq (by rfl) T.len PySem.boot_len (pa_cons (pv 0) pa_nil)) (pa_cons (pv 1) pa_nil))))
 (pss_cons (ps_expr (pe_bm PySem.F.plainAttrs_list PySem.F.slot_list_extend PySem.F.type_list_extend mt_extend (pv 2) (pa_cons (pe_lc rfl sc_counted.nd (pi_list (pv 0)) (blkOk_by (own := [("entry", 3)]) (by rfl)) (fun _ _ _ _ _ => pg_name (i := 3) sc_counted.nd rfl (Or.inl rfl)) (fun _ _ _ _ _ => pts_nil) (fun _ _ _ _ _ => (pe_fldB K (pv 3) rfl))) pa_nil)))
 (pss_one (ps_ret (pv 2))))), ?_⟩
  simp [start]
  refine ⟨_, .inl (SqL.of hl), len2_le, fun r hr0 => ⟨.inl ⟨rfl, _, SqL.of upd_same⟩, ?_⟩⟩
  have hl1 : upd H r (.lst [.int ((F.map refE).length : Nat), .int n]) l = some (.lst (F.map refE)) := by rw [upd_ne (ne_of_none hl hr0)]; exact hl
  refine lc_lst (xs := F) (f := refE) (g := fun x => .int (x.2.id : Nat)) (p := fun _ => true) (a := l) (fun R r => ⟨_, rfl, r⟩) (SqL.of hl1) (by omega) (fun x hx H2 kk s hk => ?_) (fun x hx hp H2 kk s hk => ?_) (fun m H2 hm s2 h2 => ?_)
  ·exact hk H2 (Same.refl _)
  ·have he := ((hF x hx).1.upd hr0).same s
   simp [wipe, he.flds]
   exact hk
  ·have e1 : F.filter (fun _ => true) = F := List.filter_eq_self.mpr fun _ _ => rfl
   rw [e1] at h2
   have hr2 := s2 _ _ (upd_same (H := H) (a := r) (o := .lst [.int ((F.map refE).length : Nat), .int n]))
   refine ⟨r, m, _, _, rfl, rfl, hr2, h2, fits (by simp; omega), ?_⟩
   simp
   refine k _ r (fun b u eb => ?_) ?_
   ·rw [upd_ne (ne_of_none eb hr0)]
    exact s2 _ _ ((Same.new hr0) _ _ eb)
   ·rw [upd_same]
    simp
def sp_with_count : Sp := fun vs H Q _ => ∃ (l : Addr) (ns : List Int), vs = [.ref l] ∧ H l = some (.lst (ns.map V.int)) ∧ ns.length ≤ 5000 ∧ ∀ H' r, Same H H' → H' r = some (.lst ((((ns.length : Nat) : Int) :: ns).map V.int)) → Q (.ref r) H'
theorem ok_with_count {f : Addr} {fd : FuncData} (F : Fun K "with_count" "with_count" s_with_count f fd) (T : Txt K mg) : FnOk P w K mg base CX0 1 f fd ["numbers"] sp_with_count := by
 refine F.ok sc_with_count (fun vs H Q E h => ?_) (fun cdv A outer s H vs Q E hr h => ?_)
 ·obtain ⟨l, ns, rfl, _⟩ := h
  rfl
 ·obtain ⟨l, ns, rfl, hl, hz, k⟩ := h
  refine ⟨_, (pss_one (ps_ret (pe_op op_cat (pe_lst (pa_cons (pe_callB call_len_seq (by rfl) T.len PySem.boot_len (pa_cons (pv 0) pa_nil)) pa_nil)) (pv 0)))), ?_⟩
  simp [start]
  refine ⟨_, .inl (SqL.of hl), fits (by decide), fun p hp => ⟨p, l, _, _, rfl, rfl, upd_same, by rw [upd_ne (ne_of_none hl hp)]; exact hl, fits (by simp; omega), fun q hq => ?_⟩⟩
  refine k _ q ((Same.new hp).trans (Same.new hq)) ?_
  rw [upd_same]
  simp
def EoN (K : PySem.W.Frag) (H : Hp) (v : V) (o : Option VE) : Prop := (v = .non ∧ o = none) ∨ ∃ p e, v = .ref p ∧ o = some e ∧ EntAt K H p (raw e) ∧ SM.Good e
def sp_entry_or_none (K : PySem.W.Frag) : Sp := fun vs H Q _ => ∃ (v : V) (o : Option VE), vs = [v] ∧ EoN K H v o ∧ ∀ H' r, Same H H' → H' r = some (.lst ((Vabiti.optionalEntry o).map V.int)) → Q (.ref r) H'
theorem ok_entry_or_none {f : Addr} {fd : FuncData} (F : Fun K "entry_or_none" "entry_or_none" s_entry_or_none f fd) (D_entry_as_told : Df P w K mg base 2 "entry_as_told" ["entry"] (sp_entry_as_told K)) : FnOk P w K mg base CX0 3 f fd ["entry"] (sp_entry_or_none K) := by
 refine F.ok sc_entry_or_none (fun vs H Q E h => ?_) (fun cdv A outer s H vs Q E hr h => ?_)
 ·obtain ⟨v, o, rfl, _⟩ := h
  rfl
 ·obtain ⟨v, o, rfl, ho, k⟩ := h
  refine ⟨_, (pss_one (ps_ret (pe_ifExp (pt_cmpR op_isN (pv 0) pe_non (nomark _)) (pe_lst (pa_cons pe_int pa_nil)) (pe_op op_cat (pe_lst (pa_cons pe_int pa_nil)) (pe_fn D_entry_as_told (hr.mono (by decide)) rfl (pa_cons (pv 0) pa_nil)))))), ?_⟩
  rcases ho with ⟨rfl, rfl⟩ | ⟨p, e, rfl, rfl, he, g⟩
  ·simp [start]
   refine ⟨fits (by decide), fun r hr0 => k _ r (Same.new hr0) ?_⟩
   rw [upd_same]
   rfl
  ·simp [start]
   refine ⟨fits (by decide), fun l hl => ⟨p, raw e, rfl, he.upd hl, fun m hm => ⟨l, m, _, _, rfl, rfl, by rw [upd_ne (ne_of_none upd_same hm), upd_same], upd_same, fits (by simp [toldE]), fun r hr0 => ?_⟩⟩⟩
   refine k _ r (((Same.new hl).trans (Same.new hm)).trans (Same.new hr0)) ?_
   rw [upd_same, told_raw g]
   rfl
end
end L2
end
section
namespace L2
open PySem PySem.Spec PyProof.Rows
open Vabiti (Call many)
section
variable {P : Program} {w : World} {K : PySem.W.Frag} {mg : Str → Option Value} {base : Heap} {H H' H2 : Hp} {Q : VK}
def sp_get (K : PySem.W.Frag) : Sp := fun vs H Q _ => ∃ (d t : Addr) (D : List VE) (L : List (Addr × REnt)) (i : Int), vs = [.ref d, .ref t] ∧ InD K H d D L ∧ Told H t "id" i ∧ SM.NumR i ∧ Tells K H d D (.get i) Q
theorem ok_get {f : Addr} {fd : FuncData} (F : Fun K "get" "get" s_get f fd) (T : Txt K mg) (D_entry_as_told : Df P w K mg base 2 "entry_as_told" ["entry"] (sp_entry_as_told K)) : FnOk P w K mg base CX0 3 f fd ["entries", "told"] (sp_get K) := by
 refine F.ok sc_get (fun vs H Q E h => ?_) (fun cdv A outer s H vs Q E hr h => ?_)
 ·obtain ⟨d, t, D, L, i, rfl, _⟩ := h
  rfl
 ·obtain ⟨d, t, D, L, i, rfl, hI, t1, h1, q⟩ := h
  have hu := hu_of hr
  have hd := hI.ents.dict
  refine ⟨_, (pss_cons (ps_if (pt_cmp (pc_dnotin hu (pe_dget hu (pv 1) pe_str (fun _ _ => rfl)) (pv 0)))
 (pss_one (ps_ret (pe_lst (pa_cons (pe_gint T.g_NO_SUCH_ENTRY rfl) pa_nil))))
 pss_nil)
 (pss_one (ps_ret (pe_fn D_entry_as_told (hr.mono (by decide)) rfl (pa_cons (pe_dget hu (pv 0) (pe_dget hu (pv 1) pe_str (fun _ _ => rfl)) (fun _ _ => rfl)) pa_nil))))), ?_⟩
  simp [start, t1.g]
  refine din_int hd ?_
  cases e : valV (dkv L) (Sum.inl i) with
  | none =>
   simp
   exact ⟨fits (by decide), fun p hp => q.new hI (SM.get_3 h1 (hI.missing h1 e)) (by decide) hp⟩
  | some v =>
   obtain ⟨x, hx, en, hen, er, eid, exn, rfl⟩ := hI.found h1 e
   have he := hI.ents.at_ x hx
   simp [t1.g]
   refine dget_int hd e ⟨x.1, x.2, rfl, he, fun l hl => ?_⟩
   rw [er, told_raw (hI.good en hen)]
   exact q.new hI (SM.get_ok h1 hen eid) (by simp [Vabiti.entryTold]) hl
def sp_count (K : PySem.W.Frag) : Sp := fun vs H Q _ => ∃ (d t : Addr) (D : List VE) (L : List (Addr × REnt)), vs = [.ref d, .ref t] ∧ InD K H d D L ∧ Tells K H d D .count Q
theorem ok_count {f : Addr} {fd : FuncData} (F : Fun K "count" "count" s_count f fd) (T : Txt K mg) : FnOk P w K mg base CX0 1 f fd ["entries", "told"] (sp_count K) := by
 refine F.ok sc_count (fun vs H Q E h => ?_) (fun cdv A outer s H vs Q E hr h => ?_)
 ·obtain ⟨d, t, D, L, rfl, _⟩ := h
  rfl
 ·obtain ⟨d, t, D, L, rfl, hI, q⟩ := h
  refine ⟨_, (pss_one (ps_ret (pe_lst (pa_cons (pe_callB call_lenD (by rfl) T.len PySem.boot_len (pa_cons (pv 0) pa_nil)) pa_nil)))), ?_⟩
  simp [start, hI.ents.dict]
  refine ⟨fits (by decide), fun p hp => ?_⟩
  have := q.new hI SM.count_ok (by simp) hp
  rw [← hI.llen] at this
  exact this
theorem told_found {F : FE} {l : List VE} {n : Nat} (h : F.map (·.2) = l) : ((((F.length : Nat) : Int) :: (n : Int) :: F.map fun x => (x.2.id : Int))) = Vabiti.foundTold l n := by
 unfold Vabiti.foundTold Vabiti.idsTold
 rw [← h, List.length_map, List.map_map]
 rfl
def sp_stab (K : PySem.W.Frag) : Sp := fun vs H Q _ => ∃ (d t : Addr) (D : List VE) (L : List (Addr × REnt)) (v : Int), vs = [.ref d, .ref t] ∧ InD K H d D L ∧ Told H t "v" v ∧ SM.MomR v ∧ Tells K H d D (.stab v) Q
theorem ok_stab {f C : Addr} {fd : FuncData} (F : Fun K "stab" "stab" s_stab f fd) (T : Txt K mg) (hC : ClW K C) (M_Window : Mc P w K mg base 1 "Window" C ["self", "low", "high", "first", "end"] (sp_Window_init K)) (D_whole_tree : Df P w K mg base 6 "whole_tree" ["entries"] (sp_whole_tree K)) (D_search : Df P w K mg base 2 "search" ["tree", "window"] (sp_search K)) (D_counted : Df P w K mg base 1 "counted" ["entries", "looked_at"] (sp_counted K)) : FnOk P w K mg base CX0 7 f fd ["entries", "told"] (sp_stab K) := by
 refine F.ok sc_stab (fun vs H Q E h => ?_) (fun cdv A outer s H vs Q E hr h => ?_)
 ·obtain ⟨d, t, D, L, v, rfl, _⟩ := h
  rfl
 ·obtain ⟨d, t, D, L, v, rfl, hI, t1, h1, q⟩ := h
  have hu := hu_of hr
  refine ⟨_, (pss_cons (ps_set (i := 2) sc_stab.nd rfl (Or.inl rfl) (pe_mk M_Window (hr.mono (by decide)) rfl (pa_cons (pe_gint T.g_LEAST_KEY rfl) (pa_cons (pe_gint T.g_GREATEST_KEY rfl) (pa_cons (pe_dget hu (pv 1) pe_str (fun _ _ => rfl)) (pa_cons (pe_op op_add (pe_dget hu (pv 1) pe_str (fun _ _ => rfl)) pe_int) pa_nil))))))
 (pss_cons (ps_set (i := 3) sc_stab.nd rfl (Or.inl rfl) (pe_fn D_search (hr.mono (by decide)) rfl (pa_cons (pe_fn D_whole_tree (hr.mono (by decide)) rfl (pa_cons (pv 0) pa_nil)) (pa_cons (pv 2) pa_nil))))
 (pss_one (ps_ret (pe_fn D_counted (hr.mono (by decide)) rfl (pa_cons (pe_ix ix_tup (pv 3) pe_int (fun _ _ => rfl)) (pa_cons (pe_ix ix_tup (pv 3) pe_int (fun _ _ => rfl)) pa_nil))))))), ?_⟩
  simp [start, t1.g]
  refine mk_win hC fun x H1 hx s1 hw => ?_
  refine ⟨d, D, L, rfl, hI.same s1, fun H2 tv s2 htv gtv => ?_⟩
  let wn : VW := { j := -Vabiti.GREATEST, k := Vabiti.GREATEST, a := v.toNat, b := v.toNat + 1 }
  have wr : WR ⟨-999999999999, 999999999999, v, v + 1⟩ wn := ⟨rfl, rfl, by show v = ((v.toNat : Nat) : Int); omega, by show v.toNat ≤ _; omega, fun a _ => by show (a : Int) < v + 1 ↔ a < v.toNat + 1; omega⟩
  refine ⟨tv, x, _, _, wn, rfl, htv, gtv, hw.same s2, wr, by rw [size_tree hI.ids]; exact hI.len, fun H3 tp fa F s3 h3 hfa hF eF => ?_⟩
  refine ix0 h3 (ix1 h3 ?_)
  have hFl : F.length ≤ 200 := by
   have h1 := congrArg List.length eF
   rw [List.length_map] at h1
   have h2 := (found_le wn (Vabiti.treeOf (Vabiti.arranged D))).1
   rw [size_tree hI.ids] at h2
   have := hI.len
   omega
  refine ⟨fa, F, _, rfl, hfa, hF, hFl, fun H4 r s4 h4 => ?_⟩
  rw [told_found eF] at h4
  exact q.just hI (SM.stab_ok h1) (by rw [← told_found eF]; simp; omega) (((s1.trans s2).trans s3).trans s4) h4
def sp_sw (K : PySem.W.Frag) (C : Int → Int → Int → Int → Call) : Sp := fun vs H Q _ => ∃ (d t : Addr) (D : List VE) (L : List (Addr × REnt)) (j k a b : Int), vs = [.ref d, .ref t] ∧ InD K H d D L ∧ Told H t "j" j ∧ Told H t "k" k ∧ Told H t "a" a ∧ Told H t "b" b ∧ SM.KeyR j ∧ SM.KeyR k ∧ SM.MomR a ∧ SM.EndR b ∧ a.toNat < SM.endN b ∧ Tells K H d D (C j k a b) Q
theorem wr_of {j k a b : Int} (ha : SM.MomR a) (hb : SM.EndR b) : WR ⟨j, k, a, fromT b⟩ (SM.winOf j k a b) := by
 refine ⟨rfl, rfl, by show a = ((a.toNat : Nat) : Int); omega, by show a.toNat ≤ _; omega, fun x hx => ?_⟩
 show (x : Int) < fromT b ↔ x < SM.endN b
 rw [fromT_pend hb, ← pend_nat hx]
 have := SM.never_eq
 exact pend_lt (by omega) (endN_le hb)
theorem ok_find {f : Addr} {fd : FuncData} (F : Fun K "find" "find" s_find f fd) (T : Txt K mg) (D_window_told : Df P w K mg base 3 "window_told" ["told"] (sp_window_told K)) (D_whole_tree : Df P w K mg base 6 "whole_tree" ["entries"] (sp_whole_tree K)) (D_search : Df P w K mg base 2 "search" ["tree", "window"] (sp_search K)) (D_counted : Df P w K mg base 1 "counted" ["entries", "looked_at"] (sp_counted K)) : FnOk P w K mg base CX0 7 f fd ["entries", "told"] (sp_sw K .find) := by
 refine F.ok sc_find (fun vs H Q E h => ?_) (fun cdv A outer s H vs Q E hr h => ?_)
 ·obtain ⟨d, t, D, L, j, k, a, b, rfl, _⟩ := h
  rfl
 ·obtain ⟨d, t, D, L, j, k, a, b, rfl, hI, t1, t2, t3, t4, h1, h2, h3, h4, h5, q⟩ := h
  refine ⟨_, (pss_cons (ps_set (i := 2) sc_find.nd rfl (Or.inl rfl) (pe_fn D_search (hr.mono (by decide)) rfl (pa_cons (pe_fn D_whole_tree (hr.mono (by decide)) rfl (pa_cons (pv 0) pa_nil)) (pa_cons (pe_fn D_window_told (hr.mono (by decide)) rfl (pa_cons (pv 1) pa_nil)) pa_nil))))
 (pss_one (ps_ret (pe_fn D_counted (hr.mono (by decide)) rfl (pa_cons (pe_ix ix_tup (pv 2) pe_int (fun _ _ => rfl)) (pa_cons (pe_ix ix_tup (pv 2) pe_int (fun _ _ => rfl)) pa_nil)))))), ?_⟩
  simp [start]
  refine ⟨d, D, L, rfl, hI, fun H2 tv s2 htv gtv => ?_⟩
  refine ⟨t, j, k, a, b, rfl, t1.same s2, t2.same s2, t3.same s2, t4.same s2, fun x H3 s3 hw => ?_⟩
  refine ⟨tv, x, _, _, SM.winOf j k a b, rfl, htv.same s3, gtv, hw, wr_of h3 h4, by rw [size_tree hI.ids]; exact hI.len, fun H4 tp fa F s4 h6 hfa hF eF => ?_⟩
  refine ix0 h6 (ix1 h6 ?_)
  have hFl : F.length ≤ 200 := by
   have h1 := congrArg List.length eF
   rw [List.length_map] at h1
   have h2 := (found_le (SM.winOf j k a b) (Vabiti.treeOf (Vabiti.arranged D))).1
   rw [size_tree hI.ids] at h2
   have := hI.len
   omega
  refine ⟨fa, F, _, rfl, hfa, hF, hFl, fun H5 r s5 h7 => ?_⟩
  rw [told_found eF] at h7
  have dd := SM.sw_ok (D := D) SM.Sw.find h1 h2 h3 h4 h5
  have e1 : ∀ l : List VE, l.filter (fun _ => true) = l := fun l => List.filter_eq_self.mpr fun _ _ => rfl
  rw [e1] at dd
  exact q.just hI dd (by rw [← told_found eF]; simp; omega) (((s2.trans s3).trans s4).trans s5) h7
theorem filter_fe {p : VE → Bool} (F : FE) : (F.filter fun x => p x.2).map (·.2) = (F.map (·.2)).filter p := by
 rw [List.filter_map]
 rfl
theorem ok_inside {f : Addr} {fd : FuncData} (F : Fun K "inside" "inside" s_inside f fd) (T : Txt K mg) (D_window_told : Df P w K mg base 3 "window_told" ["told"] (sp_window_told K)) (D_whole_tree : Df P w K mg base 6 "whole_tree" ["entries"] (sp_whole_tree K)) (D_search : Df P w K mg base 2 "search" ["tree", "window"] (sp_search K)) (D_counted : Df P w K mg base 1 "counted" ["entries", "looked_at"] (sp_counted K)) : FnOk P w K mg base CX0 7 f fd ["entries", "told"] (sp_sw K .inside) := by
 refine F.ok sc_inside (fun vs H Q E h => ?_) (fun cdv A outer s H vs Q E hr h => ?_)
 ·obtain ⟨d, t, D, L, j, k, a, b, rfl, _⟩ := h
  rfl
 ·obtain ⟨d, t, D, L, j, k, a, b, rfl, hI, t1, t2, t3, t4, h1, h2, h3, h4, h5, q⟩ := h
  refine ⟨_, (pss_cons (ps_set (i := 2) sc_inside.nd rfl (Or.inr rfl) (pe_fn D_window_told (hr.mono (by decide)) rfl (pa_cons (pv 1) pa_nil)))
 (pss_cons (ps_set (i := 3) sc_inside.nd rfl (Or.inl rfl) (pe_fn D_search (hr.mono (by decide)) rfl (pa_cons (pe_fn D_whole_tree (hr.mono (by decide)) rfl (pa_cons (pv 0) pa_nil)) (pa_cons (pv 2) pa_nil))))
 (pss_cons (ps_setLc rfl sc_inside.nd (i := 4) rfl rfl (sw_true rfl rfl rfl rfl) (pi_list (pe_ix ix_tup (pv 3) pe_int (fun _ _ => rfl))) (blkOk_by (own := [("entry", 5)]) (by rfl)) (fun _ _ _ _ _ => pg_name (i := 5) sc_inside.nd rfl (Or.inl rfl)) (fun _ _ _ _ _ => (pts_one (PW.pt (pw_and (pt_cmpR op_le (pe_fldB K (pv 2) rfl) (pe_fldB K (pv 5) rfl) (nomark _)) (pw_and1 (pt_cmpR op_le (pe_fldB K (pv 5) rfl) (pe_fldB K (pv 2) rfl) (nomark _))))))) (fun _ _ _ _ _ => (pv 5)))
 (pss_one (ps_ret (pe_fn D_counted (hr.mono (by decide)) rfl (pa_cons (pv 4) (pa_cons (pe_ix ix_tup (pv 3) pe_int (fun _ _ => rfl)) pa_nil)))))))), ?_⟩
  simp [start]
  refine ⟨t, j, k, a, b, rfl, t1, t2, t3, t4, fun x H2 s2 hw => ?_⟩
  refine ⟨d, D, L, rfl, hI.same s2, fun H3 tv s3 htv gtv => ?_⟩
  refine ⟨tv, x, _, _, SM.winOf j k a b, rfl, htv, gtv, hw.same s3, wr_of h3 h4, by rw [size_tree hI.ids]; exact hI.len, fun H4 tp fa F s4 h6 hfa hF eF => ?_⟩
  have hw4 := (hw.same s3).same s4
  have hFl : F.length ≤ 200 := by
   have h1 := congrArg List.length eF
   rw [List.length_map] at h1
   have h2 := (found_le (SM.winOf j k a b) (Vabiti.treeOf (Vabiti.arranged D))).1
   rw [size_tree hI.ids] at h2
   have := hI.len
   omega
  refine lc_lst (xs := F) (f := refE) (g := refE) (p := fun y => decide (a.toNat ≤ y.2.a) && decide (y.2.b ≤ SM.endN b)) (a := fa) (fun R r => ⟨_, rfl, ix0 h6 r⟩) (SqL.of hfa) (by omega) (fun y hy H2 kk s hk => ?_) (fun y hy hp H2 kk s hk => ?_) (fun m H5 hm s5 h7 => ?_)
  ·have he := (hF y hy).1.same s
   have g := (hF y hy).2
   have hw5 := hw4.same s
   have hk' := hk H2 (Same.refl _)
   have c1 : (a ≤ (raw y.2).a) ↔ a.toNat ≤ y.2.a := by show a ≤ (y.2.a : Int) ↔ _; omega
   have c2 : ((raw y.2).b ≤ fromT b) ↔ y.2.b ≤ SM.endN b := by rw [fromT_pend h4]; exact pend_le g.b (endN_le h4)
   simp [wipe]
   simp only [he.flds, hw5.flds]
   simp
   refine ite2 (fun z => ?_) (fun z => ?_)
   ·rw [decide_eq_true (c1.mp z)] at hk'
    simp only [he.flds, hw5.flds, x_rI0, x_bT]
    rw [decide_eq_decide.mpr c2]
    simpa using hk'
   ·rw [decide_eq_false (fun y => z (c1.mpr y))] at hk'
    simpa using hk'
  ·exact ⟨_, rfl, hk⟩
  ·have h6' := s5 _ _ h6
   refine ix1 h6' ⟨m, _, _, rfl, h7, fun y hy => ⟨(hF y (List.mem_filter.mp hy).1).1.same s5, (hF y (List.mem_filter.mp hy).1).2⟩, Nat.le_trans (List.length_filter_le _ _) hFl, fun H6 r s6 h8 => ?_⟩
   have eF2 := filter_fe (p := fun e => decide (a.toNat ≤ e.a) && decide (e.b ≤ SM.endN b)) F
   rw [eF] at eF2
   rw [told_found eF2] at h8
   have dd := SM.sw_ok (D := D) SM.Sw.inside h1 h2 h3 h4 h5
   exact q.just hI dd (by rw [show (fun e : VE => decide ((SM.winOf j k a b).a ≤ e.a) && decide (e.b ≤ (SM.winOf j k a b).b)) = fun e => decide (a.toNat ≤ e.a) && decide (e.b ≤ SM.endN b) from rfl, ← told_found eF2]; simp only [List.length_cons, List.length_map]; have := List.length_filter_le (fun x : Addr × VE => decide (a.toNat ≤ x.2.a) && decide (x.2.b ≤ SM.endN b)) F; omega) ((((s2.trans s3).trans s4).trans s5).trans s6) h8
theorem ok_around {f : Addr} {fd : FuncData} (F : Fun K "around" "around" s_around f fd) (T : Txt K mg) (D_window_told : Df P w K mg base 3 "window_told" ["told"] (sp_window_told K)) (D_whole_tree : Df P w K mg base 6 "whole_tree" ["entries"] (sp_whole_tree K)) (D_search : Df P w K mg base 2 "search" ["tree", "window"] (sp_search K)) (D_counted : Df P w K mg base 1 "counted" ["entries", "looked_at"] (sp_counted K)) : FnOk P w K mg base CX0 7 f fd ["entries", "told"] (sp_sw K .around) := by
 refine F.ok sc_around (fun vs H Q E h => ?_) (fun cdv A outer s H vs Q E hr h => ?_)
 ·obtain ⟨d, t, D, L, j, k, a, b, rfl, _⟩ := h
  rfl
 ·obtain ⟨d, t, D, L, j, k, a, b, rfl, hI, t1, t2, t3, t4, h1, h2, h3, h4, h5, q⟩ := h
  refine ⟨_, (pss_cons (ps_set (i := 2) sc_around.nd rfl (Or.inr rfl) (pe_fn D_window_told (hr.mono (by decide)) rfl (pa_cons (pv 1) pa_nil)))
 (pss_cons (ps_set (i := 3) sc_around.nd rfl (Or.inl rfl) (pe_fn D_search (hr.mono (by decide)) rfl (pa_cons (pe_fn D_whole_tree (hr.mono (by decide)) rfl (pa_cons (pv 0) pa_nil)) (pa_cons (pv 2) pa_nil))))
 (pss_cons (ps_setLc rfl sc_around.nd (i := 4) rfl rfl (sw_true rfl rfl rfl rfl) (pi_list (pe_ix ix_tup (pv 3) pe_int (fun _ _ => rfl))) (blkOk_by (own := [("entry", 5)]) (by rfl)) (fun _ _ _ _ _ => pg_name (i := 5) sc_around.nd rfl (Or.inl rfl)) (fun _ _ _ _ _ => (pts_one (PW.pt (pw_and (pt_cmpR op_le (pe_fldB K (pv 5) rfl) (pe_fldB K (pv 2) rfl) (nomark _)) (pw_and1 (pt_cmpR op_le (pe_fldB K (pv 2) rfl) (pe_fldB K (pv 5) rfl) (nomark _))))))) (fun _ _ _ _ _ => (pv 5)))
 (pss_one (ps_ret (pe_fn D_counted (hr.mono (by decide)) rfl (pa_cons (pv 4) (pa_cons (pe_ix ix_tup (pv 3) pe_int (fun _ _ => rfl)) pa_nil)))))))), ?_⟩
  simp [start]
  refine ⟨t, j, k, a, b, rfl, t1, t2, t3, t4, fun x H2 s2 hw => ?_⟩
  refine ⟨d, D, L, rfl, hI.same s2, fun H3 tv s3 htv gtv => ?_⟩
  refine ⟨tv, x, _, _, SM.winOf j k a b, rfl, htv, gtv, hw.same s3, wr_of h3 h4, by rw [size_tree hI.ids]; exact hI.len, fun H4 tp fa F s4 h6 hfa hF eF => ?_⟩
  have hw4 := (hw.same s3).same s4
  have hFl : F.length ≤ 200 := by
   have h1 := congrArg List.length eF
   rw [List.length_map] at h1
   have h2 := (found_le (SM.winOf j k a b) (Vabiti.treeOf (Vabiti.arranged D))).1
   rw [size_tree hI.ids] at h2
   have := hI.len
   omega
  refine lc_lst (xs := F) (f := refE) (g := refE) (p := fun y => decide (y.2.a ≤ a.toNat) && decide (SM.endN b ≤ y.2.b)) (a := fa) (fun R r => ⟨_, rfl, ix0 h6 r⟩) (SqL.of hfa) (by omega) (fun y hy H2 kk s hk => ?_) (fun y hy hp H2 kk s hk => ?_) (fun m H5 hm s5 h7 => ?_)
  ·have he := (hF y hy).1.same s
   have g := (hF y hy).2
   have hw5 := hw4.same s
   have hk' := hk H2 (Same.refl _)
   have c1 : ((raw y.2).a ≤ a) ↔ y.2.a ≤ a.toNat := by show (y.2.a : Int) ≤ a ↔ _; omega
   have c2 : (fromT b ≤ (raw y.2).b) ↔ SM.endN b ≤ y.2.b := by rw [fromT_pend h4]; exact pend_le (endN_le h4) g.b
   simp [wipe]
   simp only [he.flds, hw5.flds]
   simp
   refine ite2 (fun z => ?_) (fun z => ?_)
   ·rw [decide_eq_true (c1.mp z)] at hk'
    simp only [he.flds, hw5.flds, x_rI0, x_bT]
    rw [decide_eq_decide.mpr c2]
    simpa using hk'
   ·rw [decide_eq_false (fun y => z (c1.mpr y))] at hk'
    simpa using hk'
  ·exact ⟨_, rfl, hk⟩
  ·have h6' := s5 _ _ h6
   refine ix1 h6' ⟨m, _, _, rfl, h7, fun y hy => ⟨(hF y (List.mem_filter.mp hy).1).1.same s5, (hF y (List.mem_filter.mp hy).1).2⟩, Nat.le_trans (List.length_filter_le _ _) hFl, fun H6 r s6 h8 => ?_⟩
   have eF2 := filter_fe (p := fun e => decide (e.a ≤ a.toNat) && decide (SM.endN b ≤ e.b)) F
   rw [eF] at eF2
   rw [told_found eF2] at h8
   have dd := SM.sw_ok (D := D) SM.Sw.around h1 h2 h3 h4 h5
   exact q.just hI dd (by rw [show (fun e : VE => decide (e.a ≤ (SM.winOf j k a b).a) && decide ((SM.winOf j k a b).b ≤ e.b)) = fun e => decide (e.a ≤ a.toNat) && decide (SM.endN b ≤ e.b) from rfl, ← told_found eF2]; simp only [List.length_cons, List.length_map]; have := List.length_filter_le (fun x : Addr × VE => decide (x.2.a ≤ a.toNat) && decide (SM.endN b ≤ x.2.b)) F; omega) ((((s2.trans s3).trans s4).trans s5).trans s6) h8
end
end L2
end
section
namespace L2
open PySem PySem.Spec PyProof.Rows
open Vabiti (Call many)
section
variable {P : Program} {w : World} {K : PySem.W.Frag} {mg : Str → Option Value} {base : Heap} {H H' H2 : Hp} {Q : VK}
def sp_place (K : PySem.W.Frag) : Sp := fun vs H Q _ => ∃ (d t : Addr) (D : List VE) (L : List (Addr × REnt)) (i : Int), vs = [.ref d, .ref t] ∧ InD K H d D L ∧ Told H t "id" i ∧ SM.NumR i ∧ Tells K H d D (.place i) Q
theorem ok_place {f : Addr} {fd : FuncData} (F : Fun K "place" "place" s_place f fd) (T : Txt K mg) (D_rank : Df P w K mg base 1 "rank" ["entry"] (sp_rank K)) : FnOk P w K mg base CX0 2 f fd ["entries", "told"] (sp_place K) := by
 refine F.ok sc_place (fun vs H Q E h => ?_) (fun cdv A outer s H vs Q E hr h => ?_)
 ·obtain ⟨d, t, D, L, i, rfl, _⟩ := h
  rfl
 ·obtain ⟨d, t, D, L, i, rfl, hI, t1, h1, q⟩ := h
  have hu := hu_of hr
  have hd := hI.ents.dict
  refine ⟨_, (pss_cons (ps_if (pt_cmp (pc_dnotin hu (pe_dget hu (pv 1) pe_str (fun _ _ => rfl)) (pv 0)))
 (pss_one (ps_ret (pe_lst (pa_cons (pe_gint T.g_NO_SUCH_ENTRY rfl) pa_nil))))
 pss_nil)
 (pss_cons (ps_set (i := 2) sc_place.nd rfl (Or.inr rfl) (pe_fn D_rank (hr.mono (by decide)) rfl (pa_cons (pe_dget hu (pv 0) (pe_dget hu (pv 1) pe_str (fun _ _ => rfl)) (fun _ _ => rfl)) pa_nil)))
 (pss_one (ps_ret (pe_lst (pa_cons (pe_callB call_len_seq (by rfl) T.len PySem.boot_len (pa_cons (pe_lock (pe_lc rfl sc_place.nd (pi_values (pv 0)) (blkOk_by (own := [("entry", 3)]) (by rfl)) (fun _ _ _ _ _ => pg_name (i := 3) sc_place.nd rfl (Or.inl rfl)) (fun _ _ _ _ _ => (pts_one (pt_cmpR (op_ltTB K hr.units0) (pe_fn D_rank (hr.mono (by decide)) rfl (pa_cons (pv 3) pa_nil)) (pv 2) (nomark _)))) (fun _ _ _ _ _ => (pv 3)))) pa_nil)) pa_nil)))))), ?_⟩
  simp [start, t1.g]
  refine din_int hd ?_
  cases e : valV (dkv L) (Sum.inl i) with
  | none =>
   simp
   exact ⟨fits (by decide), fun p hp => q.new hI (SM.place_3 h1 (hI.missing h1 e)) (by decide) hp⟩
  | some v =>
   obtain ⟨x, hx, en, hen, er, eid, exn, rfl⟩ := hI.found h1 e
   have he := hI.ents.at_ x hx
   simp [t1.g]
   refine dget_int hd e ⟨x.1, x.2, rfl, he, fun l hl => ?_⟩
   have s1 : Same H (upd H l (.tup ((rkE x.2).map V.int))) := Same.new hl
   have hI1 := hI.same s1
   have nld : l ≠ d := fun z => by rw [z, hd] at hl; cases hl
   refine lock_lc (xs := L) (f := refA) (g := refA) (p := fun y => HT.lexLt (rkE y.2) (rkE x.2)) hI1.ents.dict (Ents.vals L) rfl (by have := hI.z; omega) (fun y hy H2 k s hk => ?_) (fun y hy hp H2 k s hk => ?_) (fun m H3 h3 s3 h4 => ?_)
   ·have he := (hI1.ents.at_ y hy).b s (hI1.ents.ne hy)
    simp [wipe]
    refine ⟨y.1, y.2, rfl, he, fun l2 hl2 => ?_⟩
    have hl3 := s _ _ (upd_same (H := H) (a := l) (o := .tup ((rkE x.2).map V.int))) nld
    refine ⟨l2, l, _, _, rfl, rfl, SqT.of upd_same, SqT.of (by rw [upd_ne (ne_of_none hl3 hl2)]; exact hl3), ?_⟩
    simpa using hk _ (Same.new hl2)
   ·simp [wipe]
    exact hk
   ·simp
    refine ⟨_, .inl (SqL.of h4), fits (by decide), fun p hp => ?_⟩
    have e3 : (L.filter fun y => HT.lexLt (rkE y.2) (rkE x.2)).map (·.2) = (D.filter fun y => Vabiti.before y en).map raw := by
     refine filter_rel (p := fun r => HT.lexLt (rkE r) (rkE x.2)) hI.rel fun e _ => ?_
     rw [er, lex_bf]
    have e4 := congrArg List.length e3
    rw [List.length_map, List.length_map] at e4
    have := q.just hI (SM.place_ok h1 hen eid) (by simp) (H' := upd H3 p (.lst [.int ((D.filter fun y => Vabiti.before y en).length : Nat)])) ((s1.trans s3).trans (Same.new hp)) (l := p) (by rw [upd_same]; rfl)
    rw [← e4] at this
    simpa using this
def sp_nth (K : PySem.W.Frag) : Sp := fun vs H Q _ => ∃ (d t : Addr) (D : List VE) (L : List (Addr × REnt)) (i : Int), vs = [.ref d, .ref t] ∧ InD K H d D L ∧ Told H t "i" i ∧ SM.MomR i ∧ Tells K H d D (.nth i) Q
theorem ok_nth {f : Addr} {fd : FuncData} (F : Fun K "nth" "nth" s_nth f fd) (T : Txt K mg) (D_in_order : Df P w K mg base 4 "in_order" ["entries"] (sp_in_order K)) (D_entry_as_told : Df P w K mg base 2 "entry_as_told" ["entry"] (sp_entry_as_told K)) : FnOk P w K mg base CX0 5 f fd ["entries", "told"] (sp_nth K) := by
 refine F.ok sc_nth (fun vs H Q E h => ?_) (fun cdv A outer s H vs Q E hr h => ?_)
 ·obtain ⟨d, t, D, L, i, rfl, _⟩ := h
  rfl
 ·obtain ⟨d, t, D, L, i, rfl, hI, t1, h1, q⟩ := h
  have hu := hu_of hr
  have hd := hI.ents.dict
  refine ⟨_, (pss_cons (ps_if (pt_cmpR op_ge (pe_dget hu (pv 1) pe_str (fun _ _ => rfl)) (pe_callB call_lenD (by rfl) T.len PySem.boot_len (pa_cons (pv 0) pa_nil)) (nomark _))
 (pss_one (ps_ret (pe_lst (pa_cons (pe_gint T.g_NO_SUCH_ENTRY rfl) pa_nil))))
 pss_nil)
 (pss_cons (ps_set (i := 2) sc_nth.nd rfl (Or.inl rfl) (pe_fn D_in_order (hr.mono (by decide)) rfl (pa_cons (pe_listVals rfl (by rfl) T.list (pv 0)) pa_nil)))
 (pss_one (ps_ret (pe_fn D_entry_as_told (hr.mono (by decide)) rfl (pa_cons (pe_ix ix_list (pv 2) (pe_dget hu (pv 1) pe_str (fun _ _ => rfl)) (fun _ _ => rfl)) pa_nil)))))), ?_⟩
  simp [start, t1.g, hd]
  have hll := hI.llen
  by_cases c : D.length ≤ i.toNat
  ·rw [if_pos (by omega)]
   exact ⟨fits (by decide), fun p hp => q.new hI (SM.nth_3 h1 c) (by decide) hp⟩
  ·rw [if_neg (by omega)]
   intro l hl
   refine ⟨l, L, rfl, by have := hI.ents.le hl; simpa using this, fun m H1 L' m0 s1 m1 pL rk => ?_⟩
   have s0 := (Same.new hl).trans s1
   have hr2 := in_arr hI.rel hI.ids pL rk
   have hlen : L'.length = (Vabiti.arranged D).length := by simpa using congrArg List.length hr2
   have hap := (SM.arranged_perm D).length_eq
   have hi : i.toNat < L'.length := by omega
   have hx : L'[i.toNat]? = some L'[i.toNat] := List.getElem?_eq_getElem hi
   have hxA : (Vabiti.arranged D)[i.toNat]? = some ((Vabiti.arranged D)[i.toNat]'(by omega)) := List.getElem?_eq_getElem _
   have er : L'[i.toNat].2 = raw ((Vabiti.arranged D)[i.toNat]'(by omega)) := by
    have a1 : (L'.map (·.2))[i.toNat]? = some L'[i.toNat].2 := by rw [List.getElem?_map, hx]; rfl
    rw [hr2, List.getElem?_map, hxA] at a1
    exact (Option.some.inj a1).symm
   have t2 := t1.same s0
   simp [t2.g]
   have hat : atI (L'.map refA) i = some (refA L'[i.toNat]) := by
    refine at_of (j := i.toNat) (by omega) ?_
    rw [List.getElem?_map, hx]
    rfl
   have hen : (Vabiti.arranged D)[i.toNat]'(by omega) ∈ D := (SM.arranged_perm D).mem_iff.mp (List.getElem_mem _)
   refine ⟨m, _, i, _, rfl, rfl, SqL.of m1, hat, L'[i.toNat].1, L'[i.toNat].2, rfl, (hI.ents.at_ _ (pL.mem_iff.mp (List.getElem_mem hi))).same s0, fun r hr0 => ?_⟩
   rw [er, told_raw (hI.good _ hen)]
   exact q.just hI (SM.nth_ok h1 hxA) (by simp [Vabiti.entryTold]) (s0.trans (Same.new hr0)) upd_same
def sp_clash (K : PySem.W.Frag) : Sp := fun vs H Q _ => ∃ (d t : Addr) (D : List VE) (L : List (Addr × REnt)) (k : Int), vs = [.ref d, .ref t] ∧ InD K H d D L ∧ Told H t "key" k ∧ SM.KeyR k ∧ Tells K H d D (.clash k) Q
theorem perm_key (D : List VE) (k : Int) : (dK D k).Perm (Vabiti.ofKey (Vabiti.arranged D) k) := ((SM.arranged_perm D).filter _).symm
theorem InD.gk {d : Addr} {D : List VE} {L : List (Addr × REnt)} (hI : InD K H d D L) {k : Int} : ∀ e ∈ dK D k, SM.Good e := fun e he => hI.good e (List.mem_filter.mp he).1
theorem ok_clash {f : Addr} {fd : FuncData} (F : Fun K "clash" "clash" s_clash f fd) (T : Txt K mg) (D_with_key : Df P w K mg base 2 "with_key" ["entries", "told"] (sp_with_key K)) (D_first_meeting : Df P w K mg base 2 "first_meeting" ["entries"] (sp_first_meeting K)) : FnOk P w K mg base CX0 3 f fd ["entries", "told"] (sp_clash K) := by
 refine F.ok sc_clash (fun vs H Q E h => ?_) (fun cdv A outer s H vs Q E hr h => ?_)
 ·obtain ⟨d, t, D, L, k, rfl, _⟩ := h
  rfl
 ·obtain ⟨d, t, D, L, k, rfl, hI, t1, h1, q⟩ := h
  refine ⟨_, (pss_cons (ps_set (i := 2) sc_clash.nd rfl (Or.inl rfl) (pe_fn D_first_meeting (hr.mono (by decide)) rfl (pa_cons (pe_fn D_with_key (hr.mono (by decide)) rfl (pa_cons (pv 0) (pa_cons (pv 1) pa_nil))) pa_nil)))
 (pss_one (ps_ret (pe_ifExp (pt_cmpR op_isN (pv 2) pe_non (nomark _)) (pe_lst (pa_cons pe_int pa_nil)) (pe_lst (pa_cons pe_int (pa_cons (pv 2) pa_nil))))))), ?_⟩
  simp [start]
  refine ⟨d, t, D, L, k, rfl, hI, t1, fun l H1 LK s1 l0 hLK hrel hz => ⟨l, LK, dK D k, rfl, hLK, hrel, hI.gk, hz, fun H2 ms s2 hLv => ?_⟩⟩
  have dd := SM.clash_ok (D := D) h1
  have hLv2 := lvd_perm (perm_key D k) hLv
  rw [clash_eq hLv2] at dd
  have em : (fun m => decide (2 ≤ many (Vabiti.ofKey (Vabiti.arranged D) k) m)) = fun m => decide (2 ≤ many (dK D k) m) := by
   funext m
   rw [SM.many_perm (perm_key D k)]
  rw [em] at dd
  cases hf : ms.find? fun m => decide (2 ≤ many (dK D k) m) with
  | none =>
   rw [hf] at dd
   simp [optV]
   exact ⟨fits (by decide), fun p hp => q.just hI dd (by decide) ((s1.trans s2).trans (Same.new hp)) (by rw [upd_same]; rfl)⟩
  | some m =>
   rw [hf] at dd
   simp [optV]
   exact ⟨fits (by decide), fun p hp => q.just hI dd (by simp [Vabiti.optional]) ((s1.trans s2).trans (Same.new hp)) (by rw [upd_same]; rfl)⟩
def sp_busiest (K : PySem.W.Frag) : Sp := fun vs H Q _ => ∃ (d t : Addr) (D : List VE) (L : List (Addr × REnt)) (a b : Int), vs = [.ref d, .ref t] ∧ InD K H d D L ∧ Told H t "a" a ∧ Told H t "b" b ∧ SM.MomR a ∧ SM.EndR b ∧ a.toNat < SM.endN b ∧ Tells K H d D (.busiest a b) Q
theorem ok_busiest {f : Addr} {fd : FuncData} (F : Fun K "busiest" "busiest" s_busiest f fd) (T : Txt K mg) (D_greatest_level : Df P w K mg base 2 "greatest_level" ["entries", "first", "end"] (sp_greatest_level K)) (D_end_from_told : Df P w K mg base 1 "end_from_told" ["told"] sp_end_from_told) : FnOk P w K mg base CX0 3 f fd ["entries", "told"] (sp_busiest K) := by
 refine F.ok sc_busiest (fun vs H Q E h => ?_) (fun cdv A outer s H vs Q E hr h => ?_)
 ·obtain ⟨d, t, D, L, a, b, rfl, _⟩ := h
  rfl
 ·obtain ⟨d, t, D, L, a, b, rfl, hI, t1, t2, h1, h2, h3, q⟩ := h
  have hu := hu_of hr
  refine ⟨_, (pss_cons (ps_set (i := 2) sc_busiest.nd rfl (Or.inl rfl) (pe_fn D_greatest_level (hr.mono (by decide)) rfl (pa_cons (pe_listVals rfl (by rfl) T.list (pv 0)) (pa_cons (pe_dget hu (pv 1) pe_str (fun _ _ => rfl)) (pa_cons (pe_fn D_end_from_told (hr.mono (by decide)) rfl (pa_cons (pe_dget hu (pv 1) pe_str (fun _ _ => rfl)) pa_nil)) pa_nil)))))
 (pss_one (ps_ret (pe_lst (pa_cons (pe_ix ix_tup (pv 2) pe_int (fun _ _ => rfl)) (pa_cons (pe_ix ix_tup (pv 2) pe_int (fun _ _ => rfl)) pa_nil)))))), ?_⟩
  simp [start, hI.ents.dict]
  intro l hl
  simp [(t1.upd hl).g, (t2.upd hl).g]
  refine ⟨l, L, D, a.toNat, SM.endN b, by rw [fromT_pend h2]; congr 3; omega, by have := hI.ents.le hl; simpa using this, hI.rel, hI.good, hI.len, by omega, endN_le h2, fun H1 tp ms s1 hLv htp => ?_⟩
  have dd := SM.busiest_ok (D := D) h1 h2 h3
  have hLv2 := lvd_perm (SM.arranged_perm D).symm hLv
  rw [SM.busiest_eq hLv2 (by omega) h3] at dd
  have em : many (Vabiti.arranged D) = many D := by
   funext m
   rw [SM.many_perm (SM.arranged_perm D)]
  rw [em] at dd
  refine ix0 htp (ix1 htp ?_)
  exact ⟨fits (by decide), fun p hp => q.just hI dd (by simp) (((Same.new hl).trans s1).trans (Same.new hp)) (by rw [upd_same]; rfl)⟩
def sp_path (K : PySem.W.Frag) : Sp := fun vs H Q _ => ∃ (d t : Addr) (D : List VE) (L : List (Addr × REnt)) (i : Int), vs = [.ref d, .ref t] ∧ InD K H d D L ∧ Told H t "id" i ∧ SM.NumR i ∧ Tells K H d D (.path i) Q
theorem ok_path {f : Addr} {fd : FuncData} (F : Fun K "path" "path" s_path f fd) (T : Txt K mg) (D_whole_tree : Df P w K mg base 6 "whole_tree" ["entries"] (sp_whole_tree K)) (D_way_down : Df P w K mg base 2 "way_down" ["tree", "entry"] (sp_way_down K)) (D_with_count : Df P w K mg base 1 "with_count" ["numbers"] sp_with_count) : FnOk P w K mg base CX0 7 f fd ["entries", "told"] (sp_path K) := by
 refine F.ok sc_path (fun vs H Q E h => ?_) (fun cdv A outer s H vs Q E hr h => ?_)
 ·obtain ⟨d, t, D, L, i, rfl, _⟩ := h
  rfl
 ·obtain ⟨d, t, D, L, i, rfl, hI, t1, h1, q⟩ := h
  have hu := hu_of hr
  have hd := hI.ents.dict
  refine ⟨_, (pss_cons (ps_if (pt_cmp (pc_dnotin hu (pe_dget hu (pv 1) pe_str (fun _ _ => rfl)) (pv 0)))
 (pss_one (ps_ret (pe_lst (pa_cons (pe_gint T.g_NO_SUCH_ENTRY rfl) pa_nil))))
 pss_nil)
 (pss_cons (ps_set (i := 2) sc_path.nd rfl (Or.inl rfl) (pe_fn D_way_down (hr.mono (by decide)) rfl (pa_cons (pe_fn D_whole_tree (hr.mono (by decide)) rfl (pa_cons (pv 0) pa_nil)) (pa_cons (pe_dget hu (pv 0) (pe_dget hu (pv 1) pe_str (fun _ _ => rfl)) (fun _ _ => rfl)) pa_nil))))
 (pss_one (ps_ret (pe_fn D_with_count (hr.mono (by decide)) rfl (pa_cons (pe_lc rfl sc_path.nd (pi_list (pv 2)) (blkOk_by (own := [("entry", 3)]) (by rfl)) (fun _ _ _ _ _ => pg_name (i := 3) sc_path.nd rfl (Or.inl rfl)) (fun _ _ _ _ _ => pts_nil) (fun _ _ _ _ _ => (pe_fldB K (pv 3) rfl))) pa_nil)))))), ?_⟩
  simp [start, t1.g]
  refine din_int hd ?_
  cases e : valV (dkv L) (Sum.inl i) with
  | none =>
   simp
   exact ⟨fits (by decide), fun p hp => q.new hI (SM.path_3 h1 (hI.missing h1 e)) (by decide) hp⟩
  | some v =>
   obtain ⟨x, hx, en, hen, er, eid, exn, rfl⟩ := hI.found h1 e
   have he := hI.ents.at_ x hx
   rw [er] at he
   simp
   refine ⟨d, D, L, rfl, hI, fun H1 tv s1 htv gtv => ?_⟩
   simp [(t1.same s1).g]
   refine dget_int (s1 _ _ hd) e ?_
   have hen2 := (SM.arranged_perm D).mem_iff.mpr hen
   refine ⟨tv, x.1, Vabiti.treeOf (Vabiti.arranged D), Vabiti.arranged D, en, rfl, htv, cart_of (SM.arranged_srt hI.ids), SM.arranged_srt hI.ids, hen2, ((SM.arranged_perm D).map _).nodup_iff.mpr hI.ids, by rw [size_tree hI.ids]; exact hI.len, he.same s1, fun H2 wa F s2 hwa0 hwa hF eF hFl => ?_⟩
   refine lc_lst (xs := F) (f := refE) (g := fun y => .int (y.2.id : Nat)) (p := fun _ => true) (a := wa) (fun R r => ⟨_, rfl, r⟩) (SqL.of hwa) (by omega) (fun y hy H3 kk s hk => ?_) (fun y hy hp H3 kk s hk => ?_) (fun m H3 hm s3 h7 => ?_)
   ·exact hk H3 (Same.refl _)
   ·have he := (hF y hy).same s
    simp [wipe, he.flds]
    exact hk
   ·have e1 : F.filter (fun _ => true) = F := List.filter_eq_self.mpr fun _ _ => rfl
    rw [e1] at h7
    refine ⟨m, F.map fun y => (y.2.id : Int), rfl, by rw [h7, List.map_map]; rfl, by rw [List.length_map]; omega, fun H4 r s4 h8 => ?_⟩
    have dd := SM.path_ok (D := D) h1 hen eid
    have el := congrArg List.length eF
    rw [List.length_map] at el
    have e2 : (F.map fun y => (y.2.id : Int)) = (Vabiti.path en (Vabiti.treeOf (Vabiti.arranged D))).map Int.ofNat := by
     rw [← eF, List.map_map]
     rfl
    rw [List.length_map, e2, el] at h8
    exact q.just hI dd (by simp; omega) (((s1.trans s2).trans s3).trans s4) h8
theorem len_depths : ∀ (t : VT) (d : Nat), (Vabiti.depths d t).length = SM.tsize t
 | .leaf, d => rfl
 | .node l e r, d => by
  have h1 := len_depths l (d + 1)
  have h2 := len_depths r (d + 1)
  show (Vabiti.depths (d + 1) l ++ (e.id, d) :: Vabiti.depths (d + 1) r).length = SM.tsize l + 1 + SM.tsize r
  rw [List.length_append, List.length_cons]
  omega
theorem len_pairs : ∀ xs : List (Nat × Nat), (xs.flatMap fun x => [(x.1 : Int), (x.2 : Int)]).length = 2 * xs.length
 | [] => rfl
 | x :: xs => by
  rw [List.flatMap_cons, List.length_append, len_pairs xs]
  show 2 + 2 * xs.length = 2 * (xs.length + 1)
  omega
def sp_shape (K : PySem.W.Frag) : Sp := fun vs H Q _ => ∃ (d t : Addr) (D : List VE) (L : List (Addr × REnt)), vs = [.ref d, .ref t] ∧ InD K H d D L ∧ Tells K H d D .shape Q
def ShpI (d t a : Addr) (n : Nat) (xs : List (Nat × Nat)) (H1 : Hp) (i : Nat) (σ : St) (H' : Hp) : Prop := ∃ pv : Option V, σ = [some (.ref d), some (.ref t), some (.ref a), pv] ∧ H' a = some (.lst (((n : Int) :: (xs.take i).flatMap fun x => [(x.1 : Int), (x.2 : Int)]).map V.int)) ∧ SameB a H1 H'
theorem ok_shape {f : Addr} {fd : FuncData} (F : Fun K "shape" "shape" s_shape f fd) (T : Txt K mg) (D_whole_tree : Df P w K mg base 6 "whole_tree" ["entries"] (sp_whole_tree K)) (D_depths : Df P w K mg base 1 "depths" ["tree"] (sp_depths K)) : FnOk P w K mg base CX0 7 f fd ["entries", "told"] (sp_shape K) := by
 refine F.ok sc_shape (fun vs H Q E h => ?_) (fun cdv A outer s H vs Q E hr h => ?_)
 ·obtain ⟨d, t, D, L, rfl, _⟩ := h
  rfl
 ·obtain ⟨d, t, D, L, rfl, hI, q⟩ := h
  have hd := hI.ents.dict
  refine ⟨_, (pss_cons (ps_set (i := 2) sc_shape.nd rfl (Or.inl rfl) (pe_lst (pa_cons (pe_callB call_lenD (by rfl) T.len PySem.boot_len (pa_cons (pv 0) pa_nil)) pa_nil)))
 (pss_cons (ps_for PassesOwn.never rfl (pi_list (pe_fn D_depths (hr.mono (by decide)) rfl (pa_cons (pe_fn D_whole_tree (hr.mono (by decide)) rfl (pa_cons (pv 0) pa_nil)) pa_nil))) (pg_name (i := 3) sc_shape.nd rfl (Or.inl rfl))
 (pss_one (ps_expr (pe_bm PySem.F.plainAttrs_list PySem.F.slot_list_extend PySem.F.type_list_extend mt_extendT (pv 2) (pa_cons (pv 3) pa_nil)))))
 (pss_one (ps_ret (pv 2))))), ?_⟩
  simp [start, hd, x_for, x_iL]
  refine ⟨fits (by decide), fun a ha => ?_⟩
  refine ⟨d, D, L, rfl, hI.same (Same.new ha), fun H1 tv s1 htv gtv => ?_⟩
  refine ⟨tv, _, rfl, htv, by rw [size_tree hI.ids]; exact hI.len, fun H2 l ps s2 hl0 hl hP => ?_⟩
  have ha2 := s2 _ _ (s1 _ _ (upd_same (H := H) (a := a)))
  have nla : l ≠ a := fun z => by rw [z, s1 _ _ upd_same] at hl0; cases hl0
  have hpl := Paired.length hP
  have hdl : (Vabiti.depths 0 (Vabiti.treeOf (Vabiti.arranged D))).length ≤ 200 := by
   rw [len_depths, size_tree hI.ids]
   exact hI.len
  refine forL (xs := ps.map V.ref) (ShpI d t a D.length (Vabiti.depths 0 (Vabiti.treeOf (Vabiti.arranged D))) H2) ⟨none, rfl, by rw [ha2, hI.llen]; rfl, fun b o e _ => e⟩ (fun i σ H' _ h => ?_) (fun i σ H' hi h => ?_) (fun σ H' h => ?_)
  ·obtain ⟨pv, _, _, sb⟩ := h
   exact SqL.of (sb _ _ hl nla)
  ·obtain ⟨pv, rfl, ha3, sb⟩ := h
   rw [List.length_map] at hi
   have hx : (Vabiti.depths 0 (Vabiti.treeOf (Vabiti.arranged D)))[i]? = some ((Vabiti.depths 0 (Vabiti.treeOf (Vabiti.arranged D)))[i]'(by omega)) := List.getElem?_eq_getElem _
   obtain ⟨p, hp, htp⟩ := PAt.get hP hx
   have e1 : (ps.map V.ref).getD i .non = V.ref p := by simp [hp]
   have np : p ≠ a := ne_of htp ha2 fun z => by cases z
   rw [e1]
   simp
   have hz9 := len_pairs ((Vabiti.depths 0 (Vabiti.treeOf (Vabiti.arranged D))).take i)
   rw [List.length_take] at hz9
   refine ⟨.inl ⟨rfl, _, SqL.of ha3⟩, a, p, _, _, rfl, rfl, ha3, SqT.of (sb _ _ htp np), fits' (by rw [List.length_map, List.length_cons, hz9]; simp; omega), _, rfl, ?_, sb.trans SameB.upd⟩
   rw [upd_same, take_snoc' hx, List.flatMap_append]
   simp
  ·obtain ⟨pv, rfl, ha3, sb⟩ := h
   rw [List.length_map, hpl, List.take_length] at ha3
   simp
   exact q.just hI SM.shape_ok (by rw [List.length_cons, len_pairs]; omega) (fun b u eb => sb _ _ (s2 _ _ (s1 _ _ ((Same.new ha) _ _ eb))) (ne_of_none eb ha)) ha3
end
end L2
end
section
namespace L2
open PySem PySem.Spec PyProof.Rows
open Vabiti (Call many)
section
variable {P : Program} {w : World} {K : PySem.W.Frag} {mg : Str → Option Value} {base : Heap} {H H' H2 : Hp} {Q : VK}
theorem SAt.get {ps : List Addr} {xs : List (Nat × Nat)} (h : SAt H ps xs) {i : Nat} {x : Nat × Nat} (hx : xs[i]? = some x) : ∃ p, ps[i]? = some p ∧ H p = some (.tup [.int (x.1 : Nat), .int (pend x.2)]) := by
 have hl := Paired.length h
 have hi : i < ps.length := by have := (List.getElem?_eq_some_iff.mp hx).1; omega
 have hp : ps[i]? = some ps[i] := List.getElem?_eq_getElem hi
 obtain ⟨y, hy, z⟩ := paired_get h hp
 rw [hx] at hy
 cases hy
 exact ⟨_, hp, z⟩
theorem Same.sqT {K : PySem.W.Frag} {H H' : Hp} {a : Addr} {xs : List V} (e : Same H H') (h : SqT K H a xs) : SqT K H' a xs := by
 rcases h with (h | ⟨o, h⟩) | h
 ·exact .inl (.inl (e _ _ h))
 ·exact .inl (.inr ⟨o, e _ _ h⟩)
 ·exact .inr h
theorem lc_tupF {α : Type} {σ : St} {xs : List α} {f g : α → V} {p : α → Bool} {j : Nat} {tt : TT} {te : TE} {a : Addr} {ti : TE} (hi : ∀ R : VK, R (.ref a) H → ti σ H R) (hl : SqT K H a (xs.map f)) (hz : xs.length ≤ 100000)
  (ht : ∀ x ∈ xs, ∀ H2 (k : Bool → Hp → Prop), Same H H2 → (∀ H3, Same H2 H3 → k (p x) H3) → tt ((wipe σ [j]).set j (some (f x))) H2 k)
  (he : ∀ x ∈ xs, p x = true → ∀ H2 (k : VK), Same H H2 → k (g x) H2 → te ((wipe σ [j]).set j (some (f x))) H2 k)
  (hq : ∀ l H', H l = none → Same H H' → H' l = some (.lst ((xs.filter p).map g)) → Q (.ref l) H') :
  tLc (iTup K ti) (gName j) tt te [j] σ H Q := by
 refine hi _ ⟨a, rfl, ⟨_, hl⟩, fun l hl0 => ?_⟩
 have W : Wk (Itt K a) (fun H => SqT K H a (xs.map f)) xs.length (fun i => (xs.map f).getD i .non) := by
  have := wk_tup (K := K) (a := a) (xs := xs.map f)
  rw [List.length_map] at this
  exact this
 exact lc_filter (xs := xs) (f := f) W p g hl0 (fun H' s => s.sqT hl) hz ht he fun H' s h => hq l H' hl0 s h
theorem bnds_snoc (st : List (Nat × Nat)) (x : Nat × Nat) : SM.bnds (st ++ [x]) = SM.bnds st ++ [x.1, x.2].filter fun b => decide (b ≠ Vabiti.NEVER) := by simp [SM.bnds]
theorem bnds_len : ∀ st : List (Nat × Nat), (SM.bnds st).length ≤ 2 * st.length
 | [] => Nat.le_refl _
 | x :: st => by
  have h1 := bnds_len st
  have h2 := List.length_filter_le (fun b => decide (b ≠ Vabiti.NEVER)) [x.1, x.2]
  show (([x.1, x.2].filter fun b => decide (b ≠ Vabiti.NEVER)) ++ SM.bnds st).length ≤ 2 * (st.length + 1)
  rw [List.length_append]
  have h3 : [x.1, x.2].length = 2 := rfl
  omega
def sp_held (K : PySem.W.Frag) : Sp := fun vs H Q _ => ∃ (d t : Addr) (D : List VE) (L : List (Addr × REnt)) (k : Int), vs = [.ref d, .ref t] ∧ InD K H d D L ∧ Told H t "key" k ∧ SM.KeyR k ∧ Tells K H d D (.held k) Q
def HdI (d t ba : Addr) (st : List (Nat × Nat)) (H1 : Hp) (i : Nat) (σ : St) (H' : Hp) : Prop := ∃ pv : Option V, σ = [some (.ref d), some (.ref t), some (.ref ba), pv, none] ∧ H' ba = some (.lst (((SM.bnds (st.take i)).map Int.ofNat).map V.int)) ∧ SameB ba H1 H'
theorem ok_held {f : Addr} {fd : FuncData} (F : Fun K "held" "held" s_held f fd) (T : Txt K mg) (D_with_key : Df P w K mg base 2 "with_key" ["entries", "told"] (sp_with_key K)) (D_stretches_held : Df P w K mg base 2 "stretches_held" ["entries"] (sp_stretches_held K)) (D_with_count : Df P w K mg base 1 "with_count" ["numbers"] sp_with_count) : FnOk P w K mg base CX0 3 f fd ["entries", "told"] (sp_held K) := by
 refine F.ok sc_held (fun vs H Q E h => ?_) (fun cdv A outer s H vs Q E hr h => ?_)
 ·obtain ⟨d, t, D, L, k, rfl, _⟩ := h
  rfl
 ·obtain ⟨d, t, D, L, k, rfl, hI, t1, h1, q⟩ := h
  refine ⟨_, (pss_cons (ps_set (i := 2) sc_held.nd rfl (Or.inl rfl) (pe_lst pa_nil))
 (pss_cons (ps_for PassesOwn.never rfl (pi_list (pe_fn D_stretches_held (hr.mono (by decide)) rfl (pa_cons (pe_fn D_with_key (hr.mono (by decide)) rfl (pa_cons (pv 0) (pa_cons (pv 1) pa_nil))) pa_nil))) (pg_name (i := 3) sc_held.nd rfl (Or.inl rfl))
 (pss_one (ps_expr (pe_bm PySem.F.plainAttrs_list PySem.F.slot_list_extend PySem.F.type_list_extend mt_extend (pv 2) (pa_cons (pe_lc rfl sc_held.nd (pi_tup (pv 3)) (blkOk_by (own := [("bound", 4)]) (by rfl)) (fun _ _ _ _ _ => pg_name (i := 4) sc_held.nd rfl (Or.inl rfl)) (fun _ _ _ _ _ => (pts_one (pt_cmpR op_ne (pv 4) (pe_gint T.g_NEVER rfl) (nomark _)))) (fun _ _ _ _ _ => (pv 4))) pa_nil)))))
 (pss_one (ps_ret (pe_fn D_with_count (hr.mono (by decide)) rfl (pa_cons (pv 2) pa_nil)))))), ?_⟩
  simp [start, x_for, x_iL]
  intro ba hba
  refine ⟨d, t, D, L, k, rfl, hI.same (Same.new hba), t1.upd hba, fun l H1 LK s1 l0 hLK hrel hz => ⟨l, LK, dK D k, rfl, hLK, hrel, hI.gk, hz, fun H2 sl as st s2 hsl0 hsl hO hC hS hstl => ?_⟩⟩
  have hb2 := s2 _ _ (s1 _ _ (upd_same (H := H) (a := ba) (o := .lst [])))
  have nsb : sl ≠ ba := fun z => by rw [z, s1 _ _ upd_same] at hsl0; cases hsl0
  have hal := Paired.length hS
  have sH2 : Same H H2 := ((Same.new hba).trans s1).trans s2
  refine forL (xs := as.map V.ref) (HdI d t ba st H2) ⟨none, rfl, by rw [hb2]; rfl, fun b o e _ => e⟩ (fun i σ H' _ h => ?_) (fun i σ H' hi h => ?_) (fun σ H' h => ?_)
  ·obtain ⟨pv, _, _, sb⟩ := h
   exact SqL.of (sb _ _ hsl nsb)
  ·obtain ⟨pv, rfl, hb3, sb⟩ := h
   rw [List.length_map] at hi
   have hx : st[i]? = some (st[i]'(by omega)) := List.getElem?_eq_getElem _
   obtain ⟨p, hp, htp⟩ := SAt.get hS hx
   have hin := SM.Ord.lo hO _ (List.getElem_mem (l := st) (n := i) (by omega))
   have e1 : (as.map V.ref).getD i .non = V.ref p := by simp [hp]
   have np : p ≠ ba := ne_of htp hb2 fun z => by cases z
   have ht3 := sb _ _ htp np
   have hn9 := SM.never_eq
   generalize st[i]'(by omega) = x at *
   rw [e1]
   simp
   refine ⟨.inl ⟨rfl, _, SqL.of hb3⟩, ?_⟩
   refine lc_tupF (K := K) (xs := [x.1, x.2]) (f := fun b => .int (pend b)) (g := fun b => .int (b : Nat)) (p := fun b => decide (b ≠ Vabiti.NEVER)) (a := p) (fun R r => ⟨_, rfl, r⟩) (SqT.of (by rw [ht3]; show _ = some (HO.tup [.int (pend x.1), .int (pend x.2)]); rw [pend_nat hin.2.2.1])) (by simp) (fun b hb H3 kk s hk => ?_) (fun b hb hp H3 kk s hk => ?_) (fun m H3 hm s3 h7 => ?_)
   ·have hb9 : b ≤ Vabiti.NEVER := by
     simp at hb
     rcases hb with rfl | rfl <;> omega
    have hk' := hk H3 (Same.refl _)
    simp [wipe]
    by_cases c : b = Vabiti.NEVER
    ·rw [decide_eq_true ((pend_big hb9).mpr c)]
     rw [decide_eq_false (by simpa using c)] at hk'
     exact hk'
    ·rw [decide_eq_false (fun z => c ((pend_big hb9).mp z))]
     rw [decide_eq_true c] at hk'
     exact hk'
   ·have c : b ≠ Vabiti.NEVER := by simpa using hp
    have : pend b = (b : Int) := by unfold pend; rw [if_neg c]
    simp [wipe, this]
    exact hk
   ·have hb4 := s3 _ _ hb3
    have hbl := bnds_len (st.take i)
    rw [List.length_take] at hbl
    have hfl := List.length_filter_le (fun b => decide (b ≠ Vabiti.NEVER)) [x.1, x.2]
    have h33 : [x.1, x.2].length = 2 := rfl
    refine ⟨ba, m, _, _, rfl, rfl, hb4, h7, fits (by rw [List.length_map, List.length_map, List.length_map]; omega), _, rfl, ?_, fun b o eb nb => ?_⟩
    ·rw [upd_same, take_snoc' hx, bnds_snoc, List.map_append, List.map_append, List.map_map, List.map_map]
     rfl
    ·rw [upd_ne nb]
     exact s3 _ _ (sb _ _ eb nb)
  ·obtain ⟨pv, rfl, hb3, sb⟩ := h
   rw [List.length_map, hal, List.take_length] at hb3
   simp
   have hbl := bnds_len st
   refine ⟨ba, (SM.bnds st).map Int.ofNat, rfl, hb3, by rw [List.length_map]; omega, fun H4 r s4 h8 => ?_⟩
   have dd := SM.held_ok (D := D) h1
   rw [SM.held_eq (fun e he => hI.gk e ((perm_key D k).mem_iff.mpr he)) hO (cov_perm (perm_key D k) hC)] at dd
   rw [List.length_map] at h8
   exact q.just hI dd (by simp; omega) (fun b u eb => s4 _ _ (sb _ _ (sH2 _ _ eb) (ne_of_none eb hba))) h8
def sp_covered (K : PySem.W.Frag) : Sp := fun vs H Q _ => ∃ (d t : Addr) (D : List VE) (L : List (Addr × REnt)) (k a b : Int), vs = [.ref d, .ref t] ∧ InD K H d D L ∧ Told H t "key" k ∧ Told H t "a" a ∧ Told H t "b" b ∧ SM.KeyR k ∧ SM.MomR a ∧ SM.EndR b ∧ a.toNat < SM.endN b ∧ Tells K H d D (.covered k a b) Q
def CvI (d t : Addr) (a : Int) (st : List (Nat × Nat)) (H1 : Hp) (i : Nat) (σ : St) (H' : Hp) : Prop := ∃ pv : Option V, σ = [some (.ref d), some (.ref t), some (.int a), pv] ∧ H' = H1 ∧ ∀ x ∈ st.take i, ¬ (x.1 ≤ a.toNat ∧ a.toNat < x.2)
theorem ok_covered {f : Addr} {fd : FuncData} (F : Fun K "covered" "covered" s_covered f fd) (T : Txt K mg) (D_with_key : Df P w K mg base 2 "with_key" ["entries", "told"] (sp_with_key K)) (D_stretches_held : Df P w K mg base 2 "stretches_held" ["entries"] (sp_stretches_held K)) (D_end_from_told : Df P w K mg base 1 "end_from_told" ["told"] sp_end_from_told) : FnOk P w K mg base CX0 3 f fd ["entries", "told"] (sp_covered K) := by
 refine F.ok sc_covered (fun vs H Q E h => ?_) (fun cdv A outer s H vs Q E hr h => ?_)
 ·obtain ⟨d, t, D, L, k, a, b, rfl, _⟩ := h
  rfl
 ·obtain ⟨d, t, D, L, k, a, b, rfl, hI, t1, t2, t3, h1, h2, h3, h4, q⟩ := h
  have hu := hu_of hr
  refine ⟨_, (pss_cons (ps_set (i := 2) sc_covered.nd rfl (Or.inl rfl) (pe_dget hu (pv 1) pe_str (fun _ _ => rfl)))
 (pss_cons (ps_for PassesOwn.never rfl (pi_list (pe_fn D_stretches_held (hr.mono (by decide)) rfl (pa_cons (pe_fn D_with_key (hr.mono (by decide)) rfl (pa_cons (pv 0) (pa_cons (pv 1) pa_nil))) pa_nil))) (pg_name (i := 3) sc_covered.nd rfl (Or.inl rfl))
 (pss_one (ps_if (pt_chain op_le op_lt (pe_ix ix_tup (pv 3) pe_int (fun _ _ => rfl)) (pv 2) (pe_ix ix_tup (pv 3) pe_int (fun _ _ => rfl)))
 (pss_one (ps_ret (pe_ifExp (pt_cmpR op_le (pe_fn D_end_from_told (hr.mono (by decide)) rfl (pa_cons (pe_dget hu (pv 1) pe_str (fun _ _ => rfl)) pa_nil)) (pe_ix ix_tup (pv 3) pe_int (fun _ _ => rfl)) (nomark _)) (pe_lst (pa_cons pe_int pa_nil)) (pe_lst (pa_cons pe_int (pa_cons (pe_ix ix_tup (pv 3) pe_int (fun _ _ => rfl)) pa_nil))))))
 pss_nil)))
 (pss_one (ps_ret (pe_lst (pa_cons pe_int (pa_cons (pv 2) pa_nil))))))), ?_⟩
  simp [start, x_for, x_iL, t2.g]
  refine ⟨d, t, D, L, k, rfl, hI, t1, fun l H1 LK s1 l0 hLK hrel hz => ⟨l, LK, dK D k, rfl, hLK, hrel, hI.gk, hz, fun H2 sl as st s2 hsl0 hsl hO hC hS hstl => ?_⟩⟩
  have hal := Paired.length hS
  have sH2 : Same H H2 := s1.trans s2
  have hC2 := cov_perm (perm_key D k) hC
  have g2 : ∀ e ∈ Vabiti.ofKey (Vabiti.arranged D) k, SM.Good e := fun e he => hI.gk e ((perm_key D k).mem_iff.mpr he)
  have dd := SM.covered_ok (D := D) h1 h2 h3 h4
  have hn9 := SM.never_eq
  refine forL (xs := as.map V.ref) (CvI d t a st H2) ⟨none, rfl, rfl, fun x hx => by simp at hx⟩ (fun i σ H' _ h => ?_) (fun i σ H' hi h => ?_) (fun σ H' h => ?_)
  ·obtain ⟨pv, _, rfl, _⟩ := h
   exact SqL.of hsl
  ·obtain ⟨pv, rfl, rfl, hno⟩ := h
   rw [List.length_map] at hi
   have hx : st[i]? = some (st[i]'(by omega)) := List.getElem?_eq_getElem _
   have hxm : st[i]'(by omega) ∈ st := List.getElem_mem _
   obtain ⟨p, hp, htp⟩ := SAt.get hS hx
   have hin := SM.Ord.lo hO _ hxm
   have e1 : (as.map V.ref).getD i .non = V.ref p := by simp [hp]
   generalize st[i]'(by omega) = x at *
   rw [e1]
   simp
   refine ix0 htp ?_
   simp
   have no : ¬ (x.1 ≤ a.toNat ∧ a.toNat < x.2) → CvI d t a st H' (i + 1) [some (.ref d), some (.ref t), some (.int a), some (.ref p)] H' := fun c => by
    refine ⟨_, rfl, rfl, fun y hy => ?_⟩
    rw [take_snoc' hx] at hy
    rcases List.mem_append.mp hy with hy | hy
    ·exact hno y hy
    ·rw [List.mem_singleton] at hy
     rw [hy]
     exact c
   have c0 : a < pend x.2 ↔ a.toNat < x.2 := by
    have := pend_lt (b := a.toNat) (c := x.2) (by omega) (by omega)
    rw [pend_nat (by omega)] at this
    rw [← this]
    omega
   refine ite2 (fun z => ?_) (fun z => ?_)
   ·refine ix1 htp ?_
    simp
    refine ite2 (fun z2 => ?_) (fun z2 => ?_)
    ·rw [SM.unc_in g2 hO hC2 (by omega) (endN_le h3) hxm (by omega) (c0.mp z2)] at dd
     simp [(t3.same sH2).g]
     refine ix1 htp ?_
     simp
     have c3 : fromT b ≤ pend x.2 ↔ SM.endN b ≤ x.2 := by rw [fromT_pend h3]; exact pend_le (endN_le h3) (by omega)
     refine ite2 (fun z3 => ?_) (fun z3 => ?_)
     ·rw [if_pos (c3.mp z3)] at dd
      exact ⟨fits (by decide), fun r hr0 => q.just hI dd (by decide) (sH2.trans (Same.new hr0)) (by rw [upd_same]; rfl)⟩
     ·rw [if_neg (fun z => z3 (c3.mpr z))] at dd
      refine ix1 htp ⟨fits (by decide), fun r hr0 => q.just hI dd (by simp [SM.coveredTold]) (sH2.trans (Same.new hr0)) ?_⟩
      have h9 := endN_le h3
      have : ¬ SM.endN b ≤ x.2 := fun z => z3 (c3.mpr z)
      rw [upd_same]
      have e9 : pend x.2 = (x.2 : Int) := pend_nat (by omega)
      rw [e9]
      rfl
    ·exact no fun y => z2 (c0.mpr y.2)
   ·exact no fun y => z (by omega)
  ·obtain ⟨pv, rfl, rfl, hno⟩ := h
   rw [List.length_map, hal, List.take_length] at hno
   rw [SM.unc_here g2 hO hC2 (by omega) h4 hno] at dd
   simp
   refine ⟨fits (by decide), fun r hr0 => q.just hI dd (by simp [SM.coveredTold]) (sH2.trans (Same.new hr0)) ?_⟩
   rw [upd_same]
   have : ((a.toNat : Nat) : Int) = a := by omega
   show _ = some (HO.lst [.int 0, .int ((a.toNat : Nat) : Int)])
   rw [this]
def sp_free (K : PySem.W.Frag) : Sp := fun vs H Q _ => ∃ (d t : Addr) (D : List VE) (L : List (Addr × REnt)) (k a n : Int), vs = [.ref d, .ref t] ∧ InD K H d D L ∧ Told H t "key" k ∧ Told H t "a" a ∧ Told H t "length" n ∧ SM.KeyR k ∧ SM.MomR a ∧ SM.LenR n ∧ Tells K H d D (.free k a n) Q
def FrI (d t : Addr) (n a : Nat) (st : List (Nat × Nat)) (H1 : Hp) (i : Nat) (σ : St) (H' : Hp) : Prop := ∃ (pv : Option V) (m : Nat), σ = [some (.ref d), some (.ref t), some (.int (pend m)), pv] ∧ H' = H1 ∧ m ≤ Vabiti.NEVER ∧ SM.frF n (st.drop i) m = SM.frF n st a
theorem ok_free {f : Addr} {fd : FuncData} (F : Fun K "free" "free" s_free f fd) (T : Txt K mg) (D_with_key : Df P w K mg base 2 "with_key" ["entries", "told"] (sp_with_key K)) (D_stretches_held : Df P w K mg base 2 "stretches_held" ["entries"] (sp_stretches_held K)) : FnOk P w K mg base CX0 3 f fd ["entries", "told"] (sp_free K) := by
 refine F.ok sc_free (fun vs H Q E h => ?_) (fun cdv A outer s H vs Q E hr h => ?_)
 ·obtain ⟨d, t, D, L, k, a, n, rfl, _⟩ := h
  rfl
 ·obtain ⟨d, t, D, L, k, a, n, rfl, hI, t1, t2, t3, h1, h2, h3, q⟩ := h
  have hu := hu_of hr
  refine ⟨_, (pss_cons (ps_set (i := 2) sc_free.nd rfl (Or.inl rfl) (pe_dget hu (pv 1) pe_str (fun _ _ => rfl)))
 (pss_cons (ps_for PassesOwn.never rfl (pi_list (pe_fn D_stretches_held (hr.mono (by decide)) rfl (pa_cons (pe_fn D_with_key (hr.mono (by decide)) rfl (pa_cons (pv 0) (pa_cons (pv 1) pa_nil))) pa_nil))) (pg_name (i := 3) sc_free.nd rfl (Or.inl rfl))
 (pss_cons (ps_if (pt_cmpR op_ge (pe_op op_sub (pe_ix ix_tup (pv 3) pe_int (fun _ _ => rfl)) (pv 2)) (pe_dget hu (pv 1) pe_str (fun _ _ => rfl)) (nomark _))
 (pss_one (ps_ret (pe_lst (pa_cons pe_int (pa_cons (pv 2) pa_nil)))))
 pss_nil)
 (pss_one (ps_set (i := 2) sc_free.nd rfl (Or.inl rfl) (pe_callB (call_max2 rfl) (by rfl) T.max boot_max (pa_cons (pv 2) (pa_cons (pe_ix ix_tup (pv 3) pe_int (fun _ _ => rfl)) pa_nil)))))))
 (pss_one (ps_ret (pe_ifExp (pt_cmpR op_eq (pv 2) (pe_gint T.g_NEVER rfl) (nomark _)) (pe_lst (pa_cons pe_int pa_nil)) (pe_lst (pa_cons pe_int (pa_cons (pv 2) pa_nil)))))))), ?_⟩
  simp [start, x_for, x_iL, t2.g]
  refine ⟨d, t, D, L, k, rfl, hI, t1, fun l H1 LK s1 l0 hLK hrel hz => ⟨l, LK, dK D k, rfl, hLK, hrel, hI.gk, hz, fun H2 sl as st s2 hsl0 hsl hO hC hS hstl => ?_⟩⟩
  have hal := Paired.length hS
  have sH2 : Same H H2 := s1.trans s2
  have hC2 := cov_perm (perm_key D k) hC
  have g2 : ∀ e ∈ Vabiti.ofKey (Vabiti.arranged D) k, SM.Good e := fun e he => hI.gk e ((perm_key D k).mem_iff.mpr he)
  have dd := SM.free_ok (D := D) h1 h2 h3
  rw [SM.free_eq g2 hO hC2 (by omega) (by omega)] at dd
  have hn9 := SM.never_eq
  refine forL (xs := as.map V.ref) (FrI d t n.toNat a.toNat st H2) ⟨none, a.toNat, by rw [pend_nat (by omega)]; congr 4; congr 1; congr 1; omega, rfl, by omega, rfl⟩ (fun i σ H' _ h => ?_) (fun i σ H' hi h => ?_) (fun σ H' h => ?_)
  ·obtain ⟨pv, m, _, rfl, _⟩ := h
   exact SqL.of hsl
  ·obtain ⟨pv, m, rfl, rfl, hm, hf⟩ := h
   rw [List.length_map] at hi
   have hx : st[i]? = some (st[i]'(by omega)) := List.getElem?_eq_getElem _
   have hxm : st[i]'(by omega) ∈ st := List.getElem_mem _
   have hdr : st.drop i = st[i]'(by omega) :: st.drop (i + 1) := List.drop_eq_getElem_cons (by omega)
   obtain ⟨p, hp, htp⟩ := SAt.get hS hx
   have hin := SM.Ord.lo hO _ hxm
   have e1 : (as.map V.ref).getD i .non = V.ref p := by simp [hp]
   generalize st[i]'(by omega) = x at *
   rw [hdr] at hf
   have hf2 : (if m + n.toNat ≤ x.1 then some m else SM.frF n.toNat (st.drop (i + 1)) (max m x.2)) = SM.frF n.toNat st a.toNat := hf
   rw [e1]
   simp
   refine ix0 htp ?_
   simp [(t3.same sH2).g]
   have c0 : n ≤ (x.1 : Int) - pend m ↔ m + n.toNat ≤ x.1 := by
    by_cases c : m = Vabiti.NEVER
    ·have : pend m = BIG := (pend_big hm).mpr c
     rw [this]
     unfold BIG
     omega
    ·rw [pend_nat (by omega)]
     omega
   refine ite2 (fun z => ?_) (fun z => ?_)
   ·rw [if_pos (c0.mp z)] at hf2
    rw [← hf2] at dd
    have : m ≤ 1000000000 := by have := c0.mp z; omega
    refine ⟨fits (by decide), fun r hr0 => q.just hI dd (by simp [Vabiti.optional]) (sH2.trans (Same.new hr0)) ?_⟩
    rw [upd_same, pend_nat this]
    rfl
   ·rw [if_neg (fun y => z (c0.mpr y))] at hf2
    refine ix1 htp ?_
    simp
    refine ⟨_, _, ⟨rfl, rfl⟩, some (.ref p), max m x.2, ?_, rfl, by omega, hf2⟩
    rw [← pend_max hm (by omega)]
  ·obtain ⟨pv, m, rfl, rfl, hm, hf⟩ := h
   rw [List.length_map, hal, List.drop_length] at hf
   have hf2 : (if m = Vabiti.NEVER then none else some m) = SM.frF n.toNat st a.toNat := hf
   rw [← hf2] at dd
   simp
   refine ite2 (fun z => ?_) (fun z => ?_)
   ·rw [if_pos ((pend_big hm).mp z)] at dd
    exact ⟨fits (by decide), fun r hr0 => q.just hI dd (by decide) (sH2.trans (Same.new hr0)) (by rw [upd_same]; rfl)⟩
   ·have c : ¬ m = Vabiti.NEVER := fun y => z ((pend_big hm).mpr y)
    rw [if_neg c] at dd
    refine ⟨fits (by decide), fun r hr0 => q.just hI dd (by simp [Vabiti.optional]) (sH2.trans (Same.new hr0)) ?_⟩
    rw [upd_same, pend_nat (by omega)]
    rfl
theorem arr_key {D : List VE} (nd : (D.map (·.id)).Nodup) (k : Int) : Vabiti.arranged (dK D k) = Vabiti.ofKey (Vabiti.arranged D) k := by
 have nd2 : ((dK D k).map (·.id)).Nodup := List.Nodup.sublist (List.Sublist.map _ List.filter_sublist) nd
 exact SM.srt_unique (SM.arranged_srt nd2) (List.Pairwise.sublist List.filter_sublist (SM.arranged_srt nd)) ((SM.arranged_perm _).trans (perm_key D k))
def sp_kv (K : PySem.W.Frag) (C : Int → Int → Call) : Sp := fun vs H Q _ => ∃ (d t : Addr) (D : List VE) (L : List (Addr × REnt)) (k v : Int), vs = [.ref d, .ref t] ∧ InD K H d D L ∧ Told H t "key" k ∧ Told H t "v" v ∧ SM.KeyR k ∧ SM.MomR v ∧ Tells K H d D (C k v) Q
def FwI (d t : Addr) (v : Nat) (A : List VE) (H1 : Hp) (i : Nat) (σ : St) (H' : Hp) : Prop := ∃ pv : Option V, σ = [some (.ref d), some (.ref t), pv] ∧ H' = H1 ∧ ∀ e ∈ A.take i, ¬ v ≤ e.a
theorem ok_following {f : Addr} {fd : FuncData} (F : Fun K "following" "following" s_following f fd) (T : Txt K mg) (D_with_key : Df P w K mg base 2 "with_key" ["entries", "told"] (sp_with_key K)) (D_in_order : Df P w K mg base 4 "in_order" ["entries"] (sp_in_order K)) (D_entry_or_none : Df P w K mg base 3 "entry_or_none" ["entry"] (sp_entry_or_none K)) : FnOk P w K mg base CX0 5 f fd ["entries", "told"] (sp_kv K .following) := by
 refine F.ok sc_following (fun vs H Q E h => ?_) (fun cdv A outer s H vs Q E hr h => ?_)
 ·obtain ⟨d, t, D, L, k, v, rfl, _⟩ := h
  rfl
 ·obtain ⟨d, t, D, L, k, v, rfl, hI, t1, t2, h1, h2, q⟩ := h
  have hu := hu_of hr
  refine ⟨_, (pss_cons (ps_for PassesOwn.never rfl (pi_list (pe_fn D_in_order (hr.mono (by decide)) rfl (pa_cons (pe_fn D_with_key (hr.mono (by decide)) rfl (pa_cons (pv 0) (pa_cons (pv 1) pa_nil))) pa_nil))) (pg_name (i := 2) sc_following.nd rfl (Or.inl rfl))
 (pss_one (ps_if (pt_cmpR op_ge (pe_fld (pv 2) rfl) (pe_dget hu (pv 1) pe_str (fun _ _ => rfl)) (nomark _))
 (pss_one (ps_ret (pe_fn D_entry_or_none (hr.mono (by decide)) rfl (pa_cons (pv 2) pa_nil))))
 pss_nil)))
 (pss_one (ps_ret (pe_fn D_entry_or_none (hr.mono (by decide)) rfl (pa_cons pe_non pa_nil))))), ?_⟩
  simp [start, x_for, x_iL]
  refine ⟨d, t, D, L, k, rfl, hI, t1, fun l H1 LK s1 l0 hLK hrel hz => ⟨l, LK, rfl, hLK, fun m H2 L' m0 s2 m1 pL rk => ?_⟩⟩
  have nd2 : ((dK D k).map (·.id)).Nodup := List.Nodup.sublist (List.Sublist.map _ List.filter_sublist) hI.ids
  have hr2 := in_arr hrel nd2 pL rk
  rw [arr_key hI.ids] at hr2
  have dd := SM.following_ok (D := D) h1 h2
  have gA : ∀ e ∈ Vabiti.ofKey (Vabiti.arranged D) k, SM.Good e := fun e he => hI.gk e ((perm_key D k).mem_iff.mpr he)
  generalize Vabiti.ofKey (Vabiti.arranged D) k = A at *
  have hlen : L'.length = A.length := by simpa using congrArg List.length hr2
  have sH2 := s1.trans s2
  have hat : ∀ x ∈ L', EntAt K H2 x.1 x.2 := fun x hx => (hLK.at_ x (pL.mem_iff.mp hx)).same s2
  refine forL (xs := L'.map refA) (FwI d t v.toNat A H2) ⟨none, rfl, rfl, fun x hx => by simp at hx⟩ (fun i σ H' _ h => ?_) (fun i σ H' hi h => ?_) (fun σ H' h => ?_)
  ·obtain ⟨pv, _, rfl, _⟩ := h
   exact SqL.of m1
  ·obtain ⟨pv, rfl, rfl, hno⟩ := h
   rw [List.length_map] at hi
   have hx : L'[i]? = some L'[i] := List.getElem?_eq_getElem hi
   have hxA : A[i]? = some (A[i]'(by omega)) := List.getElem?_eq_getElem _
   have er : L'[i].2 = raw (A[i]'(by omega)) := by
    have a1 : (L'.map (·.2))[i]? = some L'[i].2 := by rw [List.getElem?_map, hx]; rfl
    rw [hr2, List.getElem?_map, hxA] at a1
    exact (Option.some.inj a1).symm
   have e1 : (L'.map refA).getD i .non = refA L'[i] := by simp [hx]
   have he := hat _ (List.getElem_mem hi)
   have ge := gA _ (List.getElem_mem (l := A) (n := i) (by omega))
   rw [er] at he
   have hsp : A = A.take i ++ (A[i]'(by omega)) :: A.drop (i + 1) := by rw [List.getElem_cons_drop, List.take_append_drop]
   generalize A[i]'(by omega) = e at *
   rw [e1]
   simp [he.flds, (t2.same sH2).g]
   refine ite2 (fun z => ?_) (fun z => ?_)
   ·have hd : Vabiti.following A v.toNat = some e := by
     unfold Vabiti.following
     rw [hsp, List.filter_append, List.filter_eq_nil_iff.mpr (fun y hy => by simpa using hno y hy), List.nil_append, List.filter_cons, if_pos (by rw [decide_eq_true_eq]; have : (raw e).a = (e.a : Int) := rfl; omega)]
     rfl
    rw [hd] at dd
    exact ⟨_, some e, rfl, .inr ⟨_, e, rfl, rfl, he, ge⟩, fun H3 r s3 h3 => q.just hI dd (by simp [Vabiti.optionalEntry, Vabiti.entryTold]) (sH2.trans s3) h3⟩
   ·refine ⟨_, rfl, rfl, fun y hy => ?_⟩
    rw [take_snoc' hxA] at hy
    rcases List.mem_append.mp hy with hy | hy
    ·exact hno y hy
    ·rw [List.mem_singleton] at hy
     rw [hy]
     have : (raw e).a = (e.a : Int) := rfl
     omega
  ·obtain ⟨pv, rfl, rfl, hno⟩ := h
   rw [List.length_map, hlen, List.take_length] at hno
   have hd : Vabiti.following A v.toNat = none := by
    unfold Vabiti.following
    rw [List.filter_eq_nil_iff.mpr (fun y hy => by simpa using hno y hy)]
    rfl
   rw [hd] at dd
   simp
   exact ⟨_, none, rfl, .inl ⟨rfl, rfl⟩, fun H3 r s3 h3 => q.just hI dd (by decide) (sH2.trans s3) h3⟩
def prG (v : Nat) (m : Option VE) (e : VE) : Option VE := if e.b ≤ v then (match m with
 | some x => if e.b < x.b then some x else some e
 | none => some e) else m
theorem prior_prG (A : List VE) (v : Nat) : Vabiti.prior A v = A.foldl (prG v) none := SM.prior_go v A none
def PrI (K : PySem.W.Frag) (d t : Addr) (v : Nat) (A : List VE) (H1 : Hp) (i : Nat) (σ : St) (H' : Hp) : Prop := ∃ (bv : V) (pv : Option V), σ = [some (.ref d), some (.ref t), some bv, pv] ∧ H' = H1 ∧ EoN K H1 bv ((A.take i).foldl (prG v) none)
theorem ok_prior {f : Addr} {fd : FuncData} (F : Fun K "prior" "prior" s_prior f fd) (T : Txt K mg) (D_with_key : Df P w K mg base 2 "with_key" ["entries", "told"] (sp_with_key K)) (D_in_order : Df P w K mg base 4 "in_order" ["entries"] (sp_in_order K)) (D_entry_or_none : Df P w K mg base 3 "entry_or_none" ["entry"] (sp_entry_or_none K)) : FnOk P w K mg base CX0 5 f fd ["entries", "told"] (sp_kv K .prior) := by
 refine F.ok sc_prior (fun vs H Q E h => ?_) (fun cdv A outer s H vs Q E hr h => ?_)
 ·obtain ⟨d, t, D, L, k, v, rfl, _⟩ := h
  rfl
 ·obtain ⟨d, t, D, L, k, v, rfl, hI, t1, t2, h1, h2, q⟩ := h
  have hu := hu_of hr
  refine ⟨_, (pss_cons (ps_set (i := 2) sc_prior.nd rfl (Or.inl rfl) pe_non)
 (pss_cons (ps_for PassesOwn.never rfl (pi_list (pe_fn D_in_order (hr.mono (by decide)) rfl (pa_cons (pe_fn D_with_key (hr.mono (by decide)) rfl (pa_cons (pv 0) (pa_cons (pv 1) pa_nil))) pa_nil))) (pg_name (i := 3) sc_prior.nd rfl (Or.inl rfl))
 (pss_one (ps_if (PW.pt (pw_and (pt_cmpR op_le (pe_fld (pv 3) rfl) (pe_dget hu (pv 1) pe_str (fun _ _ => rfl)) (nomark _)) (pw_and1 (PW.pt (pw_or (pt_cmpR op_isN (pv 2) pe_non (nomark _)) (pw_or1 (pt_cmpR op_ge (pe_fld (pv 3) rfl) (pe_fld (pv 2) rfl) (nomark _))))))))
 (pss_one (ps_set (i := 2) sc_prior.nd rfl (Or.inl rfl) (pv 3)))
 pss_nil)))
 (pss_one (ps_ret (pe_fn D_entry_or_none (hr.mono (by decide)) rfl (pa_cons (pv 2) pa_nil)))))), ?_⟩
  simp [start, x_for, x_iL]
  refine ⟨d, t, D, L, k, rfl, hI, t1, fun l H1 LK s1 l0 hLK hrel hz => ⟨l, LK, rfl, hLK, fun m H2 L' m0 s2 m1 pL rk => ?_⟩⟩
  have nd2 : ((dK D k).map (·.id)).Nodup := List.Nodup.sublist (List.Sublist.map _ List.filter_sublist) hI.ids
  have hr2 := in_arr hrel nd2 pL rk
  rw [arr_key hI.ids] at hr2
  have dd := SM.prior_ok (D := D) h1 h2
  have gA : ∀ e ∈ Vabiti.ofKey (Vabiti.arranged D) k, SM.Good e := fun e he => hI.gk e ((perm_key D k).mem_iff.mpr he)
  rw [prior_prG] at dd
  generalize Vabiti.ofKey (Vabiti.arranged D) k = A at *
  have hlen : L'.length = A.length := by simpa using congrArg List.length hr2
  have sH2 := s1.trans s2
  have hat : ∀ x ∈ L', EntAt K H2 x.1 x.2 := fun x hx => (hLK.at_ x (pL.mem_iff.mp hx)).same s2
  have hn9 := SM.never_eq
  refine forL (xs := L'.map refA) (PrI K d t v.toNat A H2) ⟨.non, none, rfl, rfl, .inl ⟨rfl, rfl⟩⟩ (fun i σ H' _ h => ?_) (fun i σ H' hi h => ?_) (fun σ H' h => ?_)
  ·obtain ⟨bv, pv, _, rfl, _⟩ := h
   exact SqL.of m1
  ·obtain ⟨bv, pv, rfl, rfl, hb⟩ := h
   rw [List.length_map] at hi
   have hx : L'[i]? = some L'[i] := List.getElem?_eq_getElem hi
   have hxA : A[i]? = some (A[i]'(by omega)) := List.getElem?_eq_getElem _
   have er : L'[i].2 = raw (A[i]'(by omega)) := by
    have a1 : (L'.map (·.2))[i]? = some L'[i].2 := by rw [List.getElem?_map, hx]; rfl
    rw [hr2, List.getElem?_map, hxA] at a1
    exact (Option.some.inj a1).symm
   have e1 : (L'.map refA).getD i .non = refA L'[i] := by simp [hx]
   have he := hat _ (List.getElem_mem hi)
   have ge := gA _ (List.getElem_mem (l := A) (n := i) (by omega))
   rw [er] at he
   have ef : (A.take (i + 1)).foldl (prG v.toNat) none = prG v.toNat ((A.take i).foldl (prG v.toNat) none) (A[i]'(by omega)) := by rw [take_snoc' hxA, List.foldl_append]; rfl
   generalize A[i]'(by omega) = e at *
   generalize (A.take i).foldl (prG v.toNat) none = o at *
   have c0 : (raw e).b ≤ v ↔ e.b ≤ v.toNat := by
    have := pend_le (b := e.b) (c := v.toNat) ge.b (by omega)
    rw [pend_nat (v := v.toNat) (by omega)] at this
    rw [← this]
    show pend e.b ≤ v ↔ _
    omega
   rw [e1]
   simp [he.flds, (t2.same sH2).g]
   refine ite2 (fun z => ?_) (fun z => ?_)
   ·rcases hb with ⟨rfl, rfl⟩ | ⟨p, x, rfl, rfl, hex, gx⟩
    ·simp
     refine ⟨_, _, rfl, rfl, ?_⟩
     rw [ef]
     unfold prG
     rw [if_pos (c0.mp z)]
     exact .inr ⟨_, e, rfl, rfl, he, ge⟩
    ·simp [he.flds, hex.flds]
     have c2 : (raw x).b ≤ (raw e).b ↔ x.b ≤ e.b := pend_le gx.b ge.b
     refine ite2 (fun z2 => ?_) (fun z2 => ?_)
     ·refine ⟨_, _, rfl, rfl, ?_⟩
      rw [ef]
      unfold prG
      rw [if_pos (c0.mp z)]
      show EoN K _ _ (if e.b < x.b then some x else some e)
      rw [if_neg (by have := c2.mp z2; omega)]
      exact .inr ⟨_, e, rfl, rfl, he, ge⟩
     ·refine ⟨_, _, rfl, rfl, ?_⟩
      rw [ef]
      unfold prG
      rw [if_pos (c0.mp z)]
      show EoN K _ _ (if e.b < x.b then some x else some e)
      rw [if_pos (by have : ¬ x.b ≤ e.b := fun y => z2 (c2.mpr y); omega)]
      exact .inr ⟨_, x, rfl, rfl, hex, gx⟩
   ·refine ⟨_, _, rfl, rfl, ?_⟩
    rw [ef]
    unfold prG
    rw [if_neg (fun y => z (c0.mpr y))]
    exact hb
  ·obtain ⟨bv, pv, rfl, rfl, hb⟩ := h
   rw [List.length_map, hlen, List.take_length] at hb
   simp
   refine ⟨bv, _, rfl, hb, fun H3 r s3 h3 => q.just hI dd ?_ (sH2.trans s3) h3⟩
   cases A.foldl (prG v.toNat) none <;> simp [Vabiti.optionalEntry, Vabiti.entryTold]
end
end L2
end
section
namespace L2
open PySem PySem.Spec PyProof.Rows
open Vabiti (Call)
def inR (x : Str) (n : Int) : Bool :=
 if x = "id" then decide (0 ≤ n) && decide (n ≤ 999999)
 else if (decide (x = "key") || (decide (x = "j") || decide (x = "k"))) = true then decide (-999999999999 ≤ n) && decide (n ≤ 999999999999)
 else if x = "b" ∧ n = -1 then true
 else if x = "length" then decide (1 ≤ n) && decide (n ≤ 1000000000)
 else decide (0 ≤ n) && decide (n ≤ 1000000000)
theorem inR_id {n : Int} : inR "id" n = true ↔ SM.NumR n := by
 unfold inR
 rw [if_pos rfl, Bool.and_eq_true, decide_eq_true_eq, decide_eq_true_eq]
theorem inR_key {n : Int} : inR "key" n = true ↔ SM.KeyR n := by
 unfold inR
 rw [if_neg (by decide), if_pos (by decide), Bool.and_eq_true, decide_eq_true_eq, decide_eq_true_eq]
theorem inR_j {n : Int} : inR "j" n = true ↔ SM.KeyR n := by
 unfold inR
 rw [if_neg (by decide), if_pos (by decide), Bool.and_eq_true, decide_eq_true_eq, decide_eq_true_eq]
theorem inR_k {n : Int} : inR "k" n = true ↔ SM.KeyR n := by
 unfold inR
 rw [if_neg (by decide), if_pos (by decide), Bool.and_eq_true, decide_eq_true_eq, decide_eq_true_eq]
theorem inR_b {n : Int} : inR "b" n = true ↔ SM.EndR n := by
 unfold inR
 rw [if_neg (by decide), if_neg (by decide)]
 by_cases h : n = -1
 ·rw [if_pos ⟨rfl, h⟩]
  exact ⟨fun _ => .inl h, fun _ => rfl⟩
 ·rw [if_neg (fun z => h z.2), if_neg (by decide), Bool.and_eq_true, decide_eq_true_eq, decide_eq_true_eq]
  exact ⟨fun z => .inr z, fun z => z.resolve_left h⟩
theorem inR_length {n : Int} : inR "length" n = true ↔ SM.LenR n := by
 unfold inR
 rw [if_neg (by decide), if_neg (by decide), if_neg (fun z => absurd z.1 (by decide)), if_pos rfl, Bool.and_eq_true, decide_eq_true_eq, decide_eq_true_eq]
theorem inR_mom {x : Str} (h1 : ¬ x = "id") (h2 : ¬ (decide (x = "key") || (decide (x = "j") || decide (x = "k"))) = true) (h3 : ¬ x = "b") (h4 : ¬ x = "length") {n : Int} : inR x n = true ↔ SM.MomR n := by
 unfold inR
 rw [if_neg h1, if_neg h2, if_neg (fun z => h3 z.1), if_neg h4, Bool.and_eq_true, decide_eq_true_eq, decide_eq_true_eq]
theorem inR_a {n : Int} : inR "a" n = true ↔ SM.MomR n := inR_mom (by decide) (by decide) (by decide) (by decide)
theorem inR_v {n : Int} : inR "v" n = true ↔ SM.MomR n := inR_mom (by decide) (by decide) (by decide) (by decide)
theorem inR_i {n : Int} : inR "i" n = true ↔ SM.MomR n := inR_mom (by decide) (by decide) (by decide) (by decide)
theorem inR_n {n : Int} : inR "n" n = true ↔ SM.MomR n := inR_mom (by decide) (by decide) (by decide) (by decide)
section
variable {P : Program} {w : World} {K : PySem.W.Frag} {mg : Str → Option Value} {base : Heap} {H H' H2 : Hp} {Q : VK}
def sp_in_range : Sp := fun vs H Q _ => ∃ (x : Str) (n : Int), vs = [.str x, .int n] ∧ ∀ H', Same H H' → Q (.bl (inR x n)) H'
theorem ok_in_range {f : Addr} {fd : FuncData} (F : Fun K "in_range" "in_range" s_in_range f fd) (T : Txt K mg) : FnOk P w K mg base CX0 1 f fd ["name", "number"] sp_in_range := by
 refine F.ok sc_in_range (fun vs H Q E h => ?_) (fun cdv A outer s H vs Q E hr h => ?_)
 ·obtain ⟨x, n, rfl, _⟩ := h
  rfl
 ·obtain ⟨x, n, rfl, q⟩ := h
  refine ⟨_, (pss_cons (ps_if (pt_cmpR op_eq (pv 0) pe_str (nomark _))
 (pss_one (ps_ret (pe_chain op_le op_le pe_int (pv 1) (pe_gint T.g_GREATEST_NUMBER rfl))))
 pss_nil)
 (pss_cons (ps_if (pt_cmpR op_in_seq (pv 0) (pe_tup (pa_cons pe_str (pa_cons pe_str (pa_cons pe_str pa_nil)))) (by with_unfolding_all rfl))
 (pss_one (ps_ret (pe_chain op_le op_le (pe_gint T.g_LEAST_KEY rfl) (pv 1) (pe_gint T.g_GREATEST_KEY rfl))))
 pss_nil)
 (pss_cons (ps_if (PW.pt (pw_and (pt_cmpR op_eq (pv 0) pe_str (nomark _)) (pw_and1 (pt_cmpR op_eq (pv 1) (pe_gint T.g_NEVER_AS_TOLD rfl) (nomark _)))))
 (pss_one (ps_ret pe_bl))
 pss_nil)
 (pss_cons (ps_if (pt_cmpR op_eq (pv 0) pe_str (nomark _))
 (pss_one (ps_ret (pe_chain op_le op_le pe_int (pv 1) (pe_gint T.g_LAST_MOMENT rfl))))
 pss_nil)
 (pss_one (ps_ret (pe_chain op_le op_le pe_int (pv 1) (pe_gint T.g_LAST_MOMENT rfl)))))))), ?_⟩
  have q' : ∀ H' b, Same H H' → inR x n = b → Q (.bl b) H' := fun H' b s e => by rw [← e]; exact q H' s
  unfold inR at q'
  simp [start]
  refine ite2 (fun z => ?_) (fun z => ?_)
  ·refine ite2 (fun z1 => ?_) (fun z1 => ?_)
   ·exact q' _ _ (Same.refl _) (by rw [if_pos z, decide_eq_true z1, Bool.true_and])
   ·exact q' _ _ (Same.refl _) (by rw [if_pos z, decide_eq_false z1, Bool.false_and])
  ·refine ⟨fits (by decide), fun p hp => ⟨p, _, rfl, .inr (SqT.of upd_same), rfl, rfl, ?_⟩⟩
   have s1 := Same.new (o := .tup [.str "key", .str "j", .str "k"]) hp
   have e1 : inV (.str x) [.str "key", .str "j", .str "k"] = (decide (x = "key") || (decide (x = "j") || decide (x = "k"))) := by
    have e0 : ∀ a : Str, eqV (.str a) (.str x) = decide (x = a) := fun a => by
     show (a == x) = _
     rw [Bool.eq_iff_iff, beq_iff_eq, decide_eq_true_eq]
     exact eq_comm
    unfold inV
    simp only [List.any_cons, List.any_nil, e0, Bool.or_false]
   simp only [Bool.false_eq_true, if_false, e1, x_bT]
   refine ite2 (fun z2 => ?_) (fun z2 => ?_)
   ·refine ite2 (fun z1 => ?_) (fun z1 => ?_)
    ·exact q' _ _ s1 (by rw [if_neg z, if_pos z2, decide_eq_true z1, Bool.true_and])
    ·exact q' _ _ s1 (by rw [if_neg z, if_pos z2, decide_eq_false z1, Bool.false_and])
   ·have last : ¬ (x = "b" ∧ n = -1) → ∀ H', Same H H' → (if x = "length" then (if 1 ≤ n then Q (.bl (decide (n ≤ 1000000000))) H' else Q (.bl false) H') else (if 0 ≤ n then Q (.bl (decide (n ≤ 1000000000))) H' else Q (.bl false) H')) := by
     intro nb H' s
     refine ite2 (fun z3 => ?_) (fun z3 => ?_)
     ·refine ite2 (fun z1 => ?_) (fun z1 => ?_)
      ·exact q' _ _ s (by rw [if_neg z, if_neg z2, if_neg nb, if_pos z3, decide_eq_true z1, Bool.true_and])
      ·exact q' _ _ s (by rw [if_neg z, if_neg z2, if_neg nb, if_pos z3, decide_eq_false z1, Bool.false_and])
     ·refine ite2 (fun z1 => ?_) (fun z1 => ?_)
      ·exact q' _ _ s (by rw [if_neg z, if_neg z2, if_neg nb, if_neg z3, decide_eq_true z1, Bool.true_and])
      ·exact q' _ _ s (by rw [if_neg z, if_neg z2, if_neg nb, if_neg z3, decide_eq_false z1, Bool.false_and])
    refine ite2 (fun z4 => ?_) (fun z4 => ?_)
    ·refine ite2 (fun z5 => ?_) (fun z5 => ?_)
     ·exact q' _ _ s1 (by rw [if_neg z, if_neg z2, if_pos ⟨z4, z5⟩])
     ·exact last (fun y => z5 y.2) _ s1
    ·exact last (fun y => z4 y.1) _ s1
abbrev TPs := List (Str × Int)
def tKV (ps : TPs) : List (Key × V) := ps.map fun q => (Sum.inr q.1, V.int q.2)
def lkp (ps : TPs) (x : Str) : Option Int := (ps.find? fun q => decide (q.1 = x)).map (·.2)
theorem val_told (x : Str) : ∀ ps : TPs, valV (tKV ps) (Sum.inr x) = (lkp ps x).map V.int
 | [] => rfl
 | q :: ps => by
  by_cases e : q.1 = x
  ·show valV ((Sum.inr q.1, V.int q.2) :: tKV ps) _ = _
   rw [valV_pos (congrArg Sum.inr e)]
   unfold lkp
   rw [List.find?_cons_of_pos (by simpa using e)]
   rfl
  ·show valV ((Sum.inr q.1, V.int q.2) :: tKV ps) _ = _
   rw [valV_neg (fun z => e (Sum.inr.inj z)), val_told x ps]
   unfold lkp
   rw [List.find?_cons_of_neg (by simpa using e)]
theorem lkp_mem {x : Str × Int} : ∀ {ps : TPs}, (ps.map (·.1)).Nodup → x ∈ ps → lkp ps x.1 = some x.2
 | [], _, h => by cases h
 | q :: ps, nd, h => by
  rw [List.map_cons, List.nodup_cons] at nd
  unfold lkp
  rcases List.mem_cons.mp h with e | h
  ·rw [List.find?_cons_of_pos (by simp [e]), ← e]
   rfl
  ·rw [List.find?_cons_of_neg (by simp; exact fun z => nd.1 (List.mem_map.mpr ⟨x, h, z.symm⟩))]
   exact lkp_mem nd.2 h
def refusal (ps : TPs) : Int := if (ps.all fun q => inR q.1 q.2) = true then (match lkp ps "a", lkp ps "b" with
 | some a, some b => if fromT b ≤ a then -2 else 0
 | _, _ => 0) else -1
def sp_argument_refusal : Sp := fun vs H Q _ => ∃ (t : Addr) (ps : TPs), vs = [.ref t] ∧ H t = some (.dK (tKV ps)) ∧ (ps.map (·.1)).Nodup ∧ ∀ H', Same H H' → Q (.int (refusal ps)) H'
def ArI (t : Addr) (ps : TPs) (od : Obj) (H : Hp) (i : Nat) (σ : St) (H' : Hp) : Prop := ∃ pv : Option V, σ = [some (.ref t), pv] ∧ SameB t H H' ∧ H' t = some (.frz od (.dK (tKV ps))) ∧ ∀ q ∈ ps.take i, inR q.1 q.2 = true
theorem frz_get {t : Addr} {od : Obj} {kvs : List (Key × V)} {k : Key} {v : V} (h : H t = some (.frz od (.dK kvs))) (hv : valV kvs k = some v) (q : Q v H) : dgetR (.ref t) (kV k) H Q := ⟨t, v, rfl, .inl ⟨kvs, k, .inr ⟨od, h⟩, rfl, hv.symm⟩, q⟩
theorem ok_argument_refusal {f : Addr} {fd : FuncData} (F : Fun K "argument_refusal" "argument_refusal" s_argument_refusal f fd) (T : Txt K mg) (D_in_range : Df P w K mg base 1 "in_range" ["name", "number"] sp_in_range) (D_end_from_told : Df P w K mg base 1 "end_from_told" ["told"] sp_end_from_told) : FnOk P w K mg base CX0 2 f fd ["told"] sp_argument_refusal := by
 refine F.ok sc_argument_refusal (fun vs H Q E h => ?_) (fun cdv A outer s H vs Q E hr h => ?_)
 ·obtain ⟨t, ps, rfl, _⟩ := h
  rfl
 ·obtain ⟨t, ps, rfl, ht, nd, q⟩ := h
  have hu := hu_of hr
  refine ⟨_, (pss_cons (ps_lock (ps_for PassesOwn.never rfl (pi_keys (pv 0)) (pg_name (i := 1) sc_argument_refusal.nd rfl (Or.inl rfl))
 (pss_one (ps_if (pt_not (pt_truth (pe_fn D_in_range (hr.mono (by decide)) rfl (pa_cons (pv 1) (pa_cons (pe_dget hu (pv 0) (pv 1) (fun _ _ => rfl)) pa_nil))) (fun _ => rfl)))
 (pss_one (ps_ret (pe_gint T.g_OUT_OF_RANGE rfl)))
 pss_nil))))
 (pss_cons (ps_if (PW.pt (pw_and (pt_cmp (pc_din hu pe_str (pv 0))) (pw_and (pt_cmp (pc_din hu pe_str (pv 0))) (pw_and1 (pt_cmpR op_ge (pe_dget hu (pv 0) pe_str (fun _ _ => rfl)) (pe_fn D_end_from_told (hr.mono (by decide)) rfl (pa_cons (pe_dget hu (pv 0) pe_str (fun _ _ => rfl)) pa_nil)) (nomark _))))))
 (pss_one (ps_ret (pe_gint T.g_EMPTY_STRETCH rfl)))
 pss_nil)
 (pss_one (ps_ret pe_int)))), ?_⟩
  have q' : ∀ H' r, Same H H' → refusal ps = r → Q (.int r) H' := fun H' r s e => by rw [← e]; exact q H' s
  refine ⟨t, _, ht, trivial, fun od => ?_⟩
  refine ⟨_, rfl, t, od, rfl, .inl ⟨_, upd_same, ?_⟩⟩
  have hkl : (tKV ps).length = ps.length := by unfold tKV; rw [List.length_map]
  refine for_wk (wk_keys (d := t) (o := od) (kvs := tKV ps)) (ArI t ps od H) ⟨none, rfl, SameB.upd, upd_same, fun q hq => by simp at hq⟩ (fun i σ H' _ h => ?_) (fun i σ H' hi h => ?_) (fun σ H' h => ?_)
  ·obtain ⟨pv, _, _, h, _⟩ := h
   exact h
  ·obtain ⟨pv, rfl, sb, hf, hin⟩ := h
   rw [hkl] at hi
   have hx : ps[i]? = some ps[i] := List.getElem?_eq_getElem hi
   have e1 : ((tKV ps).map fun p => kV p.1).getD i .non = .str ps[i].1 := by simp [tKV, hx, kV]
   have hlk := lkp_mem nd (List.getElem_mem hi)
   rw [e1]
   simp
   refine frz_get (k := Sum.inr ps[i].1) hf (by rw [val_told, hlk]; rfl) ⟨_, _, rfl, fun H2 s2 => ?_⟩
   simp
   have hf2 := s2 _ _ hf
   have back : Same H (upd H2 t (.dK (tKV ps))) := fun b o eb => by
    by_cases e : b = t
    ·subst e
     rw [upd_same, ← ht, eb]
    ·rw [upd_ne e]
     exact s2 _ _ (sb _ _ eb e)
   cases hb : inR ps[i].1 ps[i].2 with
   | false =>
    refine .inl ⟨rfl, hf2, q' _ _ back ?_⟩
    unfold refusal
    rw [if_neg]
    intro z
    have := List.all_eq_true.mp z _ (List.getElem_mem hi)
    rw [hb] at this
    cases this
   | true =>
    refine .inr ⟨rfl, _, rfl, fun b o eb nb => s2 _ _ (sb _ _ eb nb), hf2, fun y hy => ?_⟩
    rw [take_snoc' hx] at hy
    rcases List.mem_append.mp hy with hy | hy
    ·exact hin y hy
    ·rw [List.mem_singleton] at hy
     rw [hy]
     exact hb
  ·obtain ⟨pv, rfl, sb, hf, hin⟩ := h
   rw [hkl, List.take_length] at hin
   have back : Same H (upd H' t (.dK (tKV ps))) := fun b o eb => by
    by_cases e : b = t
    ·subst e
     rw [upd_same, ← ht, eb]
    ·rw [upd_ne e]
     exact sb _ _ eb e
   have hall : (ps.all fun q => inR q.1 q.2) = true := List.all_eq_true.mpr hin
   unfold refusal at q'
   rw [if_pos hall] at q'
   refine ⟨hf, ?_⟩
   generalize upd H' t (.dK (tKV ps)) = H3 at *
   have ht3 := back _ _ ht
   simp
   refine ⟨t, _, rfl, DGet.k (k := Sum.inr "a") ht3, ?_⟩
   rw [val_told]
   cases ha : lkp ps "a" with
   | none =>
    simp
    exact q' _ _ back (by rw [ha])
   | some a =>
    simp
    refine ⟨t, _, rfl, DGet.k (k := Sum.inr "b") ht3, ?_⟩
    rw [val_told]
    cases hb : lkp ps "b" with
    | none =>
     simp
     exact q' _ _ back (by rw [ha, hb])
    | some b =>
     have ta : Told H3 t "a" a := ⟨_, ht3, by rw [val_told, ha]; rfl⟩
     have tb : Told H3 t "b" b := ⟨_, ht3, by rw [val_told, hb]; rfl⟩
     simp [ta.g, tb.g]
     refine ite2 (fun z => ?_) (fun z => ?_)
     ·exact q' _ _ back (by rw [ha, hb]; show (if fromT b ≤ a then (-2 : Int) else 0) = _; rw [if_pos z])
     ·exact q' _ _ back (by rw [ha, hb]; show (if fromT b ≤ a then (-2 : Int) else 0) = _; rw [if_neg z])
end
end L2
end
section
namespace L2
open PySem PySem.Spec PyProof.Rows
open Vabiti (Call)
def names : Int → List Str
 | 0 => ["id", "key", "a", "b"]
 | 1 => ["id"]
 | 2 => ["id", "a", "b"]
 | 3 => ["id", "key"]
 | 4 => ["j", "k", "v"]
 | 5 => ["v"]
 | 6 => ["j", "k", "n"]
 | 7 => ["id"]
 | 9 => ["v"]
 | 10 => ["j", "k", "a", "b"]
 | 11 => ["j", "k", "a", "b"]
 | 12 => ["j", "k", "a", "b"]
 | 13 => ["id"]
 | 14 => ["i"]
 | 15 => ["key"]
 | 16 => ["key"]
 | 17 => ["key", "a", "b"]
 | 18 => ["key", "a", "length"]
 | 19 => ["key", "v"]
 | 20 => ["key", "v"]
 | 21 => ["a", "b"]
 | 22 => ["id"]
 | _ => []
def Right : Call → Prop
 | .add i k a b => SM.NumR i ∧ SM.KeyR k ∧ SM.MomR a ∧ SM.EndR b ∧ a.toNat < SM.endN b
 | .drop i => SM.NumR i
 | .move i a b => SM.NumR i ∧ SM.MomR a ∧ SM.EndR b ∧ a.toNat < SM.endN b
 | .rekey i k => SM.NumR i ∧ SM.KeyR k
 | .close j k v => SM.KeyR j ∧ SM.KeyR k ∧ SM.MomR v
 | .purge v => SM.MomR v
 | .shift j k n => SM.KeyR j ∧ SM.KeyR k ∧ SM.MomR n
 | .get i => SM.NumR i
 | .count => True
 | .stab v => SM.MomR v
 | .find j k a b => SM.KeyR j ∧ SM.KeyR k ∧ SM.MomR a ∧ SM.EndR b ∧ a.toNat < SM.endN b
 | .inside j k a b => SM.KeyR j ∧ SM.KeyR k ∧ SM.MomR a ∧ SM.EndR b ∧ a.toNat < SM.endN b
 | .around j k a b => SM.KeyR j ∧ SM.KeyR k ∧ SM.MomR a ∧ SM.EndR b ∧ a.toNat < SM.endN b
 | .place i => SM.NumR i
 | .nth i => SM.MomR i
 | .held k => SM.KeyR k
 | .clash k => SM.KeyR k
 | .covered k a b => SM.KeyR k ∧ SM.MomR a ∧ SM.EndR b ∧ a.toNat < SM.endN b
 | .free k a n => SM.KeyR k ∧ SM.MomR a ∧ SM.LenR n
 | .prior k v => SM.KeyR k ∧ SM.MomR v
 | .following k v => SM.KeyR k ∧ SM.MomR v
 | .busiest a b => SM.MomR a ∧ SM.EndR b ∧ a.toNat < SM.endN b
 | .path i => SM.NumR i
 | .shape => True
def toldOf (p : Int) (xs : List Int) : TPs := (names p).zip xs
def Judg (c : Call) (r : Int) : Prop := (r = 0 ∧ Right c) ∨ ((r = -1 ∨ r = -2) ∧ ∀ D, SM.Does D c D [r])
theorem cls1 {c : Call} {ps : TPs} {R : Prop} (ha : lkp ps "a" = none ∨ lkp ps "b" = none) (h1 : (ps.all fun q => inR q.1 q.2) = true ↔ R) (h2 : R → Right c) (h3 : ¬ R → ∀ D, SM.Does D c D [-1]) : Judg c (refusal ps) := by
 unfold refusal
 by_cases z : (ps.all fun q => inR q.1 q.2) = true
 ·rw [if_pos z]
  refine .inl ⟨?_, h2 (h1.mp z)⟩
  rcases ha with ha | ha
  ·rw [ha]
  ·rw [ha]
   cases lkp ps "a" <;> rfl
 ·rw [if_neg z]
  exact .inr ⟨.inl rfl, h3 fun y => z (h1.mpr y)⟩
theorem lt_told {a b : Int} (ha : SM.MomR a) (hb : SM.EndR b) : fromT b ≤ a ↔ ¬ a.toNat < SM.endN b := by
 have hn := SM.never_eq
 unfold fromT SM.endN BIG
 split
 ·omega
 ·omega
theorem cls2 {c : Call} {ps : TPs} {a b : Int} {R : Prop} (ha : lkp ps "a" = some a) (hb : lkp ps "b" = some b) (hR : R → SM.MomR a ∧ SM.EndR b) (h1 : (ps.all fun q => inR q.1 q.2) = true ↔ R) (h2 : R → a.toNat < SM.endN b → Right c) (h3 : ¬ R → ∀ D, SM.Does D c D [-1]) (h4 : R → ¬ a.toNat < SM.endN b → ∀ D, SM.Does D c D [-2]) : Judg c (refusal ps) := by
 unfold refusal
 by_cases z : (ps.all fun q => inR q.1 q.2) = true
 ·rw [if_pos z, ha, hb]
  have r := h1.mp z
  have l := lt_told (hR r).1 (hR r).2
  show Judg c (if fromT b ≤ a then -2 else 0)
  by_cases y : fromT b ≤ a
  ·rw [if_pos y]
   exact .inr ⟨.inr rfl, h4 r (l.mp y)⟩
  ·rw [if_neg y]
   exact .inl ⟨rfl, h2 r (Decidable.byContradiction fun u => y (l.mpr u))⟩
 ·rw [if_neg z]
  exact .inr ⟨.inl rfl, h3 fun y => z (h1.mpr y)⟩
theorem refused {p : Int} {xs : List Int} {c : Call} (h : SM.Sp p xs c) : Judg c (refusal (toldOf p xs)) := by
 cases h with
 | add i k a b =>
  refine cls2 (R := SM.NumR i ∧ SM.KeyR k ∧ SM.MomR a ∧ SM.EndR b) (a := a) (b := b) rfl rfl (fun r => r.2.2) ?_ (fun r l => ⟨r.1, r.2.1, r.2.2.1, r.2.2.2, l⟩) (fun r D => SM.add_1 r) (fun r l D => SM.add_2 r.1 r.2.1 r.2.2.1 r.2.2.2 l)
  simp [toldOf, names, inR_id, inR_key, inR_a, inR_b]
 | drop i =>
  refine cls1 (R := SM.NumR i) (.inl rfl) ?_ (fun r => r) (fun r D => SM.drop_1 r)
  simp [toldOf, names, inR_id]
 | move i a b =>
  refine cls2 (R := SM.NumR i ∧ SM.MomR a ∧ SM.EndR b) (a := a) (b := b) rfl rfl (fun r => r.2) ?_ (fun r l => ⟨r.1, r.2.1, r.2.2, l⟩) (fun r D => SM.move_1 r) (fun r l D => SM.move_2 r.1 r.2.1 r.2.2 l)
  simp [toldOf, names, inR_id, inR_a, inR_b]
 | rekey i k =>
  refine cls1 (R := SM.NumR i ∧ SM.KeyR k) (.inl rfl) ?_ (fun r => r) (fun r D => SM.rekey_1 r)
  simp [toldOf, names, inR_id, inR_key]
 | close j k v =>
  refine cls1 (R := SM.KeyR j ∧ SM.KeyR k ∧ SM.MomR v) (.inl rfl) ?_ (fun r => r) (fun r D => SM.close_1 r)
  simp [toldOf, names, inR_j, inR_k, inR_v]
 | purge v =>
  refine cls1 (R := SM.MomR v) (.inl rfl) ?_ (fun r => r) (fun r D => SM.purge_1 r)
  simp [toldOf, names, inR_v]
 | shift j k n =>
  refine cls1 (R := SM.KeyR j ∧ SM.KeyR k ∧ SM.MomR n) (.inl rfl) ?_ (fun r => r) (fun r D => SM.shift_1 r)
  simp [toldOf, names, inR_j, inR_k, inR_n]
 | get i =>
  refine cls1 (R := SM.NumR i) (.inl rfl) ?_ (fun r => r) (fun r D => SM.get_1 r)
  simp [toldOf, names, inR_id]
 | count => exact .inl ⟨rfl, trivial⟩
 | stab v =>
  refine cls1 (R := SM.MomR v) (.inl rfl) ?_ (fun r => r) (fun r D => SM.stab_1 r)
  simp [toldOf, names, inR_v]
 | find j k a b =>
  refine cls2 (R := SM.KeyR j ∧ SM.KeyR k ∧ SM.MomR a ∧ SM.EndR b) (a := a) (b := b) rfl rfl (fun r => r.2.2) ?_ (fun r l => ⟨r.1, r.2.1, r.2.2.1, r.2.2.2, l⟩) (fun r D => SM.sw_1 .find r) (fun r l D => SM.sw_2 .find r.1 r.2.1 r.2.2.1 r.2.2.2 l)
  simp [toldOf, names, inR_j, inR_k, inR_a, inR_b]
 | inside j k a b =>
  refine cls2 (R := SM.KeyR j ∧ SM.KeyR k ∧ SM.MomR a ∧ SM.EndR b) (a := a) (b := b) rfl rfl (fun r => r.2.2) ?_ (fun r l => ⟨r.1, r.2.1, r.2.2.1, r.2.2.2, l⟩) (fun r D => SM.sw_1 .inside r) (fun r l D => SM.sw_2 .inside r.1 r.2.1 r.2.2.1 r.2.2.2 l)
  simp [toldOf, names, inR_j, inR_k, inR_a, inR_b]
 | around j k a b =>
  refine cls2 (R := SM.KeyR j ∧ SM.KeyR k ∧ SM.MomR a ∧ SM.EndR b) (a := a) (b := b) rfl rfl (fun r => r.2.2) ?_ (fun r l => ⟨r.1, r.2.1, r.2.2.1, r.2.2.2, l⟩) (fun r D => SM.sw_1 .around r) (fun r l D => SM.sw_2 .around r.1 r.2.1 r.2.2.1 r.2.2.2 l)
  simp [toldOf, names, inR_j, inR_k, inR_a, inR_b]
 | place i =>
  refine cls1 (R := SM.NumR i) (.inl rfl) ?_ (fun r => r) (fun r D => SM.place_1 r)
  simp [toldOf, names, inR_id]
 | nth i =>
  refine cls1 (R := SM.MomR i) (.inl rfl) ?_ (fun r => r) (fun r D => SM.nth_1 r)
  simp [toldOf, names, inR_i]
 | held k =>
  refine cls1 (R := SM.KeyR k) (.inl rfl) ?_ (fun r => r) (fun r D => SM.held_1 r)
  simp [toldOf, names, inR_key]
 | clash k =>
  refine cls1 (R := SM.KeyR k) (.inl rfl) ?_ (fun r => r) (fun r D => SM.clash_1 r)
  simp [toldOf, names, inR_key]
 | covered k a b =>
  refine cls2 (R := SM.KeyR k ∧ SM.MomR a ∧ SM.EndR b) (a := a) (b := b) rfl rfl (fun r => r.2) ?_ (fun r l => ⟨r.1, r.2.1, r.2.2, l⟩) (fun r D => SM.covered_1 r) (fun r l D => SM.covered_2 r.1 r.2.1 r.2.2 l)
  simp [toldOf, names, inR_key, inR_a, inR_b]
 | free k a n =>
  refine cls1 (R := SM.KeyR k ∧ SM.MomR a ∧ SM.LenR n) (.inr rfl) ?_ (fun r => r) (fun r D => SM.free_1 r)
  simp [toldOf, names, inR_key, inR_a, inR_length]
 | prior k v =>
  refine cls1 (R := SM.KeyR k ∧ SM.MomR v) (.inl rfl) ?_ (fun r => r) (fun r D => SM.prior_1 r)
  simp [toldOf, names, inR_key, inR_v]
 | following k v =>
  refine cls1 (R := SM.KeyR k ∧ SM.MomR v) (.inl rfl) ?_ (fun r => r) (fun r D => SM.following_1 r)
  simp [toldOf, names, inR_key, inR_v]
 | busiest a b =>
  refine cls2 (R := SM.MomR a ∧ SM.EndR b) (a := a) (b := b) rfl rfl (fun r => r) ?_ (fun r l => ⟨r.1, r.2, l⟩) (fun r D => SM.busiest_1 r) (fun r l D => SM.busiest_2 r.1 r.2 l)
  simp [toldOf, names, inR_a, inR_b]
 | path i =>
  refine cls1 (R := SM.NumR i) (.inl rfl) ?_ (fun r => r) (fun r D => SM.path_1 r)
  simp [toldOf, names, inR_id]
 | shape => exact .inl ⟨rfl, trivial⟩
theorem told_nd {p : Int} {xs : List Int} {c : Call} (h : SM.Sp p xs c) : ((toldOf p xs).map (·.1)).Nodup ∧ (names p).length = xs.length ∧ xs.length ≤ 4 := by
 have h1 : (names p).Nodup ∧ (names p).length = xs.length ∧ xs.length ≤ 4 := by cases h <;> exact ⟨by decide, rfl, by simp⟩
 have h2 : (toldOf p xs).map (·.1) = names p := by unfold toldOf; exact List.map_fst_zip (by omega)
 rw [h2]
 exact h1
theorem sp_le {p : Int} {xs : List Int} {c : Call} (h : SM.Sp p xs c) : 0 ≤ p ∧ p ≤ 23 := by
 cases h <;> decide
end L2
end
section
namespace L2
open PySem PySem.Spec PyProof.Rows
open Vabiti (Call)
structure TxD (mg : Str → Option Value) (aN aC aQ : Addr) : Prop where
 g_ARGUMENT_NAMES : mg "ARGUMENT_NAMES" = some (.ref aN)
 g_CHANGES : mg "CHANGES" = some (.ref aC)
 g_QUESTIONS : mg "QUESTIONS" = some (.ref aQ)
structure Cds (P : Program) (w : World) (K : PySem.W.Frag) (mg : Str → Option Value) (base : Heap) (ds : List (Int × Value)) (k : Nat) (p : Int) (sp : Sp) : Prop where
 ex : ∃ (f : Addr) (fd : FuncData), (p, Value.ref f) ∈ ds ∧ FnOk P w K mg base CX0 k f fd ["entries", "told"] sp ∧ PySem.W.keepIn K (.ref f) = true ∧ Binds K fd ["entries", "told"] []
section
variable {P : Program} {w : World} {K : PySem.W.Frag} {mg : Str → Option Value} {base : Heap} {H H' H2 : Hp} {Q : VK}
theorem ask_in {X : Cx} {a d t : Addr} {ds : List (Int × Value)} {k : Nat} {p : Int} {sp : Sp} (G : GD X.K a ds) (c : Cds X.prog X.w X.K X.mg X.base ds k p sp) (hr : Room k X.A) (h : sp [.ref d, .ref t] H Q E0) :
  tCallE X (tGDGet X.K (tC (.ref a)) (tVar 0)) (tCons (tVar 1) (tCons (tVar 2) tNil)) [some (.int p), some (.ref d), some (.ref t)] H Q := by
 obtain ⟨f, fd, m, F, hk, hb⟩ := c.ex
 exact ⟨_, rfl, a, ds, p, _, .ref f, rfl, rfl, G, m, rfl, f, fd, k, _, sp, rfl, F, hr, hk, hb, _, rfl, _, rfl, h⟩
theorem toldA {t : Addr} {ps : TPs} {x : Str} {i : Int} (h : H t = some (.dK (tKV ps))) (e : lkp ps x = some i) : Told H t x i := ⟨_, h, by rw [val_told, e]; rfl⟩
def sp_ask (K : PySem.W.Frag) (lo hi : Int) : Sp := fun vs H Q _ => ∃ (p : Int) (d t : Addr) (xs : List Int) (c : Call) (D : List VE) (L : List (Addr × REnt)), vs = [.int p, .ref d, .ref t] ∧ lo ≤ p ∧ p ≤ hi ∧ SM.Sp p xs c ∧ Right c ∧ InD K H d D L ∧ H t = some (.dK (tKV (toldOf p xs))) ∧ d ≠ t ∧ Tells K H d D c Q
theorem ok_change {f a aN aC aQ : Addr} {fd : FuncData} {ds : List (Int × Value)} (F : Fun K "change" "change" s_change f fd) (T : TxD mg aN aC aQ) (G : GD K aC ds) (c_add : Cds P w K mg base ds 3 0 (sp_add K)) (c_drop : Cds P w K mg base ds 1 1 (sp_drop K)) (c_move : Cds P w K mg base ds 2 2 (sp_move K)) (c_rekey : Cds P w K mg base ds 1 3 (sp_rekey K)) (c_close : Cds P w K mg base ds 2 4 (sp_close K)) (c_purge : Cds P w K mg base ds 2 5 (sp_purge K)) (c_shift : Cds P w K mg base ds 2 6 (sp_shift K)) : FnOk P w K mg base CX0 4 f fd ["call", "entries", "told"] (sp_ask K 0 6) := by
 refine F.ok sc_change (fun vs H Q E h => ?_) (fun cdv A outer s H vs Q E hr h => ?_)
 ·obtain ⟨p, d, t, xs, c, D, L, rfl, _⟩ := h
  rfl
 ·obtain ⟨p, d, t, xs, c, D, L, rfl, hlo, hhi, hS, hR, hI, ht, hne, q⟩ := h
  refine ⟨_, (pss_one (ps_ret (pe_callE (pe_gdget (pe_gref T.g_CHANGES rfl) (pv 0) (fun _ _ => rfl)) (pa_cons (pv 1) (pa_cons (pv 2) pa_nil))))), ?_⟩
  cases hS with
  | add x0 x1 x2 x3 =>
   obtain ⟨h0, h1, h2, h3, h4⟩ := hR
   exact ask_in G c_add (hr.mono (by decide)) ⟨d, t, D, L, x0, x1, x2, x3, rfl, hI, toldA ht rfl, toldA ht rfl, toldA ht rfl, toldA ht rfl, h0, h1, h2, h3, h4, q⟩
  | drop x0 =>
   have h0 := hR
   exact ask_in G c_drop (hr.mono (by decide)) ⟨d, t, D, L, x0, rfl, hI, toldA ht rfl, hne, h0, q⟩
  | move x0 x1 x2 =>
   obtain ⟨h0, h1, h2, h3⟩ := hR
   exact ask_in G c_move (hr.mono (by decide)) ⟨d, t, D, L, x0, x1, x2, rfl, hI, toldA ht rfl, toldA ht rfl, toldA ht rfl, h0, h1, h2, h3, q⟩
  | rekey x0 x1 =>
   obtain ⟨h0, h1⟩ := hR
   exact ask_in G c_rekey (hr.mono (by decide)) ⟨d, t, D, L, x0, x1, rfl, hI, toldA ht rfl, toldA ht rfl, h0, h1, q⟩
  | close x0 x1 x2 =>
   obtain ⟨h0, h1, h2⟩ := hR
   exact ask_in G c_close (hr.mono (by decide)) ⟨d, t, D, L, x0, x1, x2, rfl, hI, toldA ht rfl, toldA ht rfl, toldA ht rfl, h0, h1, h2, q⟩
  | purge x0 =>
   have h0 := hR
   exact ask_in G c_purge (hr.mono (by decide)) ⟨d, t, D, L, x0, rfl, hI, toldA ht rfl, fun z => hne z.symm, h0, q⟩
  | shift x0 x1 x2 =>
   obtain ⟨h0, h1, h2⟩ := hR
   exact ask_in G c_shift (hr.mono (by decide)) ⟨d, t, D, L, x0, x1, x2, rfl, hI, toldA ht rfl, toldA ht rfl, toldA ht rfl, h0, h1, h2, q⟩
  | get x0 => exact absurd hhi (by decide)
  | count => exact absurd hhi (by decide)
  | stab x0 => exact absurd hhi (by decide)
  | find x0 x1 x2 x3 => exact absurd hhi (by decide)
  | inside x0 x1 x2 x3 => exact absurd hhi (by decide)
  | around x0 x1 x2 x3 => exact absurd hhi (by decide)
  | place x0 => exact absurd hhi (by decide)
  | nth x0 => exact absurd hhi (by decide)
  | held x0 => exact absurd hhi (by decide)
  | clash x0 => exact absurd hhi (by decide)
  | covered x0 x1 x2 => exact absurd hhi (by decide)
  | free x0 x1 x2 => exact absurd hhi (by decide)
  | prior x0 x1 => exact absurd hhi (by decide)
  | following x0 x1 => exact absurd hhi (by decide)
  | busiest x0 x1 => exact absurd hhi (by decide)
  | path x0 => exact absurd hhi (by decide)
  | shape => exact absurd hhi (by decide)
theorem ok_question {f a aN aC aQ : Addr} {fd : FuncData} {ds : List (Int × Value)} (F : Fun K "question" "question" s_question f fd) (T : TxD mg aN aC aQ) (G : GD K aQ ds) (c_get : Cds P w K mg base ds 3 7 (sp_get K)) (c_count : Cds P w K mg base ds 1 8 (sp_count K)) (c_stab : Cds P w K mg base ds 7 9 (sp_stab K)) (c_find : Cds P w K mg base ds 7 10 (sp_sw K .find)) (c_inside : Cds P w K mg base ds 7 11 (sp_sw K .inside)) (c_around : Cds P w K mg base ds 7 12 (sp_sw K .around)) (c_place : Cds P w K mg base ds 2 13 (sp_place K)) (c_nth : Cds P w K mg base ds 5 14 (sp_nth K)) (c_held : Cds P w K mg base ds 3 15 (sp_held K)) (c_clash : Cds P w K mg base ds 3 16 (sp_clash K)) (c_covered : Cds P w K mg base ds 3 17 (sp_covered K)) (c_free : Cds P w K mg base ds 3 18 (sp_free K)) (c_prior : Cds P w K mg base ds 5 19 (sp_kv K .prior)) (c_following : Cds P w K mg base ds 5 20 (sp_kv K .following)) (c_busiest : Cds P w K mg base ds 3 21 (sp_busiest K)) (c_path : Cds P w K mg base ds 7 22 (sp_path K)) (c_shape : Cds P w K mg base ds 7 23 (sp_shape K)) : FnOk P w K mg base CX0 8 f fd ["call", "entries", "told"] (sp_ask K 7 23) := by
 refine F.ok sc_question (fun vs H Q E h => ?_) (fun cdv A outer s H vs Q E hr h => ?_)
 ·obtain ⟨p, d, t, xs, c, D, L, rfl, _⟩ := h
  rfl
 ·obtain ⟨p, d, t, xs, c, D, L, rfl, hlo, hhi, hS, hR, hI, ht, hne, q⟩ := h
  refine ⟨_, (pss_one (ps_ret (pe_callE (pe_gdget (pe_gref T.g_QUESTIONS rfl) (pv 0) (fun _ _ => rfl)) (pa_cons (pv 1) (pa_cons (pv 2) pa_nil))))), ?_⟩
  cases hS with
  | add x0 x1 x2 x3 => exact absurd hlo (by decide)
  | drop x0 => exact absurd hlo (by decide)
  | move x0 x1 x2 => exact absurd hlo (by decide)
  | rekey x0 x1 => exact absurd hlo (by decide)
  | close x0 x1 x2 => exact absurd hlo (by decide)
  | purge x0 => exact absurd hlo (by decide)
  | shift x0 x1 x2 => exact absurd hlo (by decide)
  | get x0 =>
   have h0 := hR
   exact ask_in G c_get (hr.mono (by decide)) ⟨d, t, D, L, x0, rfl, hI, toldA ht rfl, h0, q⟩
  | count =>
   exact ask_in G c_count (hr.mono (by decide)) ⟨d, t, D, L, rfl, hI, q⟩
  | stab x0 =>
   have h0 := hR
   exact ask_in G c_stab (hr.mono (by decide)) ⟨d, t, D, L, x0, rfl, hI, toldA ht rfl, h0, q⟩
  | find x0 x1 x2 x3 =>
   obtain ⟨h0, h1, h2, h3, h4⟩ := hR
   exact ask_in G c_find (hr.mono (by decide)) ⟨d, t, D, L, x0, x1, x2, x3, rfl, hI, toldA ht rfl, toldA ht rfl, toldA ht rfl, toldA ht rfl, h0, h1, h2, h3, h4, q⟩
  | inside x0 x1 x2 x3 =>
   obtain ⟨h0, h1, h2, h3, h4⟩ := hR
   exact ask_in G c_inside (hr.mono (by decide)) ⟨d, t, D, L, x0, x1, x2, x3, rfl, hI, toldA ht rfl, toldA ht rfl, toldA ht rfl, toldA ht rfl, h0, h1, h2, h3, h4, q⟩
  | around x0 x1 x2 x3 =>
   obtain ⟨h0, h1, h2, h3, h4⟩ := hR
   exact ask_in G c_around (hr.mono (by decide)) ⟨d, t, D, L, x0, x1, x2, x3, rfl, hI, toldA ht rfl, toldA ht rfl, toldA ht rfl, toldA ht rfl, h0, h1, h2, h3, h4, q⟩
  | place x0 =>
   have h0 := hR
   exact ask_in G c_place (hr.mono (by decide)) ⟨d, t, D, L, x0, rfl, hI, toldA ht rfl, h0, q⟩
  | nth x0 =>
   have h0 := hR
   exact ask_in G c_nth (hr.mono (by decide)) ⟨d, t, D, L, x0, rfl, hI, toldA ht rfl, h0, q⟩
  | held x0 =>
   have h0 := hR
   exact ask_in G c_held (hr.mono (by decide)) ⟨d, t, D, L, x0, rfl, hI, toldA ht rfl, h0, q⟩
  | clash x0 =>
   have h0 := hR
   exact ask_in G c_clash (hr.mono (by decide)) ⟨d, t, D, L, x0, rfl, hI, toldA ht rfl, h0, q⟩
  | covered x0 x1 x2 =>
   obtain ⟨h0, h1, h2, h3⟩ := hR
   exact ask_in G c_covered (hr.mono (by decide)) ⟨d, t, D, L, x0, x1, x2, rfl, hI, toldA ht rfl, toldA ht rfl, toldA ht rfl, h0, h1, h2, h3, q⟩
  | free x0 x1 x2 =>
   obtain ⟨h0, h1, h2⟩ := hR
   exact ask_in G c_free (hr.mono (by decide)) ⟨d, t, D, L, x0, x1, x2, rfl, hI, toldA ht rfl, toldA ht rfl, toldA ht rfl, h0, h1, h2, q⟩
  | prior x0 x1 =>
   obtain ⟨h0, h1⟩ := hR
   exact ask_in G c_prior (hr.mono (by decide)) ⟨d, t, D, L, x0, x1, rfl, hI, toldA ht rfl, toldA ht rfl, h0, h1, q⟩
  | following x0 x1 =>
   obtain ⟨h0, h1⟩ := hR
   exact ask_in G c_following (hr.mono (by decide)) ⟨d, t, D, L, x0, x1, rfl, hI, toldA ht rfl, toldA ht rfl, h0, h1, q⟩
  | busiest x0 x1 =>
   obtain ⟨h0, h1, h2⟩ := hR
   exact ask_in G c_busiest (hr.mono (by decide)) ⟨d, t, D, L, x0, x1, rfl, hI, toldA ht rfl, toldA ht rfl, h0, h1, h2, q⟩
  | path x0 =>
   have h0 := hR
   exact ask_in G c_path (hr.mono (by decide)) ⟨d, t, D, L, x0, rfl, hI, toldA ht rfl, h0, q⟩
  | shape =>
   exact ask_in G c_shape (hr.mono (by decide)) ⟨d, t, D, L, rfl, hI, q⟩
def sp_argument_names (K : PySem.W.Frag) : Sp := fun vs H Q _ => ∃ (p : Int) (xs : List Int) (c : Call), vs = [.int p] ∧ SM.Sp p xs c ∧ ∀ a, (∀ H', SqT K H' a ((names p).map V.str)) → Q (.ref a) H
theorem ok_argument_names {f aN aC aQ : Addr} {fd : FuncData} {ds : List (Int × Value)} (F : Fun K "argument_names" "argument_names" s_argument_names f fd) (T : TxD mg aN aC aQ) (G : GD K aN ds) (hN : ∀ p xs c, SM.Sp p xs c → ∃ a, (p, Value.ref a) ∈ ds ∧ ∀ H', SqT K H' a ((names p).map V.str)) : FnOk P w K mg base CX0 1 f fd ["call"] (sp_argument_names K) := by
 refine F.ok sc_argument_names (fun vs H Q E h => ?_) (fun cdv A outer s H vs Q E hr h => ?_)
 ·obtain ⟨p, xs, c, rfl, _⟩ := h
  rfl
 ·obtain ⟨p, xs, c, rfl, hS, q⟩ := h
  refine ⟨_, (pss_one (ps_ret (pe_gdget (pe_gref T.g_ARGUMENT_NAMES rfl) (pv 0) (fun _ _ => rfl)))), ?_⟩
  obtain ⟨a, m, ha⟩ := hN p xs c hS
  exact ⟨_, rfl, aN, ds, p, _, .ref a, rfl, rfl, G, m, rfl, q a ha⟩
def sp_is_change : Sp := fun vs H Q _ => ∃ p : Int, vs = [.int p] ∧ Q (.bl (decide (0 ≤ p ∧ p ≤ 6))) H
theorem ok_is_change {f aN aC aQ : Addr} {fd : FuncData} {ds : List (Int × Value)} (F : Fun K "is_change" "is_change" s_is_change f fd) (T : TxD mg aN aC aQ) (G : GD K aC ds) (hC : ds.map (·.1) = [0, 1, 2, 3, 4, 5, 6]) : FnOk P w K mg base CX0 1 f fd ["call"] sp_is_change := by
 refine F.ok sc_is_change (fun vs H Q E h => ?_) (fun cdv A outer s H vs Q E hr h => ?_)
 ·obtain ⟨p, rfl, _⟩ := h
  rfl
 ·obtain ⟨p, rfl, q⟩ := h
  refine ⟨_, (pss_one (ps_ret (pe_cmp (pc_gdin (pv 0) (pe_gref T.g_CHANGES rfl))))), ?_⟩
  refine ⟨_, rfl, aC, ds, p, rfl, rfl, G, ?_⟩
  have e : decide (p ∈ ds.map (·.1)) = decide (0 ≤ p ∧ p ≤ 6) := by
   rw [hC, Bool.eq_iff_iff, decide_eq_true_eq, decide_eq_true_eq]
   simp
   omega
  rw [e]
  exact q
theorem Tells.from_ {d : Addr} {D : List VE} {c : Call} (t : Tells K H d D c Q) (s : Same H H') : Tells K H' d D c Q := fun H2 l D' L' ans d1 e1 r1 k1 h1 z1 => t H2 l D' L' ans d1 e1 r1 ((Keep.of s).trans k1) h1 z1
def sp_answer_one (K : PySem.W.Frag) : Sp := fun vs H Q _ => ∃ (p : Int) (d t : Addr) (xs : List Int) (c : Call) (D : List VE) (L : List (Addr × REnt)), vs = [.int p, .ref d, .ref t] ∧ SM.Sp p xs c ∧ InD K H d D L ∧ H t = some (.dK (tKV (toldOf p xs))) ∧ d ≠ t ∧ Tells K H d D c Q
theorem ok_answer_one {f : Addr} {fd : FuncData} (F : Fun K "answer_one" "answer_one" s_answer_one f fd) (D_argument_refusal : Df P w K mg base 2 "argument_refusal" ["told"] sp_argument_refusal) (D_is_change : Df P w K mg base 1 "is_change" ["call"] sp_is_change) (D_change : Df P w K mg base 4 "change" ["call", "entries", "told"] (sp_ask K 0 6)) (D_question : Df P w K mg base 8 "question" ["call", "entries", "told"] (sp_ask K 7 23)) : FnOk P w K mg base CX0 9 f fd ["call", "entries", "told"] (sp_answer_one K) := by
 refine F.ok sc_answer_one (fun vs H Q E h => ?_) (fun cdv A outer s H vs Q E hr h => ?_)
 ·obtain ⟨p, d, t, xs, c, D, L, rfl, _⟩ := h
  rfl
 ·obtain ⟨p, d, t, xs, c, D, L, rfl, hS, hI, ht, hne, q⟩ := h
  refine ⟨_, (pss_cons (ps_set (i := 3) sc_answer_one.nd rfl (Or.inl rfl) (pe_fn D_argument_refusal (hr.mono (by decide)) rfl (pa_cons (pv 2) pa_nil)))
 (pss_cons (ps_if (pt_cmpR op_lt (pv 3) pe_int (nomark _))
 (pss_one (ps_ret (pe_lst (pa_cons (pv 3) pa_nil))))
 pss_nil)
 (pss_cons (ps_if (pt_truth (pe_fn D_is_change (hr.mono (by decide)) rfl (pa_cons (pv 0) pa_nil)) (fun _ => rfl))
 (pss_one (ps_ret (pe_fn D_change (hr.mono (by decide)) rfl (pa_cons (pv 0) (pa_cons (pv 1) (pa_cons (pv 2) pa_nil))))))
 pss_nil)
 (pss_one (ps_ret (pe_fn D_question (hr.mono (by decide)) rfl (pa_cons (pv 0) (pa_cons (pv 1) (pa_cons (pv 2) pa_nil))))))))), ?_⟩
  simp [start]
  refine ⟨t, _, rfl, ht, (told_nd hS).1, fun H1 s1 => ?_⟩
  have hp := sp_le hS
  simp
  rcases refused hS with ⟨e, hR⟩ | ⟨e, hD⟩
  ·rw [e]
   simp
   refine ⟨p, rfl, ?_⟩
   by_cases c6 : 0 ≤ p ∧ p ≤ 6
   ·rw [decide_eq_true c6]
    exact .inr ⟨rfl, p, d, t, xs, c, D, L, rfl, c6.1, c6.2, hS, hR, hI.same s1, s1 _ _ ht, hne, q.from_ s1⟩
   ·rw [decide_eq_false c6]
    exact .inl ⟨rfl, p, d, t, xs, c, D, L, rfl, by omega, hp.2, hS, hR, hI.same s1, s1 _ _ ht, hne, q.from_ s1⟩
  ·generalize refusal (toldOf p xs) = r at *
   rw [if_pos (by omega)]
   exact ⟨fits (by simp), fun l hl => q.just hI (hD D) (by simp) (s1.trans (Same.new hl)) upd_same⟩
end
end L2
end
section
namespace L2
open PySem PySem.Spec PyProof.Rows
open Vabiti (Call)
theorem merge_told {p : Int} {xs : List Int} {c : Call} (h : SM.Sp p xs c) : mergeK [] (((names p).zip (xs.map V.int)).map fun q => (Sum.inr q.1, q.2)) = tKV (toldOf p xs) := by
 cases h <;> rfl
theorem cut_ints {l r : List Int} {k : Nat} {p : Int} (hd : l.drop k = p :: r) {n : Nat} (hn : n ≤ r.length) : cutV (l.map V.int) (some ((k : Int) + 1)) (some ((k : Int) + 1 + (n : Int))) = (r.take n).map V.int := by
 have hl := congrArg List.length hd
 rw [List.length_drop, List.length_cons] at hl
 have hd2 : l.drop (k + 1) = r := by
  have := congrArg (List.drop 1) hd
  rw [List.drop_drop] at this
  simpa using this
 unfold cutV
 have e1 : ((k : Int) + 1) = ((k + 1 : Nat) : Int) := by omega
 have e2 : ((k : Int) + 1 + (n : Int)) = ((k + 1 + n : Nat) : Int) := by omega
 rw [e2, e1, HT.sIx_nat, HT.sIx_nat, List.length_map, Nat.min_eq_left (by omega), Nat.min_eq_left (by omega), ← List.map_drop, ← List.map_take, hd2]
 congr 2
 omega
section
variable {P : Program} {w : World} {K : PySem.W.Frag} {mg : Str → Option Value} {base : Heap} {H H' H2 : Hp} {Q : VK}
theorem Keep.seq {a : Addr} {xs : List V} (k : Keep H H') (h : SqL K H a xs) : SqL K H' a xs := by
 rcases h with (h | ⟨o, h⟩) | h
 ·exact .inl (.inl (k _ _ h (fun _ z => by cases z) fun _ _ _ z => by cases z))
 ·exact .inl (.inr ⟨o, k _ _ h (fun _ z => by cases z) fun _ _ _ z => by cases z⟩)
 ·exact .inr h
theorem Keep.put {H0 : Hp} {b : Addr} {o : HO} (k : Keep H0 H) (hb : H0 b = none) : Keep H0 (upd H b o) := fun c u e h1 h2 => by
 rw [upd_ne (ne_of_none e hb)]
 exact k c u e h1 h2
theorem Ents.off {d b : Addr} {L : List (Addr × REnt)} {u o : HO} (h : Ents K H d L) (hb : H b = some u) (h1 : ∀ kvs, u ≠ .dK kvs) (h2 : ∀ C dx fs, u ≠ .ins C dx fs) : Ents K (upd H b o) d L :=
 ⟨by rw [upd_ne (ne_of h.dict hb fun z => h1 _ z.symm)]; exact h.dict, fun x hx => (h.at_ x hx).updNe ((h.at_ x hx).ne hb h2), h.nda, h.ndn⟩
theorem InD.off {d b : Addr} {D : List VE} {L : List (Addr × REnt)} {u o : HO} (h : InD K H d D L) (hb : H b = some u) (h1 : ∀ kvs, u ≠ .dK kvs) (h2 : ∀ C dx fs, u ≠ .ins C dx fs) : InD K (upd H b o) d D L := ⟨h.ents.off hb h1 h2, h.rel, h.good, h.len⟩
section
variable {σ : St} {te : TE} {tl th : TO} {ta : TA}
theorem x_dictZ : tDictZ K ta σ H Q = ta σ H fun vs H1 => ∃ t l ks ys, vs = [.ref t, .ref l] ∧ SqT K H1 t (List.map V.str ks) ∧ SqL K H1 l ys ∧ ks.length = ys.length ∧ ∀ p, H1 p = none → Q (.ref p) (upd H1 p (.dK (mergeK [] ((ks.zip ys).map fun q => (Sum.inr q.1, q.2))))) := rfl
theorem x_sl {r : V → Option Int → Option Int → Hp → VK → Prop} : tSl r te tl th σ H Q = te σ H fun x H1 => tl σ H1 fun l H2 => th σ H2 fun u H3 => r x l u H3 Q := rfl
theorem x_part {R : Option Int → Hp → Prop} : tPart te σ H R = te σ H fun x H1 => ∃ i, x = .int i ∧ R (some i) H1 := rfl
end
def sp_answers (K : PySem.W.Frag) : Sp := fun vs H Q _ => ∃ (a : Addr) (l : List Int), vs = [.ref a] ∧ SqL K H a (l.map V.int) ∧ PyVabiti.answers_asked l = true ∧ ∀ H' r, H' r = some (.lst ((PyVabiti.answers l).map V.int)) → Q (.ref r) H'
def AnI (K : PySem.W.Frag) (H0 : Hp) (a d tb : Addr) (l : List Int) (m : Nat) (σ : St) (H' : Hp) : Prop := ∃ (k : Nat) (v4 v5 v6 v7 : Option V) (D : List VE) (L : List (Addr × REnt)) (s : Vabiti.State) (cs : SM.Calls) (f : Nat) (out : List Int),
 σ = [some (.ref a), some (.ref d), some (.ref tb), some (.int (k : Nat)), v4, v5, v6, v7] ∧ m = l.length - k ∧ k ≤ l.length ∧ InD K H' d D L ∧ SM.Rel D s ∧ H' tb = some (.lst (out.map V.int)) ∧ Keep H0 H' ∧
 PyFlat.calls PyVabiti.shape f (l.drop k) = some cs ∧ out ++ SM.due s (cs.map PyVabiti.whole) = PyVabiti.answers l ∧ out.length + 10001 * cs.length ≤ 4000400
theorem ok_answers {f : Addr} {fd : FuncData} (F : Fun K "answers" "answers" s_answers f fd) (T : Txt K mg) (D_argument_names : Df P w K mg base 1 "argument_names" ["call"] (sp_argument_names K)) (D_answer_one : Df P w K mg base 9 "answer_one" ["call", "entries", "told"] (sp_answer_one K)) : FnOk P w K mg base CX0 10 f fd ["calls"] (sp_answers K) := by
 refine F.ok sc_answers (fun vs H Q E h => ?_) (fun cdv A outer s H vs Q E hr h => ?_)
 ·obtain ⟨a, l, rfl, _⟩ := h
  rfl
 ·obtain ⟨a, l, rfl, ha, hask, q⟩ := h
  obtain ⟨cs0, hcs0, hcl0, hans⟩ := SM.answers_eq hask
  refine ⟨_, (pss_cons (ps_set (i := 1) sc_answers.nd rfl (Or.inl rfl) pe_dnewK)
 (pss_cons (ps_set (i := 2) sc_answers.nd rfl (Or.inl rfl) (pe_lst pa_nil))
 (pss_cons (ps_set (i := 3) sc_answers.nd rfl (Or.inl rfl) pe_int)
 (pss_cons (ps_while PassesOwn.never (pt_cmpR op_lt (pv 3) (pe_callB call_len_seq (by rfl) T.len PySem.boot_len (pa_cons (pv 0) pa_nil)) (nomark _))
 (pss_cons (ps_set (i := 4) sc_answers.nd rfl (Or.inl rfl) (pe_ix ix_list (pv 0) (pv 3) (fun _ _ => rfl)))
 (pss_cons (ps_set (i := 5) sc_answers.nd rfl (Or.inl rfl) (pe_fn D_argument_names (hr.mono (by decide)) rfl (pa_cons (pv 4) pa_nil)))
 (pss_cons (ps_set (i := 6) sc_answers.nd rfl (Or.inl rfl) (pe_op op_add (pe_op op_add (pv 3) pe_int) (pe_callB call_len_seq (by rfl) T.len PySem.boot_len (pa_cons (pv 5) pa_nil))))
 (pss_cons (ps_lock (ps_set (i := 7) sc_answers.nd rfl (Or.inl rfl) (pe_fn D_answer_one (hr.mono (by decide)) rfl (pa_cons (pv 4) (pa_cons (pv 1) (pa_cons (pe_dictZ rfl (by rfl) T.dict (by rfl) T.zip (pa_cons (pv 5) (pa_cons (pe_slice sl_list (pv 0) (po_some (pe_op op_add (pv 3) pe_int)) (po_some (pv 6))) pa_nil))) pa_nil))))))
 (pss_cons (ps_expr (pe_bm PySem.F.plainAttrs_list PySem.F.slot_list_append PySem.F.type_list_append mt_append (pv 2) (pa_cons (pe_callB call_len_seq (by rfl) T.len PySem.boot_len (pa_cons (pv 7) pa_nil)) pa_nil)))
 (pss_cons (ps_expr (pe_bm PySem.F.plainAttrs_list PySem.F.slot_list_extend PySem.F.type_list_extend mt_extend (pv 2) (pa_cons (pv 7) pa_nil)))
 (pss_one (ps_set (i := 3) sc_answers.nd rfl (Or.inl rfl) (pv 6))))))))))
 (pss_one (ps_ret (pv 2))))))), ?_⟩
  simp [start]
  intro d hd tb htb
  have hd0 : H d = none := hd
  have htb0 : H tb = none := by
   by_cases z : tb = d
   ·rw [z]; exact hd0
   ·rw [upd_ne z] at htb; exact htb
  have ndt : d ≠ tb := fun z => by rw [← z, upd_same] at htb; cases htb
  have E0' : Ents K (upd (upd H d (.dK [])) tb (.lst [])) d [] := ⟨by rw [upd_ne ndt, upd_same]; rfl, fun x hx => (by cases hx), List.nodup_nil, List.nodup_nil⟩
  refine ⟨AnI K H a d tb l, ⟨_, 0, none, none, none, none, [], [], Vabiti.start, cs0, l.length, [], rfl, rfl, Nat.zero_le _, ⟨E0', rfl, (fun e he => by cases he), Nat.zero_le _⟩, SM.Rel.start, upd_same, Keep.of ((Same.new hd).trans (Same.new htb)), by rw [List.drop_zero]; exact hcs0, by rw [List.nil_append, hans], by show 0 + 10001 * cs0.length ≤ 4000400; omega⟩, ?_⟩
  rintro m σ H' ⟨k, v4, v5, v6, v7, D, L, st, cs, f0, out, rfl, rfl, hk, hI, hRel, ho, hKp, hcs, hout, hz⟩
  simp
  refine ⟨_, .inl (hKp.seq ha), ?_⟩
  simp
  by_cases c : k < l.length
  ·rw [if_pos c]
   refine ⟨LessI (AnI K H a d tb l) _, fun σ' H'' h => h, ?_⟩
   cases hdr : l.drop k with
   | nil =>
    have := congrArg List.length hdr
    rw [List.length_drop] at this
    simp at this
    omega
   | cons p r =>
    rw [hdr] at hcs
    obtain ⟨n, f1, cs', hsh, hn, rfl, hcs'⟩ := SM.calls_next hcs
    have hxl : (r.take n).length = n := by rw [List.length_take]; omega
    obtain ⟨cl, hS⟩ := SM.spelled hsh hxl
    obtain ⟨_, hnl, hn4⟩ := told_nd hS
    have hrl := congrArg List.length hdr
    rw [List.length_drop, List.length_cons] at hrl
    have hpk : (l.map V.int)[k]? = some (.int p) := by
     rw [List.getElem?_map]
     have : l[k]? = some p := by
      have h1 := List.getElem?_drop (xs := l) (i := k) (j := 0)
      rw [hdr] at h1
      simpa using h1.symm
     rw [this]
     rfl
    refine ⟨a, _, k, _, rfl, rfl, hKp.seq ha, atI_nat hpk, p, _, cl, rfl, hS, fun an han => ?_⟩
    simp
    refine ⟨_, .inr (han _), ?_⟩
    simp
    refine ⟨tb, _, ho, trivial, fun od => ?_⟩
    simp [x_sl, x_part]
    have hKf : Keep H (upd H' tb (.frz od (.lst (out.map V.int)))) := hKp.put htb0
    rw [x_dictZ]
    simp [x_sl, x_part]
    refine ⟨a, _, rfl, hKf.seq ha, fun sl hsl => ?_⟩
    refine ⟨an, sl, ⟨rfl, rfl⟩, names p, han _, (r.take n).map V.int, SqL.of (by rw [upd_same, hnl, hxl, cut_ints hdr hn]), by rw [List.length_map]; exact hnl, fun t ht => ?_⟩
    rw [merge_told hS]
    have hIf : InD K (upd H' tb (.frz od (.lst (out.map V.int)))) d D L := hI.off ho (fun _ z => by cases z) fun _ _ _ z => by cases z
    have hI1 := (hIf.same (Same.new (o := .lst (cutV (l.map V.int) (some ((k : Int) + 1)) (some ((k : Int) + 1 + ((names p).length : Nat))))) hsl))
    have hne : d ≠ t := ne_of_none hI1.ents.dict ht
    have s12 := (Same.new (o := .lst (cutV (l.map V.int) (some ((k : Int) + 1)) (some ((k : Int) + 1 + ((names p).length : Nat))))) hsl).trans (Same.new (o := .dK (tKV (toldOf p (r.take n)))) ht)
    refine ⟨p, d, t, r.take n, cl, D, L, rfl, hS, hI1.same (Same.new ht), upd_same, hne, fun H3 r3 D' L' ans hD hE hrel3 hK3 hl3 hz3 => ?_⟩
    have hf3 : H3 tb = some (.frz od (.lst (out.map V.int))) := hK3 _ _ (s12 _ _ upd_same) (fun _ z => by cases z) fun _ _ _ z => by cases z
    have n3 : r3 ≠ tb := ne_of hl3 hf3 fun z => by cases z
    obtain ⟨s', R', edue⟩ := SM.due_step hS hD hRel (cs'.map PyVabiti.whole)
    have hzc : out.length + 10001 * (cs'.length + 1) ≤ 4000400 := hz
    have hsz : (4000400 : Nat) < sizeLine := by decide
    refine ⟨hf3, .inl ⟨rfl, _, SqL.of upd_same⟩, r3, rfl, ans.map V.int, .inl (SqL.of (by rw [upd_ne n3]; exact hl3)), tb, _, _, rfl, rfl, upd_same, by rw [List.length_map]; omega, .inl ⟨rfl, _, SqL.of upd_same⟩, tb, r3, _, _, rfl, rfl, upd_same, by rw [upd_ne n3, upd_ne n3]; exact hl3, by simp only [List.length_append, List.length_map, List.length_cons, List.length_nil]; omega, ?_⟩
    rw [upd_upd, upd_upd]
    have hE3 := hE.off (o := .lst (out.map V.int ++ [V.int ((ans.map V.int).length : Nat)] ++ ans.map V.int)) hf3 (fun _ z => by cases z) fun _ _ _ z => by cases z
    refine ⟨l.length - (k + 1 + n), by omega, k + 1 + n, some (.int p), some (.ref an), some (.int ((k : Int) + 1 + ((names p).length : Nat))), some (.ref r3), D', L', s', cs', f1, out ++ ((ans.length : Int) :: ans), ?_, rfl, by omega, ⟨hE3, hrel3, R'.good, R'.len⟩, R', ?_, ?_, ?_, ?_, ?_⟩
    ·rw [hnl, hxl]
     have : ((k + 1 + n : Nat) : Int) = (k : Int) + 1 + (n : Int) := by omega
     rw [this]
    ·rw [upd_same, List.length_map]
     simp
    ·refine Keep.put (fun b u eb h1 h2 => hK3 b u (s12 _ _ (hKf b u eb h1 h2)) h1 h2) htb0
    ·have : l.drop (k + 1 + n) = r.drop n := by
      have hd2 : l.drop (k + 1) = r := by
       have := congrArg (List.drop 1) hdr
       rw [List.drop_drop] at this
       simpa using this
      rw [← hd2, List.drop_drop]
     rw [this]
     exact hcs'
    ·rw [← hout, List.map_cons, edue, List.append_assoc]
    ·rw [List.length_append, List.length_cons]
     omega
  ·rw [if_neg c]
   have ek : l.drop k = [] := List.drop_eq_nil_of_le (by omega)
   rw [ek] at hcs
   rw [SM.calls_nil hcs] at hout
   rw [List.map_nil, SM.due_nil, List.append_nil] at hout
   rw [hout] at ho
   exact q H' tb ho
end
end L2
end
section
namespace L2
open PySem PySem.Spec PyProof.Rows
open Vabiti (Call)
def DI (K : PySem.W.Frag) (x qual : Str) (st : Stmt) : Prop := ∃ (f : Addr) (fd : FuncData), PySem.W.nsIn K mainGlobals x = some (some (.ref f)) ∧ Fun K x qual st f fd
theorem di_mk {K : PySem.W.Frag} {x qual : Str} {st : Stmt} {f : Addr} {oc : Value} {od an : Option Addr} {osl : Array (Option Value)} {kV doc pm cdv ct : Value} (a : PySem.W.nsIn K mainGlobals x = some (some (.ref f)))
  (l : K.lookup f = some ⟨oc, od, .func (PySem.W.fnOf x qual (defArgs st) (defBody st) (defScope st) .none kV doc pm an cdv ct), osl⟩) (c : PySem.W.codeIn K cdv qual = true) (k : PySem.W.keepIn K (.ref f) = true) : DI K x qual st := ⟨f, _, a, fun_mk l c k⟩
section
variable {P : Program} {w : World} {K : PySem.W.Frag} {mg : Str → Option Value} {base h : Heap} {x qual : Str} {st : Stmt} {k : Nat} {ps : List Str} {sp : Sp} {p : Int} {ds : List (Int × Value)}
theorem DI.df (D : DI K x qual st) (X : K.In h) (G : h.Ns mainGlobals mg) (ok : ∀ {f : Addr} {fd : FuncData}, Fun K x qual st f fd → FnOk P w K mg base CX0 k f fd ps sp)
  (hb : ∀ (kV doc pm : Value) (an : Option Addr) (cdv ct : Value) (us : List Value), us.length = ps.length → bindArgs (PySem.W.fnOf x qual (defArgs st) (defBody st) (defScope st) .none kV doc pm an cdv ct) ⟨us, []⟩ = pure (ps.zip us) := by first | exact (fun _ _ _ _ _ _ us hl => match us, hl with | [_], _ => rfl) | exact (fun _ _ _ _ _ _ us hl => match us, hl with | [_, _], _ => rfl) | exact (fun _ _ _ _ _ _ us hl => match us, hl with | [_, _, _], _ => rfl)) : Df P w K mg base k x ps sp := by
 obtain ⟨f, fd, a, F⟩ := D
 exact ⟨f, fd, ok F, PySem.W.mg_of X G a, F.kp, F.binds hb⟩
theorem Df.cds (D : Df P w K mg base k x ["entries", "told"] sp) (hm : ∃ v, mg x = some v ∧ (p, v) ∈ ds) : Cds P w K mg base ds k p sp := by
 obtain ⟨f, fd, F, m, kp, b⟩ := D.ex
 obtain ⟨v, e, hv⟩ := hm
 rw [m] at e
 cases e
 exact ⟨f, fd, hv, F, kp, b⟩
end
def CI (K : PySem.W.Frag) (x qual : Str) (st : Stmt) (at_ : List Str) : Prop := ∃ (C f : Addr) (fd : FuncData), PySem.W.nsIn K mainGlobals x = some (some (.ref C)) ∧ Cls K C ∧ Mk K C f ∧ Fun K "__init__" qual st f fd ∧ ∀ m ∈ at_, NoAttr K C m
theorem ci_mk {K : PySem.W.Frag} {x qual : Str} {st : Stmt} {at_ : List Str} {C f : Addr} {oc : Value} {od an : Option Addr} {osl : Array (Option Value)} {kV doc pm cdv ct : Value} (aC : PySem.W.nsIn K mainGlobals x = some (some (.ref C)))
  (a : PySem.W.findIn K (.ref C) "__init__" = some (some (.ref f))) (i : PySem.W.isFn K (.ref f) = true) (l : K.lookup f = some ⟨oc, od, .func (PySem.W.fnOf "__init__" qual (defArgs st) (defBody st) (defScope st) .none kV doc pm an cdv ct), osl⟩) (c : PySem.W.codeIn K cdv qual = true) (k : PySem.W.keepIn K (.ref f) = true)
  (pg : PySem.W.plainGet K C Str.empty = true) (hd : PySem.W.hasDictIn K C = true) (po : PySem.W.plainOver K C = true) (sa : PySem.W.findIn K (.ref C) "__setattr__" = some (some (.builtin "object.__setattr__"))) (mk : PySem.W.makesIn K C = true) (kc : PySem.W.keepIn K (.ref C) = true)
  (hn : ∀ m ∈ at_, PySem.W.findIn K (.ref C) m = some none) : CI K x qual st at_ := ⟨C, f, _, aC, ⟨pg, hd, po, sa⟩, ⟨mk, a, i, kc⟩, fun_mk l c k, hn⟩
theorem no_cons {K : PySem.W.Frag} {C : Addr} {m : Str} {at_ : List Str} (h : PySem.W.findIn K (.ref C) m = some none) (t : ∀ m ∈ at_, PySem.W.findIn K (.ref C) m = some none) : ∀ n ∈ m :: at_, PySem.W.findIn K (.ref C) n = some none := fun n hn => (List.mem_cons.mp hn).elim (fun e => e ▸ h) (t n)
theorem no_nil {K : PySem.W.Frag} {C : Addr} : ∀ n ∈ ([] : List Str), PySem.W.findIn K (.ref C) n = some none := fun n hn => by cases hn
def NI (K : PySem.W.Frag) (x : Str) (n : Int) : Prop := ∃ t, PySem.W.nsIn K mainGlobals x = some (some (.int n t))
theorem sqt_of {K : PySem.W.Frag} {a : Addr} {od : Option Addr} {its : Array Value} {n : Nat} {sl : Array (Option Value)} {xs : List Str} (l : K.lookup a = some ⟨.type "tuple", od, .seq its n, sl⟩) (hz : its.size ≤ sizeLine) (r : Vals (xs.map V.str) its.toList) : ∀ H', SqT K H' a (xs.map V.str) := fun H' => .inr ⟨_, its, n, l, rfl, rfl, hz, r⟩
def DDCHANGES (K : PySem.W.Frag) : Prop := ∃ (a : Addr) (ds : List (Int × Value)), PySem.W.nsIn K mainGlobals "CHANGES" = some (some (.ref a)) ∧ GD K a ds ∧ ds.map (·.1) = [0, 1, 2, 3, 4, 5, 6] ∧ (∃ v, PySem.W.nsIn K mainGlobals "add" = some (some v) ∧ (0, v) ∈ ds) ∧ (∃ v, PySem.W.nsIn K mainGlobals "drop" = some (some v) ∧ (1, v) ∈ ds) ∧ (∃ v, PySem.W.nsIn K mainGlobals "move" = some (some v) ∧ (2, v) ∈ ds) ∧ (∃ v, PySem.W.nsIn K mainGlobals "rekey" = some (some v) ∧ (3, v) ∈ ds) ∧ (∃ v, PySem.W.nsIn K mainGlobals "close" = some (some v) ∧ (4, v) ∈ ds) ∧ (∃ v, PySem.W.nsIn K mainGlobals "purge" = some (some v) ∧ (5, v) ∈ ds) ∧ (∃ v, PySem.W.nsIn K mainGlobals "shift" = some (some v) ∧ (6, v) ∈ ds)
theorem ddCHANGES_mk {K : PySem.W.Frag} {a : Addr} {v0 v1 v2 v3 v4 v5 v6 : Value} {t0 t1 t2 t3 t4 t5 t6 : Tok} {ep : Nat} (s : PySem.W.nsIn K mainGlobals "CHANGES" = some (some (.ref a))) (ns : (a == sysModules) = false) (l : K.lookup a = some ⟨.type "dict", none, .dict #[⟨0, .int 0 t0, v0⟩, ⟨1, .int 1 t1, v1⟩, ⟨2, .int 2 t2, v2⟩, ⟨3, .int 3 t3, v3⟩, ⟨4, .int 4 t4, v4⟩, ⟨5, .int 5 t5, v5⟩, ⟨6, .int 6 t6, v6⟩] ep, #[]⟩) (n0 : PySem.W.nsIn K mainGlobals "add" = some (some v0)) (n1 : PySem.W.nsIn K mainGlobals "drop" = some (some v1)) (n2 : PySem.W.nsIn K mainGlobals "move" = some (some v2)) (n3 : PySem.W.nsIn K mainGlobals "rekey" = some (some v3)) (n4 : PySem.W.nsIn K mainGlobals "close" = some (some v4)) (n5 : PySem.W.nsIn K mainGlobals "purge" = some (some v5)) (n6 : PySem.W.nsIn K mainGlobals "shift" = some (some v6)) : DDCHANGES K :=
 ⟨a, [(0, v0), (1, v1), (2, v2), (3, v3), (4, v4), (5, v5), (6, v6)], s, ⟨ns, by show 7 ≤ sizeLine; decide, by show ([0, 1, 2, 3, 4, 5, 6] : List Int).Nodup; decide, _, _, ep, l, ⟨rfl, rfl, rfl⟩, rfl, .cons ⟨⟨_, rfl⟩, rfl, rfl⟩ (.cons ⟨⟨_, rfl⟩, rfl, rfl⟩ (.cons ⟨⟨_, rfl⟩, rfl, rfl⟩ (.cons ⟨⟨_, rfl⟩, rfl, rfl⟩ (.cons ⟨⟨_, rfl⟩, rfl, rfl⟩ (.cons ⟨⟨_, rfl⟩, rfl, rfl⟩ (.cons ⟨⟨_, rfl⟩, rfl, rfl⟩ (.nil)))))))⟩, rfl, ⟨v0, n0, by simp⟩, ⟨v1, n1, by simp⟩, ⟨v2, n2, by simp⟩, ⟨v3, n3, by simp⟩, ⟨v4, n4, by simp⟩, ⟨v5, n5, by simp⟩, ⟨v6, n6, by simp⟩⟩
def DDQUESTIONS (K : PySem.W.Frag) : Prop := ∃ (a : Addr) (ds : List (Int × Value)), PySem.W.nsIn K mainGlobals "QUESTIONS" = some (some (.ref a)) ∧ GD K a ds ∧ ds.map (·.1) = [7, 8, 9, 10, 11, 12, 13, 14, 15, 16, 17, 18, 19, 20, 21, 22, 23] ∧ (∃ v, PySem.W.nsIn K mainGlobals "get" = some (some v) ∧ (7, v) ∈ ds) ∧ (∃ v, PySem.W.nsIn K mainGlobals "count" = some (some v) ∧ (8, v) ∈ ds) ∧ (∃ v, PySem.W.nsIn K mainGlobals "stab" = some (some v) ∧ (9, v) ∈ ds) ∧ (∃ v, PySem.W.nsIn K mainGlobals "find" = some (some v) ∧ (10, v) ∈ ds) ∧ (∃ v, PySem.W.nsIn K mainGlobals "inside" = some (some v) ∧ (11, v) ∈ ds) ∧ (∃ v, PySem.W.nsIn K mainGlobals "around" = some (some v) ∧ (12, v) ∈ ds) ∧ (∃ v, PySem.W.nsIn K mainGlobals "place" = some (some v) ∧ (13, v) ∈ ds) ∧ (∃ v, PySem.W.nsIn K mainGlobals "nth" = some (some v) ∧ (14, v) ∈ ds) ∧ (∃ v, PySem.W.nsIn K mainGlobals "held" = some (some v) ∧ (15, v) ∈ ds) ∧ (∃ v, PySem.W.nsIn K mainGlobals "clash" = some (some v) ∧ (16, v) ∈ ds) ∧ (∃ v, PySem.W.nsIn K mainGlobals "covered" = some (some v) ∧ (17, v) ∈ ds) ∧ (∃ v, PySem.W.nsIn K mainGlobals "free" = some (some v) ∧ (18, v) ∈ ds) ∧ (∃ v, PySem.W.nsIn K mainGlobals "prior" = some (some v) ∧ (19, v) ∈ ds) ∧ (∃ v, PySem.W.nsIn K mainGlobals "following" = some (some v) ∧ (20, v) ∈ ds) ∧ (∃ v, PySem.W.nsIn K mainGlobals "busiest" = some (some v) ∧ (21, v) ∈ ds) ∧ (∃ v, PySem.W.nsIn K mainGlobals "path" = some (some v) ∧ (22, v) ∈ ds) ∧ (∃ v, PySem.W.nsIn K mainGlobals "shape" = some (some v) ∧ (23, v) ∈ ds)
theorem ddQUESTIONS_mk {K : PySem.W.Frag} {a : Addr} {v0 v1 v2 v3 v4 v5 v6 v7 v8 v9 v10 v11 v12 v13 v14 v15 v16 : Value} {t0 t1 t2 t3 t4 t5 t6 t7 t8 t9 t10 t11 t12 t13 t14 t15 t16 : Tok} {ep : Nat} (s : PySem.W.nsIn K mainGlobals "QUESTIONS" = some (some (.ref a))) (ns : (a == sysModules) = false) (l : K.lookup a = some ⟨.type "dict", none, .dict #[⟨7, .int 7 t0, v0⟩, ⟨8, .int 8 t1, v1⟩, ⟨9, .int 9 t2, v2⟩, ⟨10, .int 10 t3, v3⟩, ⟨11, .int 11 t4, v4⟩, ⟨12, .int 12 t5, v5⟩, ⟨13, .int 13 t6, v6⟩, ⟨14, .int 14 t7, v7⟩, ⟨15, .int 15 t8, v8⟩, ⟨16, .int 16 t9, v9⟩, ⟨17, .int 17 t10, v10⟩, ⟨18, .int 18 t11, v11⟩, ⟨19, .int 19 t12, v12⟩, ⟨20, .int 20 t13, v13⟩, ⟨21, .int 21 t14, v14⟩, ⟨22, .int 22 t15, v15⟩, ⟨23, .int 23 t16, v16⟩] ep, #[]⟩) (n0 : PySem.W.nsIn K mainGlobals "get" = some (some v0)) (n1 : PySem.W.nsIn K mainGlobals "count" = some (some v1)) (n2 : PySem.W.nsIn K mainGlobals "stab" = some (some v2)) (n3 : PySem.W.nsIn K mainGlobals "find" = some (some v3)) (n4 : PySem.W.nsIn K mainGlobals "inside" = some (some v4)) (n5 : PySem.W.nsIn K mainGlobals "around" = some (some v5)) (n6 : PySem.W.nsIn K mainGlobals "place" = some (some v6)) (n7 : PySem.W.nsIn K mainGlobals "nth" = some (some v7)) (n8 : PySem.W.nsIn K mainGlobals "held" = some (some v8)) (n9 : PySem.W.nsIn K mainGlobals "clash" = some (some v9)) (n10 : PySem.W.nsIn K mainGlobals "covered" = some (some v10)) (n11 : PySem.W.nsIn K mainGlobals "free" = some (some v11)) (n12 : PySem.W.nsIn K mainGlobals "prior" = some (some v12)) (n13 : PySem.W.nsIn K mainGlobals "following" = some (some v13)) (n14 : PySem.W.nsIn K mainGlobals "busiest" = some (some v14)) (n15 : PySem.W.nsIn K mainGlobals "path" = some (some v15)) (n16 : PySem.W.nsIn K mainGlobals "shape" = some (some v16)) : DDQUESTIONS K :=
 ⟨a, [(7, v0), (8, v1), (9, v2), (10, v3), (11, v4), (12, v5), (13, v6), (14, v7), (15, v8), (16, v9), (17, v10), (18, v11), (19, v12), (20, v13), (21, v14), (22, v15), (23, v16)], s, ⟨ns, by show 17 ≤ sizeLine; decide, by show ([7, 8, 9, 10, 11, 12, 13, 14, 15, 16, 17, 18, 19, 20, 21, 22, 23] : List Int).Nodup; decide, _, _, ep, l, ⟨rfl, rfl, rfl⟩, rfl, .cons ⟨⟨_, rfl⟩, rfl, rfl⟩ (.cons ⟨⟨_, rfl⟩, rfl, rfl⟩ (.cons ⟨⟨_, rfl⟩, rfl, rfl⟩ (.cons ⟨⟨_, rfl⟩, rfl, rfl⟩ (.cons ⟨⟨_, rfl⟩, rfl, rfl⟩ (.cons ⟨⟨_, rfl⟩, rfl, rfl⟩ (.cons ⟨⟨_, rfl⟩, rfl, rfl⟩ (.cons ⟨⟨_, rfl⟩, rfl, rfl⟩ (.cons ⟨⟨_, rfl⟩, rfl, rfl⟩ (.cons ⟨⟨_, rfl⟩, rfl, rfl⟩ (.cons ⟨⟨_, rfl⟩, rfl, rfl⟩ (.cons ⟨⟨_, rfl⟩, rfl, rfl⟩ (.cons ⟨⟨_, rfl⟩, rfl, rfl⟩ (.cons ⟨⟨_, rfl⟩, rfl, rfl⟩ (.cons ⟨⟨_, rfl⟩, rfl, rfl⟩ (.cons ⟨⟨_, rfl⟩, rfl, rfl⟩ (.cons ⟨⟨_, rfl⟩, rfl, rfl⟩ (.nil)))))))))))))))))⟩, rfl, ⟨v0, n0, by simp⟩, ⟨v1, n1, by simp⟩, ⟨v2, n2, by simp⟩, ⟨v3, n3, by simp⟩, ⟨v4, n4, by simp⟩, ⟨v5, n5, by simp⟩, ⟨v6, n6, by simp⟩, ⟨v7, n7, by simp⟩, ⟨v8, n8, by simp⟩, ⟨v9, n9, by simp⟩, ⟨v10, n10, by simp⟩, ⟨v11, n11, by simp⟩, ⟨v12, n12, by simp⟩, ⟨v13, n13, by simp⟩, ⟨v14, n14, by simp⟩, ⟨v15, n15, by simp⟩, ⟨v16, n16, by simp⟩⟩
def DDN (K : PySem.W.Frag) : Prop := ∃ (a : Addr) (ds : List (Int × Value)), PySem.W.nsIn K mainGlobals "ARGUMENT_NAMES" = some (some (.ref a)) ∧ GD K a ds ∧ ∀ p xs c, SM.Sp p xs c → ∃ b, (p, Value.ref b) ∈ ds ∧ ∀ H', SqT K H' b ((names p).map V.str)
theorem ddN_mk {K : PySem.W.Frag} {a v0 v1 v2 v3 v4 v5 v6 v7 v8 v9 v10 v11 v12 v13 v14 v15 v16 v17 v18 v19 v20 v21 v22 v23 : Addr} {t0 t1 t2 t3 t4 t5 t6 t7 t8 t9 t10 t11 t12 t13 t14 t15 t16 t17 t18 t19 t20 t21 t22 t23 u0_0 u0_1 u0_2 u0_3 u1_0 u2_0 u2_1 u2_2 u3_0 u3_1 u4_0 u4_1 u4_2 u5_0 u6_0 u6_1 u6_2 u7_0 u9_0 u10_0 u10_1 u10_2 u10_3 u11_0 u11_1 u11_2 u11_3 u12_0 u12_1 u12_2 u12_3 u13_0 u14_0 u15_0 u16_0 u17_0 u17_1 u17_2 u18_0 u18_1 u18_2 u19_0 u19_1 u20_0 u20_1 u21_0 u21_1 u22_0 : Tok} {ep m0 m1 m2 m3 m4 m5 m6 m7 m8 m9 m10 m11 m12 m13 m14 m15 m16 m17 m18 m19 m20 m21 m22 m23 : Nat} {od0 od1 od2 od3 od4 od5 od6 od7 od8 od9 od10 od11 od12 od13 od14 od15 od16 od17 od18 od19 od20 od21 od22 od23 : Option Addr} {sl0 sl1 sl2 sl3 sl4 sl5 sl6 sl7 sl8 sl9 sl10 sl11 sl12 sl13 sl14 sl15 sl16 sl17 sl18 sl19 sl20 sl21 sl22 sl23 : Array (Option Value)} (s : PySem.W.nsIn K mainGlobals "ARGUMENT_NAMES" = some (some (.ref a))) (ns : (a == sysModules) = false) (l : K.lookup a = some ⟨.type "dict", none, .dict #[⟨0, .int 0 t0, .ref v0⟩, ⟨1, .int 1 t1, .ref v1⟩, ⟨2, .int 2 t2, .ref v2⟩, ⟨3, .int 3 t3, .ref v3⟩, ⟨4, .int 4 t4, .ref v4⟩, ⟨5, .int 5 t5, .ref v5⟩, ⟨6, .int 6 t6, .ref v6⟩, ⟨7, .int 7 t7, .ref v7⟩, ⟨8, .int 8 t8, .ref v8⟩, ⟨9, .int 9 t9, .ref v9⟩, ⟨10, .int 10 t10, .ref v10⟩, ⟨11, .int 11 t11, .ref v11⟩, ⟨12, .int 12 t12, .ref v12⟩, ⟨13, .int 13 t13, .ref v13⟩, ⟨14, .int 14 t14, .ref v14⟩, ⟨15, .int 15 t15, .ref v15⟩, ⟨16, .int 16 t16, .ref v16⟩, ⟨17, .int 17 t17, .ref v17⟩, ⟨18, .int 18 t18, .ref v18⟩, ⟨19, .int 19 t19, .ref v19⟩, ⟨20, .int 20 t20, .ref v20⟩, ⟨21, .int 21 t21, .ref v21⟩, ⟨22, .int 22 t22, .ref v22⟩, ⟨23, .int 23 t23, .ref v23⟩] ep, #[]⟩)
  (l0 : K.lookup v0 = some ⟨.type "tuple", od0, .seq #[.str "id" u0_0, .str "key" u0_1, .str "a" u0_2, .str "b" u0_3] m0, sl0⟩) (l1 : K.lookup v1 = some ⟨.type "tuple", od1, .seq #[.str "id" u1_0] m1, sl1⟩) (l2 : K.lookup v2 = some ⟨.type "tuple", od2, .seq #[.str "id" u2_0, .str "a" u2_1, .str "b" u2_2] m2, sl2⟩) (l3 : K.lookup v3 = some ⟨.type "tuple", od3, .seq #[.str "id" u3_0, .str "key" u3_1] m3, sl3⟩) (l4 : K.lookup v4 = some ⟨.type "tuple", od4, .seq #[.str "j" u4_0, .str "k" u4_1, .str "v" u4_2] m4, sl4⟩) (l5 : K.lookup v5 = some ⟨.type "tuple", od5, .seq #[.str "v" u5_0] m5, sl5⟩) (l6 : K.lookup v6 = some ⟨.type "tuple", od6, .seq #[.str "j" u6_0, .str "k" u6_1, .str "n" u6_2] m6, sl6⟩) (l7 : K.lookup v7 = some ⟨.type "tuple", od7, .seq #[.str "id" u7_0] m7, sl7⟩) (l8 : K.lookup v8 = some ⟨.type "tuple", od8, .seq #[] m8, sl8⟩) (l9 : K.lookup v9 = some ⟨.type "tuple", od9, .seq #[.str "v" u9_0] m9, sl9⟩) (l10 : K.lookup v10 = some ⟨.type "tuple", od10, .seq #[.str "j" u10_0, .str "k" u10_1, .str "a" u10_2, .str "b" u10_3] m10, sl10⟩) (l11 : K.lookup v11 = some ⟨.type "tuple", od11, .seq #[.str "j" u11_0, .str "k" u11_1, .str "a" u11_2, .str "b" u11_3] m11, sl11⟩) (l12 : K.lookup v12 = some ⟨.type "tuple", od12, .seq #[.str "j" u12_0, .str "k" u12_1, .str "a" u12_2, .str "b" u12_3] m12, sl12⟩) (l13 : K.lookup v13 = some ⟨.type "tuple", od13, .seq #[.str "id" u13_0] m13, sl13⟩) (l14 : K.lookup v14 = some ⟨.type "tuple", od14, .seq #[.str "i" u14_0] m14, sl14⟩) (l15 : K.lookup v15 = some ⟨.type "tuple", od15, .seq #[.str "key" u15_0] m15, sl15⟩) (l16 : K.lookup v16 = some ⟨.type "tuple", od16, .seq #[.str "key" u16_0] m16, sl16⟩) (l17 : K.lookup v17 = some ⟨.type "tuple", od17, .seq #[.str "key" u17_0, .str "a" u17_1, .str "b" u17_2] m17, sl17⟩) (l18 : K.lookup v18 = some ⟨.type "tuple", od18, .seq #[.str "key" u18_0, .str "a" u18_1, .str "length" u18_2] m18, sl18⟩) (l19 : K.lookup v19 = some ⟨.type "tuple", od19, .seq #[.str "key" u19_0, .str "v" u19_1] m19, sl19⟩) (l20 : K.lookup v20 = some ⟨.type "tuple", od20, .seq #[.str "key" u20_0, .str "v" u20_1] m20, sl20⟩) (l21 : K.lookup v21 = some ⟨.type "tuple", od21, .seq #[.str "a" u21_0, .str "b" u21_1] m21, sl21⟩) (l22 : K.lookup v22 = some ⟨.type "tuple", od22, .seq #[.str "id" u22_0] m22, sl22⟩) (l23 : K.lookup v23 = some ⟨.type "tuple", od23, .seq #[] m23, sl23⟩) : DDN K := by
 refine ⟨a, [(0, .ref v0), (1, .ref v1), (2, .ref v2), (3, .ref v3), (4, .ref v4), (5, .ref v5), (6, .ref v6), (7, .ref v7), (8, .ref v8), (9, .ref v9), (10, .ref v10), (11, .ref v11), (12, .ref v12), (13, .ref v13), (14, .ref v14), (15, .ref v15), (16, .ref v16), (17, .ref v17), (18, .ref v18), (19, .ref v19), (20, .ref v20), (21, .ref v21), (22, .ref v22), (23, .ref v23)], s, ⟨ns, by show 24 ≤ sizeLine; decide, by show ([0, 1, 2, 3, 4, 5, 6, 7, 8, 9, 10, 11, 12, 13, 14, 15, 16, 17, 18, 19, 20, 21, 22, 23] : List Int).Nodup; decide, _, _, ep, l, ⟨rfl, rfl, rfl⟩, rfl, .cons ⟨⟨_, rfl⟩, rfl, rfl⟩ (.cons ⟨⟨_, rfl⟩, rfl, rfl⟩ (.cons ⟨⟨_, rfl⟩, rfl, rfl⟩ (.cons ⟨⟨_, rfl⟩, rfl, rfl⟩ (.cons ⟨⟨_, rfl⟩, rfl, rfl⟩ (.cons ⟨⟨_, rfl⟩, rfl, rfl⟩ (.cons ⟨⟨_, rfl⟩, rfl, rfl⟩ (.cons ⟨⟨_, rfl⟩, rfl, rfl⟩ (.cons ⟨⟨_, rfl⟩, rfl, rfl⟩ (.cons ⟨⟨_, rfl⟩, rfl, rfl⟩ (.cons ⟨⟨_, rfl⟩, rfl, rfl⟩ (.cons ⟨⟨_, rfl⟩, rfl, rfl⟩ (.cons ⟨⟨_, rfl⟩, rfl, rfl⟩ (.cons ⟨⟨_, rfl⟩, rfl, rfl⟩ (.cons ⟨⟨_, rfl⟩, rfl, rfl⟩ (.cons ⟨⟨_, rfl⟩, rfl, rfl⟩ (.cons ⟨⟨_, rfl⟩, rfl, rfl⟩ (.cons ⟨⟨_, rfl⟩, rfl, rfl⟩ (.cons ⟨⟨_, rfl⟩, rfl, rfl⟩ (.cons ⟨⟨_, rfl⟩, rfl, rfl⟩ (.cons ⟨⟨_, rfl⟩, rfl, rfl⟩ (.cons ⟨⟨_, rfl⟩, rfl, rfl⟩ (.cons ⟨⟨_, rfl⟩, rfl, rfl⟩ (.cons ⟨⟨_, rfl⟩, rfl, rfl⟩ (.nil))))))))))))))))))))))))⟩, fun p xs c hS => ?_⟩
 cases hS with
 | add x0 x1 x2 x3 => exact ⟨v0, by simp, sqt_of (xs := ["id", "key", "a", "b"]) l0 (by show 4 ≤ sizeLine; decide) (.cons ⟨_, rfl⟩ (.cons ⟨_, rfl⟩ (.cons ⟨_, rfl⟩ (.cons ⟨_, rfl⟩ (.nil)))))⟩
 | drop x0 => exact ⟨v1, by simp, sqt_of (xs := ["id"]) l1 (by show 1 ≤ sizeLine; decide) (.cons ⟨_, rfl⟩ (.nil))⟩
 | move x0 x1 x2 => exact ⟨v2, by simp, sqt_of (xs := ["id", "a", "b"]) l2 (by show 3 ≤ sizeLine; decide) (.cons ⟨_, rfl⟩ (.cons ⟨_, rfl⟩ (.cons ⟨_, rfl⟩ (.nil))))⟩
 | rekey x0 x1 => exact ⟨v3, by simp, sqt_of (xs := ["id", "key"]) l3 (by show 2 ≤ sizeLine; decide) (.cons ⟨_, rfl⟩ (.cons ⟨_, rfl⟩ (.nil)))⟩
 | close x0 x1 x2 => exact ⟨v4, by simp, sqt_of (xs := ["j", "k", "v"]) l4 (by show 3 ≤ sizeLine; decide) (.cons ⟨_, rfl⟩ (.cons ⟨_, rfl⟩ (.cons ⟨_, rfl⟩ (.nil))))⟩
 | purge x0 => exact ⟨v5, by simp, sqt_of (xs := ["v"]) l5 (by show 1 ≤ sizeLine; decide) (.cons ⟨_, rfl⟩ (.nil))⟩
 | shift x0 x1 x2 => exact ⟨v6, by simp, sqt_of (xs := ["j", "k", "n"]) l6 (by show 3 ≤ sizeLine; decide) (.cons ⟨_, rfl⟩ (.cons ⟨_, rfl⟩ (.cons ⟨_, rfl⟩ (.nil))))⟩
 | get x0 => exact ⟨v7, by simp, sqt_of (xs := ["id"]) l7 (by show 1 ≤ sizeLine; decide) (.cons ⟨_, rfl⟩ (.nil))⟩
 | count => exact ⟨v8, by simp, sqt_of (xs := []) l8 (by show 0 ≤ sizeLine; decide) (.nil)⟩
 | stab x0 => exact ⟨v9, by simp, sqt_of (xs := ["v"]) l9 (by show 1 ≤ sizeLine; decide) (.cons ⟨_, rfl⟩ (.nil))⟩
 | find x0 x1 x2 x3 => exact ⟨v10, by simp, sqt_of (xs := ["j", "k", "a", "b"]) l10 (by show 4 ≤ sizeLine; decide) (.cons ⟨_, rfl⟩ (.cons ⟨_, rfl⟩ (.cons ⟨_, rfl⟩ (.cons ⟨_, rfl⟩ (.nil)))))⟩
 | inside x0 x1 x2 x3 => exact ⟨v11, by simp, sqt_of (xs := ["j", "k", "a", "b"]) l11 (by show 4 ≤ sizeLine; decide) (.cons ⟨_, rfl⟩ (.cons ⟨_, rfl⟩ (.cons ⟨_, rfl⟩ (.cons ⟨_, rfl⟩ (.nil)))))⟩
 | around x0 x1 x2 x3 => exact ⟨v12, by simp, sqt_of (xs := ["j", "k", "a", "b"]) l12 (by show 4 ≤ sizeLine; decide) (.cons ⟨_, rfl⟩ (.cons ⟨_, rfl⟩ (.cons ⟨_, rfl⟩ (.cons ⟨_, rfl⟩ (.nil)))))⟩
 | place x0 => exact ⟨v13, by simp, sqt_of (xs := ["id"]) l13 (by show 1 ≤ sizeLine; decide) (.cons ⟨_, rfl⟩ (.nil))⟩
 | nth x0 => exact ⟨v14, by simp, sqt_of (xs := ["i"]) l14 (by show 1 ≤ sizeLine; decide) (.cons ⟨_, rfl⟩ (.nil))⟩
 | held x0 => exact ⟨v15, by simp, sqt_of (xs := ["key"]) l15 (by show 1 ≤ sizeLine; decide) (.cons ⟨_, rfl⟩ (.nil))⟩
 | clash x0 => exact ⟨v16, by simp, sqt_of (xs := ["key"]) l16 (by show 1 ≤ sizeLine; decide) (.cons ⟨_, rfl⟩ (.nil))⟩
 | covered x0 x1 x2 => exact ⟨v17, by simp, sqt_of (xs := ["key", "a", "b"]) l17 (by show 3 ≤ sizeLine; decide) (.cons ⟨_, rfl⟩ (.cons ⟨_, rfl⟩ (.cons ⟨_, rfl⟩ (.nil))))⟩
 | free x0 x1 x2 => exact ⟨v18, by simp, sqt_of (xs := ["key", "a", "length"]) l18 (by show 3 ≤ sizeLine; decide) (.cons ⟨_, rfl⟩ (.cons ⟨_, rfl⟩ (.cons ⟨_, rfl⟩ (.nil))))⟩
 | prior x0 x1 => exact ⟨v19, by simp, sqt_of (xs := ["key", "v"]) l19 (by show 2 ≤ sizeLine; decide) (.cons ⟨_, rfl⟩ (.cons ⟨_, rfl⟩ (.nil)))⟩
 | following x0 x1 => exact ⟨v20, by simp, sqt_of (xs := ["key", "v"]) l20 (by show 2 ≤ sizeLine; decide) (.cons ⟨_, rfl⟩ (.cons ⟨_, rfl⟩ (.nil)))⟩
 | busiest x0 x1 => exact ⟨v21, by simp, sqt_of (xs := ["a", "b"]) l21 (by show 2 ≤ sizeLine; decide) (.cons ⟨_, rfl⟩ (.cons ⟨_, rfl⟩ (.nil)))⟩
 | path x0 => exact ⟨v22, by simp, sqt_of (xs := ["id"]) l22 (by show 1 ≤ sizeLine; decide) (.cons ⟨_, rfl⟩ (.nil))⟩
 | shape => exact ⟨v23, by simp, sqt_of (xs := []) l23 (by show 0 ≤ sizeLine; decide) (.nil)⟩
theorem all_mk {P : Program} {w : World} {K : PySem.W.Frag} {h : Heap} {mg : Str → Option Value} {fa : Addr} (X : K.In h) (G : h.Ns mainGlobals mg) (hfa : mg "answers" = some (.ref fa))
  (n_GREATEST_NUMBER : NI K "GREATEST_NUMBER" 999999) (n_LEAST_KEY : NI K "LEAST_KEY" (-999999999999)) (n_GREATEST_KEY : NI K "GREATEST_KEY" 999999999999) (n_LAST_MOMENT : NI K "LAST_MOMENT" 1000000000) (n_MOST_ENTRIES : NI K "MOST_ENTRIES" 200) (n_NEVER : NI K "NEVER" 1000000000000000000) (n_NEVER_AS_TOLD : NI K "NEVER_AS_TOLD" (-1)) (n_OUT_OF_RANGE : NI K "OUT_OF_RANGE" (-1)) (n_EMPTY_STRETCH : NI K "EMPTY_STRETCH" (-2)) (n_NO_SUCH_ENTRY : NI K "NO_SUCH_ENTRY" (-3)) (n_NUMBER_TAKEN : NI K "NUMBER_TAKEN" (-4)) (n_BEYOND_LAST_MOMENT : NI K "BEYOND_LAST_MOMENT" (-5)) (n_FULL : NI K "FULL" (-6)) (b_len : PySem.W.nsIn K mainGlobals "len" = some none) (b_min : PySem.W.nsIn K mainGlobals "min" = some none) (b_max : PySem.W.nsIn K mainGlobals "max" = some none) (b_sorted : PySem.W.nsIn K mainGlobals "sorted" = some none) (b_list : PySem.W.nsIn K mainGlobals "list" = some none) (b_dict : PySem.W.nsIn K mainGlobals "dict" = some none) (b_zip : PySem.W.nsIn K mainGlobals "zip" = some none) (k_Entry : CI K "Entry" "Entry.__init__" s_Entry_init ["number", "key", "first", "end"]) (k_Node : CI K "Node" "Node.__init__" s_Node_init ["entry", "weight", "left", "right", "least_first", "greatest_end"]) (k_Window : CI K "Window" "Window.__init__" s_Window_init ["low", "high", "first", "end"]) (hCH : DDCHANGES K) (hQU : DDQUESTIONS K) (hNA : DDN K) (d_end_from_told : DI K "end_from_told" "end_from_told" s_end_from_told) (d_depths : DI K "depths" "depths" s_depths) (d_levels : DI K "levels" "levels" s_levels) (d_stretches_held : DI K "stretches_held" "stretches_held" s_stretches_held) (d_first_meeting : DI K "first_meeting" "first_meeting" s_first_meeting) (d_greatest_level : DI K "greatest_level" "greatest_level" s_greatest_level) (d_window_told : DI K "window_told" "window_told" s_window_told) (d_counted : DI K "counted" "counted" s_counted) (d_with_count : DI K "with_count" "with_count" s_with_count) (d_count : DI K "count" "count" s_count) (d_busiest : DI K "busiest" "busiest" s_busiest) (d_in_range : DI K "in_range" "in_range" s_in_range) (d_argument_refusal : DI K "argument_refusal" "argument_refusal" s_argument_refusal) (d_argument_names : DI K "argument_names" "argument_names" s_argument_names) (d_is_change : DI K "is_change" "is_change" s_is_change) (d_weight : DI K "weight" "weight" s_weight) (d_end_as_told : DI K "end_as_told" "end_as_told" s_end_as_told) (d_entry_as_told : DI K "entry_as_told" "entry_as_told" s_entry_as_told) (d_entry_or_none : DI K "entry_or_none" "entry_or_none" s_entry_or_none) (d_get : DI K "get" "get" s_get) (d_rank : DI K "rank" "rank" s_rank) (d_way_down : DI K "way_down" "way_down" s_way_down) (d_place : DI K "place" "place" s_place) (d_last_bound : DI K "last_bound" "last_bound" s_last_bound) (d_hits : DI K "hits" "hits" s_hits) (d_passed_over : DI K "passed_over" "passed_over" s_passed_over) (d_search : DI K "search" "search" s_search) (d_with_keys : DI K "with_keys" "with_keys" s_with_keys) (d_with_key : DI K "with_key" "with_key" s_with_key) (d_clash : DI K "clash" "clash" s_clash) (d_held : DI K "held" "held" s_held) (d_covered : DI K "covered" "covered" s_covered) (d_free : DI K "free" "free" s_free) (d_in_order : DI K "in_order" "in_order" s_in_order) (d_nth : DI K "nth" "nth" s_nth) (d_following : DI K "following" "following" s_following) (d_prior : DI K "prior" "prior" s_prior) (d_remove_all : DI K "remove_all" "remove_all" s_remove_all) (d_add : DI K "add" "add" s_add) (d_drop : DI K "drop" "drop" s_drop) (d_move : DI K "move" "move" s_move) (d_rekey : DI K "rekey" "rekey" s_rekey) (d_purge : DI K "purge" "purge" s_purge) (d_close : DI K "close" "close" s_close) (d_shift : DI K "shift" "shift" s_shift) (d_change : DI K "change" "change" s_change) (d_close_last : DI K "close_last" "close_last" s_close_last) (d_close_lighter : DI K "close_lighter" "close_lighter" s_close_lighter) (d_tree_of : DI K "tree_of" "tree_of" s_tree_of) (d_whole_tree : DI K "whole_tree" "whole_tree" s_whole_tree) (d_stab : DI K "stab" "stab" s_stab) (d_find : DI K "find" "find" s_find) (d_inside : DI K "inside" "inside" s_inside) (d_around : DI K "around" "around" s_around) (d_path : DI K "path" "path" s_path) (d_shape : DI K "shape" "shape" s_shape) (d_question : DI K "question" "question" s_question) (d_answer_one : DI K "answer_one" "answer_one" s_answer_one) (d_answers : DI K "answers" "answers" s_answers) :
  ∃ fd : FuncData, (∀ (s : Shared) (us : List Value), us.length = (["calls"] : List Str).length → BindsTo s fd ⟨us, []⟩ ((["calls"] : List Str).zip us)) ∧ ∀ base : Heap, K.In base → base.Ns mainGlobals mg → FnOk P w K mg base CX0 10 fa fd ["calls"] (sp_answers K) := by
 have gi : ∀ {x : Str} {n : Int}, NI K x n → GInt mg x n := fun hn => let ⟨t, e⟩ := hn; ⟨t, PySem.W.mg_of X G e⟩
 have T : Txt K mg := ⟨gi n_GREATEST_NUMBER, gi n_LEAST_KEY, gi n_GREATEST_KEY, gi n_LAST_MOMENT, gi n_MOST_ENTRIES, gi n_NEVER, gi n_NEVER_AS_TOLD, gi n_OUT_OF_RANGE, gi n_EMPTY_STRETCH, gi n_NO_SUCH_ENTRY, gi n_NUMBER_TAKEN, gi n_BEYOND_LAST_MOMENT, gi n_FULL, PySem.W.mg_none_of X G b_len, PySem.W.mg_none_of X G b_min, PySem.W.mg_none_of X G b_max, PySem.W.mg_none_of X G b_sorted, PySem.W.mg_none_of X G b_list, PySem.W.mg_none_of X G b_dict, PySem.W.mg_none_of X G b_zip⟩
 obtain ⟨aC, dC, sC, GC, kC, e0, e1, e2, e3, e4, e5, e6⟩ := hCH
 obtain ⟨aQ, dQ, sQ, GQ, kQ, e7, e8, e9, e10, e11, e12, e13, e14, e15, e16, e17, e18, e19, e20, e21, e22, e23⟩ := hQU
 obtain ⟨aN, dN, sN, GN, kN⟩ := hNA
 have TD : TxD mg aN aC aQ := ⟨PySem.W.mg_of X G sN, PySem.W.mg_of X G sC, PySem.W.mg_of X G sQ⟩
 have ex : ∀ {x : Str} {p : Int} {ds : List (Int × Value)}, (∃ v, PySem.W.nsIn K mainGlobals x = some (some v) ∧ (p, v) ∈ ds) → ∃ v, mg x = some v ∧ (p, v) ∈ ds := fun hv => let ⟨v, a, b⟩ := hv; ⟨v, PySem.W.mg_of X G a, b⟩
 obtain ⟨CEntry, fEntry, fdEntry, sEntry, clEntry, mkEntry, FEntry, noEntry⟩ := k_Entry
 have hEntry : ClE K CEntry := ⟨clEntry, noEntry _ (by simp), noEntry _ (by simp), noEntry _ (by simp), noEntry _ (by simp)⟩
 obtain ⟨CNode, fNode, fdNode, sNode, clNode, mkNode, FNode, noNode⟩ := k_Node
 have hNode : ClN K CNode := ⟨clNode, noNode _ (by simp), noNode _ (by simp), noNode _ (by simp), noNode _ (by simp), noNode _ (by simp), noNode _ (by simp)⟩
 obtain ⟨CWindow, fWindow, fdWindow, sWindow, clWindow, mkWindow, FWindow, noWindow⟩ := k_Window
 have hWindow : ClW K CWindow := ⟨clWindow, noWindow _ (by simp), noWindow _ (by simp), noWindow _ (by simp), noWindow _ (by simp)⟩
 obtain ⟨fA, fdA, aA, FA⟩ := id d_answers
 have e := hfa.symm.trans (PySem.W.mg_of X G aA)
 cases e
 refine ⟨fdA, fun s us hu => ?_, fun base hK hG => ?_⟩
 ·obtain ⟨oc, od, kV, doc, pm, an, cdv, ct, osl, rfl, lk, hcd⟩ := FA.ex
  exact match us, hu with | [_], _ => .of_eq rfl
 ·have D_end_from_told : Df P w K mg base 1 "end_from_told" ["told"] sp_end_from_told := d_end_from_told.df X G fun F => ok_end_from_told F T
  have D_depths : Df P w K mg base 1 "depths" ["tree"] (sp_depths K) := d_depths.df X G fun F => ok_depths F T
  have D_levels : Df P w K mg base 1 "levels" ["entries"] (sp_levels K) := d_levels.df X G fun F => ok_levels F T
  have D_stretches_held : Df P w K mg base 2 "stretches_held" ["entries"] (sp_stretches_held K) := d_stretches_held.df X G fun F => ok_stretches_held F T D_levels
  have D_first_meeting : Df P w K mg base 2 "first_meeting" ["entries"] (sp_first_meeting K) := d_first_meeting.df X G fun F => ok_first_meeting F T D_levels
  have D_greatest_level : Df P w K mg base 2 "greatest_level" ["entries", "first", "end"] (sp_greatest_level K) := d_greatest_level.df X G fun F => ok_greatest_level F T D_levels
  have M_Window : Mc P w K mg base 1 "Window" CWindow ["self", "low", "high", "first", "end"] (sp_Window_init K) := ⟨fWindow, fdWindow, mkWindow, ok_Window_init FWindow, PySem.W.mg_of X G sWindow, FWindow.binds (fun _ _ _ _ _ _ us hl => match us, hl with | [_, _, _, _, _], _ => rfl)⟩
  have D_window_told : Df P w K mg base 3 "window_told" ["told"] (sp_window_told K) := d_window_told.df X G fun F => ok_window_told F hWindow M_Window D_end_from_told
  have D_counted : Df P w K mg base 1 "counted" ["entries", "looked_at"] (sp_counted K) := d_counted.df X G fun F => ok_counted F T
  have D_with_count : Df P w K mg base 1 "with_count" ["numbers"] sp_with_count := d_with_count.df X G fun F => ok_with_count F T
  have D_count : Df P w K mg base 1 "count" ["entries", "told"] (sp_count K) := d_count.df X G fun F => ok_count F T
  have D_busiest : Df P w K mg base 3 "busiest" ["entries", "told"] (sp_busiest K) := d_busiest.df X G fun F => ok_busiest F T D_greatest_level D_end_from_told
  have D_in_range : Df P w K mg base 1 "in_range" ["name", "number"] sp_in_range := d_in_range.df X G fun F => ok_in_range F T
  have D_argument_refusal : Df P w K mg base 2 "argument_refusal" ["told"] sp_argument_refusal := d_argument_refusal.df X G fun F => ok_argument_refusal F T D_in_range D_end_from_told
  have D_argument_names : Df P w K mg base 1 "argument_names" ["call"] (sp_argument_names K) := d_argument_names.df X G fun F => ok_argument_names F TD GN kN
  have D_is_change : Df P w K mg base 1 "is_change" ["call"] sp_is_change := d_is_change.df X G fun F => ok_is_change F TD GC kC
  have D_weight : Df P w K mg base 1 "weight" ["number"] sp_weight := d_weight.df X G fun F => ok_weight F T
  have D_end_as_told : Df P w K mg base 1 "end_as_told" ["end"] sp_end_as_told := d_end_as_told.df X G fun F => ok_end_as_told F T
  have D_entry_as_told : Df P w K mg base 2 "entry_as_told" ["entry"] (sp_entry_as_told K) := d_entry_as_told.df X G fun F => ok_entry_as_told F D_end_as_told
  have D_entry_or_none : Df P w K mg base 3 "entry_or_none" ["entry"] (sp_entry_or_none K) := d_entry_or_none.df X G fun F => ok_entry_or_none F D_entry_as_told
  have D_get : Df P w K mg base 3 "get" ["entries", "told"] (sp_get K) := d_get.df X G fun F => ok_get F T D_entry_as_told
  have D_rank : Df P w K mg base 1 "rank" ["entry"] (sp_rank K) := d_rank.df X G fun F => ok_rank F
  have D_way_down : Df P w K mg base 2 "way_down" ["tree", "entry"] (sp_way_down K) := d_way_down.df X G fun F => ok_way_down F T D_rank
  have D_place : Df P w K mg base 2 "place" ["entries", "told"] (sp_place K) := d_place.df X G fun F => ok_place F T D_rank
  have D_last_bound : Df P w K mg base 1 "last_bound" ["entry"] (sp_last_bound K) := d_last_bound.df X G fun F => ok_last_bound F T
  have D_hits : Df P w K mg base 1 "hits" ["entry", "window"] (sp_hits K) := d_hits.df X G fun F => ok_hits F
  have D_passed_over : Df P w K mg base 1 "passed_over" ["tree", "window"] (sp_passed_over K) := d_passed_over.df X G fun F => ok_passed_over F
  have D_search : Df P w K mg base 2 "search" ["tree", "window"] (sp_search K) := d_search.df X G fun F => ok_search F T D_hits D_passed_over
  have D_with_keys : Df P w K mg base 1 "with_keys" ["entries", "low", "high"] (sp_with_keys K) := d_with_keys.df X G fun F => ok_with_keys F
  have D_with_key : Df P w K mg base 2 "with_key" ["entries", "told"] (sp_with_key K) := d_with_key.df X G fun F => ok_with_key F D_with_keys
  have D_clash : Df P w K mg base 3 "clash" ["entries", "told"] (sp_clash K) := d_clash.df X G fun F => ok_clash F T D_with_key D_first_meeting
  have D_held : Df P w K mg base 3 "held" ["entries", "told"] (sp_held K) := d_held.df X G fun F => ok_held F T D_with_key D_stretches_held D_with_count
  have D_covered : Df P w K mg base 3 "covered" ["entries", "told"] (sp_covered K) := d_covered.df X G fun F => ok_covered F T D_with_key D_stretches_held D_end_from_told
  have D_free : Df P w K mg base 3 "free" ["entries", "told"] (sp_free K) := d_free.df X G fun F => ok_free F T D_with_key D_stretches_held
  have D_in_order : Df P w K mg base 4 "in_order" ["entries"] (sp_in_order K) := d_in_order.df X G fun F => ok_in_order F T D_rank
  have D_nth : Df P w K mg base 5 "nth" ["entries", "told"] (sp_nth K) := d_nth.df X G fun F => ok_nth F T D_in_order D_entry_as_told
  have D_following : Df P w K mg base 5 "following" ["entries", "told"] (sp_kv K .following) := d_following.df X G fun F => ok_following F T D_with_key D_in_order D_entry_or_none
  have D_prior : Df P w K mg base 5 "prior" ["entries", "told"] (sp_kv K .prior) := d_prior.df X G fun F => ok_prior F T D_with_key D_in_order D_entry_or_none
  have D_remove_all : Df P w K mg base 1 "remove_all" ["entries", "gone"] (sp_remove_all K) := d_remove_all.df X G fun F => ok_remove_all F
  have M_Entry : Mc P w K mg base 1 "Entry" CEntry ["self", "number", "key", "first", "end"] (sp_Entry_init K) := ⟨fEntry, fdEntry, mkEntry, ok_Entry_init FEntry, PySem.W.mg_of X G sEntry, FEntry.binds (fun _ _ _ _ _ _ us hl => match us, hl with | [_, _, _, _, _], _ => rfl)⟩
  have D_add : Df P w K mg base 3 "add" ["entries", "told"] (sp_add K) := d_add.df X G fun F => ok_add F T hEntry M_Entry D_end_from_told
  have D_drop : Df P w K mg base 1 "drop" ["entries", "told"] (sp_drop K) := d_drop.df X G fun F => ok_drop F T
  have D_move : Df P w K mg base 2 "move" ["entries", "told"] (sp_move K) := d_move.df X G fun F => ok_move F T D_end_as_told D_end_from_told
  have D_rekey : Df P w K mg base 1 "rekey" ["entries", "told"] (sp_rekey K) := d_rekey.df X G fun F => ok_rekey F T
  have D_purge : Df P w K mg base 2 "purge" ["entries", "told"] (sp_purge K) := d_purge.df X G fun F => ok_purge F T D_remove_all
  have D_close : Df P w K mg base 2 "close" ["entries", "told"] (sp_close K) := d_close.df X G fun F => ok_close F T D_remove_all D_with_keys
  have D_shift : Df P w K mg base 2 "shift" ["entries", "told"] (sp_shift K) := d_shift.df X G fun F => ok_shift F T D_with_keys D_last_bound
  have D_change : Df P w K mg base 4 "change" ["call", "entries", "told"] (sp_ask K 0 6) := d_change.df X G fun F => ok_change (a := 0) F TD GC (D_add.cds (ex e0)) (D_drop.cds (ex e1)) (D_move.cds (ex e2)) (D_rekey.cds (ex e3)) (D_close.cds (ex e4)) (D_purge.cds (ex e5)) (D_shift.cds (ex e6))
  have D_close_last : Df P w K mg base 1 "close_last" ["open_nodes"] (sp_close_last K) := d_close_last.df X G fun F => ok_close_last F T
  have D_close_lighter : Df P w K mg base 2 "close_lighter" ["open_nodes", "bound"] (sp_close_lighter K) := d_close_lighter.df X G fun F => ok_close_lighter F T D_close_last
  have M_Node : Mc P w K mg base 2 "Node" CNode ["self", "entry"] (sp_Node_init K) := ⟨fNode, fdNode, mkNode, ok_Node_init FNode D_weight, PySem.W.mg_of X G sNode, FNode.binds (fun _ _ _ _ _ _ us hl => match us, hl with | [_, _], _ => rfl)⟩
  have D_tree_of : Df P w K mg base 5 "tree_of" ["entries"] (sp_tree_of K) := d_tree_of.df X G fun F => ok_tree_of F T hNode M_Node D_close_last D_close_lighter D_in_order
  have D_whole_tree : Df P w K mg base 6 "whole_tree" ["entries"] (sp_whole_tree K) := d_whole_tree.df X G fun F => ok_whole_tree F T D_tree_of
  have D_stab : Df P w K mg base 7 "stab" ["entries", "told"] (sp_stab K) := d_stab.df X G fun F => ok_stab F T hWindow M_Window D_whole_tree D_search D_counted
  have D_find : Df P w K mg base 7 "find" ["entries", "told"] (sp_sw K .find) := d_find.df X G fun F => ok_find F T D_window_told D_whole_tree D_search D_counted
  have D_inside : Df P w K mg base 7 "inside" ["entries", "told"] (sp_sw K .inside) := d_inside.df X G fun F => ok_inside F T D_window_told D_whole_tree D_search D_counted
  have D_around : Df P w K mg base 7 "around" ["entries", "told"] (sp_sw K .around) := d_around.df X G fun F => ok_around F T D_window_told D_whole_tree D_search D_counted
  have D_path : Df P w K mg base 7 "path" ["entries", "told"] (sp_path K) := d_path.df X G fun F => ok_path F T D_whole_tree D_way_down D_with_count
  have D_shape : Df P w K mg base 7 "shape" ["entries", "told"] (sp_shape K) := d_shape.df X G fun F => ok_shape F T D_whole_tree D_depths
  have D_question : Df P w K mg base 8 "question" ["call", "entries", "told"] (sp_ask K 7 23) := d_question.df X G fun F => ok_question (a := 0) F TD GQ (D_get.cds (ex e7)) (D_count.cds (ex e8)) (D_stab.cds (ex e9)) (D_find.cds (ex e10)) (D_inside.cds (ex e11)) (D_around.cds (ex e12)) (D_place.cds (ex e13)) (D_nth.cds (ex e14)) (D_held.cds (ex e15)) (D_clash.cds (ex e16)) (D_covered.cds (ex e17)) (D_free.cds (ex e18)) (D_prior.cds (ex e19)) (D_following.cds (ex e20)) (D_busiest.cds (ex e21)) (D_path.cds (ex e22)) (D_shape.cds (ex e23))
  have D_answer_one : Df P w K mg base 9 "answer_one" ["call", "entries", "told"] (sp_answer_one K) := d_answer_one.df X G fun F => ok_answer_one F D_argument_refusal D_is_change D_change D_question
  exact ok_answers FA T D_argument_names D_answer_one
end L2
end
namespace PySem.W.Fast
def tw1626255070427194949:=0
def tw12042611564835652747:=0
def tw15504239436411034288:=0
def tw7340942269274198110:=0
def tw2828786899012888255:=0
def tw18363907973649486710:=0
def tw4275966565995184855:=0
def tw10585825736242843316:=0
def tw18181924308112697443:=0
def tw15016486115558501808:=0
def tw3369287565712617306:=0
def tw2574348399040708456:=0
def tw4490592851520621036:=0
def tw17833594937535977281:=0
def tw572563210730967141:=0
def tw8384680397676079496:=0
def tw10696801829098184728:=0
def tw18132628021626759102:=0
def tw10912655117237468811:=0
def tw5985185597977445740:=0
def tw1089433832922371662:=0
def tw3954996424557489307:=0
def tw7118323279558642724:=0
def tw9060594780970609568:=0
def tw9232758967477045821:=0
def tw8256945560399847966:=0
def tw8399630075379483495:=0
def tw4556451908918175335:=0
def tw17084240642238762538:=0
def tw4327153921157906983:=0
def tw13099870974210692174:=0
def tw12274331902715795270:=0
def tw12438859104739344969:=0
def tw14725453298076066278:=0
def tw7766746768421459020:=0
def tw1700827171433898623:=0
def tw14128192497484409334:=0
def tw90992181773325911:=0
def tw17424424887982645367:=0
def tw3121897821946142362:=0
def tw3272525220446264057:=0
def tw15012994717931660383:=0
def tw12435557791211247374:=0
def tw15135252767069129166:=0
def tw3112466572724861409:=0
def tw15138852078989432659:=0
def tw14867444778352472898:=0
def tw6077151318654768454:=0
def tw1556279051336889318:=0
def tw14748961931553880723:=0
def tw14107736389321666030:=0
def tw1747623638400811572:=0
def tw6687538261578298101:=0
def tw2241337649439864624:=0
def tw18185548191285980298:=0
def tw304195175775328250:=0
def tw8253072082992339435:=0
def tw10049008687879037197:=0
def tw6133679256370809143:=0
def tw7392075371635781930:=0
def tw16039415462148906596:=0
def tw6376644949610076526:=0
def tw14492830359782421358:=0
def tw10887812021839258091:=0
def tw6124301496350097535:=0
def tw13274698666071891831:=0
def tw18338389754793607139:=0
def tw9404717388214077941:=0
def tw2192633676097059020:=0
def tw5364763780073663692:=0
def tw17969782161179570399:=0
def tw10571368466022609177:=0
def tw8824312533263599393:=0
def tw2067654908603984301:=0
def tw7521275721316073940:=0
def tw13720395949395263491:=0
def tw4516920370722933403:=0
def tw7468637311083402996:=0
def tw10906164195520647360:=0
def tw12899601894142270061:=0
def tw1782675957287943940:=0
def tw11315977592749667739:=0
def tw6927261982992085281:=0
def tw14194635180435479295:=0
def tw6124387994367331325:=0
def tw2529724437227813150:=0
def tw16171222319781511954:=0
def tw16765798761204026609:=0
end PySem.W.Fast
open PySem PySem.W PyProof.Rows
set_option maxRecDepth 100000 in
set_option maxHeartbeats 0 in
theorem PySem.Challenge.cw_stretchindex_s01_answers_holds : PySem.Challenge.rw_stretchindex_s01_answers.Holds := by
  w_on; k_headS; (case hw => exact ⟨[.list [.int 8]], by decide +kernel, by decide +kernel⟩)
  k_fillS
  refine L2.walk_specK (r := PySem.Challenge.rw_stretchindex_s01_answers) (k := 10) (CX := L2.CX0) (ps := ["calls"]) (sp := L2.sp_answers) (by decide +kernel) rfl rfl ⟨rfl, by decide, by decide⟩ (fun w h Y => PySem.W.kIn_of Y) ?F ?S (fun _ _ _ _ z => z)
  case F =>
    intro w mg fa h Y KX G hmg
    refine' L2.all_mk KX G hmg ?_ ?_ ?_ ?_ ?_ ?_ ?_ ?_ ?_ ?_ ?_ ?_ ?_ ?_ ?_ ?_ ?_ ?_ ?_ ?_ ?k_Entry ?k_Node ?k_Window ?hCH ?hQU ?hNA ?_ ?_ ?_ ?_ ?_ ?_ ?_ ?_ ?_ ?_ ?_ ?_ ?_ ?_ ?_ ?_ ?_ ?_ ?_ ?_ ?_ ?_ ?_ ?_ ?_ ?_ ?_ ?_ ?_ ?_ ?_ ?_ ?_ ?_ ?_ ?_ ?_ ?_ ?_ ?_ ?_ ?_ ?_ ?_ ?_ ?_ ?_ ?_ ?_ ?_ ?_ ?_ ?_ ?_ ?_ ?_ ?_ ?_ ?_
    (case k_Entry => exact L2.ci_mk (by k_is) (by k_is) (by k_is) (by k_is) (by k_is) (by k_is) (by k_is) (by k_is) (by k_is) (by k_is) (by k_is) (by k_is) (L2.no_cons (by k_is) (L2.no_cons (by k_is) (L2.no_cons (by k_is) (L2.no_cons (by k_is) (L2.no_nil))))))
    (case k_Node => exact L2.ci_mk (by k_is) (by k_is) (by k_is) (by k_is) (by k_is) (by k_is) (by k_is) (by k_is) (by k_is) (by k_is) (by k_is) (by k_is) (L2.no_cons (by k_is) (L2.no_cons (by k_is) (L2.no_cons (by k_is) (L2.no_cons (by k_is) (L2.no_cons (by k_is) (L2.no_cons (by k_is) (L2.no_nil))))))))
    (case k_Window => exact L2.ci_mk (by k_is) (by k_is) (by k_is) (by k_is) (by k_is) (by k_is) (by k_is) (by k_is) (by k_is) (by k_is) (by k_is) (by k_is) (L2.no_cons (by k_is) (L2.no_cons (by k_is) (L2.no_cons (by k_is) (L2.no_cons (by k_is) (L2.no_nil))))))
    (case hCH => exact L2.ddCHANGES_mk (by k_is) (by decide) (by k_is) (by k_is) (by k_is) (by k_is) (by k_is) (by k_is) (by k_is) (by k_is))
    (case hQU => exact L2.ddQUESTIONS_mk (by k_is) (by decide) (by k_is) (by k_is) (by k_is) (by k_is) (by k_is) (by k_is) (by k_is) (by k_is) (by k_is) (by k_is) (by k_is) (by k_is) (by k_is) (by k_is) (by k_is) (by k_is) (by k_is) (by k_is))
    (case hNA => exact L2.ddN_mk (by k_is) (by decide) (by k_is) (by k_is) (by k_is) (by k_is) (by k_is) (by k_is) (by k_is) (by k_is) (by k_is) (by k_is) (by k_is) (by k_is) (by k_is) (by k_is) (by k_is) (by k_is) (by k_is) (by k_is) (by k_is) (by k_is) (by k_is) (by k_is) (by k_is) (by k_is) (by k_is))
    all_goals first | k_is | exact ⟨_, by k_is⟩ | exact L2.di_mk (by k_is) (by k_is) (by k_is) (by k_is)
  case S =>
    intro K H xs a hO hwi hask hx
    cases hx with
    | cons h1 h2 =>
      cases h2
      cases h1 with
      | lst hs ha =>
        have e := L2.ints_dw a.1 _ ha
        subst e
        exact ⟨_, a.1, rfl, hs, hask, fun H' p hp => .lst (L2.SqL.of hp) (L2.dw_ints _)⟩
