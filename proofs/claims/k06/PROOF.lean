import PyProof.Rows.All
import Wide.All
import OpenK.AllK
import Wide.FinOn
import Lean
import PyProof.EqAt
import PyProof.EqKinds
import PyProof.TupleCall
import PyProof.StrLawsTight
import PyProof.StrLawsChain
import KE.KIntText
import KE.KSortAsk
import KE.KEqDat
import PyProof.P3In
import PyProof.InstStoreFacts
import PyProof.InstLoad
import PyProof.ExcArgsOwn
import PyProof.StationsW
import PyProof.Rows.Range3
import PyProof.Rows.MinMaxN
import PyProof.WalkInts
import PyProof.StrOps2
import PyProof.StrLawsIn
import PyProof.Walks
import PyProof.InstFacts
import PySem.Challenge.RW_tentpairs_k06_texts_misread
set_option Elab.async false
set_option linter.all false
set_option maxRecDepth 100000
def PySem.W.Fast.tw10758664176011509762:=0
def PySem.W.Fast.tw2177359185328097733:=0
def PySem.W.Fast.tw10973897027880330623:=0
def PySem.W.Fast.tw9161000855617442158:=0
def PySem.W.Fast.tw13622774432055101760:=0
def PySem.W.Fast.tw11473325275660004096:=0
def PySem.W.Fast.tw14895915298851931607:=0
namespace L2
open PySem PySem.Spec PyProof.Rows
abbrev Key := Sum Int Str
def keyIs : Key → Value → Bool
 | .inl k, v => Value.isInt k v
 | .inr x, v => Value.isStrOf x v
def keyH (w : World) : Key → Int
 | .inl k => hashInt k
 | .inr x => hashStr w x
theorem keyIs_shape : ∀ {k : Key} {v : Value}, keyIs k v = true → (∃ i t, k = Sum.inl i ∧ v = Value.int i t) ∨ (∃ x t, k = Sum.inr x ∧ v = Value.str x t)
 | .inl i, v, h => by
  obtain ⟨t, e⟩ := Value.isInt_shape (k := i) (v := v) h
  exact .inl ⟨i, t, rfl, e⟩
 | .inr x, v, h => by
  obtain ⟨t, e⟩ := Value.isStrOf_shape (x := x) (v := v) h
  exact .inr ⟨x, t, rfl, e⟩
theorem keyIs_int (i : Int) (t : Tok) : keyIs (.inl i) (.int i t) = true := by simp [keyIs, Value.isInt]
theorem keyIs_str (x : Str) (t : Tok) : keyIs (.inr x) (.str x t) = true := by simp [keyIs, Value.isStrOf]
theorem key_ll (a b : Int) : decide ((Sum.inl a : Key) = Sum.inl b) = (a == b) := by
 by_cases e : a = b
 ·subst e; simp
 ·have h : ¬ (Sum.inl a : Key) = Sum.inl b := fun q => e (Sum.inl.inj q)
  rw [decide_eq_false h]
  exact (beq_eq_false_iff_ne.mpr e).symm
theorem key_rr (a b : Str) : decide ((Sum.inr a : Key) = Sum.inr b) = decide (a = b) := by
 by_cases e : a = b
 ·subst e; simp
 ·have h : ¬ (Sum.inr a : Key) = Sum.inr b := fun q => e (Sum.inr.inj q)
  rw [decide_eq_false h, decide_eq_false e]
theorem key_lr (a : Int) (b : Str) : decide ((Sum.inl a : Key) = Sum.inr b) = false := decide_eq_false (fun q => nomatch q)
theorem key_rl (a : Str) (b : Int) : decide ((Sum.inr a : Key) = Sum.inl b) = false := decide_eq_false (fun q => nomatch q)
def mixKind (prog : Program) (w : World) : PySem.KeyKind prog w Key where
 is := keyIs
 hash := keyH w
 inj := fun v a b ha hb => by
  rcases keyIs_shape ha with ⟨i, t, rfl, rfl⟩ | ⟨x, t, rfl, rfl⟩
  ·rcases keyIs_shape hb with ⟨j, u, rfl, e⟩ | ⟨y, u, rfl, e⟩
   ·injection e with e1 _; rw [e1]
   ·exact nomatch e
  ·rcases keyIs_shape hb with ⟨j, u, rfl, e⟩ | ⟨y, u, rfl, e⟩
   ·exact nomatch e
   ·injection e with e1 _; rw [e1]
 byValue := fun k v h => by
  rcases keyIs_shape h with ⟨i, t, rfl, rfl⟩ | ⟨x, t, rfl, rfl⟩ <;> rfl
 pyHash := fun hv h => by
  rcases keyIs_shape hv with ⟨i, t, rfl, rfl⟩ | ⟨x, t, rfl, rfl⟩
  ·exact wpAny_pyHash_int h
  ·exact wpAny_pyHash_str h
 eqBool := fun hu hv h => by
  rcases keyIs_shape hu with ⟨i, t, rfl, rfl⟩ | ⟨x, t, rfl, rfl⟩
  ·rcases keyIs_shape hv with ⟨j, u, rfl, rfl⟩ | ⟨y, u, rfl, rfl⟩
   ·rw [key_ll] at h; exact wpAny_eqBool_int h
   ·rw [key_lr] at h; exact SeqAt.EqAt.int_str i t y u _ _ _ _ h
  ·rcases keyIs_shape hv with ⟨j, u, rfl, rfl⟩ | ⟨y, u, rfl, rfl⟩
   ·rw [key_rl] at h; exact SeqAt.EqAt.str_int x t j u _ _ _ _ h
   ·rw [key_rr] at h; exact wpAny_eqBool_str h
 «strs» := fun k x t v h => by
  rcases keyIs_shape h with ⟨i, u, rfl, e⟩ | ⟨y, u, rfl, e⟩
  ·exact nomatch e
  ·injection e with e1 _
   subst e1
   cases v <;> rfl
theorem mixKind_int (prog : Program) (w : World) (i : Int) (t : Tok) : (mixKind prog w).is (.inl i) (.int i t) = true := keyIs_int i t
theorem mixKind_str (prog : Program) (w : World) (x : Str) (t : Tok) : (mixKind prog w).is (.inr x) (.str x t) = true := keyIs_str x t
end L2
namespace L2
open PySem PySem.Spec PyProof.Rows
inductive V where
 | non | bl (b : Bool) | int (i : Int) | str (x : Str) | byt (b : Array UInt8) | flt (b : UInt64) | ref (a : Addr) | ty (n : String)
 deriving DecidableEq
def RelV : V → Value → Prop
 | .non, u => u = Value.none
 | .bl b, u => u = Value.bool b
 | .int i, u => ∃ t, u = Value.int i t
 | .str x, u => ∃ t, u = Value.str x t
 | .byt b, u => ∃ t, u = Value.bytes b t
 | .flt b, u => ∃ t, u = Value.float b t
 | .ref a, u => u = Value.ref a
 | .ty n, u => u = Value.type n
abbrev Vals : List V → List Value → Prop := Paired RelV
theorem Vals.length {xs : List V} {us : List Value} (r : Vals xs us) : xs.length = us.length := Paired.length r
theorem Vals.get : ∀ {xs : List V} {us : List Value} {i : Nat} {x : V}, Vals xs us → xs[i]? = some x → ∃ u, us[i]? = some u ∧ RelV x u
 | _, _, _, _, .nil, e => by simp at e
 | _, _, 0, _, .cons r _, e => by simp at e; subst e; exact ⟨_, rfl, r⟩
 | _, _, i + 1, x, .cons _ t, e => by
  obtain ⟨u, h1, h2⟩ := Vals.get (i := i) (x := x) t (by simpa using e)
  exact ⟨u, by simpa using h1, h2⟩
theorem Vals.set {x : V} {u : Value} (r : RelV x u) : ∀ {xs : List V} {us : List Value} (i : Nat), Vals xs us → Vals (xs.set i x) (us.set i u)
 | _, _, _, .nil => .nil
 | _, _, 0, .cons _ t => .cons r t
 | _, _, i + 1, .cons q t => .cons q (Vals.set r i t)
theorem Vals.append : ∀ {xs ys : List V} {us ws : List Value}, Vals xs us → Vals ys ws → Vals (xs ++ ys) (us ++ ws)
 | _, _, _, _, .nil, s => s
 | _, _, _, _, .cons r t, s => .cons r (Vals.append t s)
theorem Vals.take : ∀ {xs : List V} {us : List Value} (n : Nat), Vals xs us → Vals (xs.take n) (us.take n)
 | _, _, 0, _ => .nil
 | _, _, _ + 1, .nil => .nil
 | _, _, n + 1, .cons r t => .cons r (Vals.take n t)
theorem Vals.drop : ∀ {xs : List V} {us : List Value} (n : Nat), Vals xs us → Vals (xs.drop n) (us.drop n)
 | _, _, 0, r => r
 | _, _, _ + 1, .nil => .nil
 | _, _, n + 1, .cons _ t => Vals.drop n t
def RelO : Option V → Option Value → Prop
 | some v, some u => RelV v u
 | none, none => True
 | _, _ => False
def KV {κ : Type} : List (κ × V) → List (κ × Value) → Prop := Paired fun (p : κ × V) (q : κ × Value) => p.1 = q.1 ∧ RelV p.2 q.2
def kV : Key → V
 | .inl i => .int i
 | .inr x => .str x
inductive HO where
 | lst (xs : List V)
 | tup (xs : List V)
 | dK (kvs : List (Key × V)) | dT (kvs : List (List Key × V))
 | set (S : Int → Bool) (n : Nat)
 | ins (C dx : Addr) (fs : List (Str × V))
 | own (x : Addr)
 | xd (fs : List (Str × V))
 | met (f x : Addr)
 | rng (lo hi : Int)
 | frz (o : Obj) (u : HO)
 | tbl (ps : Array Value)
 | ext (φ : Heap → Prop)
abbrev Hp := Addr → Option HO
def upd (H : Hp) (a : Addr) (o : HO) : Hp := fun b => if b = a then some o else H b
theorem upd_same {H : Hp} {a : Addr} {o : HO} : upd H a o a = some o := by unfold upd; rw [if_pos rfl]
theorem upd_ne {H : Hp} {a b : Addr} {o : HO} (h : b ≠ a) : upd H a o b = H b := by unfold upd; rw [if_neg h]
theorem upd_upd {H : Hp} {a : Addr} {o u : HO} : upd (upd H a o) a u = upd H a u := by
 funext b; unfold upd; split <;> rfl
theorem ne_of {H : Hp} {a b : Addr} {o u : HO} (h : H a = some o) (h' : H b = some u) (d : o ≠ u) : a ≠ b := by
 intro e; subst e; rw [h] at h'; exact d (Option.some.inj h')
theorem ne_of_none {H : Hp} {a b : Addr} {o : HO} (h : H a = some o) (h' : H b = none) : a ≠ b := by
 intro e; subst e; rw [h] at h'; cases h'
section
variable (P : Program) (w : World)
def ObjOk (H : Hp) (h : Heap) (a : Addr) : HO → Prop
 | .lst xs => xs.length ≤ sizeLine ∧ ∃ (its : List Value) (n : Nat), Vals xs its ∧ h.get? a = some { cls := .type "list", data := .seq its.toArray n }
 | .tup xs => xs.length ≤ sizeLine ∧ ∃ its : List Value, Vals xs its ∧ IsTup h a its.toArray
 | .dK kvs => kvs.length ≤ sizeLine ∧ (a == sysModules) = false ∧ ∃ vs, KV kvs vs ∧ h.DictOf (mixKind P w) a vs
 | .dT kvs => kvs.length ≤ sizeLine ∧ (a == sysModules) = false ∧ ∃ xs : List (List Key × Addr × Value),
   Paired (fun (p : List Key × V) (q : List Key × Addr × Value) => p.1 = q.1 ∧ H q.2.1 = some (.tup (p.1.map kV)) ∧ RelV p.2 q.2.2) kvs xs ∧
   ∃ o es ep, h.get? a = some o ∧ o.ExactDict ∧ o.data = .dict es ep ∧ es.toList = xs.map (entryOfKey (tupleKind (mixKind P w))) ∧ (xs.map (·.1)).Nodup
 | .set S n => h.SetOf (intKind P w) a S n
 | .ins C dx fs => H dx = some (.own a) ∧ fs.length ≤ 1000 ∧ dx ≠ a ∧ h.get? a = some (PySem.W.instObj C dx) ∧
   ∃ mA, h.Ns1 dx mA ∧ (∀ f, RelO (fs.lookup f) (mA f)) ∧ PySem.Within mA (fs.map (·.1))
 | .own _ => ∃ o, h.get? a = some o
 | .xd fs => ∃ mA, h.Ns1 a mA ∧ ∀ f, RelO (fs.lookup f) (mA f)
 | .rng lo hi => ∃ t u v, h.get? a = some { cls := .type "range", data := .fields #[.int lo t, .int hi u, .int 1 v] }
 | .frz o u => h.get? a = some o ∧ ObjOk H h a u
 | .tbl ps => h.get? a = some { cls := .none, data := .fields ps }
 | .met f x => h.get? a = some (PySem.W.methodObj (.ref f) (.ref x))
 | .ext φ => φ h ∧ (∃ o, h.get? a = some o) ∧ ∀ h1 h2 : Heap, φ h1 → (∀ o, h1.get? a = some o → h2.get? a = some o) → φ h2
def HOk (H : Hp) (h : Heap) : Prop := ∀ a o, H a = some o → ObjOk P w H h a o
end
section
variable {P : Program} {w : World} {H H' : Hp} {h h' : Heap} {a : Addr} {o : HO}
theorem ObjOk.lt (x : ObjOk P w H h a o) : a < h.objs.size := by
 cases o with
 | lst xs => obtain ⟨_, _, _, _, e⟩ := x; exact Heap.lt_size e
 | tup xs => obtain ⟨_, _, _, p⟩ := x; exact p.lt
 | dK kvs => obtain ⟨_, _, _, _, o, _, _, e, _⟩ := x; exact Heap.lt_size e
 | dT kvs => obtain ⟨_, _, _, _, o, _, _, e, _⟩ := x; exact Heap.lt_size e
 | set S n => obtain ⟨o, _, _, _, e, _⟩ := x; exact Heap.lt_size e
 | ins C dx fs => obtain ⟨_, _, _, e, _⟩ := x; exact Heap.lt_size e
 | own y => obtain ⟨_, e⟩ := x; exact Heap.lt_size e
 | xd fs => obtain ⟨_, ⟨_, _, _, e, _⟩, _⟩ := x; exact Heap.lt_size e
 | rng lo hi => obtain ⟨_, _, _, e⟩ := x; exact Heap.lt_size e
 | frz ob u => obtain ⟨e, _⟩ := x; exact Heap.lt_size e
 | tbl ps => exact Heap.lt_size (show h.get? a = some _ from x)
 | met f y => exact Heap.lt_size (show h.get? a = some _ from x)
 | ext φ => obtain ⟨_, ⟨_, e⟩, _⟩ := x; exact Heap.lt_size e
theorem Paired.mapP {α β : Type} {F G : α → β → Prop} : ∀ {l₁ : List α} {l₂ : List β}, Paired F l₁ l₂ → (∀ a b, F a b → G a b) → Paired G l₁ l₂
 | _, _, .nil, _ => .nil
 | _, _, .cons r t, f => .cons (f _ _ r) (Paired.mapP t f)
theorem ObjOk.stay (x : ObjOk P w H h a o) (k : ∀ b u, (b = a ∨ H b = some (.own a)) → h.get? b = some u → h'.get? b = some u)
  (ho : ∀ b, H b = some (.own a) → H' b = some (.own a)) (ht : ∀ b xs, H b = some (.tup xs) → H' b = some (.tup xs)) : ObjOk P w H' h' a o := by
 induction o with
 | lst xs => obtain ⟨z, its, n, r, e⟩ := x; exact ⟨z, its, n, r, k _ _ (.inl rfl) e⟩
 | tup xs => obtain ⟨z, its, r, ob, e, c⟩ := x; exact ⟨z, its, r, ob, k _ _ (.inl rfl) e, c⟩
 | dK kvs => obtain ⟨z, y, vs, r, ob, es, ep, e, c⟩ := x; exact ⟨z, y, vs, r, ob, es, ep, k _ _ (.inl rfl) e, c⟩
 | dT kvs =>
  obtain ⟨z, y, xs, r, ob, es, ep, e, c⟩ := x
  exact ⟨z, y, xs, Paired.mapP r fun p q z => ⟨z.1, ht _ _ z.2.1, z.2.2⟩, ob, es, ep, k _ _ (.inl rfl) e, c⟩
 | set S n => obtain ⟨ob, es, ep, t, e, c⟩ := x; exact ⟨ob, es, ep, t, k _ _ (.inl rfl) e, c⟩
 | ins C dx fs =>
  obtain ⟨d, z, ne, e, mA, ⟨od, es, ep, e2, c⟩, r⟩ := x
  exact ⟨ho _ d, z, ne, k _ _ (.inl rfl) e, mA, ⟨od, es, ep, k _ _ (.inr d) e2, c⟩, r⟩
 | own y => obtain ⟨ob, e⟩ := x; exact ⟨ob, k _ _ (.inl rfl) e⟩
 | xd fs => obtain ⟨mA, ⟨od, es, ep, e, c⟩, r⟩ := x; exact ⟨mA, ⟨od, es, ep, k _ _ (.inl rfl) e, c⟩, r⟩
 | rng lo hi => obtain ⟨t, u, v, e⟩ := x; exact ⟨t, u, v, k _ _ (.inl rfl) e⟩
 | frz ob u ih => obtain ⟨e, q⟩ := x; exact ⟨k _ _ (.inl rfl) e, ih q⟩
 | tbl ps =>
  have e : h.get? a = some { cls := .none, data := .fields ps } := x
  show h'.get? a = some { cls := .none, data := .fields ps }
  exact k a _ (.inl rfl) e
 | met f y =>
  have e : h.get? a = some (PySem.W.methodObj (.ref f) (.ref y)) := x
  show h'.get? a = some (PySem.W.methodObj (.ref f) (.ref y))
  exact k a _ (.inl rfl) e
 | ext φ => obtain ⟨p, ⟨o, e⟩, st⟩ := x; exact ⟨st _ _ p fun o q => k _ _ (.inl rfl) q, ⟨o, k _ _ (.inl rfl) e⟩, st⟩
theorem HOk.lt (x : HOk P w H h) (e : H a = some o) : a < h.objs.size := (x a o e).lt
theorem HOk.fresh (x : HOk P w H h) (e : h.objs.size ≤ a) : H a = none := by
 cases q : H a with
 | none => rfl
 | some u => exact absurd (Nat.lt_of_lt_of_le (x.lt q) e) (Nat.lt_irrefl _)
theorem HOk.kept (x : HOk P w H h) (k : ∀ b u, h.get? b = some u → h'.get? b = some u) : HOk P w H h' := fun a o e =>
 (x a o e).stay (fun b u _ q => k b u q) (fun _ q => q) fun _ _ q => q
theorem HOk.laid (x : HOk P w H h) (k : ∀ b u, h.get? b = some u → h'.get? b = some u) (hp : h.objs.size ≤ a) (new : ObjOk P w (upd H a o) h' a o) : HOk P w (upd H a o) h' := fun b u e => by
 have hn := x.fresh hp
 by_cases hb : b = a
 ·subst hb; rw [upd_same] at e; cases e; exact new
 ·rw [upd_ne hb] at e
  exact (x b u e).stay (fun c v _ q => k c v q) (fun c q => by rw [upd_ne (ne_of_none q hn)]; exact q) fun c xs q => by rw [upd_ne (ne_of_none q hn)]; exact q
end
def Rd (H : Hp) (a : Addr) (u : HO) : Prop := H a = some u ∨ ∃ o, H a = some (.frz o u)
theorem Rd.ok {P : Program} {w : World} {H : Hp} {h : Heap} {a : Addr} {u : HO} (r : Rd H a u) (x : HOk P w H h) : ObjOk P w H h a u := by
 rcases r with r | ⟨o, r⟩
 ·exact x a u r
 ·obtain ⟨_, q⟩ := x a _ r
  exact q
def Mut : Option HO → Prop
 | some (.lst _) => True
 | some (.dK _) => True
 | some (.dT _) => True
 | some (.set _ _) => True
 | some (.ins _ _ _) => True
 | some (.ext _) => True
 | _ => False
section
variable {P : Program} {w : World} {H : Hp} {h h' : Heap} {x e : Addr} {o' : HO}
theorem HOk.write (ok : HOk P w H h) (mu : Mut (H x)) (he : e = x ∨ H e = some (.own x)) (k : ∀ b u, b ≠ e → h.get? b = some u → h'.get? b = some u) (heo : ∃ u, h'.get? e = some u)
  (new : ObjOk P w (upd H x o') h' x o') : HOk P w (upd H x o') h' := fun b u q => by
 have nown : ∀ c y, H c = some (.own y) → c ≠ x := fun c y r z => by subst z; rw [r] at mu; exact mu
 have ntup : ∀ c xs, H c = some (.tup xs) → c ≠ x := fun c xs r z => by subst z; rw [r] at mu; exact mu
 by_cases hb : b = x
 ·subst hb; rw [upd_same] at q; cases q; exact new
 ·rw [upd_ne hb] at q
  by_cases hbe : b = e
  ·have q' : H b = some (.own x) := by
    rcases he with z | z
    ·exact absurd (hbe.trans z) hb
    ·rw [hbe]; exact z
   rw [q] at q'; cases q'
   obtain ⟨v, hv⟩ := heo
   exact ⟨v, by rw [hbe]; exact hv⟩
  ·refine (ok b u q).stay (fun c v hc r => k c v ?_ r) (fun c r => by rw [upd_ne (nown c b r)]; exact r) fun c xs r => by rw [upd_ne (ntup c xs r)]; exact r
   rcases hc with rfl | hc
   ·exact hbe
   ·rintro rfl
    rcases he with z | z
    ·exact nown c b hc z
    ·rw [hc] at z; cases z; exact hb rfl
end
structure Un (fs ex : List Addr) (H H' : Hp) (h h' : Heap) : Prop where
 keep : ∀ b o, h.get? b = some o → H b = none → b ∉ fs → b ∉ ex → h'.get? b = some o
 slot : ∀ b o, h.get? b = some o → H b = none → b ∈ fs → b ∉ ex → ∃ sl, h'.get? b = some { o with slots := sl }
 free : ∀ b o, h.get? b = some o → H b = none → b ∉ ex → H' b = none
 there : ∀ b o, h.get? b = some o → b ∉ ex → ∃ o', h'.get? b = some o'
 tups : ∀ b xs, H b = some (.tup xs) → H' b = some (.tup xs)
 frzs : ∀ b o u, H b = some (.frz o u) → H' b = some (.frz o u)
 tbls : ∀ b ps, H b = some (.tbl ps) → ∃ more, H' b = some (.tbl (ps ++ more))
section
variable {fs fs' ex ex' : List Addr} {H H1 H2 : Hp} {h h1 h2 h' : Heap} {a x e : Addr} {o : HO}
theorem Un.any (u : Un fs ex H H1 h h1) {b : Addr} {ob : Obj} (q : h.get? b = some ob) (n : H b = none) (hx : b ∉ ex) : ∃ sl, h1.get? b = some { ob with slots := sl } := by
 by_cases hb : b ∈ fs
 ·exact u.slot b ob q n hb hx
 ·exact ⟨ob.slots, u.keep b ob q n hb hx⟩
theorem Un.kept (k : ∀ b u, h.get? b = some u → h'.get? b = some u) : Un fs ex H H h h' :=
 ⟨fun b ob q _ _ _ => k b ob q, fun b ob q _ _ _ => ⟨ob.slots, k b ob q⟩, fun _ _ _ n _ => n, fun b ob q _ => ⟨ob, k b ob q⟩, fun _ _ q => q, fun _ _ _ q => q, fun _ ps q => ⟨#[], by rw [q]; simp⟩⟩
theorem Un.refl : Un fs ex H H h h := Un.kept fun _ _ q => q
theorem Un.laid (k : ∀ b u, h.get? b = some u → h'.get? b = some u) (hp : h.objs.size ≤ a) (hn : H a = none) : Un fs ex H (upd H a o) h h' where
 keep := fun b u q _ _ _ => k b u q
 slot := fun b u q _ _ _ => ⟨u.slots, k b u q⟩
 free := fun b u q n _ => by rw [upd_ne (Nat.ne_of_lt (Nat.lt_of_lt_of_le (Heap.lt_size q) hp))]; exact n
 there := fun b u q _ => ⟨u, k b u q⟩
 tups := fun b xs q => by rw [upd_ne (ne_of_none q hn)]; exact q
 frzs := fun b u xs q => by rw [upd_ne (ne_of_none q hn)]; exact q
 tbls := fun b ps q => ⟨#[], by rw [upd_ne (ne_of_none q hn), q]; simp⟩
theorem Un.write (mu : Mut (H x)) (he : e = x ∨ H e = some (.own x)) (k : ∀ b u, b ≠ e → h.get? b = some u → h'.get? b = some u) (heo : ∃ u, h'.get? e = some u) : Un fs ex H (upd H x o) h h' := by
 have hx : ∀ b, H b = none → b ≠ x := fun b n z => by subst z; rw [n] at mu; exact mu
 have hb : ∀ b, H b = none → b ≠ e := fun b n z => by
  subst z
  rcases he with r | r
  ·exact hx b n r
  ·rw [n] at r; cases r
 have hm : ∀ b u, H b = some u → ¬ Mut (some u) → b ≠ x := fun b u q nm z => by subst z; rw [q] at mu; exact nm mu
 refine ⟨fun b u q n _ _ => k b u (hb b n) q, fun b u q n _ _ => ⟨u.slots, k b u (hb b n) q⟩, fun b u q n _ => by rw [upd_ne (hx b n)]; exact n, fun b u q _ => ?_,
  fun b xs q => by rw [upd_ne (hm b _ q fun z => z)]; exact q, fun b u xs q => by rw [upd_ne (hm b _ q fun z => z)]; exact q, fun b ps q => ⟨#[], by rw [upd_ne (hm b _ q fun z => z), q]; simp⟩⟩
 by_cases hbe : b = e
 ·subst hbe; exact heo
 ·exact ⟨u, k b u hbe q⟩
end
def trk (h : Heap) (H : Hp) : List Addr := (List.range h.objs.size).filter fun a => (H a).isSome
def hidT (h : Heap) (H : Hp) : Heap := PySem.W.hideAll h (trk h H)
theorem hidT_size (h : Heap) (H : Hp) : (hidT h H).objs.size = h.objs.size := PySem.W.hideAll_size _ _
theorem hidT_get {h : Heap} {H : Hp} {b : Addr} {o : Obj} (e : h.get? b = some o) (n : H b = none) : (hidT h H).get? b = some o :=
 PySem.W.hideAll_get _ e fun hm => by
  have q : (H b).isSome = true := (List.mem_filter.mp hm).2
  rw [n] at q; simp at q
theorem of_hidT {h : Heap} {H : Hp} {b : Addr} {o : Obj} (e : (hidT h H).get? b = some o) : h.get? b = some o ∧ H b = none := by
 have e' : h.get? b = some o := PySem.W.of_hideAll (trk h H) e
 refine ⟨e', ?_⟩
 cases q : H b with
 | none => rfl
 | some x =>
  have hm : b ∈ trk h H := List.mem_filter.mpr ⟨List.mem_range.mpr (Heap.lt_size e'), by simp [q]⟩
  have z : (hidT h H).get? b = none := PySem.W.hideAll_none (trk h H) hm
  rw [z] at e; cases e
def allNews (g h : Heap) (L : Addr) : List (Addr × Obj) := (List.range h.objs.size).filterMap fun a => if a = L ∨ (g.get? a).isSome = true then none else (h.get? a).map fun o => (a, o)
def rest (g h : Heap) (L d : Addr) : List (Addr × Obj) := (allNews g h L).filter fun p => decide (p.1 ≠ d)
end L2
namespace L2
open PySem PySem.Spec PyProof.Rows
structure Mod (K : PySem.W.Frag) (mg : Str → Option Value) (base : Heap) : Prop where
 kin : K.In base
 glob : base.Ns mainGlobals mg
 blt : ∃ mb, base.Ns builtinsNs mb ∧ ∀ x : Str, x ≠ "__name__" → mb x = bootBuiltins x
 nolimit : base.NoLimit
structure Cx where
 prog : Program
 w : World
 K : PySem.W.Frag
 mg : Str → Option Value
 base : Heap
 A : Around
 N : List Str
 s₀ : Shared
 H₀ : Hp
 env : Env
 outer : List Env
 stack : List Env
 ex : List Addr
 fn : Str → Bool
 calm : Bool
 pn : List (Addr × Obj)
 xe : Value → Shared → Prop
def frs (l : List Env) : List Addr := l.filterMap (·.frame)
abbrev Cx.fs (X : Cx) : List Addr := frs X.outer
def Vis (sc : Scope) (x : Str) : Prop := sc.names.lookup x = some .local ∨ sc.names.lookup x = some .cell ∨ sc.names.lookup x = some .free
def Loc (sc : Scope) (x : Str) : Prop := sc.names.lookup x = some .local ∨ sc.names.lookup x = some .cell
def Look (env : Env) (h : Heap) (m : Str → Option Value) (x : Str) (u : Value) : Prop :=
 (env.kindOf x = some .local ∧ m x = some u) ∨ ((env.kindOf x = some .cell ∨ env.kindOf x = some .free) ∧ ∃ c, env.cells.lookup x = some c ∧ h.IsCell c (some u))
structure Cx.Ok (X : Cx) : Prop where
 mod : Mod X.K X.mg X.base
 kind : X.env.scope.kind = .function
 glob : X.env.globals = mainGlobals
 blt : X.env.builtins = builtinsNs
 above : X.s₀.heap.objs.size ≤ X.env.locals
 inj : ∀ x y c, X.env.cells.lookup x = some c → X.env.cells.lookup y = some c → x = y
 has : ∀ x, (X.env.kindOf x = some .cell ∨ X.env.kindOf x = some .free) → ∃ c, X.env.cells.lookup x = some c
 cab : ∀ x c, X.fn x = true → X.env.cells.lookup x = some c → X.s₀.heap.objs.size ≤ c
 hd : X.calm = true → X.A.handled = none
 frames : X.A.frames = some X.stack
 stk : X.stack = X.outer ∨ (X.stack = X.env :: X.outer ∧ X.env.frame = some X.env.locals)
 exf : ∀ b ∈ X.ex, b ≠ X.env.locals ∧ ∀ x c, X.env.cells.lookup x = some c → c ≠ b
 bs : ∀ b o, X.base.get? b = some o → X.s₀.heap.get? b = some o ∧ X.H₀ b = none
 bsz : X.base.objs.size ≤ X.s₀.heap.objs.size
 noex : ∀ b o, X.base.get? b = some o → b ∉ X.ex
 exfs : ∀ b ∈ X.ex, b ∉ X.fs
 funs : X.s₀.heap.FunFrames X.base X.outer
 frf : ∀ b ∈ X.fs, X.H₀ b = none
structure Inv (X : Cx) (pins : List (Addr × Obj)) (σ : List (Option V)) (H : Hp) (s : Shared) : Prop where
 ok : X.Ok
 os : s.os = X.s₀.os
 bare : AllBare s.gens
 base : Un X.fs X.ex X.H₀ H X.s₀.heap s.heap
 loc : ∃ m, s.heap.Ns X.env.locals m ∧ ∀ (i : Nat) (x : Str) (v : V), X.N[i]? = some x → σ[i]? = some (some v) → Vis X.env.scope x → ∃ u, RelV v u ∧ Look X.env s.heap m x u
 cell : ∀ x c, X.env.cells.lookup x = some c → ∃ v, s.heap.IsCell c v
 free : H X.env.locals = none
 freeC : ∀ x c, X.env.cells.lookup x = some c → H c = none
 pin : ∀ p ∈ X.pn ++ pins, s.heap.get? p.1 = some p.2 ∧ H p.1 = none ∧ p.1 ≠ X.env.locals ∧ p.1 ∉ X.fs ∧ ∀ v, p.2.data ≠ .cell v
 hok : HOk X.prog X.w H s.heap
 len : σ.length = X.N.length
section
variable {X : Cx} {pins : List (Addr × Obj)} {σ : List (Option V)} {H H' : Hp} {s : Shared} {h' : Heap}
theorem Cx.Ok.nofr (ok : X.Ok) {b : Addr} {o : Obj} (e : X.base.get? b = some o) : b ∉ X.fs := fun hb => by
 have := (ok.funs.mem hb).1
 rw [e] at this; cases this
theorem Inv.bs (I : Inv X pins σ H s) : ∀ b o, X.base.get? b = some o → s.heap.get? b = some o ∧ H b = none := fun b o e =>
 ⟨I.base.keep b o (I.ok.bs b o e).1 (I.ok.bs b o e).2 (I.ok.nofr e) (I.ok.noex b o e), I.base.free b o (I.ok.bs b o e).1 (I.ok.bs b o e).2 (I.ok.noex b o e)⟩
theorem Inv.bk (I : Inv X pins σ H s) : ∀ b o, X.base.get? b = some o → s.heap.get? b = some o := fun b o e => (I.bs b o e).1
theorem Inv.mod (I : Inv X pins σ H s) : Mod X.K X.mg X.base := I.ok.mod
theorem Inv.kIn (I : Inv X pins σ H s) : X.K.In s.heap := I.ok.mod.kin.keeps I.bk
theorem Inv.lt (I : Inv X pins σ H s) : X.env.locals < s.heap.objs.size := let ⟨_, hn, _⟩ := I.loc; hn.lt
theorem Inv.sz (I : Inv X pins σ H s) : X.s₀.heap.objs.size ≤ s.heap.objs.size := Nat.le_trans I.ok.above (Nat.le_of_lt I.lt)
theorem Inv.nofs (I : Inv X pins σ H s) {a : Addr} (h : s.heap.objs.size ≤ a) : a ∉ X.fs := fun hb => by
 obtain ⟨_, o, ho, _⟩ := I.ok.funs.mem hb
 exact absurd (Nat.lt_of_lt_of_le (Heap.lt_size ho) (Nat.le_trans I.sz h)) (Nat.lt_irrefl _)
theorem Inv.cne (I : Inv X pins σ H s) : ∀ x c, X.env.cells.lookup x = some c → c ≠ X.env.locals := fun x c e z => by
 obtain ⟨v, o, ho, hd⟩ := I.cell x c e
 obtain ⟨m, ⟨o', es, ep, ho', hd', _⟩, _⟩ := I.loc
 rw [z, ho'] at ho; cases ho; rw [hd'] at hd; cases hd
theorem Inv.funs (I : Inv X pins σ H s) : s.heap.FunFrames X.base X.outer := by
 have all : ∀ (l : List Env), (∀ b ∈ frs l, b ∈ X.fs) → X.s₀.heap.FunFrames X.base l → s.heap.FunFrames X.base l := by
  intro l
  induction l with
  | nil => intro _ _; trivial
  | cons env r ih =>
   intro hs hl
   obtain ⟨hk, ⟨L, o, hf, hn, ho, hd⟩, hr⟩ := hl
   have hL : L ∈ X.fs := hs L (by unfold frs; rw [List.filterMap_cons, hf]; exact List.mem_cons_self)
   obtain ⟨sl, e⟩ := I.base.slot L o ho (I.ok.frf L hL) hL fun z => I.ok.exfs L z hL
   exact ⟨hk, ⟨L, _, hf, hn, e, hd⟩, ih (fun b hb => hs b (by unfold frs; rw [List.filterMap_cons, hf]; exact List.mem_cons_of_mem _ hb)) hr⟩
 exact all X.outer (fun _ hb => hb) I.ok.funs
theorem Inv.stack (I : Inv X pins σ H s) : s.heap.FunFrames X.base X.stack := by
 rcases I.ok.stk with e | ⟨e, hf⟩
 ·rw [e]; exact I.funs
 ·rw [e]
  obtain ⟨m, hn, _⟩ := I.loc
  refine .cons (by rw [I.ok.kind]; decide) hf hn ?_ I.funs
  exact Heap.get?_none_of_le (Nat.le_trans I.ok.bsz I.ok.above)
theorem Inv.stkSub (I : Inv X pins σ H s) : ∀ b ∈ frs X.stack, b ∈ X.env.locals :: X.fs := fun b hb => by
 rcases I.ok.stk with e | ⟨e, hf⟩
 ·rw [e] at hb; exact List.mem_cons_of_mem _ hb
 ·rw [e] at hb
  unfold frs at hb
  rw [List.filterMap_cons, hf] at hb
  exact hb
theorem Inv.stkFree (I : Inv X pins σ H s) : ∀ b ∈ frs X.stack, H b = none := fun b hb => by
 rcases List.mem_cons.mp (I.stkSub b hb) with e | hb
 ·rw [e]; exact I.free
 ·obtain ⟨_, o, ho, _⟩ := I.ok.funs.mem hb
  exact I.base.free b o ho (I.ok.frf b hb) fun z => I.ok.exfs b z hb
theorem Inv.step {g' : Array GenState} {t' : Nat} {d' : Drawn} {ch : List Addr} (I : Inv X pins σ H s)
  (hch : ∀ b ∈ ch, (b ∈ X.ex ∨ X.s₀.heap.objs.size ≤ b) ∧ b ≠ X.env.locals ∧ (∀ x c, X.env.cells.lookup x = some c → c ≠ b) ∧ ∀ p ∈ X.pn ++ pins, p.1 ≠ b)
  (keep : ∀ b o, b ≠ X.env.locals → b ∉ X.fs → b ∉ ch → s.heap.get? b = some o → H b = none → h'.get? b = some o)
  (slot : ∀ b o, b ≠ X.env.locals → b ∈ X.fs → b ∉ ch → s.heap.get? b = some o → H b = none → ∃ sl, h'.get? b = some { o with slots := sl }) (free : ∀ b o, b ∉ ch → s.heap.get? b = some o → H b = none → H' b = none)
  (there : ∀ b o, b ∉ ch → s.heap.get? b = some o → ∃ o', h'.get? b = some o')
  (tups : ∀ b xs, H b = some (.tup xs) → H' b = some (.tup xs)) (frzs : ∀ b o u, H b = some (.frz o u) → H' b = some (.frz o u)) (tbls : ∀ b ps, H b = some (.tbl ps) → ∃ more, H' b = some (.tbl (ps ++ more)))
  (ns : ∀ m, s.heap.Ns X.env.locals m → h'.Ns X.env.locals m) (hok : HOk X.prog X.w H' h') (hg : AllBare g') :
  Inv X pins σ H' { s with heap := h', gens := g', drawn := d', toks := t' } := by
 have neL : ∀ b o, X.s₀.heap.get? b = some o → b ≠ X.env.locals := fun b o e => Nat.ne_of_lt (Nat.lt_of_lt_of_le (Heap.lt_size e) I.ok.above)
 have neC : ∀ b o, X.s₀.heap.get? b = some o → b ∉ X.ex → b ∉ ch := fun b o e hx hb => by
  rcases (hch b hb).1 with z | z
  ·exact hx z
  ·exact absurd (Nat.lt_of_lt_of_le (Heap.lt_size e) z) (Nat.lt_irrefl _)
 have cellK : ∀ x c, X.env.cells.lookup x = some c → ∀ v, s.heap.IsCell c v → h'.IsCell c v := fun x c e v ⟨o, ho, hd⟩ => by
  have nch : c ∉ ch := fun z => (hch c z).2.2.1 x c e rfl
  by_cases hc : c ∈ X.fs
  ·obtain ⟨sl, q⟩ := slot c o (I.cne x c e) hc nch ho (I.freeC x c e)
   exact ⟨_, q, hd⟩
  ·exact ⟨o, keep c o (I.cne x c e) hc nch ho (I.freeC x c e), hd⟩
 refine ⟨I.ok, I.os, hg, ⟨fun b o e n hb hx => ?_, fun b o e n hb hx => ?_, fun b o e n hx => ?_, fun b o e hx => ?_, fun b xs e => tups b xs (I.base.tups b xs e), fun b o xs e => frzs b o xs (I.base.frzs b o xs e), fun b ps e => ?_⟩, ?_, fun x c e => ?_, ?_, fun x c e => ?_, fun p hp => ?_, hok, I.len⟩
 ·exact keep b o (neL b o e) hb (neC b o e hx) (I.base.keep b o e n hb hx) (I.base.free b o e n hx)
 ·obtain ⟨sl, e1⟩ := I.base.slot b o e n hb hx
  obtain ⟨sl', e2⟩ := slot b _ (neL b o e) hb (neC b o e hx) e1 (I.base.free b o e n hx)
  exact ⟨sl', e2⟩
 ·obtain ⟨o', e1⟩ := I.base.there b o e hx
  exact free b o' (neC b o e hx) e1 (I.base.free b o e n hx)
 ·obtain ⟨o', e1⟩ := I.base.there b o e hx
  exact there b o' (neC b o e hx) e1
 ·obtain ⟨m1, e1⟩ := I.base.tbls b ps e
  obtain ⟨m2, e2⟩ := tbls b _ e1
  exact ⟨m1 ++ m2, by rw [e2, Array.append_assoc]⟩
 ·obtain ⟨m, hn, hl⟩ := I.loc
  refine ⟨m, ns m hn, fun i x v e1 e2 e3 => ?_⟩
  obtain ⟨u, r, l⟩ := hl i x v e1 e2 e3
  refine ⟨u, r, ?_⟩
  rcases l with l | ⟨k, c, e, z⟩
  ·exact .inl l
  ·exact .inr ⟨k, c, e, cellK x c e _ z⟩
 ·obtain ⟨v, z⟩ := I.cell x c e
  exact ⟨v, cellK x c e v z⟩
 ·obtain ⟨m, ⟨o, _, _, ho, _⟩, _⟩ := I.loc
  exact free _ o (fun z => (hch _ z).2.1 rfl) ho I.free
 ·obtain ⟨v, o, ho, hd⟩ := I.cell x c e
  exact free c o (fun z => (hch c z).2.2.1 x c e rfl) ho (I.freeC x c e)
 ·obtain ⟨e, n, ne, nf, d⟩ := I.pin p hp
  have nch : p.1 ∉ ch := fun z => (hch p.1 z).2.2.2 p hp rfl
  exact ⟨keep p.1 p.2 ne nf nch e n, free p.1 p.2 nch e n, ne, nf, d⟩
theorem Inv.un {t' : Nat} (I : Inv X pins σ H s) (u : Un X.fs [] H H' s.heap h') (hok : HOk X.prog X.w H' h') : Inv X pins σ H' { s with heap := h', toks := t' } := by
 obtain ⟨m, ⟨o, es, ep, ho, r⟩, _⟩ := id I.loc
 obtain ⟨sl, hL⟩ := u.any ho I.free (by simp)
 exact I.step (g' := s.gens) (d' := s.drawn) (ch := []) (fun _ z => nomatch z) (fun b o _ hb _ e n => u.keep b o e n hb (by simp)) (fun b o _ hb _ e n => u.slot b o e n hb (by simp)) (fun b o _ e n => u.free b o e n (by simp)) (fun b o _ e => u.there b o e (by simp)) u.tups u.frzs u.tbls (fun m' hm => by
  obtain ⟨o', es', ep', ho', r'⟩ := hm
  rw [ho] at ho'; cases ho'
  exact ⟨_, es', ep', hL, r'⟩) hok I.bare
theorem Inv.call {g' : Array GenState} {t' : Nat} {d' : Drawn} {ch : List Addr} (I : Inv X pins σ H s) (u : Un (frs X.stack) ch H H' s.heap h') (hok : HOk X.prog X.w H' h') (hg : AllBare g')
  (hch : ∀ b ∈ ch, (b ∈ X.ex ∨ X.s₀.heap.objs.size ≤ b) ∧ b ≠ X.env.locals ∧ (∀ x c, X.env.cells.lookup x = some c → c ≠ b) ∧ ∀ p ∈ X.pn ++ pins, p.1 ≠ b) :
  Inv X pins σ H' { s with heap := h', gens := g', drawn := d', toks := t' } := by
 obtain ⟨m, ⟨o, es, ep, ho, r⟩, _⟩ := id I.loc
 obtain ⟨sl, hL⟩ := u.any ho I.free fun z => (hch _ z).2.1 rfl
 exact I.step (ch := ch) hch (fun b o hL hb hc e n => u.keep b o e n (fun z => (List.mem_cons.mp (I.stkSub b z)).elim hL hb) hc) (fun b o _ _ hc e n => u.any e n hc) (fun b o hc e n => u.free b o e n hc) (fun b o hc e => u.there b o e hc) u.tups u.frzs u.tbls (fun m' hm => by
  obtain ⟨o', es', ep', ho', r'⟩ := hm
  rw [ho] at ho'; cases ho'
  exact ⟨_, es', ep', hL, r'⟩) hok hg
theorem Inv.turned {t' : Nat} {it : Addr} (I : Inv X pins σ H s) (k : ∀ b o, b ≠ it → s.heap.get? b = some o → h'.get? b = some o) (hn : H it = none) (hL : it ≠ X.env.locals)
  (h1 : it ∈ X.ex ∨ X.s₀.heap.objs.size ≤ it) (h2 : ∀ x c, X.env.cells.lookup x = some c → c ≠ it) (h3 : ∀ p ∈ X.pn ++ pins, p.1 ≠ it) : Inv X pins σ H { s with heap := h', toks := t' } := by
 have nit : ∀ b u, H b = some u → b ≠ it := fun b u e z => by rw [z, hn] at e; cases e
 refine I.step (g' := s.gens) (d' := s.drawn) (ch := [it]) (fun b hb => ?_) (fun b o _ _ hc e _ => k b o (fun z => hc (by simp [z])) e) (fun b o _ _ hc e _ => ⟨o.slots, k b o (fun z => hc (by simp [z])) e⟩) (fun _ _ _ _ n => n)
  (fun b o hc e => ⟨o, k b o (fun z => hc (by simp [z])) e⟩) (fun _ _ e => e) (fun _ _ _ e => e) (fun b ps e => ⟨#[], by rw [e]; simp⟩) (fun m hm => ?_) (fun b u e => ?_) I.bare
 ·have e : b = it := by simpa using hb
  subst e
  exact ⟨h1, hL, h2, h3⟩
 ·obtain ⟨o, es, ep, ho, r⟩ := hm
  exact ⟨o, es, ep, k _ o (Ne.symm hL) ho, r⟩
 ·refine (I.hok b u e).stay (fun c v hc q => k c v ?_ q) (fun _ q => q) fun _ _ q => q
  rcases hc with z | z
  ·rw [z]; exact nit b u e
  ·exact nit c _ z
theorem Inv.tok (I : Inv X pins σ H s) (t : Nat) : Inv X pins σ H { s with toks := t } := I.un (h' := s.heap) (t' := t) Un.refl I.hok
theorem Inv.kept {t' : Nat} (I : Inv X pins σ H s) (k : ∀ b u, s.heap.get? b = some u → h'.get? b = some u) : Inv X pins σ H { s with heap := h', toks := t' } := I.un (Un.kept k) (I.hok.kept k)
theorem Inv.laid {a : Addr} {o : HO} {t' : Nat} (I : Inv X pins σ H s) (k : ∀ b u, s.heap.get? b = some u → h'.get? b = some u) (hp : s.heap.objs.size ≤ a) (new : ObjOk X.prog X.w (upd H a o) h' a o) :
  Inv X pins σ (upd H a o) { s with heap := h', toks := t' } := I.un (Un.laid k hp (I.hok.fresh hp)) (I.hok.laid k hp new)
theorem Inv.write {x e : Addr} {o : HO} {t' : Nat} (I : Inv X pins σ H s) (mu : Mut (H x)) (he : e = x ∨ H e = some (.own x)) (k : ∀ b u, b ≠ e → s.heap.get? b = some u → h'.get? b = some u) (heo : ∃ u, h'.get? e = some u)
  (new : ObjOk X.prog X.w (upd H x o) h' x o) : Inv X pins σ (upd H x o) { s with heap := h', toks := t' } := I.un (Un.write mu he k heo) (I.hok.write mu he k heo new)
theorem Inv.weak {σ' : List (Option V)} (I : Inv X pins σ H s) (hl : σ'.length = σ.length) (w : ∀ (i : Nat) v, σ'[i]? = some (some v) → σ[i]? = some (some v)) : Inv X pins σ' H s :=
 ⟨I.ok, I.os, I.bare, I.base, let ⟨m, hn, hl'⟩ := I.loc; ⟨m, hn, fun i x v e1 e2 e3 => hl' i x v e1 (w i v e2) e3⟩, I.cell, I.free, I.freeC, I.pin, I.hok, hl.trans I.len⟩
theorem Inv.pins_of {pins' : List (Addr × Obj)} (I : Inv X pins σ H s) (h : ∀ p ∈ pins', s.heap.get? p.1 = some p.2 ∧ H p.1 = none ∧ p.1 ≠ X.env.locals ∧ p.1 ∉ X.fs ∧ ∀ v, p.2.data ≠ .cell v) : Inv X pins' σ H s :=
 ⟨I.ok, I.os, I.bare, I.base, I.loc, I.cell, I.free, I.freeC, fun p hp => (List.mem_append.mp hp).elim (fun z => I.pin p (List.mem_append_left _ z)) (h p), I.hok, I.len⟩
theorem nodup_ix {N : List Str} (hN : N.Nodup) {i j : Nat} {x : Str} (a : N[i]? = some x) (b : N[j]? = some x) : i = j := by
 obtain ⟨h1, e1⟩ := List.getElem?_eq_some_iff.mp a
 obtain ⟨h2, e2⟩ := List.getElem?_eq_some_iff.mp b
 exact (List.getElem_inj hN).mp (e1.trans e2.symm)
theorem store_ok2 {M : Model} {A : Around} {E : Value → Shared → Prop} {i : Nat} {x : Str} {v : V} {u : Value} {Q : Unit → Shared → Prop} (I : Inv X pins σ H s) (hN : X.N.Nodup) (hi : X.N[i]? = some x) (hx : Loc X.env.scope x) (r : RelV v u)
  (h : ∀ s', Inv X pins (σ.set i (some v)) H s' → (∃ a, Heap.SameBut a s.heap s'.heap ∧ (a = X.env.locals ∨ X.env.cells.lookup x = some a)) → Q () s') (hf : X.fn x = true ∨ X.env.scope.names.lookup x = some .local := by first | exact .inl rfl | exact .inr rfl | assumption) : wpAny M A (storeName X.env x u) Q E s := by
 obtain ⟨m, hn, hl⟩ := id I.loc
 have hcls : (X.env.scope.kind == .class || (X.env.scope.kind == .module && X.env.locals != X.env.globals)) = false := by rw [I.ok.kind]; rfl
 have hiσ : i < σ.length := by rw [I.len]; exact (List.getElem?_eq_some_iff.mp hi).1
 have cne := I.cne
 have tracked : ∀ {a : Addr} {h' : Heap}, (∃ o, s.heap.get? a = some o ∧ H a = none) → Heap.SameBut a s.heap h' → HOk X.prog X.w H h' := fun {a h'} ha hs b ob e => by
  obtain ⟨_, _, hfree⟩ := ha
  refine (I.hok b ob e).stay (fun c w' hc q => (hs.2 c ?_).trans q) (fun _ q => q) fun _ _ q => q
  rintro rfl
  rcases hc with rfl | hc
  ·rw [hfree] at e; cases e
  ·rw [hfree] at hc; cases hc
 rcases hx with hk | hk
 ·refine wpAny_storeName_local hk hn (fun h' hn' hs => ?_) hcls
  obtain ⟨oL, _, _, hoL, _⟩ := id hn
  refine h _ ⟨I.ok, I.os, I.bare, ⟨fun b o e n hb hx => ?_, fun b o e n hb hx => ?_, I.base.free, fun b o e hx => ?_, I.base.tups, I.base.frzs, I.base.tbls⟩, ⟨_, hn', fun j y v' e1 e2 e3 => ?_⟩, fun y c e => ?_, I.free, I.freeC, fun p hp => ?_, tracked ⟨oL, hoL, I.free⟩ hs, by simpa using I.len⟩ ⟨_, hs, .inl rfl⟩
  ·exact (hs.2 b (Nat.ne_of_lt (Nat.lt_of_lt_of_le (Heap.lt_size e) I.ok.above))).trans (I.base.keep b o e n hb hx)
  ·obtain ⟨sl, e1⟩ := I.base.slot b o e n hb hx
   exact ⟨sl, (hs.2 b (Nat.ne_of_lt (Nat.lt_of_lt_of_le (Heap.lt_size e) I.ok.above))).trans e1⟩
  ·obtain ⟨o', e1⟩ := I.base.there b o e hx
   exact ⟨o', (hs.2 b (Nat.ne_of_lt (Nat.lt_of_lt_of_le (Heap.lt_size e) I.ok.above))).trans e1⟩
  ·by_cases hj : j = i
   ·subst hj
    rw [hi] at e1; cases e1
    rw [List.getElem?_set_self hiσ] at e2
    cases e2
    exact ⟨u, r, .inl ⟨hk, by simp⟩⟩
   ·rw [List.getElem?_set_ne (Ne.symm hj)] at e2
    obtain ⟨u', r', q⟩ := hl j y v' e1 e2 e3
    refine ⟨u', r', ?_⟩
    rcases q with ⟨k, e⟩ | ⟨k, c, e, z⟩
    ·refine .inl ⟨k, ?_⟩
     have : y ≠ x := fun e => hj (nodup_ix hN e1 (e ▸ hi))
     simp [this, e]
    ·exact .inr ⟨k, c, e, z.sameBut hs (cne y c e)⟩
  ·obtain ⟨w', z⟩ := I.cell y c e
   exact ⟨w', z.sameBut hs (cne y c e)⟩
  ·obtain ⟨e, n, ne, nf, d⟩ := I.pin p hp
   exact ⟨(hs.2 p.1 ne).trans e, n, ne, nf, d⟩
 ·have hfn : X.fn x = true := by
   rcases hf with z | z
   ·exact z
   ·rw [z] at hk; cases hk
  obtain ⟨c, hc⟩ := I.ok.has x (.inl hk)
  obtain ⟨w', z⟩ := I.cell x c hc
  refine wpAny_storeName_cell I.ok.kind hk hc z (fun h' hc' hs => ?_)
  obtain ⟨oc, hoc, hocd⟩ := id z
  refine h { s with heap := h' } ⟨I.ok, I.os, I.bare, ⟨fun b o e n hb hx => ?_, fun b o e n hb hx => ?_, I.base.free, fun b o e hx => ?_, I.base.tups, I.base.frzs, I.base.tbls⟩, ⟨m, hn.sameBut hs (Ne.symm (cne x c hc)), fun j y v' e1 e2 e3 => ?_⟩, fun y c' e => ?_, I.free, I.freeC, fun p hp => ?_, tracked ⟨oc, hoc, I.freeC x c hc⟩ hs, by simpa using I.len⟩ ⟨c, hs, .inr hc⟩
  ·exact (hs.2 b (Nat.ne_of_lt (Nat.lt_of_lt_of_le (Heap.lt_size e) (I.ok.cab x c hfn hc)))).trans (I.base.keep b o e n hb hx)
  ·obtain ⟨sl, e1⟩ := I.base.slot b o e n hb hx
   exact ⟨sl, (hs.2 b (Nat.ne_of_lt (Nat.lt_of_lt_of_le (Heap.lt_size e) (I.ok.cab x c hfn hc)))).trans e1⟩
  ·obtain ⟨o', e1⟩ := I.base.there b o e hx
   exact ⟨o', (hs.2 b (Nat.ne_of_lt (Nat.lt_of_lt_of_le (Heap.lt_size e) (I.ok.cab x c hfn hc)))).trans e1⟩
  ·by_cases hj : j = i
   ·subst hj
    rw [hi] at e1; cases e1
    rw [List.getElem?_set_self hiσ] at e2
    cases e2
    exact ⟨u, r, .inr ⟨.inl hk, c, hc, hc'⟩⟩
   ·rw [List.getElem?_set_ne (Ne.symm hj)] at e2
    obtain ⟨u', r', q⟩ := hl j y v' e1 e2 e3
    refine ⟨u', r', ?_⟩
    rcases q with q | ⟨k, c', e, z'⟩
    ·exact .inl q
    ·refine .inr ⟨k, c', e, z'.sameBut hs ?_⟩
     rintro rfl
     exact hj (nodup_ix hN e1 (I.ok.inj _ _ _ e hc ▸ hi))
  ·by_cases hcc : c' = c
   ·subst hcc; exact ⟨_, hc'⟩
   ·obtain ⟨w2, z2⟩ := I.cell y c' e
    exact ⟨w2, z2.sameBut hs hcc⟩
  ·obtain ⟨e, n, ne, nf, d⟩ := I.pin p hp
   refine ⟨(hs.2 p.1 ?_).trans e, n, ne, nf, d⟩
   intro q
   rw [q, hoc] at e
   have q' : oc = p.2 := Option.some.inj e
   exact d w' (by rw [← q']; exact hocd)
theorem store_ok {M : Model} {A : Around} {E : Value → Shared → Prop} {i : Nat} {x : Str} {v : V} {u : Value} {Q : Unit → Shared → Prop} (I : Inv X pins σ H s) (hN : X.N.Nodup) (hi : X.N[i]? = some x) (hx : Loc X.env.scope x) (r : RelV v u)
  (h : ∀ s', Inv X pins (σ.set i (some v)) H s' → Q () s') (hf : X.fn x = true ∨ X.env.scope.names.lookup x = some .local := by first | exact .inl rfl | exact .inr rfl | assumption) : wpAny M A (storeName X.env x u) Q E s :=
 store_ok2 I hN hi hx r (fun s' I' _ => h s' I') hf
theorem Inv.call' {s' : Shared} {ch : List Addr} (I : Inv X pins σ H s) (ho : s'.os = s.os) (u : Un (frs X.stack) ch H H' s.heap s'.heap) (hok : HOk X.prog X.w H' s'.heap) (hg : AllBare s'.gens)
  (hch : ∀ b ∈ ch, (b ∈ X.ex ∨ X.s₀.heap.objs.size ≤ b) ∧ b ≠ X.env.locals ∧ (∀ x c, X.env.cells.lookup x = some c → c ≠ b) ∧ ∀ p ∈ X.pn ++ pins, p.1 ≠ b) : Inv X pins σ H' s' := by
 obtain ⟨h', g', d', t', o'⟩ := s'
 have e : o' = s.os := ho
 subst e
 exact I.call (g' := g') (t' := t') (d' := d') u hok hg hch
end
abbrev XK := Value → Option Addr → Hp → Prop
abbrev St := List (Option V)
abbrev VK := V → Hp → Prop
abbrev TE := St → Hp → VK → Prop
abbrev TT := St → Hp → (Bool → Hp → Prop) → Prop
abbrev TA := St → Hp → (List V → Hp → Prop) → Prop
structure Ends where
 nx : St → Hp → Prop
 rt : VK
 bk : St → Hp → Prop := fun _ _ => False
 ct : St → Hp → Prop := fun _ _ => False
abbrev TS := Ends → St → Hp → Prop
def EP (X : Cx) (pins : List (Addr × Obj)) (σ : St) (Q : VK) (u : Value) (s' : Shared) : Prop := ∃ v H', Inv X pins σ H' s' ∧ RelV v u ∧ Q v H'
def TP (X : Cx) (pins : List (Addr × Obj)) (σ : St) (Q : Bool → Hp → Prop) (b : Bool) (s' : Shared) : Prop := ∃ H', Inv X pins σ H' s' ∧ Q b H'
def AP (X : Cx) (pins : List (Addr × Obj)) (σ : St) (Q : List V → Hp → Prop) (us : List Value) (s' : Shared) : Prop := ∃ vs H', Inv X pins σ H' s' ∧ Vals vs us ∧ Q vs H'
def SP (X : Cx) (pins : List (Addr × Obj)) (D : Ends) (f : Flow) (s' : Shared) : Prop :=
 match f with
 | .next => ∃ σ' H', Inv X pins σ' H' s' ∧ D.nx σ' H'
 | .brk => ∃ σ' H', Inv X pins σ' H' s' ∧ D.bk σ' H'
 | .cont => ∃ σ' H', Inv X pins σ' H' s' ∧ D.ct σ' H'
 | .ret u => ∃ v σ' H', Inv X pins σ' H' s' ∧ RelV v u ∧ D.rt v H'
def PE (X : Cx) (e : Expr) (t : TE) : Prop :=
 ∀ (pins : List (Addr × Obj)) (s : Shared) (σ : St) (H : Hp) (Q : VK), Inv X pins σ H s → t σ H Q → wpAny (model X.prog X.w) X.A (eval e X.env) (EP X pins σ Q) X.xe s
def PT (X : Cx) (e : Expr) (t : TT) : Prop :=
 ∀ (pins : List (Addr × Obj)) (s : Shared) (σ : St) (H : Hp) (Q : Bool → Hp → Prop), Inv X pins σ H s → t σ H Q → wpAny (model X.prog X.w) X.A (isTrue e X.env (eval e X.env)) (TP X pins σ Q) X.xe s
def PW (X : Cx) (e : Expr) (t : TT) : Prop :=
 ∀ (whole : Sem Value) (pins : List (Addr × Obj)) (s : Shared) (σ : St) (H : Hp) (Q : Bool → Hp → Prop), Inv X pins σ H s → t σ H Q → wpAny (model X.prog X.w) X.A (isTrue e X.env whole) (TP X pins σ Q) X.xe s
theorem PW.pt {X : Cx} {e : Expr} {t : TT} (h : PW X e t) : PT X e t := h _
def PA (X : Cx) (es : List Expr) (t : TA) : Prop :=
 ∀ (pos : Pos) (pins : List (Addr × Obj)) (s : Shared) (σ : St) (H : Hp) (Q : List V → Hp → Prop), Inv X pins σ H s → t σ H Q → wpAny (model X.prog X.w) X.A (spliced (backTo pos (starEach es X.env))) (AP X pins σ Q) X.xe s
def PS (X : Cx) (st : Stmt) (t : TS) : Prop :=
 ∀ (pins : List (Addr × Obj)) (s : Shared) (σ : St) (H : Hp) (D : Ends), Inv X pins σ H s → t D σ H → wpAny (model X.prog X.w) X.A (exec st X.env) (SP X pins D) X.xe s
def PSs (X : Cx) (st : List Stmt) (t : TS) : Prop :=
 ∀ (pins : List (Addr × Obj)) (s : Shared) (σ : St) (H : Hp) (D : Ends), Inv X pins σ H s → t D σ H → wpAny (model X.prog X.w) X.A (execs st X.env) (SP X pins D) X.xe s
theorem thn {α : Type} {t : Sem α} {Q Q' : α → Shared → Prop} {M : Model} {A : Around} {E : Value → Shared → Prop} {s : Shared} (h : wpAny M A t Q E s) (hQ : ∀ a s, Q a s → Q' a s) : wpAny M A t Q' E s := wpAny_mono h hQ fun _ _ x => x
end L2
namespace L2
open PySem PySem.Spec PyProof.Rows
section
variable {X : Cx}
def tVar (i : Nat) : TE := fun σ H Q => ∃ v, σ[i]? = some (some v) ∧ Q v H
def tC (v : V) : TE := fun _ H Q => Q v H
theorem pe_var {i : Nat} {x : Str} {pos : Pos} (hN : X.N[i]? = some x) (hv : Vis X.env.scope x) (hd : (x == ("__debug__" : Str)) = false := by decide) (hcd : (x == ("__classdict__" : Str)) = false := by decide) : PE X (.Name x pos) (tVar i) := by
 intro pins s σ H Q I h
 obtain ⟨v, e, h⟩ := h
 obtain ⟨m, hn, hl⟩ := I.loc
 obtain ⟨u, r, l⟩ := hl i x v hN e hv
 have fin : EP X pins σ Q u s := ⟨v, H, I, r, h⟩
 rcases l with ⟨hk, hm⟩ | ⟨hk, c, hc, hcell⟩
 ·exact wpAny_Name (wpAny_loadName_local I.ok.kind hk hn hm fin) hd
 ·rcases hk with hk | hk
  ·exact wpAny_Name (wpAny_loadName_cell I.ok.kind hk hc hcell fin) hd
  ·exact wpAny_Name (wpAny_loadName_free I.ok.kind hk hc hcell fin hcd) hd
theorem pe_int {i j pos} : PE X (.Constant (.int i) j pos) (tC (.int i)) := fun _ _ _ H _ I h => wpAny_Constant_int ⟨.int i, H, I.tok _, ⟨_, rfl⟩, h⟩
theorem pe_bl {b j pos} : PE X (.Constant (.bool b) j pos) (tC (.bl b)) := fun _ _ _ H _ I h => Constant_bool ⟨.bl b, H, I, rfl, h⟩
theorem pe_non {j pos} : PE X (.Constant .none j pos) (tC .non) := fun _ _ _ H _ I h => Constant_none ⟨.non, H, I, rfl, h⟩
theorem pe_str {x j pos} : PE X (.Constant (.str x) j pos) (tC (.str x)) := fun _ _ _ H _ I h => Calls.Constant_str ⟨.str x, H, I.tok _, ⟨_, rfl⟩, h⟩
def Gl (X : Cx) (x : Str) : Prop := X.env.kindOf x = some .globalImplicit
theorem ld_glob {E : Value → Shared → Prop} {pins : List (Addr × Obj)} {s : Shared} {σ : St} {H : Hp} {x : Str} {u : Value} {pos : Pos} {Q : Value → Shared → Prop} (I : Inv X pins σ H s) (hg : Gl X x) (hm : X.mg x = some u) (h : Q u s)
  (hd : (x == ("__debug__" : Str)) = false := by decide) : wpAny (model X.prog X.w) X.A (eval (.Name x pos) X.env) Q E s :=
 Calls.Name_function_global I.ok.kind hg (Calls.loadGlobal_global (by rw [I.ok.glob]; exact I.mod.glob.keeps I.bk) hm h) hd
theorem ld_blt {E : Value → Shared → Prop} {pins : List (Addr × Obj)} {s : Shared} {σ : St} {H : Hp} {x : Str} {u : Value} {pos : Pos} {Q : Value → Shared → Prop} (I : Inv X pins σ H s) (hg : Gl X x) (hm : X.mg x = none) (hv : bootBuiltins x = some u) (h : Q u s)
  (hn : x ≠ "__name__" := by decide) (hd : (x == ("__debug__" : Str)) = false := by decide) : wpAny (model X.prog X.w) X.A (eval (.Name x pos) X.env) Q E s := by
 obtain ⟨mb, h1, h2⟩ := I.mod.blt
 exact Calls.Name_function_global I.ok.kind hg (Calls.loadGlobal_builtin (by rw [I.ok.glob]; exact I.mod.glob.keeps I.bk) hm (by rw [I.ok.blt]; exact h1.keeps I.bk) ((h2 x hn).trans hv) h) hd
theorem pe_glob {x : Str} {v : V} {u : Value} {pos : Pos} (hg : Gl X x) (hm : X.mg x = some u) (r : RelV v u) (hd : (x == ("__debug__" : Str)) = false := by decide) : PE X (.Name x pos) (tC v) :=
 fun _ _ _ H _ I h => ld_glob I hg hm ⟨v, H, I, r, h⟩ hd
theorem pe_bltn {x : Str} {v : V} {u : Value} {pos : Pos} (hg : Gl X x) (hm : X.mg x = none) (hv : bootBuiltins x = some u) (r : RelV v u) (hn : x ≠ "__name__" := by decide) (hd : (x == ("__debug__" : Str)) = false := by decide) : PE X (.Name x pos) (tC v) :=
 fun _ _ _ H _ I h => ld_blt I hg hm hv ⟨v, H, I, r, h⟩ hn hd
def t2I (ta tb : TE) (k : Int → Int → Hp → Prop) : St → Hp → Prop := fun σ H => ta σ H fun x H1 => tb σ H1 fun y H2 => ∃ i j, x = .int i ∧ y = .int j ∧ k i j H2
def tAdd (ta tb : TE) : TE := fun σ H Q => t2I ta tb (fun i j H2 => Q (.int (i + j)) H2) σ H
def tSub (ta tb : TE) : TE := fun σ H Q => t2I ta tb (fun i j H2 => Q (.int (i - j)) H2) σ H
def tMul (ta tb : TE) : TE := fun σ H Q => t2I ta tb (fun i j H2 => (-(2 ^ 64) < i ∧ i < 2 ^ 64) ∧ Q (.int (i * j)) H2) σ H
variable {a b : Expr} {ta tb : TE} {pos : Pos}
def PC (X : Cx) (op : CmpOp) (a b : Expr) (t : TE) : Prop :=
 ∀ (pins : List (Addr × Obj)) (s : Shared) (σ : St) (H : Hp) (Q : VK), Inv X pins σ H s → t σ H Q →
  wpAny (model X.prog X.w) X.A (eval a X.env) (fun v s₁ => wpAny (model X.prog X.w) X.A (eval b X.env) (fun u s₂ => wpAny (model X.prog X.w) X.A (compareOp op v u) (EP X pins σ Q) X.xe s₂) X.xe s₁) X.xe s
theorem nobehind (b : Expr) {op : CmpOp} (h : op ≠ .In) (h2 : op ≠ .NotIn) : behindInMarks op b = false := by
 have e1 : (op == CmpOp.In) = false := by cases op <;> first | rfl | exact absurd rfl h
 have e2 : (op == CmpOp.NotIn) = false := by cases op <;> first | rfl | exact absurd rfl h2
 cases b <;> simp [behindInMarks, e1, e2]
def tCmp (p : Int → Int → Bool) (ta tb : TE) : TE := fun σ H Q => t2I ta tb (fun i j H2 => Q (.bl (p i j)) H2) σ H
abbrev tLt : TE → TE → TE := tCmp fun i j => decide (i < j)
abbrev tLe : TE → TE → TE := tCmp fun i j => decide (i ≤ j)
abbrev tGt : TE → TE → TE := tCmp fun i j => decide (j < i)
abbrev tGe : TE → TE → TE := tCmp fun i j => decide (j ≤ i)
abbrev tEqI : TE → TE → TE := tCmp fun i j => decide (i = j)
abbrev tNeI : TE → TE → TE := tCmp fun i j => !decide (i = j)
def tIsN (ta : TE) : TE := fun σ H Q => ta σ H fun x H1 => Q (.bl (decide (x = .non))) H1
def tNotN (ta : TE) : TE := fun σ H Q => ta σ H fun x H1 => Q (.bl (!decide (x = .non))) H1
theorem RelV.none_iff {x : V} {v : Value} (r : RelV x v) : (v == Value.none) = decide (x = .non) := by
 cases x with
 | non => cases r; rfl
 | bl _ => cases r; rfl
 | int _ => obtain ⟨t, rfl⟩ := r; rfl
 | str _ => obtain ⟨t, rfl⟩ := r; rfl
 | byt _ => obtain ⟨t, rfl⟩ := r; rfl
 | flt _ => obtain ⟨t, rfl⟩ := r; rfl
 | ref _ => cases r; rfl
 | ty _ => cases r; rfl
theorem pc_isN {j pos'} (ha : PE X a ta) : PC X .Is a (.Constant .none j pos') (tIsN ta) := by
 intro pins s σ H Q I h
 refine thn (ha pins s σ H _ I h) fun v s1 ⟨x, H1, I1, r1, q1⟩ => ?_
 exact Constant_none (is_none_gen ⟨.bl _, H1, I1, by rw [r1.none_iff]; rfl, q1⟩)
def tB (t : TE) : TT := fun σ H Q => t σ H fun x H1 => ∃ c, x = .bl c ∧ Q c H1
theorem pt_cmp {op : CmpOp} {t : TE} (h : PC X op a b t) (h1 : behindInMarks op b = false := by first | exact nobehind _ (by decide) (by decide) | rfl) : PT X (.Compare a [op] [b] pos) (tB t) := by
 intro pins s σ H Q I hw
 refine wpAny_isTrue_Compare1 (thn (h pins s σ H _ I hw) fun v s1 h1 => thn h1 fun u s2 h2 => thn h2 fun c s3 ⟨x, H1, I1, r1, q1⟩ => ?_) h1
 obtain ⟨d, rfl, q⟩ := q1
 cases r1
 exact wpAny_truthy_bool ⟨H1, I1, q⟩
theorem pt_val {e : Expr} {t : TE} (h : PE X e t) (he : ∀ whole, isTrue e X.env whole = (do let v ← whole; standAt e.pos; holding [v] (truthy v)) := by intro _; rfl) : PT X e (tB t) := by
 intro pins s σ H Q I hw
 refine isTrue_plain (thn (h pins s σ H _ I hw) fun v s1 ⟨x, H1, I1, r1, q1⟩ => ?_) (he _)
 obtain ⟨d, rfl, q⟩ := q1
 cases r1
 exact wpAny_truthy_bool ⟨H1, I1, q⟩
variable {tA tB' : TT} {rest : List Expr}
def tAnd (t u : TT) : TT := fun σ H Q => t σ H fun c H1 => if c = true then u σ H1 Q else Q false H1
def tOr (t u : TT) : TT := fun σ H Q => t σ H fun c H1 => if c = true then Q true H1 else u σ H1 Q
def tNot (t : TT) : TT := fun σ H Q => t σ H fun c H1 => Q (!c) H1
theorem pw_and1 (ha : PT X a tA) : PW X (.BoolOp .And [a] pos) tA := by
 intro wh pins s σ H Q I h
 refine isTrue_and (thn (ha pins s σ H Q I h) fun c s1 e => ?_)
 cases c with
 | true => exact isTrue_and_nil e
 | false => exact e
theorem pw_or1 (ha : PT X a tA) : PW X (.BoolOp .Or [a] pos) tA := by
 intro wh pins s σ H Q I h
 refine isTrue_or (thn (ha pins s σ H Q I h) fun c s1 e => ?_)
 cases c with
 | false => exact isTrue_or_nil e
 | true => exact e
theorem pw_and (ha : PT X a tA) (hb : PW X (.BoolOp .And (b :: rest) pos) tB') : PW X (.BoolOp .And (a :: b :: rest) pos) (tAnd tA tB') := by
 intro wh pins s σ H Q I h
 refine isTrue_and (thn (ha pins s σ H _ I h) fun c s1 ⟨H1, I1, q1⟩ => ?_)
 cases c with
 | true => exact hb wh pins s1 σ H1 Q I1 q1
 | false => exact ⟨H1, I1, q1⟩
theorem pw_or (ha : PT X a tA) (hb : PW X (.BoolOp .Or (b :: rest) pos) tB') : PW X (.BoolOp .Or (a :: b :: rest) pos) (tOr tA tB') := by
 intro wh pins s σ H Q I h
 refine isTrue_or (thn (ha pins s σ H _ I h) fun c s1 ⟨H1, I1, q1⟩ => ?_)
 cases c with
 | true => exact ⟨H1, I1, q1⟩
 | false => exact hb wh pins s1 σ H1 Q I1 q1
theorem pt_not (ha : PT X a tA) : PT X (.UnaryOp .Not a pos) (tNot tA) := by
 intro pins s σ H Q I h
 exact isTrue_not (ha pins s σ H (fun c H1 => Q (!c) H1) I h)
def tAndV (ta tb : TE) : TE := fun σ H Q => ta σ H fun x H1 => ∃ c, x = .bl c ∧ if c = true then tb σ H1 Q else Q (.bl false) H1
def tOrV (ta tb : TE) : TE := fun σ H Q => ta σ H fun x H1 => ∃ c, x = .bl c ∧ if c = true then Q (.bl true) H1 else tb σ H1 Q
def tNotV (ta : TE) : TE := fun σ H Q => ta σ H fun x H1 => ∃ c, x = .bl c ∧ Q (.bl (!c)) H1
theorem pe_one {op} {t : TE} (h : PE X a t) : PE X (.BoolOp op [a] pos) t := fun pins s σ H Q I hw => BoolOp_one (h pins s σ H Q I hw)
theorem pe_or (ha : PE X a ta) (hb : PE X (.BoolOp .Or (b :: rest) pos) tb) : PE X (.BoolOp .Or (a :: b :: rest) pos) (tOrV ta tb) := by
 intro pins s σ H Q I h
 refine BoolOp_or (thn (ha pins s σ H _ I h) fun v s1 ⟨x, H1, I1, r1, q1⟩ => ?_)
 obtain ⟨c, rfl, q1⟩ := q1
 cases r1
 refine wpAny_truthy_bool ?_
 cases c with
 | false => exact hb pins s1 σ H1 Q I1 q1
 | true => exact ⟨.bl true, H1, I1, rfl, q1⟩
def tIf (t : TT) (ta tb : TE) : TE := fun σ H Q => t σ H fun c H1 => if c = true then ta σ H1 Q else tb σ H1 Q
theorem pe_ifExp {c : Expr} (hc : PT X c tA) (ha : PE X a ta) (hb : PE X b tb) : PE X (.IfExp c a b pos) (tIf tA ta tb) := by
 intro pins s σ H Q I h
 refine wpAny_IfExp (thn (hc pins s σ H _ I h) fun d s1 ⟨H1, I1, q1⟩ => ?_)
 cases d with
 | true => exact ha pins s1 σ H1 Q I1 q1
 | false => exact hb pins s1 σ H1 Q I1 q1
end
end L2
namespace L2
open PySem PySem.Spec PyProof.Rows
def SqL (K : PySem.W.Frag) (H : Hp) (a : Addr) (xs : List V) : Prop :=
 Rd H a (.lst xs) ∨
  ∃ (o : Obj) (its : Array Value) (n : Nat), K.lookup a = some o ∧ o.cls = .type "list" ∧ o.dict = none ∧ o.data = .seq its n ∧ its.size ≤ sizeLine ∧ Vals xs its.toList
def SqT (K : PySem.W.Frag) (H : Hp) (a : Addr) (xs : List V) : Prop :=
 Rd H a (.tup xs) ∨
  ∃ (o : Obj) (its : Array Value) (n : Nat), K.lookup a = some o ∧ o.cls = .type "tuple" ∧ o.data = .seq its n ∧ its.size ≤ sizeLine ∧ Vals xs its.toList
def absV : Value → Option V
 | .none => some .non
 | .bool b => some (.bl b)
 | .int i _ => some (.int i)
 | .str x _ => some (.str x)
 | .bytes b _ => some (.byt b)
 | .float b _ => some (.flt b)
 | .ref a => some (.ref a)
 | .type n => some (.ty n)
 | _ => none
theorem RelV.abs {x : V} {u : Value} (r : RelV x u) : absV u = some x := by
 cases x with
 | non => cases r; rfl
 | bl _ => cases r; rfl
 | int _ => obtain ⟨t, rfl⟩ := r; rfl
 | str _ => obtain ⟨t, rfl⟩ := r; rfl
 | byt _ => obtain ⟨t, rfl⟩ := r; rfl
 | flt _ => obtain ⟨t, rfl⟩ := r; rfl
 | ref _ => cases r; rfl
 | ty _ => cases r; rfl
theorem RelV.inj {x y : V} {u : Value} (r : RelV x u) (q : RelV y u) : x = y := Option.some.inj (r.abs.symm.trans q.abs)
theorem Vals.inj : ∀ {xs ys : List V} {us : List Value}, Vals xs us → Vals ys us → xs = ys
 | _, _, _, .nil, .nil => rfl
 | _, _, _, .cons r t, .cons r' t' => by rw [r.inj r', Vals.inj t t']
section
variable {X : Cx} {pins : List (Addr × Obj)} {σ : St} {H : Hp} {s : Shared} {a : Addr} {xs ys : List V}
theorem SqL.of {K : PySem.W.Frag} (h : H a = some (.lst xs)) : SqL K H a xs := .inl (.inl h)
theorem SqT.of {K : PySem.W.Frag} (h : H a = some (.tup xs)) : SqT K H a xs := .inl (.inl h)
theorem Inv.list (I : Inv X pins σ H s) (h : SqL X.K H a xs) : ∃ its : List Value, Vals xs its ∧ PlainL s.heap a its.toArray ∧ xs.length ≤ sizeLine := by
 rcases h with h | ⟨o, its, n, hk, hc, hd, hs, hz, r⟩
 ·obtain ⟨z, its, n, r, e⟩ := h.ok I.hok
  exact ⟨its, r, ⟨_, n, e, rfl, rfl, rfl⟩, z⟩
 ·refine ⟨its.toList, r, ⟨o, n, I.kIn a o hk, hc, hd, by simpa using hs⟩, ?_⟩
  have e := r.length
  simp only [Array.length_toList] at e
  omega
theorem Inv.tuple (I : Inv X pins σ H s) (h : SqT X.K H a xs) : ∃ its : List Value, Vals xs its ∧ IsTup s.heap a its.toArray ∧ xs.length ≤ sizeLine := by
 rcases h with h | ⟨o, its, n, hk, hc, hs, hz, r⟩
 ·obtain ⟨z, its, r, p⟩ := h.ok I.hok
  exact ⟨its, r, p, z⟩
 ·refine ⟨its.toList, r, ⟨o, I.kIn a o hk, hc, n, by simpa using hs⟩, ?_⟩
  have e := r.length
  simp only [Array.length_toList] at e
  omega
theorem Inv.list_inj (I : Inv X pins σ H s) (h : SqL X.K H a xs) (h' : SqL X.K H a ys) : xs = ys := by
 obtain ⟨its, r, ⟨o, n, e, _, _, d⟩, _⟩ := I.list h
 obtain ⟨its', r', ⟨o', n', e', _, _, d'⟩, _⟩ := I.list h'
 rw [e] at e'; cases e'
 rw [d] at d'
 injection d' with d1 _
 have : its = its' := by simpa using congrArg Array.toList d1
 subst this
 exact r.inj r'
end
abbrev Cx.wish (X : Cx) (E : Value → Shared → Prop) : Cx := { X with xe := E }
abbrev Cx.nox (X : Cx) : Cx := X.wish fun _ _ => False
theorem Cx.Ok.wish {X : Cx} (ok : X.Ok) (E : Value → Shared → Prop) : (X.wish E).Ok :=
 ⟨ok.mod, ok.kind, ok.glob, ok.blt, ok.above, ok.inj, ok.has, ok.cab, ok.hd, ok.frames, ok.stk, ok.exf, ok.bs, ok.bsz, ok.noex, ok.exfs, ok.funs, ok.frf⟩
theorem Cx.Ok.unwish {X : Cx} {E : Value → Shared → Prop} (ok : (X.wish E).Ok) : X.Ok :=
 ⟨ok.mod, ok.kind, ok.glob, ok.blt, ok.above, ok.inj, ok.has, ok.cab, ok.hd, ok.frames, ok.stk, ok.exf, ok.bs, ok.bsz, ok.noex, ok.exfs, ok.funs, ok.frf⟩
section
variable {X : Cx} {pins : List (Addr × Obj)} {σ : St} {H : Hp} {s : Shared} {E : Value → Shared → Prop}
theorem Inv.wish (I : Inv X pins σ H s) (E : Value → Shared → Prop) : Inv (X.wish E) pins σ H s := ⟨I.ok.wish E, I.os, I.bare, I.base, I.loc, I.cell, I.free, I.freeC, I.pin, I.hok, I.len⟩
theorem Inv.unwish (I : Inv (X.wish E) pins σ H s) : Inv X pins σ H s := ⟨I.ok.unwish, I.os, I.bare, I.base, I.loc, I.cell, I.free, I.freeC, I.pin, I.hok, I.len⟩
theorem SP.unwish {D : Ends} {f : Flow} {s' : Shared} (h : SP (X.wish E) pins D f s') : SP X pins D f s' := by
 cases f with
 | next => obtain ⟨σ', H', I, q⟩ := h; exact ⟨σ', H', I.unwish, q⟩
 | brk => obtain ⟨σ', H', I, q⟩ := h; exact ⟨σ', H', I.unwish, q⟩
 | cont => obtain ⟨σ', H', I, q⟩ := h; exact ⟨σ', H', I.unwish, q⟩
 | ret u => obtain ⟨v, σ', H', I, r, q⟩ := h; exact ⟨v, σ', H', I.unwish, r, q⟩
theorem PSs.nox {st : List Stmt} {t : TS} (h : PSs X.nox st t) : PSs X st t := fun pins s σ H D I hw =>
 wpAny_mono (h pins s σ H D (I.wish _) hw) (fun _ _ q => q.unwish) fun _ _ z => False.elim z
end
section
variable {X : Cx} {st : Stmt} {rest : List Stmt} {t u : TS} {e : Expr} {te : TE} {pos : Pos}
def tNext : TS := fun D σ H => D.nx σ H
def tSeq (t u : TS) : TS := fun D σ H => t { D with nx := u D } σ H
theorem pss_nil : PSs X [] tNext := fun _ _ σ H _ I h => wpAny_execs_nil ⟨σ, H, I, h⟩
theorem pss_cons (h1 : PS X st t) (h2 : PSs X rest u) : PSs X (st :: rest) (tSeq t u) := by
 intro pins s σ H D I h
 refine wpAny_execs_cons (thn (h1 pins s σ H { D with nx := u D } I h) fun f s1 q => ?_)
 cases f with
 | next =>
  obtain ⟨σ', H', I', q⟩ := q
  exact h2 pins s1 σ' H' D I' q
 | ret v => exact q
 | brk => exact q
 | cont => exact q
theorem pss_one (h1 : PS X st t) : PSs X [st] t := by
 intro pins s σ H D I h
 refine wpAny_execs_cons (thn (h1 pins s σ H D I h) fun f s1 q => ?_)
 cases f with
 | next => exact wpAny_execs_nil q
 | ret v => exact q
 | brk => exact q
 | cont => exact q
def tBreak : TS := fun D σ H => D.bk σ H
def tCont : TS := fun D σ H => D.ct σ H
theorem Inv.quiet {pins : List (Addr × Obj)} {σ : St} {H : Hp} {s : Shared} (I : Inv X pins σ H s) : interactive X.env = false := by simp [interactive, I.ok.kind]
def tDrop (te : TE) : TS := fun D σ H => te σ H fun _ H1 => D.nx σ H1
theorem ps_expr (he : PE X e te) (hs : swapsWith e none pos.line X.env = pure false := by rfl) : PS X (.Expr e pos) (tDrop te) := by
 intro pins s σ H D I h
 exact wpAny_Expr_any (thn (he pins s σ H _ I h) fun v s1 ⟨x, H1, I1, r1, q1⟩ => ⟨σ, H1, I1, q1⟩) I.quiet hs
def tRet (te : TE) : TS := fun D σ H => te σ H D.rt
theorem ps_ret (he : PE X e te) : PS X (.Return (some e) pos) (tRet te) := by
 intro pins s σ H D I h
 exact wpAny_Return_some (thn (he pins s σ H _ I h) fun v s1 ⟨x, H1, I1, r1, q1⟩ => ⟨x, σ, H1, I1, r1, q1⟩)
def tRetN : TS := fun D _ H => D.rt .non H
def tIfS (c : TT) (t u : TS) : TS := fun D σ H => c σ H fun b H1 => if b = true then t D σ H1 else u D σ H1
theorem ps_if {c : Expr} {a b : List Stmt} {tc : TT} (hc : PT X c tc) (ha : PSs X a t) (hb : PSs X b u) : PS X (.If c a b pos) (tIfS tc t u) := by
 intro pins s σ H D I h
 refine wpAny_If (thn (hc pins s σ H _ I h) fun d s1 ⟨H1, I1, q1⟩ => ?_)
 cases d with
 | true => exact ha pins s1 σ H1 D I1 q1
 | false => exact hb pins s1 σ H1 D I1 q1
def tNever : TS := fun _ _ _ => False
theorem ps_never : PS X st tNever := fun _ _ _ _ _ _ h => h.elim
end
abbrev TG := V → St → Hp → (St → Hp → Prop) → Prop
abbrev TGs := List V → St → Hp → (St → Hp → Prop) → Prop
def PG (X : Cx) (target : Expr) (t : TG) : Prop :=
 ∀ (pins : List (Addr × Obj)) (s : Shared) (σ : St) (H : Hp) (v : V) (u : Value) (Q : St → Hp → Prop), Inv X pins σ H s → RelV v u → t v σ H Q →
  wpAny (model X.prog X.w) X.A (assign target X.env u) (fun _ s' => ∃ σ' H', Inv X pins σ' H' s' ∧ Q σ' H') X.xe s
def PGs (X : Cx) (ts : List Expr) (t : TGs) : Prop :=
 ∀ (pins : List (Addr × Obj)) (s : Shared) (σ : St) (H : Hp) (vs : List V) (us : List Value) (Q : St → Hp → Prop), Inv X pins σ H s → Vals vs us → t vs σ H Q →
  wpAny (model X.prog X.w) X.A (assignInOrder ((assignEach ts X.env).map (·.2)) us) (fun _ s' => ∃ σ' H', Inv X pins σ' H' s' ∧ Q σ' H') X.xe s
abbrev TSet := V → V → V → Hp → (Hp → Prop) → Prop
def PSet (X : Cx) (t : TSet) : Prop :=
 ∀ (pins : List (Addr × Obj)) (s : Shared) (σ : St) (H : Hp) (o i v : V) (ov iv u : Value) (Q : Hp → Prop), Inv X pins σ H s → RelV o ov → RelV i iv → RelV v u → t o i v H Q →
  wpAny (model X.prog X.w) X.A (setItem ov iv u) (fun _ s' => ∃ H', Inv X pins σ H' s' ∧ Q H') X.xe s
abbrev TIp := V → V → Hp → VK → Prop
def PIp (X : Cx) (op : Operator) (t : TIp) : Prop :=
 ∀ (pins : List (Addr × Obj)) (s : Shared) (σ : St) (H : Hp) (x y : V) (v u : Value) (Q : VK), Inv X pins σ H s → RelV x v → RelV y u → t x y H Q →
  wpAny (model X.prog X.w) X.A (inplaceOp op v u) (EP X pins σ Q) X.xe s
section
variable {X : Cx} {pos : Pos}
def gName (i : Nat) : TG := fun v σ H Q => Q (σ.set i (some v)) H
theorem pg_name {i : Nat} {x : Str} (hN : X.N.Nodup) (hi : X.N[i]? = some x) (hx : Loc X.env.scope x) (hf : X.fn x = true ∨ X.env.scope.names.lookup x = some .local := by first | exact .inl rfl | exact .inr rfl | assumption) : PG X (.Name x pos) (gName i) := by
 intro pins s σ H v u Q I r h
 exact wpAny_assign_Name (store_ok I hN hi hx r (fun s' I' => ⟨_, H, I', h⟩) hf)
def gNil : TGs := fun vs σ H Q => vs = [] ∧ Q σ H
def gCons (t : TG) (u : TGs) : TGs := fun vs σ H Q => ∃ v r, vs = v :: r ∧ t v σ H fun σ' H' => u r σ' H' Q
theorem pgs_nil : PGs X [] gNil := by
 intro pins s σ H vs us Q I r h
 obtain ⟨e, h⟩ := h
 subst e
 cases r
 exact assignInOrder_nil ⟨σ, H, I, h⟩
theorem pgs_cons {e : Expr} {es : List Expr} {t : TG} {u : TGs} (h1 : PG X e t) (h2 : PGs X es u)
  (hs : (assignEach (e :: es) X.env).map (·.2) = assign e X.env :: (assignEach es X.env).map (·.2) := by rfl) : PGs X (e :: es) (gCons t u) := by
 intro pins s σ H vs us Q I r h
 obtain ⟨v, vr, e1, h⟩ := h
 subst e1
 cases r with
 | cons r rr =>
  rw [hs]
  refine assignInOrder_cons (thn (h1 pins s σ H _ _ _ I r h) fun _ s1 ⟨σ1, H1, I1, q1⟩ => ?_)
  exact h2 pins s1 σ1 H1 _ _ Q I1 rr q1
def gTup (K : PySem.W.Frag) (n : Nat) (t : TGs) : TG := fun v σ H Q => ∃ a xs, v = .ref a ∧ SqT K H a xs ∧ xs.length = n ∧ t xs σ H Q
theorem pg_tup {es : List Expr} {k : Nat} {t : TGs} {n : Nat} (hc : X.calm = true) (h : PGs X es t)
  (hn : (assignEach es X.env).length = n := by rfl) (hst : (assignEach es X.env).findIdx? (·.1) = none := by rfl) : PG X (.Tuple es k pos) (gTup X.K n t) := by
 intro pins s σ H v u Q I r hw
 obtain ⟨a, xs, e1, hq, hl, hw⟩ := hw
 subst e1
 cases r
 obtain ⟨its, rv, ht, hz⟩ := I.tuple hq
 refine assign_Tuple_tuple (I.ok.hd hc) ht (by simp [hn, ← hl, rv.length]) hst fun h' hx => ?_
 have I1 : Inv X pins σ H { s with heap := h' } := I.kept (t' := s.toks) fun b o e => hx b o (Nat.ne_of_lt (Heap.lt_size e)) e
 exact h pins _ σ H xs _ Q I1 (by simpa using rv) hw
def gSub (to ti : TE) (t : TSet) : TG := fun v σ H Q => to σ H fun o H1 => ti σ H1 fun i H2 => t o i v H2 fun H3 => Q σ H3
theorem pg_sub {o i : Expr} {to ti : TE} {t : TSet} (ho : PE X o to) (hi : PE X i ti) (hs : PSet X t)
  (ha : ∀ v, assign (.Subscript o i pos) X.env v = (do
   let ov ← holding [v] (eval o X.env)
   let iv ← holding [v, ov] (eval i X.env)
   standAt pos
   holding [v, ov, iv] (setItem ov iv v)
   release [v, ov, iv] []) := by intro _; rfl) : PG X (.Subscript o i pos) (gSub to ti t) := by
 intro pins s σ H v u Q I r h
 rw [ha]
 refine wpAny_bind (wpAny_holding (thn (ho pins s σ H _ I h) fun ov s1 ⟨x, H1, I1, r1, q1⟩ => ?_))
 refine wpAny_bind (wpAny_holding (thn (hi pins s1 σ H1 _ I1 q1) fun iv s2 ⟨y, H2, I2, r2, q2⟩ => ?_))
 refine wpAny_bind (wpAny_standAt (wpAny_bind (wpAny_holding (thn (hs pins s2 σ H2 x y v ov iv u _ I2 r1 r2 r q2) fun _ s3 ⟨H3, I3, q3⟩ => ?_))))
 exact wpAny_release ⟨σ, H3, I3, q3⟩
def tAsg (te : TE) (g : TG) : TS := fun D σ H => te σ H fun x H1 => g x σ H1 D.nx
theorem ps_asg {tg e : Expr} {te : TE} {g : TG} (he : PE X e te) (hg : PG X tg g) (hs : swapsWithSole [tg] e pos.line X.env = pure false := by rfl) (hw : swappedStores [tg] e X.env = pure none := by rfl)
  (h1 : (assignEach [tg] X.env).map (·.2) = [assign tg X.env] := by rfl) : PS X (.Assign [tg] e pos) (tAsg te g) := by
 intro pins s σ H D I h
 refine wpAny_Assign_stores (thn (he pins s σ H _ I h) fun v s1 ⟨x, H1, I1, r1, q1⟩ => ?_) hs hw
 rw [h1]
 exact thn (hg pins s1 σ H1 x v _ I1 r1 q1) fun _ s2 q => q
theorem ps_set {i : Nat} {x : Str} {e : Expr} {te : TE} {pos' : Pos} (hN : X.N.Nodup) (hi : X.N[i]? = some x) (hx : Loc X.env.scope x) (he : PE X e te) (hs : swapsWith e (some (.Name x pos')) pos.line X.env = pure false := by rfl) (hf : X.fn x = true ∨ X.env.scope.names.lookup x = some .local := by first | exact .inl rfl | exact .inr rfl | assumption) :
  PS X (.Assign [.Name x pos'] e pos) (tAsg te (gName i)) := by
 intro pins s σ H D I h
 refine wpAny_Assign_Name (thn (he pins s σ H _ I h) fun v s1 ⟨y, H1, I1, r1, q1⟩ => ?_) hs
 exact store_ok I1 hN hi hx r1 (fun s2 I2 => ⟨_, H1, I2, q1⟩) hf
def tPar (i j : Nat) (ta : TA) : TS := fun D σ H => ta σ H fun vs H1 => ∃ v w, vs = [v, w] ∧ D.nx ((σ.set i (some v)).set j (some w)) H1
def tAug (i : Nat) (te : TE) (ti : TIp) : TS := fun D σ H => ∃ x, σ[i]? = some (some x) ∧ te σ H fun y H1 => ti x y H1 fun z H2 => D.nx (σ.set i (some z)) H2
def tAugS (to ti te : TE) (tget : V → V → Hp → VK → Prop) (tip : TIp) (tset : TSet) : TS := fun D σ H => to σ H fun o H1 => ti σ H1 fun i H2 => tget o i H2 fun x H3 => te σ H3 fun y H4 => tip x y H4 fun z H5 => tset o i z H5 fun H6 => D.nx σ H6
def PGet (X : Cx) (t : V → V → Hp → VK → Prop) : Prop :=
 ∀ (pins : List (Addr × Obj)) (s : Shared) (σ : St) (H : Hp) (o i : V) (ov iv : Value) (Q : VK), Inv X pins σ H s → RelV o ov → RelV i iv → t o i H Q →
  wpAny (model X.prog X.w) X.A (getItem ov iv) (EP X pins σ Q) X.xe s
def ipI (f : Int → Int → Int) : TIp := fun x y H Q => ∃ i j, x = .int i ∧ y = .int j ∧ Q (.int (f i j)) H
end
section
variable {X : Cx} {pos : Pos}
def tWhile (c : TT) (tb : TS) : TS := fun D σ H => ∃ W : Nat → St → Hp → Prop, (∃ m, W m σ H) ∧ ∀ m σ H, W m σ H →
 c σ H fun b H1 => if b = true then ∃ N : St → Hp → Prop, (∀ σ' H', N σ' H' → ∃ m', m' < m ∧ W m' σ' H') ∧ tb { D with nx := N, ct := N, bk := D.nx } σ H1 else D.nx σ H1
theorem ps_while {c : Expr} {body : List Stmt} {tc : TT} {tb : TS} (hp : PassesOwn (model X.prog X.w) X.A X.env X.xe) (hc : PT X c tc) (hb : PSs X body tb) : PS X (.While c body [] pos) (tWhile tc tb) := by
 intro pins s σ H D I h
 obtain ⟨W, ⟨m0, w0⟩, turn⟩ := h
 refine wpAny_While (codeAny_whileLoop (fun n s' => ∃ σ' H', Inv X pins σ' H' s' ∧ W n σ' H') ?_ m0 ⟨σ, H, I, w0⟩)
 rintro n s1 ⟨σ1, H1, I1, w1⟩
 refine wpAny_passesOwn hp (thn (hc pins s1 σ1 H1 _ I1 (turn n σ1 H1 w1)) fun b s2 ⟨H2, I2, q2⟩ => ?_)
 cases b with
 | true =>
  obtain ⟨N, hN, q2⟩ := q2
  rw [if_pos rfl]
  refine wpAny_passesOwn hp (thn (hb pins s2 σ1 H2 _ I2 q2) fun f s3 q3 => ?_)
  cases f with
  | next =>
   obtain ⟨σ3, H3, I3, n3⟩ := q3
   obtain ⟨m', hm, w3⟩ := hN σ3 H3 n3
   exact ⟨m', hm, σ3, H3, I3, w3⟩
  | cont =>
   obtain ⟨σ3, H3, I3, n3⟩ := q3
   obtain ⟨m', hm, w3⟩ := hN σ3 H3 n3
   exact ⟨m', hm, σ3, H3, I3, w3⟩
  | brk => exact q3
  | ret v => exact q3
 | false =>
  rw [if_neg Bool.false_ne_true]
  exact wpAny_execs_nil ⟨σ1, H2, I2, q2⟩
end
structure It where
 go : Nat → Hp → Prop
 yld : Nat → Hp → V → Hp → Prop
 stop : Nat → Hp → Prop
def FpOk (X : Cx) (pins : List (Addr × Obj)) (H : Hp) (b : Addr) : Prop :=
 H b = none ∧ b ≠ X.env.locals ∧ b ∉ X.fs ∧ (b ∈ X.ex ∨ X.s₀.heap.objs.size ≤ b) ∧ (∀ x c, X.env.cells.lookup x = some c → c ≠ b) ∧ ∀ p ∈ X.pn ++ pins, p.1 ≠ b
theorem Inv.fpOk {X : Cx} {pins : List (Addr × Obj)} {σ : St} {H H' : Hp} {s : Shared} {b : Addr} (I : Inv X pins σ H s) (hb : s.heap.objs.size ≤ b) (hn : H' b = none) : FpOk X pins H' b := by
 refine ⟨hn, Nat.ne_of_gt (Nat.lt_of_lt_of_le I.lt hb), I.nofs hb, .inr (Nat.le_trans I.sz hb), fun x c e z => ?_, fun p hp z => ?_⟩
 ·obtain ⟨v, q⟩ := I.cell x c e
  exact absurd (Nat.lt_of_lt_of_le q.lt (by rw [z]; exact hb)) (Nat.lt_irrefl _)
 ·exact absurd (Nat.lt_of_lt_of_le (Heap.lt_size (I.pin p hp).1) (by rw [z]; exact hb)) (Nat.lt_irrefl _)
structure Turn (P : Program) (w : World) (K : PySem.W.Frag) (tg : Expr) (J : It) (fp : List Addr) (it : Addr) (tn : Nat → Heap → Prop) : Prop where
 mem : it ∈ fp
 obj : ∀ i h, tn i h → ∀ b ∈ fp, ∃ o, h.get? b = some o ∧ ∀ v, o.data ≠ .cell v
 keep : ∀ i h h', tn i h → (∀ b ∈ fp, ∀ o, h.get? b = some o → h'.get? b = some o) → tn i h'
 item : ∀ (X : Cx), X.prog = P → X.w = w → X.K = K → X.calm = true → ∀ (i : Nat) (pins : List (Addr × Obj)) (s : Shared) (σ : St) (H : Hp) (E : Value → Shared → Prop), Inv X pins σ H s → (∀ b ∈ fp, FpOk X pins H b) → tn i s.heap → J.go i H →
  wpAny (model P w) X.A (pyNext (.ref it)) (fun r s1 => ∃ u, r = some u ∧
   wpAny (model P w) X.A (letOwnedTupleGo tg (.ref it) u) (fun _ s2 => ∃ x H', Inv X pins σ H' s2 ∧ RelV x u ∧ J.yld i H x H' ∧ tn (i + 1) s2.heap ∧ ∀ b ∈ fp, H' b = none) E s1) E s
 done : ∀ (X : Cx), X.prog = P → X.w = w → X.K = K → X.calm = true → ∀ (i : Nat) (pins : List (Addr × Obj)) (s : Shared) (σ : St) (H : Hp) (E : Value → Shared → Prop), Inv X pins σ H s → (∀ b ∈ fp, FpOk X pins H b) → tn i s.heap → J.stop i H →
  wpAny (model P w) X.A (pyNext (.ref it)) (fun r s1 => r = none ∧ Inv X pins σ H s1) E s
 self : ∀ (A : Around) (i : Nat) (s : Shared) (Q : Value → Shared → Prop) (E : Value → Shared → Prop), tn i s.heap → Q (.ref it) s → wpAny (model P w) A (pyIter (.ref it)) Q E s
abbrev TI := St → Hp → (It → Hp → Prop) → Prop
def PIE (X : Cx) (pins : List (Addr × Obj)) (σ : St) (tg : Expr) (R : It → Hp → Prop) (itv : Value) (s2 : Shared) : Prop :=
 ∃ (it : Addr) (fp : List Addr) (tn : Nat → Heap → Prop) (J : It) (H' : Hp), itv = .ref it ∧ Inv X pins σ H' s2 ∧ Turn X.prog X.w X.K tg J fp it tn ∧ tn 0 s2.heap ∧ (∀ b ∈ fp, FpOk X pins H' b) ∧ R J H'
def PI (X : Cx) (tg iter : Expr) (wi : TI) : Prop :=
 ∀ (pins : List (Addr × Obj)) (s : Shared) (σ : St) (H : Hp) (R : It → Hp → Prop), Inv X pins σ H s → wi σ H R →
  wpAny (model X.prog X.w) X.A (eval iter X.env) (fun v s1 => wpAny (model X.prog X.w) X.A (pyIter v) (PIE X pins σ tg R) X.xe s1) X.xe s
theorem go_of {M : Model} {A : Around} {E : Value → Shared → Prop} {s : Shared} {tg : Expr} {it : Addr} {u : Value} {o : Obj} {n : String} {vs : Array Value} {Q : Unit → Shared → Prop} (ho : s.heap.get? it = some o) (hc : o.cls = .type n) (hd : o.data = .fields vs)
  (hn : ["enumerate", "zip", "dict_itemiterator", "dict_reverseitemiterator", "odict_iterator", "itertools.zip_longest", "itertools.pairwise"].contains n = false) (hQ : Q () s) : wpAny M A (letOwnedTupleGo tg (.ref it) u) Q E s := by
 unfold letOwnedTupleGo
 cases tg <;> first
  | exact wpAny_pure hQ
  | (cases u <;> first
    | exact wpAny_pure hQ
    | (refine wpAny_bind (wpAny_load ho ?_)
       rw [hc, hd]
       show wpAny M A (if (["enumerate", "zip", "dict_itemiterator", "dict_reverseitemiterator", "odict_iterator", "itertools.zip_longest", "itertools.pairwise"].contains n && vs[0]? == some (rawInt _)) = true then _ else _) Q E s
       rw [if_neg (by intro h; rw [hn, Bool.false_and] at h; cases h)]
       exact wpAny_pure hQ))
def Itl (K : PySem.W.Frag) (a : Addr) : It :=
 ⟨fun i H => ∃ xs x, SqL K H a xs ∧ xs[i]? = some x, fun i H x H' => H' = H ∧ ∀ xs, SqL K H a xs → xs[i]? = some x, fun i H => ∃ xs, SqL K H a xs ∧ xs.length ≤ i⟩
def Itt (K : PySem.W.Frag) (a : Addr) : It :=
 ⟨fun i H => ∃ xs x, SqT K H a xs ∧ xs[i]? = some x, fun i H x H' => H' = H ∧ ∀ xs, SqT K H a xs → xs[i]? = some x, fun i H => ∃ xs, SqT K H a xs ∧ xs.length ≤ i⟩
def Itr (lo : Int) (n : Nat) : It := ⟨fun i _ => i < n, fun i H x H' => H' = H ∧ x = .int (lo + i), fun i _ => n ≤ i⟩
theorem turn_list {P : Program} {w : World} {K : PySem.W.Frag} {tg : Expr} (a it : Addr) : Turn P w K tg (Itl K a) [it] it (fun i h => h.IsListIter it a i) where
 mem := by simp
 obj := fun i h st b hb => by
  have e : b = it := by simpa using hb
  subst e
  obtain ⟨o, e, c, d⟩ := st
  exact ⟨o, e, fun v z => by rw [d] at z; cases z⟩
 keep := fun i h h' st k => st.at fun o e => k it (by simp) o e
 item := by
  intro X hP hw hK hc i pins s σ H E I hf st hg
  subst hP hw hK
  obtain ⟨xs, x, hq, hx⟩ := hg
  obtain ⟨its, rv, p, hz⟩ := I.list hq
  obtain ⟨u, hu, ru⟩ := rv.get hx
  obtain ⟨f0, f1, f2, f3, f4, f5⟩ := hf it (by simp)
  refine wpAny_pyNext_list_item st p.isList (x := u) (by simpa using hu) fun h' st' sb => ?_
  have I1 : Inv X pins σ H { s with heap := h' } := I.turned (t' := s.toks) (fun b o hb e => (sb.2 b hb).trans e) f0 f1 f3 f4 f5
  obtain ⟨o, e, c, d⟩ := id st'
  exact ⟨u, rfl, go_of (s := { s with heap := h' }) e c d (by decide) ⟨x, H, I1, ru, ⟨rfl, fun ys hy => by rw [I.list_inj hy hq]; exact hx⟩, st', fun b hb => (hf b hb).1⟩⟩
 done := by
  intro X hP hw hK hc i pins s σ H E I hf st hg
  subst hP hw hK
  obtain ⟨xs, hq, hx⟩ := hg
  obtain ⟨its, rv, p, hz⟩ := I.list hq
  obtain ⟨f0, f1, f2, f3, f4, f5⟩ := hf it (by simp)
  have hl := rv.length
  exact wpAny_pyNext_list_end (I.ok.hd hc) st p.isList (by simp; omega) fun h' eb => ⟨rfl, I.turned (t' := s.toks) (fun b o hb e => eb b o hb e) f0 f1 f3 f4 f5⟩
 self := fun _ _ _ _ _ st h => wpAny_pyIter_listiter st h
theorem turn_range {P : Program} {w : World} {K : PySem.W.Frag} {tg : Expr} (it : Addr) (lo : Int) (n : Nat) : Turn P w K tg (Itr lo n) [it] it (fun i h => IsRangeIter h it (lo + (i : Nat) * 1) ((n : Int) - (i : Nat)) 1) where
 mem := by simp
 obj := fun i h st b hb => by
  have e : b = it := by simpa using hb
  subst e
  exact ⟨_, st, fun v z => by
   have z' : Data.fields _ = Data.cell v := z
   cases z'⟩
 keep := fun i h h' st k => k it (by simp) _ st
 item := by
  intro X hP hw hK hc i pins s σ H E I hf st hg
  subst hP hw hK
  obtain ⟨f0, f1, f2, f3, f4, f5⟩ := hf it (by simp)
  have W := Walks.range (prog := X.prog) (w := X.w) (I.ok.hd hc) it lo 1 n
  refine W.item i s _ _ hg st fun v h' tk hv st' kk => ?_
  obtain ⟨t, rfl⟩ := hv
  have I1 : Inv X pins σ H { s with heap := h', toks := tk } := I.turned (fun b o hb e => kk b o (by simpa using hb) e) f0 f1 f3 f4 f5
  refine ⟨_, rfl, go_of (s := { s with heap := h', toks := tk }) (n := "range_iterator") st' rfl rfl (by decide) ⟨.int (lo + i), H, I1, ⟨t, ?_⟩, ⟨rfl, rfl⟩, st', fun b hb => (hf b hb).1⟩⟩
  rw [Int.mul_one]
 done := by
  intro X hP hw hK hc i pins s σ H E I hf st hg
  subst hP hw hK
  obtain ⟨f0, f1, f2, f3, f4, f5⟩ := hf it (by simp)
  exact wpAny_pyNext_range_end (I.ok.hd hc) st (by have : n ≤ i := hg; omega) fun h' eb => ⟨rfl, I.turned (t' := s.toks) (fun b o hb e => eb b o hb e) f0 f1 f3 f4 f5⟩
 self := fun _ _ _ _ _ st h => wpAny_pyIter_rangeiter st h
end L2
namespace L2
open PySem PySem.Spec PyProof.Rows
section
variable {X : Cx} {tg : Expr}
def iList (K : PySem.W.Frag) (tl : TE) : TI := fun σ H R => tl σ H fun x H1 => ∃ a, x = .ref a ∧ (∃ xs, SqL K H1 a xs) ∧ R (Itl K a) H1
def iTup (K : PySem.W.Frag) (tl : TE) : TI := fun σ H R => tl σ H fun x H1 => ∃ a, x = .ref a ∧ (∃ xs, SqT K H1 a xs) ∧ R (Itt K a) H1
theorem pi_list {l : Expr} {tl : TE} (hl : PE X l tl) : PI X tg l (iList X.K tl) := by
 intro pins s σ H R I h
 refine thn (hl pins s σ H _ I h) fun v s1 ⟨x, H1, I1, r1, q1⟩ => ?_
 obtain ⟨a, e, ⟨xs, hq⟩, q⟩ := q1
 subst e
 cases r1
 obtain ⟨its, rv, p, hz⟩ := I1.list hq
 refine wpAny_pyIter_list p.isList ?_
 refine ⟨s1.heap.objs.size, [s1.heap.objs.size], _, _, H1, rfl, I1.kept (t' := s1.toks) fun b o e => Heap.get?_push_of_some _ e, turn_list a _, ⟨_, Heap.get?_push_size _ rfl, rfl, rfl⟩, fun b hb => ?_, q⟩
 have e : b = s1.heap.objs.size := by simpa using hb
 subst e
 exact I1.fpOk (Nat.le_refl _) (I1.hok.fresh (Nat.le_refl _))
theorem range_it {pins : List (Addr × Obj)} {σ : St} {H : Hp} {s : Shared} {R : It → Hp → Prop} {E : Value → Shared → Prop} {lo hi : Int} {t u v : Tok} {tk : Nat} (I : Inv X pins σ H s) (h1 : -(2 ^ 62) ≤ lo) (h2 : lo < 2 ^ 62) (h3 : -(2 ^ 62) ≤ hi) (h4 : hi < 2 ^ 62)
  (q : R (Itr lo (hi - lo).toNat) H) : wpAny (model X.prog X.w) X.A (pyIter (.ref s.heap.objs.size)) (PIE X pins σ tg R) E { s with heap := s.heap.push { cls := .type "range", data := .fields #[.int lo t, .int hi u, .int 1 v] }, toks := tk } := by
 refine wpAny_pyIter_range (IsRange.new ..) (small_one h1 h2 h3 h4) ?_
 have I1 : Inv X pins σ H { s with heap := s.heap.push { cls := .type "range", data := .fields #[.int lo t, .int hi u, .int 1 v] }, toks := tk } := I.kept fun b o e => Heap.get?_push_of_some _ e
 refine ⟨(s.heap.push { cls := .type "range", data := .fields #[.int lo t, .int hi u, .int 1 v] }).objs.size, [(s.heap.push { cls := .type "range", data := .fields #[.int lo t, .int hi u, .int 1 v] }).objs.size], _, _, H, rfl,
  I1.kept (t' := tk) fun b o e => Heap.get?_push_of_some _ e, turn_range _ lo (hi - lo).toNat, ?_, fun b hb => ?_, q⟩
 ·have e1 : lo + ((0 : Nat) : Int) * 1 = lo := by simp
  have e2 : (((hi - lo).toNat : Nat) : Int) - ((0 : Nat) : Int) = Builtin.Range.rangeSize lo hi 1 := by rw [rangeSize_one]; split <;> omega
  show IsRangeIter _ _ (lo + ((0 : Nat) : Int) * 1) ((((hi - lo).toNat : Nat) : Int) - ((0 : Nat) : Int)) 1
  rw [e1, e2]
  exact Heap.get?_push_size _ rfl
 ·have e : b = (s.heap.push { cls := .type "range", data := .fields #[.int lo t, .int hi u, .int 1 v] }).objs.size := by simpa using hb
  subst e
  exact I1.fpOk (Nat.le_refl _) (I1.hok.fresh (Nat.le_refl _))
def iRng1 (ta : TA) : TI := fun σ H R => ta σ H fun vs H1 => ∃ j : Int, vs = [.int j] ∧ -(2 ^ 62) ≤ j ∧ j < 2 ^ 62 ∧ R (Itr 0 j.toNat) H1
def iRng2 (ta : TA) : TI := fun σ H R => ta σ H fun vs H1 => ∃ i j : Int, vs = [.int i, .int j] ∧ (-(2 ^ 62) ≤ i ∧ i < 2 ^ 62 ∧ -(2 ^ 62) ≤ j ∧ j < 2 ^ 62) ∧ R (Itr i (j - i).toNat) H1
theorem pi_range1 {a : Expr} {ta : TA} {p pos : Pos} (hg : Gl X "range") (hm : X.mg "range" = none) (ha : PA X [a] ta) (hs : starEach [a] X.env = [(false, eval a X.env)] := by rfl) : PI X tg (.Call (.Name "range" p) [a] [] pos) (iRng1 ta) := by
 intro pins s σ H R I h
 refine Call_ (ld_blt I hg hm boot_range (PyProof.Rows.callWith_type1 (thn (ha pos pins s σ H _ I h) fun us s1 ⟨vs, H1, I1, r1, q1⟩ => ?_) hs rfl))
 obtain ⟨j, e, q1, q2, q⟩ := q1
 subst e
 cases r1 with
 | cons r rr =>
  cases rr
  obtain ⟨t, rfl⟩ := r
  exact call_range_1 (range_it I1 (by omega) (by omega) q1 q2 (by simpa using q))
def tFor (wi : TI) (g : TG) (tb : TS) : TS := fun D σ H => wi σ H fun J H1 => ∃ W : Nat → Nat → St → Hp → Prop, (∃ m, W 0 m σ H1) ∧ ∀ i m σ H, W i m σ H →
 (J.stop i H ∧ D.nx σ H) ∨ (J.go i H ∧ ∃ N : St → Hp → Prop, (∀ σ' H', N σ' H' → ∃ m', m' < m ∧ W (i + 1) m' σ' H') ∧ ∀ x H', J.yld i H x H' → g x σ H' fun σ2 H2 => tb { D with nx := N, ct := N, bk := D.nx } σ2 H2)
def pinsAt (fp : List Addr) (h : Heap) : List (Addr × Obj) := fp.filterMap fun b => (h.get? b).map fun o => (b, o)
theorem mem_pinsAt {fp : List Addr} {h : Heap} {b : Addr} {o : Obj} (hb : b ∈ fp) (e : h.get? b = some o) : (b, o) ∈ pinsAt fp h := List.mem_filterMap.mpr ⟨b, hb, by rw [e]; rfl⟩
theorem of_pinsAt {fp : List Addr} {h : Heap} {p : Addr × Obj} (hp : p ∈ pinsAt fp h) : p.1 ∈ fp ∧ h.get? p.1 = some p.2 := by
 obtain ⟨b, hb, e⟩ := List.mem_filterMap.mp hp
 cases q : h.get? b with
 | none => rw [q] at e; cases e
 | some o =>
  rw [q] at e
  have e' : (b, o) = p := Option.some.inj e
  subst e'
  exact ⟨hb, q⟩
theorem Inv.pinned {pins : List (Addr × Obj)} {σ : St} {H : Hp} {s : Shared} {fp : List Addr} (I : Inv X pins σ H s) (hf : ∀ b ∈ fp, FpOk X pins H b) (ho : ∀ b ∈ fp, ∃ o, s.heap.get? b = some o ∧ ∀ v, o.data ≠ .cell v) : Inv X (pins ++ pinsAt fp s.heap) σ H s :=
 I.pins_of fun p hp => (List.mem_append.mp hp).elim (fun z => I.pin p (List.mem_append_right _ z)) fun z => by
  obtain ⟨hb, e⟩ := of_pinsAt z
  obtain ⟨f0, f1, f2, _⟩ := hf p.1 hb
  obtain ⟨o, e', d⟩ := ho p.1 hb
  rw [e] at e'; cases e'
  exact ⟨e, f0, f1, f2, d⟩
theorem Inv.unpinned {pins pl : List (Addr × Obj)} {σ : St} {H : Hp} {s : Shared} (I : Inv X (pins ++ pl) σ H s) : Inv X pins σ H s := I.pins_of fun p hp => I.pin p (List.mem_append_right _ (List.mem_append_left _ hp))
theorem ps_for {iter : Expr} {body : List Stmt} {wi : TI} {g : TG} {tb : TS} {pos : Pos} (hp : PassesOwn (model X.prog X.w) X.A X.env X.xe) (hc : X.calm = true) (hi : PI X tg iter wi) (hg : PG X tg g) (hb : PSs X body tb)
  (hs : ∀ x, foldedSetIterable iter X.env x = pure x := by intro _; rfl) : PS X (.For tg iter body [] pos) (tFor wi g tb) := by
 intro pins s σ H D I h
 refine wpAny_For (thn (hi pins s σ H _ I h) fun v s1 h1 => thn h1 fun itv s2 h2 => ?_) hs
 obtain ⟨it, fp, tn, J, H2, e, I2, T, st2, f2, W, ⟨m0, w0⟩, turn⟩ := h2
 subst e
 have stat : ∀ {H' : Hp}, (∀ b ∈ fp, H' b = none) → ∀ b ∈ fp, FpOk X pins H' b := fun hn b hb => ⟨hn b hb, (f2 b hb).2⟩
 refine codeAny_forLoop_any (fun n s' => ∃ i σ' H', Inv X pins σ' H' s' ∧ tn i s'.heap ∧ (∀ b ∈ fp, H' b = none) ∧ W i n σ' H') ?_ m0 ⟨0, σ, H2, I2, st2, fun b hb => (f2 b hb).1, w0⟩
 rintro n s3 ⟨i, σ3, H3, I3, st3, fr3, w3⟩
 rcases turn i n σ3 H3 w3 with ⟨stop, qn⟩ | ⟨go, N, hN, step⟩
 ·refine wpAny_passesOwn hp (thn (T.done X rfl rfl rfl hc i pins s3 σ3 H3 X.xe I3 (stat fr3) st3 stop) fun r s4 ⟨hr, I4⟩ => ?_)
  subst hr
  exact wpAny_execs_nil ⟨σ3, H3, I4, qn⟩
 ·refine wpAny_passesOwn hp (thn (T.item X rfl rfl rfl hc i pins s3 σ3 H3 X.xe I3 (stat fr3) st3 go) fun r s4 ⟨u, hr, h4⟩ => ?_)
  subst hr
  refine wpAny_passesOwn hp (thn h4 fun _ s5 ⟨x, H5, I5, r5, y5, st5, fr5⟩ => ?_)
  have I5' := I5.pinned (stat fr5) (T.obj _ _ st5)
  refine wpAny_passesOwn hp (thn (hg _ s5 σ3 H5 x u _ I5' r5 (step x H5 y5)) fun _ s6 ⟨σ6, H6, I6, q6⟩ => ?_)
  refine wpAny_passesOwn hp (thn (hb _ s6 σ6 H6 _ I6 q6) fun f s7 q7 => ?_)
  have again : ∀ {σ7 : St} {H7 : Hp}, Inv X (pins ++ pinsAt fp s5.heap) σ7 H7 s7 → N σ7 H7 → ∃ m, m < n ∧ ∃ i σ' H', Inv X pins σ' H' s7 ∧ tn i s7.heap ∧ (∀ b ∈ fp, H' b = none) ∧ W i m σ' H' := fun {σ7 H7} I7 n7 => by
   obtain ⟨m', hm, w7⟩ := hN σ7 H7 n7
   refine ⟨m', hm, i + 1, σ7, H7, I7.unpinned, T.keep _ _ _ st5 fun b hb o e => (I7.pin (b, o) (List.mem_append_right _ (List.mem_append_right _ (mem_pinsAt hb e)))).1, fun b hb => ?_, w7⟩
   obtain ⟨o, e, d⟩ := T.obj _ _ st5 b hb
   exact (I7.pin (b, o) (List.mem_append_right _ (List.mem_append_right _ (mem_pinsAt hb e)))).2.1
  cases f with
  | next => obtain ⟨σ7, H7, I7, n7⟩ := q7; exact again I7 n7
  | cont => obtain ⟨σ7, H7, I7, n7⟩ := q7; exact again I7 n7
  | brk => obtain ⟨σ7, H7, I7, q7⟩ := q7; exact ⟨σ7, H7, I7.unpinned, q7⟩
  | ret v => obtain ⟨x7, σ7, H7, I7, r7, q7⟩ := q7; exact ⟨x7, σ7, H7, I7.unpinned, r7, q7⟩
end
theorem for_list {K : PySem.W.Frag} {a : Addr} {xs : List V} {g : TG} {tb : TS} {D : Ends} {σ : St} {H : Hp} (Pv : Nat → St → Hp → Prop) (h0 : Pv 0 σ H) (hl : ∀ i σ H, i ≤ xs.length → Pv i σ H → SqL K H a xs)
  (hs : ∀ i x σ H, xs[i]? = some x → Pv i σ H → g x σ H fun σ2 H2 => tb { D with nx := Pv (i + 1), ct := Pv (i + 1), bk := D.nx } σ2 H2) (hd : ∀ σ H, Pv xs.length σ H → D.nx σ H) :
  ∃ W : Nat → Nat → St → Hp → Prop, (∃ m, W 0 m σ H) ∧ ∀ i m σ H, W i m σ H →
   ((Itl K a).stop i H ∧ D.nx σ H) ∨ ((Itl K a).go i H ∧ ∃ N : St → Hp → Prop, (∀ σ' H', N σ' H' → ∃ m', m' < m ∧ W (i + 1) m' σ' H') ∧ ∀ x H', (Itl K a).yld i H x H' → g x σ H' fun σ2 H2 => tb { D with nx := N, ct := N, bk := D.nx } σ2 H2) := by
 refine ⟨fun i m σ H => m = xs.length - i ∧ i ≤ xs.length ∧ Pv i σ H, ⟨xs.length, by simp, Nat.zero_le _, h0⟩, ?_⟩
 rintro i m σ H ⟨rfl, hi, p⟩
 have q := hl i σ H hi p
 by_cases hlt : i < xs.length
 ·refine .inr ⟨⟨xs, xs[i], q, by simp [hlt]⟩, Pv (i + 1), fun σ' H' p' => ⟨xs.length - (i + 1), by omega, rfl, hlt, p'⟩, fun x H' y => ?_⟩
  obtain ⟨e, y⟩ := y
  subst e
  exact hs i x σ _ (y xs q) p
 ·have e : i = xs.length := by omega
  subst e
  exact .inl ⟨⟨xs, q, Nat.le_refl _⟩, hd σ H p⟩
theorem for_range {lo : Int} {n : Nat} {g : TG} {tb : TS} {D : Ends} {σ : St} {H : Hp} (Pv : Nat → St → Hp → Prop) (h0 : Pv 0 σ H)
  (hs : ∀ i σ H, i < n → Pv i σ H → g (.int (lo + i)) σ H fun σ2 H2 => tb { D with nx := Pv (i + 1), ct := Pv (i + 1), bk := D.nx } σ2 H2) (hd : ∀ σ H, Pv n σ H → D.nx σ H) :
  ∃ W : Nat → Nat → St → Hp → Prop, (∃ m, W 0 m σ H) ∧ ∀ i m σ H, W i m σ H →
   ((Itr lo n).stop i H ∧ D.nx σ H) ∨ ((Itr lo n).go i H ∧ ∃ N : St → Hp → Prop, (∀ σ' H', N σ' H' → ∃ m', m' < m ∧ W (i + 1) m' σ' H') ∧ ∀ x H', (Itr lo n).yld i H x H' → g x σ H' fun σ2 H2 => tb { D with nx := N, ct := N, bk := D.nx } σ2 H2) := by
 refine ⟨fun i m σ H => m = n - i ∧ i ≤ n ∧ Pv i σ H, ⟨n, by simp, Nat.zero_le _, h0⟩, ?_⟩
 rintro i m σ H ⟨rfl, hi, p⟩
 by_cases hlt : i < n
 ·refine .inr ⟨hlt, Pv (i + 1), fun σ' H' p' => ⟨n - (i + 1), by omega, rfl, hlt, p'⟩, fun x H' y => ?_⟩
  obtain ⟨e, y⟩ := y
  subst e y
  exact hs i σ _ hlt p
 ·have e : i = n := by omega
  subst e
  exact .inl ⟨Nat.le_refl _, hd σ H p⟩
end L2
namespace L2
open PySem PySem.Spec PyProof.Rows
abbrev R2 := V → V → Hp → VK → Prop
def OpR (X : Cx) (f : Value → Value → Sem Value) (r : R2) : Prop :=
 ∀ (pins : List (Addr × Obj)) (s : Shared) (σ : St) (H : Hp) (x y : V) (v u : Value) (Q : VK), Inv X pins σ H s → RelV x v → RelV y u → r x y H Q →
  wpAny (model X.prog X.w) X.A (f v u) (EP X pins σ Q) X.xe s
def UnR (X : Cx) (f : Value → Sem Value) (r : V → Hp → VK → Prop) : Prop :=
 ∀ (pins : List (Addr × Obj)) (s : Shared) (σ : St) (H : Hp) (x : V) (v : Value) (Q : VK), Inv X pins σ H s → RelV x v → r x H Q →
  wpAny (model X.prog X.w) X.A (f v) (EP X pins σ Q) X.xe s
def CallR (X : Cx) (f : Value) (r : List V → Hp → VK → Prop) : Prop :=
 ∀ (pins : List (Addr × Obj)) (s : Shared) (σ : St) (H : Hp) (xs : List V) (us : List Value) (Q : VK), Inv X pins σ H s → Vals xs us → r xs H Q →
  wpAny (model X.prog X.w) X.A (call f us) (EP X pins σ Q) X.xe s
def TruR (X : Cx) (r : V → Hp → (Bool → Hp → Prop) → Prop) : Prop :=
 ∀ (pins : List (Addr × Obj)) (s : Shared) (σ : St) (H : Hp) (x : V) (v : Value) (Q : Bool → Hp → Prop), Inv X pins σ H s → RelV x v → r x H Q →
  wpAny (model X.prog X.w) X.A (truthy v) (TP X pins σ Q) X.xe s
def tOp (r : R2) (ta tb : TE) : TE := fun σ H Q => ta σ H fun x H1 => tb σ H1 fun y H2 => r x y H2 Q
def tUn (r : V → Hp → VK → Prop) (ta : TE) : TE := fun σ H Q => ta σ H fun x H1 => r x H1 Q
def rI (C : Int → Int → Prop) (g : Int → Int → V) : R2 := fun x y H Q => ∃ i j, x = .int i ∧ y = .int j ∧ C i j ∧ Q (g i j) H
def rI0 (g : Int → Int → V) : R2 := fun x y H Q => ∃ i j, x = .int i ∧ y = .int j ∧ Q (g i j) H
def rU (g : Int → V) : V → Hp → VK → Prop := fun x H Q => ∃ i, x = .int i ∧ Q (g i) H
section
variable {X : Cx} {a b c : Expr} {ta tb tc : TE} {pos : Pos}
theorem binT (ha : PE X a ta) (hb : PE X b tb) {pins : List (Addr × Obj)} {s : Shared} {σ : St} {H : Hp} {R : V → V → Hp → Prop} (I : Inv X pins σ H s)
  (h : ta σ H fun x H1 => tb σ H1 fun y H2 => R x y H2) {Q : Value → Shared → Prop} {f : Value → Value → Sem Value}
  (hf : ∀ v u s2 x y H2, Inv X pins σ H2 s2 → RelV x v → RelV y u → R x y H2 → wpAny (model X.prog X.w) X.A (f v u) Q X.xe s2) :
  wpAny (model X.prog X.w) X.A (eval a X.env) (fun v s₁ => wpAny (model X.prog X.w) X.A (eval b X.env) (fun u s₂ => wpAny (model X.prog X.w) X.A (f v u) Q X.xe s₂) X.xe s₁) X.xe s := by
 refine thn (ha pins s σ H _ I h) fun v s1 ⟨x, H1, I1, r1, q1⟩ => ?_
 refine thn (hb pins s1 σ H1 _ I1 q1) fun u s2 ⟨y, H2, I2, r2, q2⟩ => ?_
 exact hf v u s2 x y H2 I2 r1 r2 q2
theorem pe_op {op : Operator} {r : R2} (ho : OpR X (binaryOp op) r) (ha : PE X a ta) (hb : PE X b tb) : PE X (.BinOp a op b pos) (tOp r ta tb) := by
 intro pins s σ H Q I h
 exact wpAny_BinOp (binT ha hb I h fun v u s2 x y H2 I2 rx ry q => ho pins s2 σ H2 x y v u Q I2 rx ry q)
theorem pe_un {op : UnaryOp} {r : V → Hp → VK → Prop} (ho : UnR X (unaryOp op) r) (ha : PE X a ta) : PE X (.UnaryOp op a pos) (tUn r ta) := by
 intro pins s σ H Q I h
 exact UnaryOp_ (thn (ha pins s σ H _ I h) fun v s1 ⟨x, H1, I1, r1, q1⟩ => ho pins s1 σ H1 x v Q I1 r1 q1)
theorem opI {f : Value → Value → Sem Value} {C : Int → Int → Prop} {g : Int → Int → Int}
  (rule : ∀ (i j : Int) (t u : Tok) (s : Shared) (Q : Value → Shared → Prop) (E : Value → Shared → Prop), C i j → Q (.int (g i j) s.toks) { s with toks := s.toks + 1 } → wpAny (model X.prog X.w) X.A (f (.int i t) (.int j u)) Q E s) :
  OpR X f (rI C fun i j => .int (g i j)) := by
 intro pins s σ H x y v u Q I rx ry h
 obtain ⟨i, j, rfl, rfl, hc, q⟩ := h
 obtain ⟨t, rfl⟩ := rx
 obtain ⟨t', rfl⟩ := ry
 exact rule i j t t' s _ _ hc ⟨.int (g i j), H, I.tok _, ⟨_, rfl⟩, q⟩
theorem opI0 {f : Value → Value → Sem Value} {g : Int → Int → Int}
  (rule : ∀ (i j : Int) (t u : Tok) (s : Shared) (Q : Value → Shared → Prop) (E : Value → Shared → Prop), Q (.int (g i j) s.toks) { s with toks := s.toks + 1 } → wpAny (model X.prog X.w) X.A (f (.int i t) (.int j u)) Q E s) :
  OpR X f (rI0 fun i j => .int (g i j)) := by
 intro pins s σ H x y v u Q I rx ry h
 obtain ⟨i, j, rfl, rfl, q⟩ := h
 obtain ⟨t, rfl⟩ := rx
 obtain ⟨t', rfl⟩ := ry
 exact rule i j t t' s _ _ ⟨.int (g i j), H, I.tok _, ⟨_, rfl⟩, q⟩
theorem opB0 {f : Value → Value → Sem Value} {g : Int → Int → Bool}
  (rule : ∀ (i j : Int) (t u : Tok) (s : Shared) (Q : Value → Shared → Prop) (E : Value → Shared → Prop), Q (.bool (g i j)) s → wpAny (model X.prog X.w) X.A (f (.int i t) (.int j u)) Q E s) :
  OpR X f (rI0 fun i j => .bl (g i j)) := by
 intro pins s σ H x y v u Q I rx ry h
 obtain ⟨i, j, rfl, rfl, q⟩ := h
 obtain ⟨t, rfl⟩ := rx
 obtain ⟨t', rfl⟩ := ry
 exact rule i j t t' s _ _ ⟨.bl (g i j), H, I, rfl, q⟩
def CDiv (i j : Int) : Prop := 0 < j ∧ j < 1073741824
def CDivN (i j : Int) : Prop := j ≠ 0 ∧ j.natAbs < 1073741824
def CPow (i j : Int) : Prop := 0 ≤ j ∧ j ≤ 1000000 ∧ i.natAbs < 2 ^ 64
def CMul (i j : Int) : Prop := (-(2 ^ 64) < i ∧ i < 2 ^ 64) ∨ (-(2 ^ 64) < j ∧ j < 2 ^ 64)
theorem CMul.ok {i j : Int} (h : CMul i j) : IntMulOk i j := by
 rcases h with ⟨h1, h2⟩ | ⟨h1, h2⟩
 ·exact .of_left (intBits_le_64 h1 h2)
 ·exact .of_right (intBits_le_64 h1 h2)
theorem op_add : OpR X (binaryOp .Add) (rI0 fun i j => .int (i + j)) := opI0 fun _ _ _ _ _ _ _ q => add_int q
theorem op_sub : OpR X (binaryOp .Sub) (rI0 fun i j => .int (i - j)) := opI0 fun _ _ _ _ _ _ _ q => sub_int q
theorem op_mul : OpR X (binaryOp .Mult) (rI CMul fun i j => .int (i * j)) := opI fun _ _ _ _ _ _ _ hc q => mul_int q hc.ok
theorem op_fdiv : OpR X (binaryOp .FloorDiv) (rI CDiv fun i j => .int (i / j)) := opI fun i j _ _ _ _ _ hc q => by
 have h1 : (0 : Int) < j := hc.1
 have h2 : j < 1073741824 := hc.2
 exact floordiv_int (by omega) (by rw [Int.fdiv_eq_ediv_of_nonneg i (by omega)]; exact q) (.inl (PyProof.noPylong_small (by omega)))
theorem op_mod : OpR X (binaryOp .Mod) (rI (fun _ j => 0 < j) fun i j => .int (i % j)) := opI fun i j _ _ _ _ _ hc q => by
 have h1 : (0 : Int) < j := hc
 exact mod_int' (by omega) (by rw [Int.fmod_eq_emod_of_nonneg i (by omega)]; exact q)
theorem unI {f : Value → Sem Value} {g : Int → Int}
  (rule : ∀ (i : Int) (t : Tok) (s : Shared) (Q : Value → Shared → Prop) (E : Value → Shared → Prop), Q (.int (g i) s.toks) { s with toks := s.toks + 1 } → wpAny (model X.prog X.w) X.A (f (.int i t)) Q E s) :
  UnR X f (rU fun i => .int (g i)) := by
 intro pins s σ H x v Q I rx h
 obtain ⟨i, rfl, q⟩ := h
 obtain ⟨t, rfl⟩ := rx
 exact rule i t s _ _ ⟨.int (g i), H, I.tok _, ⟨_, rfl⟩, q⟩
theorem un_neg : UnR X (unaryOp .USub) (rU fun i => .int (-i)) := unI fun _ _ _ _ _ q => neg_int q
end
def scal : V → V → Bool
 | .non, .non => true | .non, .int _ => true | .int _, .non => true | .non, .bl _ => true | .bl _, .non => true | .non, .str _ => true | .str _, .non => true
 | .int _, .int _ => true | .bl _, .bl _ => true | .str _, .str _ => true | .byt _, .byt _ => true
 | .int _, .str _ => true | .str _, .int _ => true | .bl _, .str _ => true | .str _, .bl _ => true
 | _, _ => false
def rEq : R2 := fun x y H Q => scal x y = true ∧ Q (.bl (decide (x = y))) H
def rNe : R2 := fun x y H Q => scal x y = true ∧ Q (.bl (!decide (x = y))) H
theorem dec_int {i j : Int} : decide (V.int i = V.int j) = (i == j) := by
 rw [Bool.eq_iff_iff]
 simp
theorem dec_bl {i j : Bool} : decide (V.bl i = V.bl j) = (i == j) := by
 rw [Bool.eq_iff_iff]
 simp
theorem dec_str {i j : Str} : decide (V.str i = V.str j) = (i == j) := by
 rw [Bool.eq_iff_iff]
 simp
theorem dec_byt {i j : Array UInt8} : decide (V.byt i = V.byt j) = (i.toList == j.toList) := by
 rw [Bool.eq_iff_iff]
 cases i
 cases j
 simp
section
variable {X : Cx} {a b c : Expr} {ta tb tc : TE} {pos : Pos}
theorem fin_bl {pins : List (Addr × Obj)} {σ : St} {H : Hp} {s : Shared} {Q : VK} {k k' : Bool} (I : Inv X pins σ H s) (q : Q (.bl k) H) (e : k = k') : EP X pins σ Q (.bool k') s := by
 subst e
 exact ⟨.bl k, H, I, rfl, q⟩
theorem op_eq : OpR X (compareOp .Eq) rEq := by
 intro pins s σ H x y v u Q I rx ry h
 obtain ⟨hs, q⟩ := h
 cases x with
 | non =>
  cases rx
  cases y with
  | non => cases ry; exact PySem.EqNone.eq_none_none (fin_bl I q (by simp))
  | bl j => cases ry; exact PySem.EqNone.eq_none_bool (fin_bl I q (by simp))
  | int j => obtain ⟨t', rfl⟩ := ry; exact PySem.EqNone.eq_none_int (fin_bl I q (by simp))
  | str j => obtain ⟨t', rfl⟩ := ry; exact PySem.EqNone.eq_none_str (fin_bl I q (by simp))
  | _ => exact absurd (show false = true from hs) Bool.false_ne_true
 | bl i =>
  cases rx
  cases y with
  | non => cases ry; exact PySem.EqNone.eq_bool_none (fin_bl I q (by simp))
  | bl j => cases ry; exact eq_bool (fin_bl I q dec_bl)
  | str j => obtain ⟨t', rfl⟩ := ry; exact PySem.EqMixed.eq_bool_str (fin_bl I q (by simp))
  | _ => exact absurd (show false = true from hs) Bool.false_ne_true
 | int i =>
  obtain ⟨t, rfl⟩ := rx
  cases y with
  | non => cases ry; exact PySem.EqNone.eq_int_none (fin_bl I q (by simp))
  | int j => obtain ⟨t', rfl⟩ := ry; exact eq_int (fin_bl I q dec_int)
  | str j => obtain ⟨t', rfl⟩ := ry; exact PySem.EqMixed.eq_int_str (fin_bl I q (by simp))
  | _ => exact absurd (show false = true from hs) Bool.false_ne_true
 | str i =>
  obtain ⟨t, rfl⟩ := rx
  cases y with
  | non => cases ry; exact PySem.EqNone.eq_str_none (fin_bl I q (by simp))
  | bl j => cases ry; exact PySem.EqMixed.eq_str_bool (fin_bl I q (by simp))
  | int j => obtain ⟨t', rfl⟩ := ry; exact PySem.EqMixed.eq_str_int (fin_bl I q (by simp))
  | str j => obtain ⟨t', rfl⟩ := ry; exact eq_str (fin_bl I q dec_str)
  | _ => exact absurd (show false = true from hs) Bool.false_ne_true
 | byt i =>
  obtain ⟨t, rfl⟩ := rx
  cases y with
  | byt j => obtain ⟨t', rfl⟩ := ry; exact PySem.W.eq_bytes (fin_bl I q dec_byt)
  | _ => exact absurd (show false = true from hs) Bool.false_ne_true
 | _ => cases y <;> exact absurd (show false = true from hs) Bool.false_ne_true
theorem op_ne : OpR X (compareOp .NotEq) rNe := by
 intro pins s σ H x y v u Q I rx ry h
 obtain ⟨hs, q⟩ := h
 cases x with
 | non =>
  cases rx
  cases y with
  | non => cases ry; exact PySem.EqNone.ne_none_none (fin_bl I q (by simp))
  | bl j => cases ry; exact PySem.EqNone.ne_none_bool (fin_bl I q (by simp))
  | int j => obtain ⟨t', rfl⟩ := ry; exact PySem.EqNone.ne_none_int (fin_bl I q (by simp))
  | str j => obtain ⟨t', rfl⟩ := ry; exact PySem.EqNone.ne_none_str (fin_bl I q (by simp))
  | _ => exact absurd (show false = true from hs) Bool.false_ne_true
 | bl i =>
  cases rx
  cases y with
  | non => cases ry; exact PySem.EqNone.ne_bool_none (fin_bl I q (by simp))
  | bl j => cases ry; exact ne_bool (fin_bl I q (congrArg not dec_bl))
  | str j => obtain ⟨t', rfl⟩ := ry; exact PySem.EqMixed.ne_bool_str (fin_bl I q (by simp))
  | _ => exact absurd (show false = true from hs) Bool.false_ne_true
 | int i =>
  obtain ⟨t, rfl⟩ := rx
  cases y with
  | non => cases ry; exact PySem.EqNone.ne_int_none (fin_bl I q (by simp))
  | int j => obtain ⟨t', rfl⟩ := ry; exact ne_int (fin_bl I q (congrArg not dec_int))
  | str j => obtain ⟨t', rfl⟩ := ry; exact PySem.EqMixed.ne_int_str (fin_bl I q (by simp))
  | _ => exact absurd (show false = true from hs) Bool.false_ne_true
 | str i =>
  obtain ⟨t, rfl⟩ := rx
  cases y with
  | non => cases ry; exact PySem.EqNone.ne_str_none (fin_bl I q (by simp))
  | bl j => cases ry; exact PySem.EqMixed.ne_str_bool (fin_bl I q (by simp))
  | int j => obtain ⟨t', rfl⟩ := ry; exact PySem.EqMixed.ne_str_int (fin_bl I q (by simp))
  | str j => obtain ⟨t', rfl⟩ := ry; exact ne_str (fin_bl I q (congrArg not dec_str))
  | _ => exact absurd (show false = true from hs) Bool.false_ne_true
 | byt i =>
  obtain ⟨t, rfl⟩ := rx
  cases y with
  | byt j => obtain ⟨t', rfl⟩ := ry; exact PySem.W.ne_bytes (fin_bl I q (congrArg not dec_byt))
  | _ => exact absurd (show false = true from hs) Bool.false_ne_true
 | _ => cases y <;> exact absurd (show false = true from hs) Bool.false_ne_true
theorem op_lt : OpR X (compareOp .Lt) (rI0 fun i j => .bl (decide (i < j))) := opB0 fun _ _ _ _ _ _ _ q => lt_int q
theorem op_le : OpR X (compareOp .LtE) (rI0 fun i j => .bl (decide (i ≤ j))) := opB0 fun _ _ _ _ _ _ _ q => le_int q
theorem op_gt : OpR X (compareOp .Gt) (rI0 fun i j => .bl (decide (j < i))) := opB0 fun _ _ _ _ _ _ _ q => gt_int q
theorem op_ge : OpR X (compareOp .GtE) (rI0 fun i j => .bl (decide (j ≤ i))) := opB0 fun _ _ _ _ _ _ _ q => ge_int q
def isObj : HO → Bool
 | .lst _ => true
 | .ins _ _ _ => true
 | _ => false
theorem nomark (b : Expr) {op : CmpOp} (h : op ≠ .In := by decide) (h2 : op ≠ .NotIn := by decide) : behindInMarks op b = false := by
 have e1 : (op == CmpOp.In) = false := by cases op <;> first | rfl | exact absurd rfl h
 have e2 : (op == CmpOp.NotIn) = false := by cases op <;> first | rfl | exact absurd rfl h2
 cases b <;> simp [behindInMarks, e1, e2]
theorem pe_cmpR {op : CmpOp} {r : R2} (ho : OpR X (compareOp op) r) (ha : PE X a ta) (hb : PE X b tb) (hm : behindInMarks op b = false) : PE X (.Compare a [op] [b] pos) (tOp r ta tb) := by
 intro pins s σ H Q I h
 exact wpAny_Compare1 (binT ha hb I h fun v u s2 x y H2 I2 rx ry q => ho pins s2 σ H2 x y v u Q I2 rx ry q) hm
def tTest (t : TE) : TT := fun σ H Q => t σ H fun x H' => ∃ k, x = .bl k ∧ Q k H'
theorem pt_cmpR {op : CmpOp} {r : R2} (ho : OpR X (compareOp op) r) (ha : PE X a ta) (hb : PE X b tb) (hm : behindInMarks op b = false) : PT X (.Compare a [op] [b] pos) (tTest (tOp r ta tb)) := by
 intro pins s σ H Q I h
 refine wpAny_isTrue_Compare1 (thn (ha pins s σ H _ I h) fun v s1 ⟨x, H1, I1, r1, q1⟩ => thn (hb pins s1 σ H1 _ I1 q1) fun u s2 ⟨y, H2, I2, r2, q2⟩ =>
  thn (ho pins s2 σ H2 x y v u _ I2 r1 r2 q2) fun c s3 ⟨z, H3, I3, r3, k, e, q3⟩ => ?_) hm
 subst e
 cases r3
 exact wpAny_truthy_bool ⟨H3, I3, q3⟩
def tChain (r r' : R2) (ta tb tc : TE) : TE := fun σ H Q => ta σ H fun x H1 => tb σ H1 fun y H2 => r x y H2 fun z H3 => ∃ k, z = .bl k ∧
 (if k = true then tc σ H3 fun w' H4 => r' y w' H4 Q else Q (.bl false) H3)
theorem pe_chain {op op' : CmpOp} {r r' : R2} (ho : OpR X (compareOp op) r) (ho' : OpR X (compareOp op') r') (ha : PE X a ta) (hb : PE X b tb) (hc : PE X c tc)
  (hm : lastMarks [op, op'] [b, c] = false := by with_unfolding_all rfl) : PE X (.Compare a [op, op'] [b, c] pos) (tChain r r' ta tb tc) := by
 intro pins s σ H Q I h
 refine Compare_chain (thn (ha pins s σ H _ I h) fun v s1 ⟨x, H1, I1, r1, q1⟩ => chain_link (thn (hb pins s1 σ H1 _ I1 q1) fun u s2 ⟨y, H2, I2, r2, q2⟩ =>
  thn (ho pins s2 σ H2 x y v u _ I2 r1 r2 q2) fun d s3 ⟨z, H3, I3, r3, k, e, q3⟩ => ?_)) hm
 subst e
 cases r3
 refine wpAny_truthy_bool ?_
 cases k with
 | false => exact ite_ff ⟨.bl false, H3, I3, rfl, q3⟩
 | true => exact ite_tt (chain_last (thn (hc pins s3 σ H3 _ I3 q3) fun w' s4 ⟨z', H4, I4, r4, q4⟩ => ho' pins s4 σ H4 y z' u w' Q I4 r2 r4 q4))
theorem pt_chain {op op' : CmpOp} {r r' : R2} (ho : OpR X (compareOp op) r) (ho' : OpR X (compareOp op') r') (ha : PE X a ta) (hb : PE X b tb) (hc : PE X c tc)
  (hm : lastMarks [op, op'] [b, c] = false := by with_unfolding_all rfl) : PT X (.Compare a [op, op'] [b, c] pos) (tTest (tChain r r' ta tb tc)) := by
 intro pins s σ H Q I h
 refine isTrue_chain (thn (ha pins s σ H _ I h) fun v s1 ⟨x, H1, I1, r1, q1⟩ => test_link (thn (hb pins s1 σ H1 _ I1 q1) fun u s2 ⟨y, H2, I2, r2, q2⟩ =>
  thn (ho pins s2 σ H2 x y v u _ I2 r1 r2 q2) fun d s3 ⟨z, H3, I3, r3, k, e, q3⟩ => ?_)) hm
 subst e
 cases r3
 refine wpAny_truthy_bool ?_
 cases k with
 | false =>
  obtain ⟨k', e', q'⟩ := q3
  cases e'
  exact ite_ff ⟨H3, I3, q'⟩
 | true =>
  refine ite_tt (test_last (thn (hc pins s3 σ H3 _ I3 q3) fun w' s4 ⟨z', H4, I4, r4, q4⟩ => thn (ho' pins s4 σ H4 y z' u w' _ I4 r2 r4 q4) fun d' s5 ⟨z2, H5, I5, r5, k2, e2, q5⟩ => ?_))
  subst e2
  cases r5
  exact wpAny_truthy_bool ⟨H5, I5, q5⟩
def TruV (K : PySem.W.Frag) (x : V) (H : Hp) (k : Bool) : Prop :=
 match x with
 | .non => k = false
 | .bl b => k = b
 | .int i => k = (i != 0)
 | .str y => y.length ≤ sizeLine ∧ k = ((y.length : Int) != 0)
 | .byt y => y.size ≤ sizeLine ∧ k = ((y.size : Int) != 0)
 | .ref p => (∃ xs, SqL K H p xs ∧ k = !xs.isEmpty) ∨ (∃ xs, SqT K H p xs ∧ k = !xs.isEmpty) ∨ ∃ kvs, H p = some (.dK kvs) ∧ k = !kvs.isEmpty
 | _ => False
theorem line63 : (sizeLine : Nat) < 2 ^ 63 := by rw [sizeLine_eq]; decide
theorem op_add_str : OpR X (binaryOp .Add) (fun x y H Q => ∃ i j, x = .str i ∧ y = .str j ∧ i.length + j.length ≤ sizeLine ∧ Q (.str (i ++ j)) H) := by
 intro pins s σ H x y v u Q I rx ry h
 obtain ⟨i, j, rfl, rfl, hz, q⟩ := h
 obtain ⟨t, rfl⟩ := rx
 obtain ⟨t', rfl⟩ := ry
 exact add_str (fun t' tk => ⟨.str (i ++ j), H, I.tok _, ⟨_, rfl⟩, q⟩) hz
def PlainIxT (b : Expr) : Prop := ∀ o i, subscripted b false o i = operate [o, i] (getItem o i)
theorem vals1 {x : V} {us : List Value} (r : Vals [x] us) : ∃ u, us = [u] ∧ RelV x u := by
 cases r with
 | cons r1 r2 => cases r2; exact ⟨_, rfl, r1⟩
theorem vals2 {x y : V} {us : List Value} (r : Vals [x, y] us) : ∃ u w', us = [u, w'] ∧ RelV x u ∧ RelV y w' := by
 cases r with
 | cons r1 r2 =>
  cases r2 with
  | cons r3 r4 => cases r4; exact ⟨_, _, rfl, r1, r3⟩
theorem call_min2 (hc : X.calm = true) : CallR X (.builtin "min") (fun xs H Q => ∃ i j, xs = [.int i, .int j] ∧ Q (.int (if j < i then j else i)) H) := by
 intro pins s σ H xs us Q I r h
 obtain ⟨i, j, rfl, q⟩ := h
 obtain ⟨u, w', rfl, ⟨t, rfl⟩, ⟨t', rfl⟩⟩ := vals2 r
 refine min_two_ints (I.ok.hd hc) fun h' tk k => ⟨_, H, I.kept k, ?_, q⟩
 by_cases hj : j < i
 ·rw [if_pos hj, if_pos hj]; exact ⟨_, rfl⟩
 ·rw [if_neg hj, if_neg hj]; exact ⟨_, rfl⟩
def LenV (K : PySem.W.Frag) (x : V) (H : Hp) (n : Nat) : Prop :=
 match x with
 | .str y => y.length ≤ sizeLine ∧ n = y.length
 | .byt y => y.size ≤ sizeLine ∧ n = y.size
 | .ref p => (∃ xs, SqL K H p xs ∧ n = xs.length) ∨ ∃ xs, SqT K H p xs ∧ n = xs.length
 | _ => False
end
end L2
namespace L2
open PySem PySem.Spec PyProof.Rows
structure ObjM (h : Heap) (x dx C : Addr) (mA : Str → Option Value) : Prop where
 obj : h.get? x = some (PySem.W.instObj C dx)
 ns : h.Ns1 dx mA
 ne : dx ≠ x
theorem lookIn_ns {h : Heap} {dx : Addr} {mA : Str → Option Value} (n : h.Ns1 dx mA) : ∃ od, h.get? dx = some od ∧ ∀ name, PySem.W.lookIn name od = some (mA name) := by
 obtain ⟨o, es, ep, ho, hd, hk, _, hm⟩ := n
 refine ⟨o, ho, fun name => ?_⟩
 have e := hm name
 unfold nsFind findBy at e
 rw [← Array.find?_toList] at e
 unfold PySem.W.lookIn
 rw [hd]
 dsimp only
 split
 ·rename_i y q
  rw [q] at e
  exact congrArg some e
 ·rename_i q
  rw [q] at e
  have a : es.toList.any (·.refKey) = false := by
   rw [List.any_eq_false]
   intro y hy
   obtain ⟨z, t, hkey⟩ := hk y (Array.mem_toList_iff.mp hy)
   simp [DictEntry.refKey, hkey]
  have a' : ¬ es.toList.any (·.refKey) = true := by rw [a]; exact Bool.false_ne_true
  rw [if_neg a']
  exact congrArg some e
theorem ObjM.look {h : Heap} {x dx C : Addr} {mA : Str → Option Value} (I : ObjM h x dx C mA) : ∃ od, PySem.W.InstAt h x (PySem.W.instObj C dx) C (some od) ∧ ∀ name, PySem.W.lookIn name od = some (mA name) :=
 let ⟨od, ho, hl⟩ := lookIn_ns I.ns
 ⟨od, ⟨I.obj, rfl, rfl, ho⟩, hl⟩
section
variable {prog : Program} {w : World} {A : Around} {E : Value → Shared → Prop} {s : Shared} {K : PySem.W.Frag} {x dx C f : Addr} {mA : Str → Option Value} {name : Str} {v : Value}
theorem get_map {expr : Bool} {Q : Value → Shared → Prop} (X : K.In s.heap) (I : ObjM s.heap x dx C mA) (hg : PySem.W.plainGet K C name = true) (hh : PySem.W.hasDictIn K C = true)
  (ha : PySem.W.findIn K (.ref C) name = some none) (hv : mA name = some v) (hv' : PySem.W.handedIn v = true) (h : Q v { s with toks := s.toks + 1 }) :
  wpAny (model prog w) A (getAttr (.ref x) name expr) Q E s := by
 obtain ⟨od, J, hl⟩ := I.look
 exact PySem.W.get_value X J (PySem.W.plainGet_of hg).1 (PySem.W.findObj_own hh ha rfl (by rw [hl, hv])) hv' h
theorem set_map {ns : List Str} {Q : Unit → Shared → Prop} (X : K.In s.heap) (I : ObjM s.heap x dx C mA)
  (hs : PySem.W.findIn K (.ref C) "__setattr__" = some (some (.builtin "object.__setattr__"))) (hp : PySem.W.plainOver K C = true) (ht : PySem.W.takerIn K C name = some none) (hh : PySem.W.hasDictIn K C = true)
  (hw : PySem.Within mA ns) (hsz : ns.length ≤ sizeLine)
  (h : ∀ h', ObjM h' x dx C (fun y => if y = name then some v else mA y) → Heap.SameBut dx s.heap h' → Q () { s with heap := h', toks := s.toks + 2 }) :
  wpAny (model prog w) A (setAttr (.ref x) name v) Q E s := by
 obtain ⟨od, J, hl⟩ := I.look
 refine PySem.W.set_plain X J hs (PySem.W.osa_open (s := { s with toks := s.toks + 1 }) (r := none) X J hp ht fun b => ?_)
 obtain ⟨cd, hc, hd'⟩ := PySem.W.any_some hh
 have hx : s.heap.get? x = some ⟨.ref C, some dx, .plain, #[]⟩ := I.obj
 refine wpAny_bind (wpAny_pure (wpAny_bind (wpAny_bind (wpAny_loadPart hx (wpAny_bind (PySem.W.Looks.here (s := { s with toks := s.toks + 1 }) (PySem.W.looks_clsIn X hc) ?_))))))
 rw [hd']
 refine wpAny_pure (a := some dx) (wpAny_bind (wpAny_pure (wpAny_bind ?_)))
 refine wpAny_nsSet1 (s := { s with toks := s.toks + 1 }) I.ns fun h' hn2 hs2 => ?_
 obtain ⟨oD, esD, epD, hoD, hdD, hcD⟩ := hn2.count (PySem.Within.cons name v hw)
 refine wpAny_bind (wpAny_lookBehind hoD (by rw [hdD]; exact pastItsLine_dict (Nat.le_trans hcD (by rw [List.length_cons]; omega))) ?_)
 exact wpAny_pure (h _ ⟨(hs2.2 _ (Ne.symm I.ne)).trans I.obj, hn2, I.ne⟩ hs2)
theorem make_map {R : Result → Shared → Prop} {vs : List Value} {kw : List (Str × Value)} (X : K.In s.heap) (hm : PySem.W.makesIn K C = true)
  (hi : PySem.W.findIn K (.ref C) "__init__" = some (some (.ref f))) (hf : PySem.W.typeIn K (.ref f) = some (.type "function"))
  (h : codeAny (model prog w) (A.under (.builtin "type.__call__" ⟨.ref C :: vs, kw⟩)) (.call (.ref f) ⟨.ref (s.heap.objs.size + 1) :: vs, kw⟩) (PySem.W.InitBack (s.heap.objs.size + 1) R)
   { s with heap := (s.heap.push PySem.W.emptyDict).push (PySem.W.instObj C s.heap.objs.size) }) :
  codeAny (model prog w) A (.call (.ref C) ⟨vs, kw⟩) R s := by
 obtain ⟨hh, g, d, t, os⟩ := s
 exact PySem.W.make_core (PySem.W.makes_of X hm) (PySem.W.looks_findIn X hi) (fun self => PySem.W.bind_fn X self hf) (.inl rfl) h
end
def putF (f : Str) (v : V) : List (Str × V) → List (Str × V)
 | [] => [(f, v)]
 | (g, x) :: r => if g = f then (g, v) :: r else (g, x) :: putF f v r
theorem lookup_putF (f g : Str) (v : V) : ∀ fs : List (Str × V), (putF f v fs).lookup g = if g = f then some v else fs.lookup g
 | [] => by
  show List.lookup g [(f, v)] = _
  by_cases h : g = f
  ·have hb : (g == f) = true := beq_iff_eq.mpr h
   simp only [List.lookup, hb, if_pos h]
  ·have hb : (g == f) = false := beq_eq_false_iff_ne.mpr h
   simp only [List.lookup, hb, if_neg h]
 | (k, x) :: r => by
  have ih := lookup_putF f g v r
  rw [show putF f v ((k, x) :: r) = (if k = f then (k, v) :: r else (k, x) :: putF f v r) from rfl]
  by_cases hk : k = f
  ·rw [if_pos hk]
   by_cases h : g = k
   ·have hb : (g == k) = true := beq_iff_eq.mpr h
    simp only [List.lookup, hb, if_pos (h.trans hk)]
   ·have hb : (g == k) = false := beq_eq_false_iff_ne.mpr h
    simp only [List.lookup, hb, if_neg (fun e : g = f => h (e.trans hk.symm))]
  ·rw [if_neg hk]
   by_cases h : g = k
   ·have hb : (g == k) = true := beq_iff_eq.mpr h
    simp only [List.lookup, hb, if_neg (fun e : g = f => hk (h.symm.trans e))]
   ·have hb : (g == k) = false := beq_eq_false_iff_ne.mpr h
    simp only [List.lookup, hb]
    exact ih
theorem keys_putF (f : Str) (v : V) : ∀ fs : List (Str × V), f ∈ (putF f v fs).map (·.1) ∧ ∀ g, g ∈ fs.map (·.1) → g ∈ (putF f v fs).map (·.1)
 | [] => ⟨by simp [putF], fun g h => by simp at h⟩
 | (k, x) :: r => by
  obtain ⟨i1, i2⟩ := keys_putF f v r
  rw [show putF f v ((k, x) :: r) = (if k = f then (k, v) :: r else (k, x) :: putF f v r) from rfl]
  by_cases hk : k = f
  ·rw [if_pos hk]
   subst hk
   exact ⟨by simp, fun g h => by simpa using h⟩
  ·rw [if_neg hk]
   refine ⟨?_, fun g h => ?_⟩
   ·rw [List.map_cons]
    exact List.mem_cons_of_mem _ i1
   ·rw [List.map_cons] at h ⊢
    rcases List.mem_cons.mp h with e | e
    ·exact List.mem_cons.mpr (.inl e)
    ·exact List.mem_cons_of_mem _ (i2 g e)
theorem length_putF (f : Str) (v : V) : ∀ fs : List (Str × V), (putF f v fs).length ≤ fs.length + 1
 | [] => by simp [putF]
 | (k, x) :: r => by
  have ih := length_putF f v r
  rw [show putF f v ((k, x) :: r) = (if k = f then (k, v) :: r else (k, x) :: putF f v r) from rfl]
  by_cases hk : k = f
  ·rw [if_pos hk, List.length_cons, List.length_cons]; omega
  ·rw [if_neg hk, List.length_cons, List.length_cons]; omega
theorem RelO.some_of {v : V} {o : Option Value} (r : RelO (some v) o) : ∃ u, o = some u ∧ RelV v u := by
 cases o with
 | none => exact (show False from r).elim
 | some u => exact ⟨u, rfl, r⟩
theorem handed_of {v : V} {u : Value} (r : RelV v u) : PySem.W.handedIn u = true := by
 cases v with
 | non => cases (show u = Value.none from r); rfl
 | bl b => cases (show u = Value.bool b from r); rfl
 | int i => obtain ⟨t, e⟩ := (show ∃ t, u = Value.int i t from r); cases e; rfl
 | str x => obtain ⟨t, e⟩ := (show ∃ t, u = Value.str x t from r); cases e; rfl
 | byt b => obtain ⟨t, e⟩ := (show ∃ t, u = Value.bytes b t from r); cases e; rfl
 | flt b => obtain ⟨t, e⟩ := (show ∃ t, u = Value.float b t from r); cases e; rfl
 | ref a => cases (show u = Value.ref a from r); rfl
 | ty n => cases (show u = Value.type n from r); rfl
section
variable {P : Program} {w : World} {H H' : Hp} {h h' : Heap} {a C dx : Addr} {fs fs' : List (Str × V)}
theorem ins_get (hok : HOk P w H h) (e : H a = some (.ins C dx fs)) : ∃ mA, ObjM h a dx C mA ∧ (∀ f, RelO (fs.lookup f) (mA f)) ∧ PySem.Within mA (fs.map (·.1)) ∧ fs.length ≤ 1000 ∧ H dx = some (.own a) := by
 obtain ⟨d, z, ne, ob, mA, n, r, q⟩ := (show ObjOk P w H h a (.ins C dx fs) from hok a _ e)
 exact ⟨mA, ⟨ob, n, ne⟩, r, q, z, d⟩
end
structure Cls (K : PySem.W.Frag) (C : Addr) : Prop where
 pg : PySem.W.plainGet K C Str.empty = true
 hd : PySem.W.hasDictIn K C = true
 po : PySem.W.plainOver K C = true
 sa : PySem.W.findIn K (.ref C) "__setattr__" = some (some (.builtin "object.__setattr__"))
theorem Cls.get {K : PySem.W.Frag} {C : Addr} (c : Cls K C) (f : Str) : PySem.W.plainGet K C f = true := c.pg
def NoAttr (K : PySem.W.Frag) (C : Addr) (f : Str) : Prop := PySem.W.findIn K (.ref C) f = some none
theorem NoAttr.taker {K : PySem.W.Frag} {C : Addr} {f : Str} (n : NoAttr K C f) : PySem.W.takerIn K C f = some none := by
 unfold PySem.W.takerIn
 rw [show PySem.W.findIn K (.ref C) f = some none from n]
 rfl
structure Con (K : PySem.W.Frag) (C : Addr) (f : Str) (v : V) (u : Value) : Prop where
 at_ : PySem.W.findIn K (.ref C) f = some (some u)
 rel : RelV v u
 get : PySem.W.specialIn K u "__get__" = some none
 cp : PySem.W.copiedNames.contains f = false
structure Meth (K : PySem.W.Frag) (C : Addr) (m : Str) (f : Addr) : Prop where
 at_ : PySem.W.findIn K (.ref C) m = some (some (.ref f))
 fn : PySem.W.isFn K (.ref f) = true
 kp : PySem.W.keepIn K (.ref f) = true
section
variable {X : Cx} {pins : List (Addr × Obj)} {σ : St} {H : Hp} {s : Shared} {a C dx : Addr} {fs : List (Str × V)} {f : Str} {v : V} {A : Around} {E : Value → Shared → Prop}
theorem getattr_ok {b : Bool} {Q : Value → Shared → Prop} (I : Inv X pins σ H s) (e : H a = some (.ins C dx fs)) (c : Cls X.K C) (n : NoAttr X.K C f) (l : fs.lookup f = some v)
  (h : ∀ u s', Inv X pins σ H s' → RelV v u → Q u s') : wpAny (model X.prog X.w) A (getAttr (.ref a) f b) Q E s := by
 obtain ⟨mA, O, r, _, _, _⟩ := ins_get I.hok e
 obtain ⟨u, hu, ru⟩ := RelO.some_of (v := v) (o := mA f) (by rw [← l]; exact r f)
 exact get_map I.kIn O (c.get f) c.hd n hu (handed_of ru) (h u _ (I.tok _) ru)
theorem setattr_ok {y : V} {u : Value} {Q : Unit → Shared → Prop} (I : Inv X pins σ H s) (e : H a = some (.ins C dx fs)) (c : Cls X.K C) (n : NoAttr X.K C f) (hl : fs.length < 1000) (ry : RelV y u)
  (h : ∀ s', Inv X pins σ (upd H a (.ins C dx (putF f y fs))) s' → Q () s') : wpAny (model X.prog X.w) A (setAttr (.ref a) f u) Q E s := by
 obtain ⟨mA, O, r, wi, _, ho⟩ := ins_get I.hok e
 have hz : (fs.map (·.1)).length ≤ sizeLine := by rw [List.length_map, sizeLine_eq]; omega
 refine set_map I.kIn O c.sa c.po n.taker c.hd wi hz fun h' O' sb => h _ ?_
 have hd : ∃ o, h'.get? dx = some o := let ⟨o, _, _, e', _⟩ := O'.ns; ⟨o, e'⟩
 refine I.write (x := a) (e := dx) (by rw [e]; exact True.intro) (.inr ho) (fun b q hb z => (sb.2 b hb).trans z) hd ?_
 refine ⟨by rw [upd_ne O.ne]; exact ho, ?_, O.ne, O'.obj, _, O'.ns, fun g => ?_, fun g hg => ?_⟩
 ·have := length_putF f y fs; omega
 ·show RelO ((putF f y fs).lookup g) (if g = f then some u else mA g)
  rw [lookup_putF]
  by_cases q : g = f
  ·rw [if_pos q, if_pos q]; exact ry
  ·rw [if_neg q, if_neg q]; exact r g
 ·by_cases q : g = f
  ·rw [q]; exact (keys_putF f y fs).1
  ·refine (keys_putF f y fs).2 g (wi g fun z => hg ?_)
   show (if g = f then some u else mA g) = none
   rw [if_neg q]; exact z
theorem Inv.made (I : Inv X pins σ H s) : Inv X pins σ (upd (upd H s.heap.objs.size (.own (s.heap.objs.size + 1))) (s.heap.objs.size + 1) (.ins C s.heap.objs.size []))
  { s with heap := (s.heap.push PySem.W.emptyDict).push (PySem.W.instObj C s.heap.objs.size) } := by
 have e1 : (s.heap.push PySem.W.emptyDict).get? s.heap.objs.size = some PySem.W.emptyDict := Heap.get?_push_size s.heap rfl
 have e2 : ((s.heap.push PySem.W.emptyDict).push (PySem.W.instObj C s.heap.objs.size)).get? (s.heap.objs.size + 1) = some (PySem.W.instObj C s.heap.objs.size) := by
  have := Heap.get?_push_size (s.heap.push PySem.W.emptyDict) (o := PySem.W.instObj C s.heap.objs.size) rfl
  rwa [Heap.size_push] at this
 have e3 : (s.heap.push PySem.W.emptyDict).Ns s.heap.objs.size (fun _ => none) := ⟨PySem.W.emptyDict, #[], _, e1, rfl, (fun e he => absurd he (by simp)), fun _ => rfl⟩
 have I1 := I.laid (a := s.heap.objs.size) (o := .own (s.heap.objs.size + 1)) (h' := s.heap.push PySem.W.emptyDict) (t' := s.toks) (fun b u q => Heap.get?_push_of_some _ q) (Nat.le_refl _) ⟨_, e1⟩
 refine I1.laid (a := s.heap.objs.size + 1) (o := .ins C s.heap.objs.size []) (t' := s.toks) (fun b u q => Heap.get?_push_of_some _ q) (Nat.le_of_eq (Heap.size_push _ _)) ?_
 have ne : s.heap.objs.size ≠ s.heap.objs.size + 1 := Nat.ne_of_lt (Nat.lt_succ_self _)
 refine ⟨by rw [upd_ne ne, upd_same], Nat.zero_le _, ne, e2, fun _ => none, (Heap.Ns1.of_empty e3).at fun o q => Heap.get?_push_of_some _ q, fun _ => True.intro, fun y hy => absurd rfl hy⟩
theorem attr_of {prog : Program} {w : World} {env : Env} {e : Expr} {f : Str} {pos : Pos} {s : Shared} {Q : Value → Shared → Prop} (hb : attributeBase e f env (eval e env) = eval e env)
  (h : wpAny (model prog w) A (eval e env) (fun o s₁ => wpAny (model prog w) A (getAttr o f true) Q E s₁) E s) : wpAny (model prog w) A (eval (.Attribute e f pos) env) Q E s :=
 Attribute_any_ h (by rw [arm_eval_Attribute, hb])
end
def tFld (K : PySem.W.Frag) (ta : TE) (f : Str) : TE := fun σ H Q => ta σ H fun x H1 => ∃ a C dx fs v, x = .ref a ∧ H1 a = some (.ins C dx fs) ∧ Cls K C ∧ NoAttr K C f ∧ fs.lookup f = some v ∧ Q v H1
def tCon (K : PySem.W.Frag) (ta : TE) (f : Str) : TE := fun σ H Q => ta σ H fun x H1 => ∃ a C dx fs v u, x = .ref a ∧ H1 a = some (.ins C dx fs) ∧ Cls K C ∧ Con K C f v u ∧ fs.lookup f = none ∧ Q v H1
def sFld (K : PySem.W.Frag) (ta tv : TE) (f : Str) : TS := fun D σ H => tv σ H fun y H1 => ta σ H1 fun x H2 => ∃ a C dx fs, x = .ref a ∧ H2 a = some (.ins C dx fs) ∧ Cls K C ∧ NoAttr K C f ∧ fs.length < 1000 ∧
 D.nx σ (upd H2 a (.ins C dx (putF f y fs)))
def InOp (X : Cx) (op : Operator) (rd : V → V → Hp → VK → Prop) : Prop :=
 ∀ (pins : List (Addr × Obj)) (s : Shared) (σ : St) (H : Hp) (x y : V) (u v : Value) (Q : VK), Inv X pins σ H s → RelV x u → RelV y v → rd x y H Q → wpAny (model X.prog X.w) X.A (inplaceOp op u v) (EP X pins σ Q) X.xe s
def sFldAug (K : PySem.W.Frag) (ta tv : TE) (rd : V → V → Hp → VK → Prop) (f : Str) : TS := fun D σ H => ta σ H fun x H1 => ∃ a C dx fs v, x = .ref a ∧ H1 a = some (.ins C dx fs) ∧ Cls K C ∧ NoAttr K C f ∧ fs.lookup f = some v ∧
 tv σ H1 fun y H2 => rd v y H2 fun z H3 => ∃ dx' fs', H3 a = some (.ins C dx' fs') ∧ fs'.length < 1000 ∧ D.nx σ (upd H3 a (.ins C dx' (putF f z fs')))
section
variable {X : Cx} {o e value : Expr} {f : Str} {pos pos' tpos : Pos} {ta tv : TE}
theorem pe_fld (he : PE X e ta) (hb : attributeBase e f X.env (eval e X.env) = eval e X.env) : PE X (.Attribute e f pos) (tFld X.K ta f) := by
 intro pins s σ H Q I h
 refine attr_of hb (thn (he pins s σ H _ I h) fun u s1 ⟨x, H1, I1, rx, a, C, dx, fs, v, ex, ea, c, n, l, q⟩ => ?_)
 subst ex
 obtain rfl : u = Value.ref a := rx
 exact getattr_ok I1 ea c n l fun u' s2 I2 ru => ⟨v, H1, I2, ru, q⟩
theorem ps_fld (ha : PE X o ta) (hv : PE X value tv) (hs : swapsWith value (some (.Attribute o f pos')) pos.line X.env = pure false) : PS X (.Assign [.Attribute o f pos'] value pos) (sFld X.K ta tv f) := by
 intro pins s σ H D I h
 refine plainObj_wpAny_Assign_Attribute (thn (hv pins s σ H _ I h) fun u s1 ⟨y, H1, I1, ry, q⟩ => thn (ha pins s1 σ H1 _ I1 q) fun ov s2 ⟨x, H2, I2, rx, a, C, dx, fs, ex, ea, c, n, l, q2⟩ => ?_) hs
 subst ex
 obtain rfl : ov = Value.ref a := rx
 exact setattr_ok I2 ea c n l ry fun s3 I3 => ⟨σ, _, I3, q2⟩
def rAdd : V → V → Hp → VK → Prop := fun x y H Q => ∃ i j, x = .int i ∧ y = .int j ∧ Q (.int (i + j)) H
def rSub : V → V → Hp → VK → Prop := fun x y H Q => ∃ i j, x = .int i ∧ y = .int j ∧ Q (.int (i - j)) H
end
section
variable {X : Cx} {pins : List (Addr × Obj)} {σ : St} {H : Hp} {s : Shared} {A : Around} {E : Value → Shared → Prop} {Q : Value → Shared → Prop} {c : Value} {b : Bool}
inductive TyOf (K : PySem.W.Frag) (H : Hp) : V → Value → Prop where
 | non : TyOf K H .non (.type "NoneType")
 | bl (x : Bool) : TyOf K H (.bl x) (.type "bool")
 | int (i : Int) : TyOf K H (.int i) (.type "int")
 | str (x : Str) : TyOf K H (.str x) (.type "str")
 | flt (x : UInt64) : TyOf K H (.flt x) (.type "float")
 | lst {a : Addr} {xs : List V} (e : H a = some (.lst xs)) : TyOf K H (.ref a) (.type "list")
 | frz {a : Addr} {o : Obj} {xs : List V} (e : H a = some (.frz o (.lst xs))) : TyOf K H (.ref a) (.type "list")
 | tup {a : Addr} {xs : List V} (e : H a = some (.tup xs)) : TyOf K H (.ref a) (.type "tuple")
 | dK {a : Addr} {kvs : List (Key × V)} (e : H a = some (.dK kvs)) : TyOf K H (.ref a) (.type "dict")
 | dT {a : Addr} {kvs : List (List Key × V)} (e : H a = some (.dT kvs)) : TyOf K H (.ref a) (.type "dict")
 | ins {a C dx : Addr} {fs : List (Str × V)} (e : H a = some (.ins C dx fs)) (cl : Cls K C) (ha : PySem.W.findIn K (.ref C) "__class__" = some (some (.builtin "object.__class__")))
   (hn : PySem.W.specialIn K (.builtin "object.__class__") "__get__" = some (some (.builtin "getset_descriptor.__get__"))) (htk : PySem.W.takesIn K (.builtin "object.__class__") = some true)
   (hm : PySem.W.mroIn K C (.type "object") = some true) : TyOf K H (.ref a) (.ref C)
theorem isinst_ok {x : V} {u t : Value} (I : Inv X pins σ H s) (rx : RelV x u) (ty : TyOf X.K H x t) (e : PySem.W.kitOne X.K t c = some b) (h : ∀ tk, Q (.bool b) { s with toks := tk }) :
  wpAny (model X.prog X.w) A (call (.builtin "isinstance") [u, c]) Q E s := by
 cases ty with
 | non => cases (show u = Value.none from rx); exact PySem.W.kia_one PySem.W.kitx_none I.kIn True.intro e (fun z => nomatch z) h
 | bl y => cases (show u = Value.bool y from rx); exact PySem.W.kia_one PySem.W.kitx_bool I.kIn True.intro e (fun z => nomatch z) h
 | int i => obtain ⟨t, q⟩ := (show ∃ t, u = Value.int i t from rx); cases q; exact PySem.W.kia_one PySem.W.kitx_int I.kIn True.intro e (fun z => nomatch z) h
 | str y => obtain ⟨t, q⟩ := (show ∃ t, u = Value.str y t from rx); cases q; exact PySem.W.kia_one PySem.W.kitx_str I.kIn True.intro e (fun z => nomatch z) h
 | flt y => obtain ⟨t, q⟩ := (show ∃ t, u = Value.float y t from rx); cases q; exact PySem.W.kia_one PySem.W.kitx_float I.kIn True.intro e (fun z => nomatch z) h
 | @lst a xs ea =>
  cases (show u = Value.ref a from rx)
  obtain ⟨_, _, n, _, h1⟩ := (show ObjOk X.prog X.w H s.heap a (.lst xs) from I.hok a _ ea)
  exact PySem.W.kia_one PySem.W.kitx_list I.kIn ⟨_, h1, rfl⟩ e (fun z => nomatch z) h
 | @frz a ob xs ea =>
  cases (show u = Value.ref a from rx)
  obtain ⟨_, _, _, n, _, h1⟩ := (show ObjOk X.prog X.w H s.heap a (.frz ob (.lst xs)) from I.hok a _ ea)
  exact PySem.W.kia_one PySem.W.kitx_list I.kIn ⟨_, h1, rfl⟩ e (fun z => nomatch z) h
 | @tup a xs ea =>
  cases (show u = Value.ref a from rx)
  obtain ⟨_, _, _, p⟩ := (show ObjOk X.prog X.w H s.heap a (.tup xs) from I.hok a _ ea)
  obtain ⟨o, h1, h2, _⟩ := p
  exact PySem.W.kia_one PySem.W.kitx_tuple I.kIn ⟨o, h1, h2⟩ e (fun z => nomatch z) h
 | @dK a kvs ea =>
  cases (show u = Value.ref a from rx)
  obtain ⟨_, _, vs, _, p⟩ := (show ObjOk X.prog X.w H s.heap a (.dK kvs) from I.hok a _ ea)
  obtain ⟨o, es, ep, h1, h2, _⟩ := p
  exact PySem.W.kia_one PySem.W.kitx_dict I.kIn ⟨o, h1, h2.1⟩ e (fun z => nomatch z) h
 | @dT a kvs ea =>
  cases (show u = Value.ref a from rx)
  obtain ⟨_, _, xs, _, o, es, ep, h1, h2, _⟩ := (show ObjOk X.prog X.w H s.heap a (.dT kvs) from I.hok a _ ea)
  exact PySem.W.kia_one PySem.W.kitx_dict I.kIn ⟨o, h1, h2.1⟩ e (fun z => nomatch z) h
 | @ins a C dx fs ea cl ha hn htk hm =>
  cases (show u = Value.ref a from rx)
  obtain ⟨mA, O, _⟩ := ins_get I.hok ea
  obtain ⟨od, J, _⟩ := O.look
  exact PySem.W.kia_one (PySem.W.kitx_own (cl.get _) cl.hd ha hn htk hm) I.kIn J e (fun z => nomatch z) h
end
end L2
namespace L2
open PySem PySem.Spec PyProof.Rows
structure Room (k : Nat) (A : Around) : Prop where
 hd : A.handled = none
 dp : A.depth + 3 * k + 5 < recursionLimit
 un : A.units + 16 * k + 200 < cLine
theorem Room.mono {j k : Nat} {A : Around} (r : Room k A) (h : j ≤ k) : Room j A := ⟨r.hd, by have := r.dp; omega, by have := r.un; omega⟩
theorem Room.deeper {k : Nat} {A : Around} (r : Room (k + 1) A) (env : Env) : Room k (A.deeper env) :=
 ⟨r.hd, by have := r.dp; show A.depth + 1 + 3 * k + 5 < _; omega, by have := r.un; show A.units + 3 + 16 * k + 200 < _; omega⟩
theorem make_depth {A : Around} {C : Addr} {us : List Value} {kw : List (Str × Value)} : (A.under (.builtin "type.__call__" ⟨.ref C :: us, kw⟩)).depth = A.depth + 1 := by
 first | rfl | simp [Around.under, Code.weight, Code.isCreation, Code.isGuard, Code.isCaller, Code.frames, Code.isFrame, guardIds]
theorem make_units {A : Around} {C : Addr} {us : List Value} {kw : List (Str × Value)} : (A.under (.builtin "type.__call__" ⟨.ref C :: us, kw⟩)).units = A.units + 1 := by
 first | rfl | simp [Around.under, Code.cUnits, Code.frames, Code.isFrame]
theorem Room.make {k : Nat} {A : Around} (r : Room (k + 1) A) (C : Addr) (us : List Value) (kw : List (Str × Value)) : Room k (A.under (.builtin "type.__call__" ⟨.ref C :: us, kw⟩)) :=
 ⟨r.hd, by have := r.dp; rw [make_depth]; omega, by have := r.un; rw [make_units]; omega⟩
theorem Room.depth {k : Nat} {A : Around} (r : Room k A) : A.depth < recursionLimit := by have := r.dp; omega
theorem Room.units {k : Nat} {A : Around} (r : Room k A) : A.units + 64 < cLine := by have := r.un; omega
def tNil : TA := fun _ H Q => Q [] H
def tCons (ta : TE) (tr : TA) : TA := fun σ H Q => ta σ H fun x H1 => tr σ H1 fun xs H2 => Q (x :: xs) H2
section
variable {X : Cx} {e : Expr} {es : List Expr} {te : TE} {t : TA} {pos : Pos}
theorem pa_nil : PA X [] tNil := fun _ _ _ _ H Q I h => Calls.spliced_nil ⟨[], H, I, .nil, h⟩
theorem pa_cons (ha : PE X e te) (hr : PA X es t) (hs : starEach (e :: es) X.env = (false, eval e X.env) :: starEach es X.env := by rfl) : PA X (e :: es) (tCons te t) := by
 intro pos pins s σ H Q I h
 rw [hs]
 show wpAny _ _ (spliced ((false, eval e X.env) :: backTo pos (starEach es X.env))) _ _ s
 refine Calls.spliced_cons (thn (ha pins s σ H _ I h) fun u s1 ⟨x, H1, I1, r1, q1⟩ => ?_)
 exact thn (hr pos pins s1 σ H1 _ I1 q1) fun us s2 ⟨xs, H2, I2, r2, q2⟩ => ⟨x :: xs, H2, I2, .cons r1 r2, q2⟩
def tTup (t : TA) : TE := fun σ H Q => t σ H fun xs H1 => xs.length ≤ sizeLine ∧ ∀ p, H1 p = none → Q (.ref p) (upd H1 p (.tup xs))
def tLst (t : TA) : TE := fun σ H Q => t σ H fun xs H1 => xs.length ≤ sizeLine ∧ ∀ p, H1 p = none → Q (.ref p) (upd H1 p (.lst xs))
theorem pe_tup {x1} (h : PA X es t) : PE X (.Tuple es x1 pos) (tTup t) := by
 intro pins s σ H Q I hq
 refine wpAny_Tuple_spliced (thn (h pos pins s σ H _ I hq) fun us s1 ⟨xs, H1, I1, r, z, q⟩ => ⟨by rw [← r.length]; exact z, ?_⟩)
 have hf : H1 s1.heap.objs.size = none := I1.hok.fresh (Nat.le_refl _)
 refine ⟨.ref s1.heap.objs.size, upd H1 s1.heap.objs.size (.tup xs), I1.laid (t' := s1.toks) (fun b u e => Heap.get?_push_of_some _ e) (Nat.le_refl _) ?_, rfl, q _ hf⟩
 exact ⟨z, us, r, ⟨_, Heap.get?_push_size _ rfl, rfl, _, rfl⟩⟩
theorem pe_lst (h : PA X es t) : PE X (.List es pos) (tLst t) := by
 intro pins s σ H Q I hq
 refine wpAny_List_spliced (thn (h pos pins s σ H _ I hq) fun us s1 ⟨xs, H1, I1, r, z, q⟩ => ⟨by rw [← r.length]; exact z, ?_⟩)
 have hf : H1 s1.heap.objs.size = none := I1.hok.fresh (Nat.le_refl _)
 refine ⟨.ref s1.heap.objs.size, upd H1 s1.heap.objs.size (.lst xs), I1.laid (t' := s1.toks) (fun b u e => Heap.get?_push_of_some _ e) (Nat.le_refl _) ?_, rfl, q _ hf⟩
 exact ⟨z, us, 0, r, Heap.get?_push_size _ rfl⟩
end
abbrev Sp := List V → Hp → VK → XK → Prop
abbrev CXT := List Env → Hp → Shared → XK → Value → Shared → Prop
structure Env0 (P : Program) (w : World) (K : PySem.W.Frag) (mg : Str → Option Value) (base : Heap) (A : Around) (outer : List Env) (s : Shared) (H : Hp) : Prop where
 frames : A.frames = some outer
 mod : Mod K mg base
 bs : ∀ b o, base.get? b = some o → s.heap.get? b = some o ∧ H b = none
 bsz : base.objs.size ≤ s.heap.objs.size
 funs : s.heap.FunFrames base outer
 frf : ∀ b ∈ frs outer, H b = none
 hok : HOk P w H s.heap
 bare : AllBare s.gens
def CE (outer : List Env) (P : Program) (w : World) (H : Hp) (s : Shared) (Q : VK) (u : Value) (s' : Shared) : Prop :=
 ∃ v H', s'.os = s.os ∧ AllBare s'.gens ∧ Un (frs outer) [] H H' s.heap s'.heap ∧ HOk P w H' s'.heap ∧ RelV v u ∧ Q v H'
def CR (CX : CXT) (outer : List Env) (P : Program) (w : World) (H : Hp) (s : Shared) (Q : VK) (E : XK) (r : Result) (s' : Shared) : Prop :=
 match r with
 | .ok (.ret u) => CE outer P w H s Q u s'
 | .ok _ => False
 | .error e => CX outer H s E e s'
structure FnOk (P : Program) (w : World) (K : PySem.W.Frag) (mg : Str → Option Value) (base : Heap) (CX : CXT) (k : Nat) (f : Addr) (fd : FuncData) (ps : List Str) (sp : Sp) : Prop where
 len : ∀ vs H Q E, sp vs H Q E → vs.length = ps.length
 run : ∀ (A : Around) (outer : List Env) (s : Shared) (H : Hp) (args : Args) (us : List Value) (vs : List V) (Q : VK) (E : XK), Room k A → Env0 P w K mg base A outer s H → BindsTo s fd args (ps.zip us) → Vals vs us → sp vs H Q E →
  codeAny (model P w) A (.call (.ref f) args) (CR CX outer P w H s Q E) s
theorem FnOk.mono {P : Program} {w : World} {K : PySem.W.Frag} {mg : Str → Option Value} {base : Heap} {CX : CXT} {j k : Nat} {f : Addr} {fd : FuncData} {ps : List Str} {sp : Sp} (F : FnOk P w K mg base CX j f fd ps sp) (h : j ≤ k) :
  FnOk P w K mg base CX k f fd ps sp := ⟨F.len, fun A outer s H args us vs Q E hr => F.run A outer s H args us vs Q E (hr.mono h)⟩
theorem Env0.make {P : Program} {w : World} {K : PySem.W.Frag} {mg : Str → Option Value} {base : Heap} {A : Around} {outer : List Env} {s : Shared} {H : Hp} (e : Env0 P w K mg base A outer s H) (C : Addr) (us : List Value) (kw : List (Str × Value)) :
  Env0 P w K mg base (A.under (.builtin "type.__call__" ⟨.ref C :: us, kw⟩)) outer s H := ⟨by first | exact e.frames | (simpa [Around.under, Code.envs, Code.isFrame, pushEnvs] using e.frames), e.mod, e.bs, e.bsz, e.funs, e.frf, e.hok, e.bare⟩
section
variable {X : Cx} {pins : List (Addr × Obj)} {σ : St} {H : Hp} {s s' : Shared}
theorem Inv.env0 (I : Inv X pins σ H s) : Env0 X.prog X.w X.K X.mg X.base X.A X.stack s H :=
 ⟨I.ok.frames, I.ok.mod, I.bs, Nat.le_trans I.ok.bsz I.sz, I.stack, I.stkFree, I.hok, I.bare⟩
theorem Inv.after {Q : VK} {u : Value} (I : Inv X pins σ H s) (h : CE X.stack X.prog X.w H s Q u s') : EP X pins σ Q u s' := by
 obtain ⟨v, H', os, bare, un, hok, r, q⟩ := h
 obtain ⟨hh, g, d, t, os'⟩ := s'
 obtain rfl : os' = s.os := os
 exact ⟨v, H', I.call (h' := hh) (g' := g) (d' := d) (t' := t) (ch := []) un hok bare (fun b z => absurd z (by simp)), r, q⟩
end
def tCall (sp : Sp) (dvs : List V) (E : XK) (t : TA) : TE := fun σ H Q => t σ H fun vs H1 => sp (vs ++ dvs) H1 Q E
def tMeth (C : Addr) (m : Str) (sp : Sp) (dvs : List V) (E : XK) (ta : TE) (t : TA) : TE := fun σ H Q => ta σ H fun x H1 => ∃ a dx fs, x = .ref a ∧ H1 a = some (.ins C dx fs) ∧ fs.lookup m = none ∧
 t σ H1 fun vs H2 => sp (x :: (vs ++ dvs)) H2 Q E
def tMake (C : Addr) (sp : Sp) (dvs : List V) (E : XK) (t : TA) : TE := fun σ H Q => t σ H fun vs H1 => ∀ x dx, H1 x = none → H1 dx = none → dx ≠ x →
 sp (.ref x :: (vs ++ dvs)) (upd (upd H1 dx (.own x)) x (.ins C dx [])) (fun v H2 => v = .non ∧ Q (.ref x) H2) E
def Binds (K : PySem.W.Frag) (fd : FuncData) (ps : List Str) (ds : List Value) : Prop :=
 ∀ (s : Shared) (us : List Value), K.In s.heap → (us ++ ds).length = ps.length → BindsTo s fd ⟨us, []⟩ (ps.zip (us ++ ds))
theorem Binds.all {K : PySem.W.Frag} {fd : FuncData} {ps : List Str} (h : ∀ us : List Value, us.length = ps.length → bindArgs fd ⟨us, []⟩ = pure (ps.zip us)) : Binds K fd ps [] := fun s us _ hl => by
 rw [List.append_nil] at hl ⊢
 exact .of_eq (h us hl)
def Passes (CX : CXT) (X : Cx) (E : XK) : Prop := ∀ (pins : List (Addr × Obj)) (σ : St) (H : Hp) (s : Shared) (e : Value) (s' : Shared), Inv X pins σ H s → CX X.stack H s E e s' → X.xe e s'
section
variable {X : Cx} {CX : CXT} {k : Nat} {f C : Addr} {fd : FuncData} {ps : List Str} {sp : Sp} {dvs : List V} {ds : List Value} {E : XK} {x m : Str} {p pos apos : Pos} {e o : Expr} {es : List Expr} {ta : TE} {t : TA}
theorem run_fn {pins : List (Addr × Obj)} {σ : St} {H : Hp} {s : Shared} {Q : VK} {us : List Value} {vs : List V} (F : FnOk X.prog X.w X.K X.mg X.base CX k f fd ps sp) (hr : Room k X.A) (hb : Binds X.K fd ps ds) (hd : Vals dvs ds) (hx : Passes CX X E)
  (I : Inv X pins σ H s) (r : Vals vs us) (h : sp (vs ++ dvs) H Q E) : wpAny (model X.prog X.w) X.A (call (.ref f) us) (EP X pins σ Q) X.xe s := by
 have r2 : Vals (vs ++ dvs) (us ++ ds) := r.append hd
 have hl : (us ++ ds).length = ps.length := by rw [← r2.length]; exact F.len _ _ _ _ h
 refine wpAny_call (codeAny_mono (F.run X.A X.stack s H ⟨us, []⟩ (us ++ ds) (vs ++ dvs) Q E hr I.env0 (hb s us I.kIn hl) r2 h) fun r s' hq => ?_)
 cases r with
 | error e => exact hx pins σ H s e s' I hq
 | ok fl =>
  cases fl with
  | ret u => exact I.after hq
  | next => exact False.elim hq
  | brk => exact False.elim hq
  | cont => exact False.elim hq
theorem pe_call (F : FnOk X.prog X.w X.K X.mg X.base CX k f fd ps sp) (hr : Room k X.A) (hg : Gl X x) (hm : X.mg x = some (.ref f)) (hk : PySem.W.keepIn X.K (.ref f) = true) (hb : Binds X.K fd ps ds) (hd : Vals dvs ds) (hx : Passes CX X E)
  (ha : PA X (e :: es) t) (hdb : (x == ("__debug__" : Str)) = false := by decide) (he : starEach (e :: es) X.env = (false, eval e X.env) :: starEach es X.env := by rfl) (hpl : (backTo pos (starEach es X.env)).any (·.1) = false := by rfl) :
  PE X (.Call (.Name x p) (e :: es) [] pos) (tCall sp dvs E t) := by
 intro pins s σ H Q I h
 refine wpAny_Call_Name_kw (ld_glob I hg hm ?_ hdb)
 refine PySem.W.callWith_K (h₀ := X.base) I.ok.mod.kin hk (thn (ha pos pins s σ H _ I h) fun us s1 ⟨vs, H1, I1, r, q⟩ => ⟨I1.kIn, ?_⟩) he hpl
 exact run_fn F hr hb hd hx I1 r q
structure Mk (K : PySem.W.Frag) (C f : Addr) : Prop where
 makes : PySem.W.makesIn K C = true
 init : PySem.W.findIn K (.ref C) "__init__" = some (some (.ref f))
 fn : PySem.W.isFn K (.ref f) = true
 kp : PySem.W.keepIn K (.ref C) = true
theorem run_make {pins : List (Addr × Obj)} {σ : St} {H : Hp} {s : Shared} {Q : VK} {us : List Value} {vs : List V} (M : Mk X.K C f) (F : FnOk X.prog X.w X.K X.mg X.base CX k f fd ps sp) (hr : Room (k + 1) X.A) (hb : Binds X.K fd ps ds) (hd : Vals dvs ds)
  (hx : Passes CX X E) (I : Inv X pins σ H s) (r : Vals vs us)
  (h : ∀ x dx, H x = none → H dx = none → dx ≠ x → sp (.ref x :: (vs ++ dvs)) (upd (upd H dx (.own x)) x (.ins C dx [])) (fun v H2 => v = .non ∧ Q (.ref x) H2) E) :
  wpAny (model X.prog X.w) X.A (call (.ref C) us) (EP X pins σ Q) X.xe s := by
 have hq := h (s.heap.objs.size + 1) s.heap.objs.size (I.hok.fresh (Nat.le_succ _)) (I.hok.fresh (Nat.le_refl _)) (Nat.ne_of_lt (Nat.lt_succ_self _))
 have I2 := Inv.made (C := C) I
 have r2 : Vals (V.ref (s.heap.objs.size + 1) :: (vs ++ dvs)) (Value.ref (s.heap.objs.size + 1) :: (us ++ ds)) := .cons rfl (r.append hd)
 have hl : (Value.ref (s.heap.objs.size + 1) :: us ++ ds).length = ps.length := by
  have e := r2.length
  rw [F.len _ _ _ _ hq] at e
  exact e.symm
 refine wpAny_call (make_map (f := f) I.kIn M.makes M.init (beq_iff_eq.mp M.fn) (codeAny_mono (F.run _ X.stack _ _ ⟨Value.ref (s.heap.objs.size + 1) :: us, []⟩ (Value.ref (s.heap.objs.size + 1) :: (us ++ ds)) _ _ E (hr.make C us [])
  (I2.env0.make C us []) (hb _ (Value.ref (s.heap.objs.size + 1) :: us) I2.kIn hl) r2 hq) fun r s' hq' => ?_))
 cases r with
 | error e => exact hx pins σ _ _ e s' I2 hq'
 | ok fl =>
  cases fl with
  | ret u =>
   obtain ⟨v, H', I3, rv, ev, q3⟩ := I2.after hq'
   subst ev
   exact ⟨rv, ⟨V.ref (s.heap.objs.size + 1), H', I3, rfl, q3⟩⟩
  | next => exact False.elim hq'
  | brk => exact False.elim hq'
  | cont => exact False.elim hq'
theorem pe_make (M : Mk X.K C f) (F : FnOk X.prog X.w X.K X.mg X.base CX k f fd ps sp) (hr : Room (k + 1) X.A) (hg : Gl X x) (hm : X.mg x = some (.ref C)) (hb : Binds X.K fd ps ds) (hd : Vals dvs ds) (hx : Passes CX X E)
  (ha : PA X (e :: es) t) (hdb : (x == ("__debug__" : Str)) = false := by decide) (he : starEach (e :: es) X.env = (false, eval e X.env) :: starEach es X.env := by rfl) (hpl : (backTo pos (starEach es X.env)).any (·.1) = false := by rfl) :
  PE X (.Call (.Name x p) (e :: es) [] pos) (tMake C sp dvs E t) := by
 intro pins s σ H Q I h
 refine wpAny_Call_Name_kw (ld_glob I hg hm ?_ hdb)
 refine PySem.W.callWith_K (h₀ := X.base) I.ok.mod.kin M.kp (thn (ha pos pins s σ H _ I h) fun us s1 ⟨vs, H1, I1, r, q⟩ => ⟨I1.kIn, ?_⟩) he hpl
 exact run_make M F hr hb hd hx I1 r q
end
def PK (X : Cx) (kws : List Keyword) (t : TA) : Prop :=
 ∀ (pos : Pos) (pins : List (Addr × Obj)) (s : Shared) (σ : St) (H : Hp) (Q : List V → Hp → Prop), Inv X pins σ H s → t σ H Q → wpAny (model X.prog X.w) X.A (evalAll ((backToKw pos (keywordEach kws X.env)).map (·.2))) (AP X pins σ Q) X.xe s
section
variable {X : Cx} {CX : CXT} {k : Nat} {f C : Addr} {fd : FuncData} {ps ks : List Str} {sp : Sp} {E : XK} {x m : Str} {p pos apos kpos : Pos} {e o : Expr} {es : List Expr} {kws : List Keyword} {te ta : TE} {t tk : TA} {nm : Option Str}
structure KBinds (K : PySem.W.Frag) (fd : FuncData) (ps ks : List Str) (g : List Value → List Value → List Value) (gV : List V → List V → List V) : Prop where
 to : ∀ (s : Shared) (us ws : List Value), K.In s.heap → (g us ws).length = ps.length → BindsTo s fd ⟨us, ks.zip ws⟩ (ps.zip (g us ws))
 rel : ∀ {vs : List V} {us : List Value} {zs : List V} {ws : List Value}, Vals vs us → Vals zs ws → Vals (gV vs zs) (g us ws)
def tCallK (sp : Sp) (gV : List V → List V → List V) (E : XK) (t tk : TA) : TE := fun σ H Q => t σ H fun vs H1 => tk σ H1 fun zs H2 => sp (gV vs zs) H2 Q E
variable {g : List Value → List Value → List Value} {gV : List V → List V → List V}
end
structure FnScope (N P : List Str) (sc : Scope) : Prop where
 kind : sc.kind = .function
 co : sc.isCoroutine = false
 gen : sc.isGenerator = false
 nd : N.Nodup
 pre : N.take P.length = P
 par : ∀ x ∈ P, sc.names.lookup x = some .local ∨ sc.names.lookup x = some .cell
 nofree : ∀ y ∈ sc.names, y.2 ≠ .free
theorem bindL_out {kindOf : Str → Option NameKind} {x : Str} : ∀ {binds : List (Str × Value)} {m : Str → Option Value}, (∀ v, (x, v) ∉ binds) → bindL kindOf binds m x = m x
 | [], _, _ => rfl
 | (n, v) :: r, m, h => by
  unfold bindL
  rw [bindL_out fun w hw => h w (List.mem_cons_of_mem _ hw)]
  split
  ·have : x ≠ n := by rintro rfl; exact h v List.mem_cons_self
   simp [this]
  ·rfl
theorem bindC_out {kindOf : Str → Option NameKind} {x : Str} : ∀ {binds : List (Str × Value)} {m : Str → Option Value}, (∀ v, (x, v) ∉ binds) → bindC kindOf binds m x = m x
 | [], _, _ => rfl
 | (n, v) :: r, m, h => by
  unfold bindC
  rw [bindC_out fun w hw => h w (List.mem_cons_of_mem _ hw)]
  split
  ·rfl
  ·have : x ≠ n := by rintro rfl; exact h v List.mem_cons_self
   simp [this]
theorem bindL_get {kindOf : Str → Option NameKind} {x : Str} {v : Value} : ∀ {P : List Str} {vs : List Value} {i : Nat} {m : Str → Option Value}, P.Nodup → P[i]? = some x → vs[i]? = some v → kindOf x = some .local →
  bindL kindOf (P.zip vs) m x = some v
 | [], _, _, _, _, h, _, _ => by simp at h
 | _ :: _, [], _, _, _, _, h, _ => by simp at h
 | p :: P, w :: vs, 0, m, nd, h1, h2, hk => by
  simp at h1 h2; subst h1; subst h2
  show bindL kindOf ((p, w) :: P.zip vs) m p = _
  unfold bindL
  rw [bindL_out fun v hv => (List.nodup_cons.mp nd).1 (List.of_mem_zip hv).1, if_pos hk]
  simp
 | p :: P, w :: vs, i + 1, m, nd, h1, h2, hk => by
  show bindL kindOf ((p, w) :: P.zip vs) m x = _
  unfold bindL
  exact bindL_get (i := i) (List.nodup_cons.mp nd).2 (by simpa using h1) (by simpa using h2) hk
theorem bindC_get {kindOf : Str → Option NameKind} {x : Str} {v : Value} : ∀ {P : List Str} {vs : List Value} {i : Nat} {m : Str → Option Value}, P.Nodup → P[i]? = some x → vs[i]? = some v → kindOf x ≠ some .local →
  bindC kindOf (P.zip vs) m x = some v
 | [], _, _, _, _, h, _, _ => by simp at h
 | _ :: _, [], _, _, _, _, h, _ => by simp at h
 | p :: P, w :: vs, 0, m, nd, h1, h2, hk => by
  simp at h1 h2; subst h1; subst h2
  show bindC kindOf ((p, w) :: P.zip vs) m p = _
  unfold bindC
  rw [bindC_out fun v hv => (List.nodup_cons.mp nd).1 (List.of_mem_zip hv).1, if_neg hk]
  simp
 | p :: P, w :: vs, i + 1, m, nd, h1, h2, hk => by
  show bindC kindOf ((p, w) :: P.zip vs) m x = _
  unfold bindC
  exact bindC_get (i := i) (List.nodup_cons.mp nd).2 (by simpa using h1) (by simpa using h2) hk
def start (N : List Str) (vs : List V) : St := vs.map some ++ List.replicate (N.length - vs.length) none
def cxOf (CX : CXT) (P : Program) (w : World) (K : PySem.W.Frag) (mg : Str → Option Value) (base : Heap) (N : List Str) (qual : Str) (scope : Scope) (f : Addr) (cd : Value) (A : Around) (outer : List Env) (s : Shared) (H : Hp) (E : XK) : Cx where
 prog := P
 w := w
 K := K
 mg := mg
 base := base
 A := A.deeper (envOfC qual scope s.heap.objs.size f cd)
 N := N
 s₀ := s
 H₀ := H
 env := envOfC qual scope s.heap.objs.size f cd
 outer := outer
 stack := envOfC qual scope s.heap.objs.size f cd :: outer
 ex := []
 calm := true
 fn := fun _ => true
 pn := []
 xe := fun e s' => wpAny (model P w) (A.deeper (envOfC qual scope s.heap.objs.size f cd)) (leaving (envOfC qual scope s.heap.objs.size f cd) e) (fun _ s'' => CX outer H s E e s'') (fun e' s'' => CX outer H s E e' s'') s'
theorem cell_has {sc : Scope} {n : Nat} {x : Str} (h : sc.names.lookup x = some .cell) : ∃ c, (cellsFrom n sc.names []).lookup x = some c := by
 have q := PySem.W.cellsFrom_some sc.names n [] (.inl h)
 exact Option.isSome_iff_exists.mp q
theorem inv_start {CX : CXT} {P : Program} {w : World} {K : PySem.W.Frag} {mg : Str → Option Value} {base : Heap} {N ps : List Str} {qual : Str} {scope : Scope} {f : Addr} {cd : Value} {A : Around} {outer : List Env} {s s1 : Shared} {H : Hp} {E : XK} {us : List Value} {vs : List V}
  (S : FnScope N ps scope) (hd : A.handled = none) (e0 : Env0 P w K mg base A outer s H) (hl : vs.length = ps.length) (r : Vals vs us)
  (x : InCallC s s.heap.objs.size (bindL (envOfC qual scope s.heap.objs.size f cd).kindOf (ps.zip us) fun _ => none) (cellsFrom (s.heap.objs.size + 1) scope.names []) (bindC (envOfC qual scope s.heap.objs.size f cd).kindOf (ps.zip us) fun _ => none) s1) :
  Inv (cxOf CX P w K mg base N qual scope f cd A outer s H E) [] (start N vs) H s1 := by
 have hpl : ps.length ≤ N.length := by have := congrArg List.length S.pre; rw [List.length_take] at this; omega
 obtain ⟨h1, tk, rfl, hk⟩ := x.done
 have noA : ∀ b : Addr, b ∉ (cxOf CX P w K mg base N qual scope f cd A outer s H E).ex := fun b z => absurd (show b ∈ ([] : List Addr) from z) (by simp)
 refine ⟨⟨e0.mod, S.kind, rfl, rfl, Nat.le_refl _, fun y z c h1 h2 => ?_, fun y hy => ?_, fun y c _ h => ?_, fun _ => hd, Around.frames_deeper e0.frames, .inr ⟨rfl, rfl⟩, fun b z => absurd z (noA b), e0.bs, e0.bsz, fun b _ _ => noA b, fun b z => absurd z (noA b), e0.funs, e0.frf⟩,
  rfl, e0.bare, Un.kept hk, ⟨_, x.toInCall.ns, fun i y v h1 h2 h3 => ?_⟩, fun y c h => ⟨_, x.cell y c h⟩, e0.hok.fresh (Nat.le_refl _), fun y c h => ?_, fun p hp => absurd (show p ∈ ([] : List (Addr × Obj)) from hp) (by simp), e0.hok.kept hk, ?_⟩
 ·exact name_of_addr x.apart (PySem.mem_of_lookup h1) (PySem.mem_of_lookup h2)
 ·have hy : scope.names.lookup y = some .cell ∨ scope.names.lookup y = some .free := hy
  rcases hy with hy | hy
  ·exact cell_has hy
  ·exact absurd rfl (S.nofree _ (PySem.mem_of_lookup hy))
 ·exact Nat.le_of_lt (x.above y c (PySem.mem_of_lookup h))
 ·have hi : i < vs.length := by
   unfold start at h2
   by_cases hi : i < vs.length
   ·exact hi
   ·rw [List.getElem?_append_right (by simpa using hi)] at h2
    rw [List.getElem?_replicate] at h2
    split at h2 <;> cases h2
  have ha : vs[i]? = some v := by
   unfold start at h2
   rw [List.getElem?_append_left (by simpa using hi), List.getElem?_map] at h2
   cases e : vs[i]? with
   | none => rw [e] at h2; cases h2
   | some a => rw [e] at h2; cases h2; rfl
  obtain ⟨u, hu, rv⟩ := r.get ha
  have hp : ps[i]? = some y := by
   rw [← S.pre, List.getElem?_take_of_lt (by omega)]; exact h1
  have ndP : ps.Nodup := by rw [← S.pre]; exact S.nd.sublist (List.take_sublist _ _)
  refine ⟨u, rv, ?_⟩
  rcases S.par y (List.mem_of_getElem? hp) with k | k
  ·exact .inl ⟨k, bindL_get ndP hp hu k⟩
  ·obtain ⟨c, e⟩ := cell_has (n := s.heap.objs.size + 1) k
   refine .inr ⟨.inl k, c, e, ?_⟩
   have q := x.cell y c e
   rw [bindC_get ndP hp hu (by show scope.names.lookup y ≠ _; rw [k]; decide)] at q
   exact q
 ·exact e0.hok.fresh (Nat.le_of_lt (x.above y c (PySem.mem_of_lookup h)))
 ·unfold start
  show _ = N.length
  rw [List.length_append, List.length_map, List.length_replicate]
  omega
theorem fn_of {CX : CXT} {P : Program} {w : World} {K : PySem.W.Frag} {mg : Str → Option Value} {base : Heap} {k : Nat} {f : Addr} {name qual : Str} {params : Arguments} {body : List Stmt} {scope : Scope} {dV kV doc pm cdv ct oc : Value} {an od : Option Addr}
  {osl : Array (Option Value)} {N ps : List Str} {sp : Sp} (lk : K.lookup f = some ⟨oc, od, .func (PySem.W.fnOf name qual params body scope dV kV doc pm an cdv ct), osl⟩) (hcd : PySem.W.codeIn K cdv qual = true) (S : FnScope N ps scope)
  (len : ∀ vs H Q E, sp vs H Q E → vs.length = ps.length)
  (hbody : ∀ (A : Around) (outer : List Env) (s : Shared) (H : Hp) (vs : List V) (Q : VK) (E : XK), Room k (A.deeper (envOfC qual scope s.heap.objs.size f cdv)) → sp vs H Q E →
   ∃ t, PSs (cxOf CX P w K mg base N qual scope f cdv A outer s H E) body t ∧ t { nx := fun _ H' => Q .non H', rt := Q } (start N vs) H) :
  FnOk P w K mg base CX (k + 1) f (PySem.W.fnOf name qual params body scope dV kV doc pm an cdv ct) ps sp := by
 refine ⟨len, fun A outer s H args us vs Q E hr e0 hb r hsp => ?_⟩
 have hl := len _ _ _ _ hsp
 have KX : K.In s.heap := e0.mod.kin.keeps fun b o e => (e0.bs b o e).1
 have lim : s.heap.NoLimit := e0.mod.nolimit.keeps fun b o e => (e0.bs b o e).1
 have hkind : ∀ y ∈ ps.zip us, scope.names.lookup y.1 = some .local ∨ (scope.names.lookup y.1 = some .cell ∧ ((cellsFrom (s.heap.objs.size + 1) scope.names []).lookup y.1).isSome = true) := fun ⟨n, v⟩ hy => by
  rcases S.par n (List.of_mem_zip hy).1 with q | q
  ·exact .inl q
  ·exact .inr ⟨q, PySem.W.cellsFrom_some _ _ _ (.inl q)⟩
 refine codeAny_call_function hr.depth (KX _ _ lk) rfl S.co S.gen rfl (PySem.W.codeRec_of KX hcd) (hb _ _ _ _ ?_)
 refine wpAny_newFunctionEnv_cells S.kind hkind fun env he s1 x => ?_
 subst he
 refine ⟨lim.keeps x.toInCall.keep, codeAny_func ?_⟩
 obtain ⟨t, ht, hq⟩ := hbody A outer s H vs Q E (hr.deeper _) hsp
 have I : Inv (cxOf CX P w K mg base N qual scope f cdv A outer s H E) [] (start N vs) H s1 := inv_start S hr.hd e0 hl r x
 refine wpAny_mono (ht [] s1 (start N vs) H _ I hq) (fun fl s' hs => ?_) fun e s' hs => hs
 have fin : ∀ {σ' : St} {H' : Hp} {v : V} {u : Value}, Inv (cxOf CX P w K mg base N qual scope f cdv A outer s H E) [] σ' H' s' → RelV v u → Q v H' → CE outer P w H s Q u s' :=
  fun {σ' H' v u} J rv q => ⟨v, H', J.os, J.bare, J.base, J.hok, rv, q⟩
 cases fl with
 | ret u =>
  obtain ⟨v, σ', H', J, rv, q⟩ := hs
  exact fin J rv q
 | next =>
  obtain ⟨σ', H', J, q⟩ := hs
  exact fin (v := V.non) (u := Value.none) J rfl q
 | brk =>
  obtain ⟨_, _, _, q⟩ := hs
  exact False.elim q
 | cont =>
  obtain ⟨_, _, _, q⟩ := hs
  exact False.elim q
end L2
namespace L2
open PySem PySem.Spec PyProof.Rows
section
variable {X : Cx} {x : Str} {p pos : Pos} {e : Expr} {es : List Expr} {t : TA} {id T : String} {r : List V → Hp → VK → Prop}
def tCB (r : List V → Hp → VK → Prop) (t : TA) : TE := fun σ H Q => t σ H fun vs H1 => r vs H1 Q
theorem pe_callB (hc : CallR X (.builtin id) r) (hg : Gl X x) (hm : X.mg x = none) (hv : bootBuiltins x = some (.builtin id)) (ha : PA X (e :: es) t) (hn : x ≠ "__name__" := by decide) (hdb : (x == ("__debug__" : Str)) = false := by decide)
  (he : starEach (e :: es) X.env = (false, eval e X.env) :: starEach es X.env := by rfl) (hpl : (backTo pos (starEach es X.env)).any (·.1) = false := by rfl) : PE X (.Call (.Name x p) (e :: es) [] pos) (tCB r t) := by
 intro pins s σ H Q I h
 refine wpAny_Call_Name_kw (ld_blt I hg hm hv ?_ hn hdb)
 exact PyProof.Rows.callWith_builtin1 (thn (ha pos pins s σ H _ I h) fun us s1 ⟨vs, H1, I1, r1, q1⟩ => hc pins s1 σ H1 vs us Q I1 r1 q1) he hpl
theorem pe_callTy (hc : CallR X (.type T) r) (hg : Gl X x) (hm : X.mg x = none) (hv : bootBuiltins x = some (.type T)) (ha : PA X (e :: es) t) (hn : x ≠ "__name__" := by decide) (hdb : (x == ("__debug__" : Str)) = false := by decide)
  (he : starEach (e :: es) X.env = (false, eval e X.env) :: starEach es X.env := by rfl) (hpl : (backTo pos (starEach es X.env)).any (·.1) = false := by rfl) : PE X (.Call (.Name x p) (e :: es) [] pos) (tCB r t) := by
 intro pins s σ H Q I h
 refine wpAny_Call_Name_kw (ld_blt I hg hm hv ?_ hn hdb)
 exact PyProof.Rows.callWith_type1 (thn (ha pos pins s σ H _ I h) fun us s1 ⟨vs, H1, I1, r1, q1⟩ => hc pins s1 σ H1 vs us Q I1 r1 q1) he hpl
end
end L2
namespace HT
open PySem PyProof.Rows
def lexLt : List Int → List Int → Bool
 | [], [] => false
 | [], _ :: _ => true
 | _ :: _, [] => false
 | x :: xs, y :: ys => if x = y then lexLt xs ys else decide (x < y)
section
open PySem.SeqAt
open PySem.AutoSeq1 (wpAny_loadPart')
open PySem.MeetsSeq PySem.MeetsSeq2 PySem.MeetsSeq3
end
section
variable {prog : Program} {w : World} {A : Around} {E : Value → Shared → Prop} {s : Shared}
def sIx (n d : Nat) : Option Int → Nat
 | none => d
 | some v => if v < 0 then (v + (n : Int)).toNat else min v.toNat n
theorem sIx_none (n d : Nat) : sIx n d none = d := rfl
theorem sIx_nat (n d k : Nat) : sIx n d (some (k : Int)) = min k n := by
 show (if (k : Int) < 0 then ((k : Int) + (n : Int)).toNat else min (k : Int).toNat n) = min k n
 rw [if_neg (by omega), Int.toNat_natCast]
end
end HT
namespace L2
open PySem PySem.Spec PyProof.Rows
abbrev TO := St → Hp → (Option Int → Hp → Prop) → Prop
def PO (X : Cx) (e : Option Expr) (t : TO) : Prop :=
 ∀ (pins : List (Addr × Obj)) (s : Shared) (σ : St) (H : Hp) (Q : Option Int → Hp → Prop), Inv X pins σ H s → t σ H Q →
  wpAny (model X.prog X.w) X.A (evalPart e X.env) (fun u s' => ∃ o H', Inv X pins σ H' s' ∧ IsPart u o ∧ Q o H') X.xe s
def tNoPart : TO := fun _ H Q => Q none H
def tPart (t : TE) : TO := fun σ H Q => t σ H fun x H1 => ∃ i, x = .int i ∧ Q (some i) H1
theorem intsAre_of {ns : List Int} : ∀ {us : List Value}, Vals (ns.map V.int) us → IntsAre us ns := by
 induction ns with
 | nil => intro us r; rw [List.map_nil] at r; cases r; exact .nil
 | cons n ns ih =>
  intro us r
  rw [List.map_cons] at r
  cases r with
  | cons r1 r2 =>
   obtain ⟨t, e⟩ := r1
   subst e
   exact .cons n t (ih r2)
section
variable {X : Cx} {e : Expr} {te : TE} {lo hi : Option Expr} {tl th : TO} {pos p2 : Pos}
theorem po_none : PO X none tNoPart := by
 intro pins s σ H Q I h
 rw [evalPart_none]
 exact wpAny_pure ⟨none, H, I, .none, h⟩
theorem po_some (h : PE X e te) : PO X (some e) (tPart te) := by
 intro pins s σ H Q I hw
 rw [evalPart_some]
 refine thn (h pins s σ H _ I hw) fun u s1 ⟨x, H1, I1, r1, q1⟩ => ?_
 obtain ⟨i, rfl, q⟩ := q1
 obtain ⟨t, rfl⟩ := r1
 exact ⟨some i, H1, I1, .int i t, q⟩
def SlR (X : Cx) (r : V → Option Int → Option Int → Hp → VK → Prop) : Prop :=
 ∀ (pins : List (Addr × Obj)) (s : Shared) (σ : St) (H : Hp) (x : V) (v vl vu : Value) (lo hi : Option Int) (sl : Addr) (Q : VK), Inv X pins σ H s → RelV x v → s.heap.IsSliceOf sl vl vu .none → IsPart vl lo → IsPart vu hi → r x lo hi H Q →
  ∃ T id, typeLookup (.type T) "__getitem__" = pure (some (.builtin id)) ∧ s.TypeIs v T ∧ wpAny (model X.prog X.w) X.A (getItem v (.ref sl)) (EP X pins σ Q) X.xe s
def tSl (r : V → Option Int → Option Int → Hp → VK → Prop) (te : TE) (tl th : TO) : TE := fun σ H Q => te σ H fun x H1 => tl σ H1 fun l H2 => th σ H2 fun u H3 => r x l u H3 Q
theorem pe_slice {r : V → Option Int → Option Int → Hp → VK → Prop} (hr : SlR X r) (he : PE X e te) (hl : PO X lo tl) (hu : PO X hi th) : PE X (.Subscript e (.Slice lo hi none p2) pos) (tSl r te tl th) := by
 intro pins s σ H Q I h
 refine Subscript_ (thn (he pins s σ H _ I h) fun v s1 ⟨x, H1, I1, r1, q1⟩ => ?_)
 refine wpAny_Slice (thn (hl pins s1 σ H1 _ I1 q1) fun vl s2 ⟨l, H2, I2, pl, q2⟩ => thn (hu pins s2 σ H2 _ I2 q2) fun vu s3 ⟨u, H3, I3, pu, q3⟩ => ?_)
 rw [evalPart_none]
 refine wpAny_pure ?_
 have I4 : Inv X pins σ H3 { s3 with heap := s3.heap.push { cls := .type "slice", data := .fields #[vl, vu, .none] } } := I3.kept (t' := s3.toks) fun b ob q => Heap.get?_push_of_some _ q
 obtain ⟨T, id, hT, ht, hg⟩ := hr pins { s3 with heap := s3.heap.push { cls := .type "slice", data := .fields #[vl, vu, .none] } } σ H3 x v vl vu l u s3.heap.objs.size Q I4 r1 (Heap.IsSliceOf.new ..) pl pu q3
 show wpAny (model X.prog X.w) X.A (subscriptTail e (.Slice lo hi none p2) v (.ref s3.heap.objs.size)) (EP X pins σ Q) X.xe { s3 with heap := s3.heap.push { cls := .type "slice", data := .fields #[vl, vu, .none] } }
 exact tail_any (ops := [.ref s3.heap.objs.size, v]) ht hT hg (by with_unfolding_all rfl)
def cutV (xs : List V) (lo hi : Option Int) : List V := (xs.drop (HT.sIx xs.length 0 lo)).take (HT.sIx xs.length xs.length hi - HT.sIx xs.length 0 lo)
theorem cutV_length (xs : List V) (lo hi : Option Int) : (cutV xs lo hi).length ≤ xs.length := by
 unfold cutV
 rw [List.length_take, List.length_drop]
 omega
def rSlT (K : PySem.W.Frag) : V → Option Int → Option Int → Hp → VK → Prop := fun x lo hi H Q => ∃ a xs, x = .ref a ∧ SqT K H a xs ∧
 ¬ (HT.sIx xs.length 0 lo = 0 ∧ HT.sIx xs.length xs.length hi = xs.length) ∧ ∀ p, H p = none → Q (.ref p) (upd H p (.tup (cutV xs lo hi)))
def rLtT (K : PySem.W.Frag) : R2 := fun x y H Q => ∃ a b ns ms, x = .ref a ∧ y = .ref b ∧ SqT K H a (ns.map V.int) ∧ SqT K H b (ms.map V.int) ∧ Q (.bl (HT.lexLt ns ms)) H
def rCatT (K : PySem.W.Frag) : R2 := fun x y H Q => ∃ a b xs ys, x = .ref a ∧ y = .ref b ∧ SqT K H a xs ∧ SqT K H b ys ∧ xs ≠ [] ∧ xs.length + ys.length ≤ sizeLine ∧
 (ys = [] → Q (.ref a) H) ∧ (ys ≠ [] → ∀ p, H p = none → Q (.ref p) (upd H p (.tup (xs ++ ys))))
end
end L2
namespace L2
open PySem PySem.Spec PyProof.Rows
def ixN (n : Nat) (i : Int) : Option Nat := if 0 ≤ i then (if i < n then some i.toNat else none) else if -(n : Int) ≤ i then some (i + n).toNat else none
def atI {α : Type} (xs : List α) (i : Int) : Option α := (ixN xs.length i).bind fun j => xs[j]?
theorem ixN_seq {n : Nat} {i : Int} {j : Nat} (h : ixN n i = some j) : seqIndex? i n = some j ∧ j < n ∧ -(n : Int) ≤ i ∧ i < n := by
 unfold ixN at h
 by_cases h0 : 0 ≤ i
 ·rw [if_pos h0] at h
  by_cases h1 : i < n
  ·rw [if_pos h1] at h
   have e : i.toNat = j := Option.some.inj h
   exact ⟨by rw [seqIndex_of h0 h1, e], by omega, by omega, h1⟩
  ·rw [if_neg h1] at h; cases h
 ·rw [if_neg h0] at h
  by_cases h1 : -(n : Int) ≤ i
  ·rw [if_pos h1] at h
   have e : (i + n).toNat = j := Option.some.inj h
   exact ⟨by rw [seqIndex_neg (by omega) h1, e], by omega, h1, by omega⟩
  ·rw [if_neg h1] at h; cases h
theorem atI_get {α : Type} {xs : List α} {i : Int} {v : α} (h : atI xs i = some v) : ∃ j, seqIndex? i xs.length = some j ∧ xs[j]? = some v ∧ j < xs.length ∧ -(xs.length : Int) ≤ i ∧ i < xs.length := by
 unfold atI at h
 cases e : ixN xs.length i with
 | none => rw [e] at h; cases h
 | some j =>
  rw [e] at h
  obtain ⟨h1, h2, h3, h4⟩ := ixN_seq e
  exact ⟨j, h1, h, h2, h3, h4⟩
theorem atI_nat {α : Type} {xs : List α} {j : Nat} {v : α} (h : xs[j]? = some v) : atI xs (j : Int) = some v := by
 have hj : j < xs.length := (List.getElem?_eq_some_iff.mp h).1
 have e : ixN xs.length (j : Int) = some j := by
  unfold ixN
  rw [if_pos (by omega), if_pos (by omega)]; simp
 unfold atI; rw [e]; exact h
def PlainIx (b : Expr) : Prop := ∀ o i, subscripted b false o i = operate [o, i] (getItem o i)
def IxR (X : Cx) (r : R2) : Prop :=
 ∀ (value slice : Expr) (pins : List (Addr × Obj)) (s : Shared) (σ : St) (H : Hp) (x y : V) (v u : Value) (Q : VK), Inv X pins σ H s → RelV x v → RelV y u → r x y H Q →
  subscripted slice false v u = operate [v, u] (getItem v u) → wpAny (model X.prog X.w) X.A (subscriptTail value slice v u) (EP X pins σ Q) X.xe s
def MtR (X : Cx) (id : String) (r : V → List V → Hp → VK → Prop) : Prop :=
 ∀ (pins : List (Addr × Obj)) (s : Shared) (σ : St) (H : Hp) (x : V) (xs : List V) (v : Value) (us : List Value) (Q : VK), Inv X pins σ H s → RelV x v → Vals xs us → r x xs H Q →
  wpAny (model X.prog X.w) X.A (call (.builtin id) (v :: us)) (EP X pins σ Q) X.xe s
section
variable {X : Cx} {a b : Expr} {ta tb : TE} {pos : Pos}
theorem pe_ix {r : R2} (hr : IxR X r) (ha : PE X a ta) (hb : PE X b tb) (hs : PlainIx b) : PE X (.Subscript a b pos) (tOp r ta tb) := by
 intro pins s σ H Q I h
 exact Subscript_ (binT ha hb I h fun v u s2 x y H2 I2 rx ry q => hr a b pins s2 σ H2 x y v u Q I2 rx ry q (hs _ _))
def rIxL (K : PySem.W.Frag) : R2 := fun x y H Q => ∃ p xs i v, x = .ref p ∧ y = .int i ∧ SqL K H p xs ∧ atI xs i = some v ∧ Q v H
def rIxT (K : PySem.W.Frag) : R2 := fun x y H Q => ∃ p xs i v, x = .ref p ∧ y = .int i ∧ SqT K H p xs ∧ atI xs i = some v ∧ Q v H
def rIxS : R2 := fun x y H Q => ∃ z i c, x = .str z ∧ y = .int i ∧ z.length ≤ sizeLine ∧ atI z.cps.toList i = some c ∧ Q (.str ⟨#[c]⟩) H
theorem ix_list : IxR X (rIxL X.K) := by
 intro value slice pins s σ H x y v u Q I rx ry h hs
 obtain ⟨p, xs, i, z, rfl, rfl, hq, he, q⟩ := h
 cases rx
 obtain ⟨t, rfl⟩ := ry
 obtain ⟨its, r, pl, hz⟩ := I.list hq
 obtain ⟨j, h1, h2, h3, h4, h5⟩ := atI_get he
 obtain ⟨w, ew, rw'⟩ := r.get h2
 have hl := r.length
 have hn := line63
 have fin : EP X pins σ Q w s := ⟨z, H, I, rw', q⟩
 by_cases h0 : 0 ≤ i
 ·have hj : i.toNat = j := by
   rw [seqIndex_of h0 h5] at h1
   exact Option.some.inj h1
  exact item_listR pl.isList h0 (by omega) (by rw [hj]; simpa using ew) fin hs
 ·have hj : (i + (its.toArray.size : Int)).toNat = j := by
   rw [seqIndex_neg (by omega) h4] at h1
   rw [List.size_toArray, ← hl]
   exact Option.some.inj h1
  exact subscriptTail_builtinR (x := w) pl.isList.typeIs slot_list_getitem.lookup
   (wpAny_getItem_list_neg (Q := fun r s' => r = w ∧ EP X pins σ Q r s') pl.isList (by omega) (by rw [List.size_toArray] <;> omega) (by omega) (by rw [hj]; simpa using ew) ⟨rfl, fin⟩) hs
theorem ix_tup : IxR X (rIxT X.K) := by
 intro value slice pins s σ H x y v u Q I rx ry h hs
 obtain ⟨p, xs, i, z, rfl, rfl, hq, he, q⟩ := h
 cases rx
 obtain ⟨t, rfl⟩ := ry
 obtain ⟨its, r, pl, hz⟩ := I.tuple hq
 obtain ⟨j, h1, h2, h3, h4, h5⟩ := atI_get he
 obtain ⟨w, ew, rw'⟩ := r.get h2
 have hl := r.length
 have hn := line63
 have fin : EP X pins σ Q w s := ⟨z, H, I, rw', q⟩
 exact subscriptTail_builtinR (x := w) pl.typeIs slot_tuple_getitem.lookup
  (getItem_tuple (j := j) (Q := fun r s' => r = w ∧ EP X pins σ Q r s') pl (by omega) (by omega) (by rw [List.size_toArray, ← hl]; exact h1) (by simpa using ew) ⟨rfl, fin⟩) hs
theorem ix_str : IxR X rIxS := by
 intro value slice pins s σ H x y v u Q I rx ry h hs
 obtain ⟨z, i, c, rfl, rfl, hz, he, q⟩ := h
 obtain ⟨t, rfl⟩ := rx
 obtain ⟨t', rfl⟩ := ry
 obtain ⟨j, h1, h2, h3, h4, h5⟩ := atI_get he
 have hl : z.cps.toList.length = z.length := by simp [Str.length]
 rw [hl] at h1 h4 h5
 have hn := line63
 exact tail_any (typeIs_str s z t) slot_str_getitem.lookup (getItem_str (c := c) (by
  have e1 : decide (i < -(2 ^ 63 : Int)) = false := decide_eq_false (by omega)
  have e2 : decide (i ≥ 2 ^ 63) = false := decide_eq_false (by omega)
  rw [e1, e2, Bool.or_false]) (by rw [h1]; simpa using h2) ⟨.str ⟨#[c]⟩, H, I.tok _, ⟨_, rfl⟩, q⟩) hs
def rIx (K : PySem.W.Frag) : R2 := fun x y H Q => rIxL K x y H Q ∨ rIxT K x y H Q ∨ rIxS x y H Q
theorem mapSeq_set (its : List Value) (n j : Nat) (u : Value) : Obj.mapSeq (·.setIfInBounds j u) { cls := .type "list", data := .seq its.toArray n } = { cls := .type "list", data := .seq (its.set j u).toArray n } := by
 simp [Obj.mapSeq]
theorem Inv.lst {pins : List (Addr × Obj)} {σ : St} {H : Hp} {s : Shared} {p : Addr} {xs : List V} (I : Inv X pins σ H s) (h : H p = some (.lst xs)) :
  ∃ (its : List Value) (n : Nat), Vals xs its ∧ s.heap.get? p = some { cls := .type "list", data := .seq its.toArray n } ∧ xs.length ≤ sizeLine := by
 obtain ⟨z, its, n, r, e⟩ := I.hok p _ h
 exact ⟨its, n, r, e, z⟩
theorem Inv.lstUpd {pins : List (Addr × Obj)} {σ : St} {H : Hp} {s : Shared} {p : Addr} {xs ys : List V} {its its' : List Value} {n n' : Nat} {f : Obj → Obj} (I : Inv X pins σ H s) (h : H p = some (.lst xs))
  (ho : s.heap.get? p = some { cls := .type "list", data := .seq its.toArray n }) (hf : f { cls := .type "list", data := .seq its.toArray n } = { cls := .type "list", data := .seq its'.toArray n' }) (r : Vals ys its') (hz : ys.length ≤ sizeLine) (t : Nat) :
  Inv X pins σ (upd H p (.lst ys)) { s with heap := s.heap.update p f, toks := t } := by
 have e : (s.heap.update p f).get? p = some { cls := .type "list", data := .seq its'.toArray n' } := by
  rw [Heap.get?_update_self f ho (by rw [hf] <;> rfl), hf]
 refine I.write (x := p) (e := p) (by rw [h]; trivial) (.inl rfl) (fun b u hb q => (Heap.get?_update_other _ _ (Ne.symm hb)).trans q) ⟨_, e⟩ ?_
 exact ⟨hz, its', n', r, e⟩
def rSetL : V → V → V → Hp → (Hp → Prop) → Prop := fun o i v H Q => ∃ p xs k j, o = .ref p ∧ i = .int k ∧ H p = some (.lst xs) ∧ ixN xs.length k = some j ∧ Q (upd H p (.lst (xs.set j v)))
theorem set_list : PSet X rSetL := by
 intro pins s σ H o i v ov iv u Q I ro ri rv h
 obtain ⟨p, xs, k, j, rfl, rfl, hp, hj, q⟩ := h
 cases ro
 obtain ⟨t, rfl⟩ := ri
 obtain ⟨its, n, r, ho, hz⟩ := I.lst hp
 obtain ⟨h1, h2, h3, h4⟩ := ixN_seq hj
 have hl := r.length
 have hn := line63
 have I' : Inv X pins σ (upd H p (.lst (xs.set j v))) { s with heap := s.heap.update p (Obj.mapSeq (·.setIfInBounds j u)) } :=
  I.lstUpd hp ho (mapSeq_set its n j u) (r.set rv j) (by rw [List.length_set]; exact hz) s.toks
 by_cases h0 : 0 ≤ k
 ·have hk : k.toNat = j := by
   rw [seqIndex_of h0 h4] at h1
   exact Option.some.inj h1
  exact PySem.W.ki_setAt ho h0 (by omega) (by rw [List.size_toArray, ← hl]; exact h4) (by rw [hk]; exact ⟨_, I', q⟩)
 ·have hk : (k + (its.toArray.size : Int)).toNat = j := by
   rw [seqIndex_neg (by omega) h3] at h1
   rw [List.size_toArray, ← hl]
   exact Option.some.inj h1
  exact PySem.W.ki_setBack ho (by omega) (by rw [List.size_toArray, ← hl]; exact h3) (by omega) (by rw [hk]; exact ⟨_, I', q⟩)
theorem slice_bounds (lo hi : Option Int) (n : Nat) : (sliceBounds lo hi none n).1 = ((HT.sIx n 0 lo : Nat) : Int) ∧ (sliceBounds lo hi none n).2.1 = ((HT.sIx n n hi : Nat) : Int) ∧ (sliceBounds lo hi none n).2.2 = 1 := by
 refine ⟨?_, ?_, rfl⟩
 ·cases lo with
  | none => simp [sliceBounds, HT.sIx]
  | some i =>
   simp only [sliceBounds, HT.sIx, Option.getD_none, show (1 : Int) > 0 by decide, if_true]
   by_cases h : i < 0
   ·simp only [h, if_true] <;> omega
   ·simp only [h, if_false] <;> omega
 ·cases hi with
  | none => simp [sliceBounds, HT.sIx]
  | some i =>
   simp only [sliceBounds, HT.sIx, Option.getD_none, show (1 : Int) > 0 by decide, if_true]
   by_cases h : i < 0
   ·simp only [h, if_true] <;> omega
   ·simp only [h, if_false] <;> omega
theorem slicePick_cut (its : List Value) (lo hi : Option Int) : slicePick its.toArray lo hi none = ((its.drop (HT.sIx its.length 0 lo)).take (HT.sIx its.length its.length hi - HT.sIx its.length 0 lo)).toArray := by
 obtain ⟨h1, h2, h3⟩ := slice_bounds lo hi its.toArray.size
 unfold slicePick
 rw [h1, h2, h3]
 simp only [sliceRange_one, pick_run, List.size_toArray] <;> rfl
def rSlL (K : PySem.W.Frag) : V → Option Int → Option Int → Hp → VK → Prop := fun x lo hi H Q => ∃ a xs, x = .ref a ∧ SqL K H a xs ∧ ∀ p, H p = none → Q (.ref p) (upd H p (.lst (cutV xs lo hi)))
theorem sl_list : SlR X (rSlL X.K) := by
 intro pins s σ H x v vl vu lo hi sl Q I rx hs pl pu h
 obtain ⟨a, xs, rfl, hx, q⟩ := h
 cases rx
 obtain ⟨its, r, ht, hz⟩ := I.list hx
 have hlen := r.length
 refine ⟨"list", _, slot_list_getitem.lookup, ht.isList.typeIs, ?_⟩
 refine wpAny_getItem_list_slice ht.isList hs pl pu .none (by simp) ?_ (by rw [List.size_toArray] <;> omega)
 rw [slicePick_cut, ← hlen]
 refine ⟨.ref s.heap.objs.size, _, I.laid (t' := s.toks) (o := .lst (cutV xs lo hi)) (fun b ob q => Heap.get?_push_of_some _ q) (Nat.le_refl _) ?_, rfl, q _ (I.hok.fresh (Nat.le_refl _))⟩
 exact ⟨Nat.le_trans (cutV_length xs lo hi) hz, _, 0, (r.drop (HT.sIx xs.length 0 lo)).take (HT.sIx xs.length xs.length hi - HT.sIx xs.length 0 lo), Heap.get?_push_size _ rfl⟩
def flatV : V → Bool
 | .non => true
 | .bl _ => true
 | .int _ => true
 | .str _ => true
 | _ => false
def eqV : V → V → Bool
 | .non, .non => true
 | .bl a, .bl b => a == b
 | .bl a, .int b => (if a then 1 else 0) == b
 | .int a, .bl b => a == (if b then 1 else 0)
 | .int a, .int b => a == b
 | .str a, .str b => a == b
 | _, _ => false
theorem eqAt_V {A : Around} {s : Shared} {y x : V} {u v : Value} (ry : RelV y u) (rx : RelV x v) (fy : flatV y = true) (fx : flatV x = true) : SeqAt.EqAt A s u v (eqV y x) := by
 cases y with
 | non =>
  cases ry
  cases x with
  | non => cases rx; exact SeqAt.EqAt.same _
  | bl b => cases rx; exact SeqAt.EqAt.none_bool b
  | int b => obtain ⟨t, rfl⟩ := rx; exact SeqAt.EqAt.none_int b t
  | str b => obtain ⟨t, rfl⟩ := rx; exact SeqAt.EqAt.none_str b t
  | _ => exact absurd (show false = true from fx) Bool.false_ne_true
 | bl a =>
  cases ry
  cases x with
  | non => cases rx; exact SeqAt.EqAt.bool_none a
  | bl b => cases rx; exact SeqAt.EqAt.bool_bool a b
  | int b => obtain ⟨t, rfl⟩ := rx; exact SeqAt.EqAt.bool_int a b t
  | str b => obtain ⟨t, rfl⟩ := rx; exact SeqAt.EqAt.bool_str a b t
  | _ => exact absurd (show false = true from fx) Bool.false_ne_true
 | int a =>
  obtain ⟨t', rfl⟩ := ry
  cases x with
  | non => cases rx; exact SeqAt.EqAt.int_none a t'
  | bl b => cases rx; exact SeqAt.EqAt.int_bool a t' b
  | int b => obtain ⟨t, rfl⟩ := rx; exact SeqAt.EqAt.int_int a t' b t
  | str b => obtain ⟨t, rfl⟩ := rx; exact SeqAt.EqAt.int_str a t' b t
  | _ => exact absurd (show false = true from fx) Bool.false_ne_true
 | str a =>
  obtain ⟨t', rfl⟩ := ry
  cases x with
  | non => cases rx; exact SeqAt.EqAt.str_none a t'
  | bl b => cases rx; exact SeqAt.EqAt.str_bool a t' b
  | int b => obtain ⟨t, rfl⟩ := rx; exact SeqAt.EqAt.str_int a t' b t
  | str b => obtain ⟨t, rfl⟩ := rx; exact SeqAt.EqAt.str_str a t' b t
  | _ => exact absurd (show false = true from fx) Bool.false_ne_true
 | _ => exact absurd (show false = true from fy) Bool.false_ne_true
def eqU (x : V) (u : Value) : Bool := match u with
 | .none => eqV .non x
 | .bool b => eqV (.bl b) x
 | .int i _ => eqV (.int i) x
 | .str z _ => eqV (.str z) x
 | _ => false
theorem eqU_of {x y : V} {u : Value} (r : RelV y u) (f : flatV y = true) : eqU x u = eqV y x := by
 cases y with
 | non => cases r; rfl
 | bl b => cases r; rfl
 | int i => obtain ⟨t, rfl⟩ := r; rfl
 | str z => obtain ⟨t, rfl⟩ := r; rfl
 | _ => exact absurd (show false = true from f) Bool.false_ne_true
theorem any_eqU {x : V} : ∀ {xs : List V} {us : List Value}, Vals xs us → xs.all flatV = true → us.any (eqU x) = xs.any fun y => eqV y x
 | _, _, .nil, _ => rfl
 | y :: xs, u :: us, .cons r t, f => by
  rw [List.all_cons, Bool.and_eq_true] at f
  rw [List.any_cons, List.any_cons, eqU_of r f.1, any_eqU t f.2]
theorem mem_eqAt {A : Around} {s : Shared} {x : V} {v : Value} (rx : RelV x v) (fx : flatV x = true) : ∀ {xs : List V} {us : List Value}, Vals xs us → xs.all flatV = true → ∀ u ∈ us, SeqAt.EqAt A s u v (eqU x u)
 | _, _, .nil, _ => fun u hu => by cases hu
 | y :: xs, u :: us, .cons r t, f => fun u' hu => by
  rw [List.all_cons, Bool.and_eq_true] at f
  rcases List.mem_cons.mp hu with rfl | hu
  ·rw [eqU_of r f.1]; exact eqAt_V r rx f.1 fx
  ·exact mem_eqAt rx fx t f.2 u' hu
def inV (x : V) (xs : List V) : Bool := xs.any fun y => eqV y x
def rIn (K : PySem.W.Frag) (neg : Bool) : R2 := fun x y H Q => ∃ p xs, y = .ref p ∧ (SqL K H p xs ∨ SqT K H p xs) ∧ flatV x = true ∧ xs.all flatV = true ∧ Q (.bl (if neg then !inV x xs else inV x xs)) H
theorem op_in_seq : OpR X (compareOp .In) (rIn X.K false) := by
 intro pins s σ H x y v u Q I rx ry h
 obtain ⟨p, xs, rfl, hq, fx, fs, q⟩ := h
 cases ry
 rcases hq with hq | hq
 ·obtain ⟨its, r, pl, hz⟩ := I.list hq
  refine SeqAt.in_listAt (eqU x) pl.isList (fun w hw => mem_eqAt rx fx r fs w (by simpa using hw)) ⟨.bl _, H, I, rfl, ?_⟩
  rw [show its.toArray.any (eqU x) = its.any (eqU x) by simp, any_eqU r fs]
  exact q
 ·obtain ⟨its, r, pl, hz⟩ := I.tuple hq
  refine SeqAt.in_tupleAt (eqU x) pl (fun w hw => mem_eqAt rx fx r fs w (by simpa using hw)) ⟨.bl _, H, I, rfl, ?_⟩
  rw [show its.toArray.any (eqU x) = its.any (eqU x) by simp, any_eqU r fs]
  exact q
theorem op_notIn_seq : OpR X (compareOp .NotIn) (rIn X.K true) := by
 intro pins s σ H x y v u Q I rx ry h
 obtain ⟨p, xs, rfl, hq, fx, fs, q⟩ := h
 cases ry
 rcases hq with hq | hq
 ·obtain ⟨its, r, pl, hz⟩ := I.list hq
  refine SeqAt.notIn_listAt (eqU x) pl.isList (fun w hw => mem_eqAt rx fx r fs w (by simpa using hw)) ⟨.bl _, H, I, rfl, ?_⟩
  rw [show its.toArray.any (eqU x) = its.any (eqU x) by simp, any_eqU r fs]
  exact q
 ·obtain ⟨its, r, pl, hz⟩ := I.tuple hq
  refine SeqAt.notIn_tupleAt (eqU x) pl (fun w hw => mem_eqAt rx fx r fs w (by simpa using hw)) ⟨.bl _, H, I, rfl, ?_⟩
  rw [show its.toArray.any (eqU x) = its.any (eqU x) by simp, any_eqU r fs]
  exact q
theorem op_notIn_str : OpR X (compareOp .NotIn) (fun x y H Q => ∃ i j, x = .str i ∧ y = .str j ∧ Q (.bl (!(!(Builtin.Str.occurrences j i 0 j.length 1).isEmpty))) H) := by
 intro pins s σ H x y v u Q I rx ry h
 obtain ⟨i, j, rfl, rfl, q⟩ := h
 obtain ⟨t, rfl⟩ := rx
 obtain ⟨t', rfl⟩ := ry
 exact notIn_str ⟨.bl _, H, I, rfl, q⟩
theorem call_len_seq : CallR X (.builtin "len") (fun xs H Q => ∃ p ys, xs = [.ref p] ∧ (SqL X.K H p ys ∨ SqT X.K H p ys) ∧ Q (.int ys.length) H) := by
 intro pins s σ H xs us Q I r h
 obtain ⟨p, ys, rfl, hq, q⟩ := h
 obtain ⟨u, rfl, rx⟩ := vals1 r
 cases rx
 have hn := line63
 rcases hq with hq | hq
 ·obtain ⟨its, r', pl, hz⟩ := I.list hq
  have hlen := r'.length
  exact Calls.call_len_list pl.isList (by simp only [List.size_toArray] <;> omega) ⟨.int ys.length, H, I.tok _, ⟨s.toks + 1, by rw [List.size_toArray, hlen]⟩, q⟩
 ·obtain ⟨its, r', pl, hz⟩ := I.tuple hq
  have hlen := r'.length
  exact len_tuple pl (by simp only [List.size_toArray] <;> omega) ⟨.int ys.length, H, I.tok _, ⟨s.toks + 1, by rw [List.size_toArray, hlen]⟩, q⟩
theorem call_len_str : CallR X (.builtin "len") (fun xs H Q => ∃ z, xs = [.str z] ∧ z.length ≤ sizeLine ∧ Q (.int z.length) H) := by
 intro pins s σ H xs us Q I r h
 obtain ⟨z, rfl, hz, q⟩ := h
 obtain ⟨u, rfl, t, rfl⟩ := vals1 r
 have hn := line63
 exact len_str (by omega) ⟨.int z.length, H, I.tok _, ⟨_, rfl⟩, q⟩
theorem call_list_of : CallR X (.type "list") (fun xs H Q => ∃ p ys, xs = [.ref p] ∧ (SqL X.K H p ys ∨ SqT X.K H p ys) ∧ ∀ l, H l = none → Q (.ref l) (upd H l (.lst ys))) := by
 intro pins s σ H xs us Q I r h
 obtain ⟨p, ys, rfl, hq, q⟩ := h
 obtain ⟨u, rfl, rx⟩ := vals1 r
 cases rx
 have fin : ∀ (its : List Value), Vals ys its → ys.length ≤ sizeLine → ∀ (h' : Heap) (c' : Nat), (∀ b o', s.heap.get? b = some o' → h'.get? b = some o') →
   h'.get? s.heap.objs.size = some { cls := .type "list", dict := none, data := .seq its.toArray c', slots := #[] } → EP X pins σ Q (.ref s.heap.objs.size) { s with heap := h' } := fun its r' hz h' c' kp e =>
  ⟨.ref s.heap.objs.size, _, I.laid (t' := s.toks) kp (Nat.le_refl _) (show ObjOk X.prog X.w _ h' _ (.lst ys) from ⟨hz, its, c', r', e⟩), rfl, q _ (I.hok.fresh (Nat.le_refl _))⟩
 rcases hq with hq | hq
 ·obtain ⟨its, r', pl, hz⟩ := I.list hq
  have hlen := r'.length
  obtain ⟨o, ho, hc, n, hd⟩ := pl.isList
  exact call_list_seq p (.inl rfl) ho hc hd (fun h' c' kp e => fin its r' hz h' c' kp e) (by simp only [List.size_toArray] <;> omega)
 ·obtain ⟨its, r', pl, hz⟩ := I.tuple hq
  have hlen := r'.length
  obtain ⟨o, ho, hc, n, hd⟩ := pl
  exact call_list_seq p (.inr rfl) ho hc hd (fun h' c' kp e => fin its r' hz h' c' kp e) (by simp only [List.size_toArray] <;> omega)
def tyV (K : PySem.W.Frag) (T : String) (x : V) (H : Hp) : Prop := match x with
 | .str _ => T = "str"
 | .int _ => T = "int"
 | .ref p => (T = "list" ∧ ∃ xs, SqL K H p xs) ∨ (T = "tuple" ∧ ∃ o, K.lookup p = some o ∧ o.cls = .type "tuple" ∧ o.dict = none) ∨
   (T = "dict" ∧ ((∃ kvs, H p = some (.dK kvs)) ∨ ∃ kvs, H p = some (.dT kvs))) ∨ (T = "set" ∧ ∃ S n, H p = some (.set S n))
 | _ => False
theorem tyV_is {pins : List (Addr × Obj)} {σ : St} {H : Hp} {s : Shared} {T : String} {x : V} {v : Value} (I : Inv X pins σ H s) (r : RelV x v) (ty : tyV X.K T x H) :
  s.TypeIs v T ∧ ∀ a, v = .ref a → ∃ ob, s.heap.get? a = some ob ∧ ob.dict = none := by
 cases x with
 | str z =>
  obtain ⟨t, rfl⟩ := r
  cases (show T = "str" from ty)
  exact ⟨typeIs_str s z t, fun _ e => nomatch e⟩
 | int i =>
  obtain ⟨t, rfl⟩ := r
  cases (show T = "int" from ty)
  exact ⟨typeIs_int s i t, fun _ e => nomatch e⟩
 | ref p =>
  cases r
  rcases ty with ⟨rfl, xs, hq⟩ | ⟨rfl, o, hk, hc, hd⟩ | ⟨rfl, hk⟩ | ⟨rfl, S, n, hk⟩
  ·obtain ⟨its, _, pl, _⟩ := I.list hq
   refine ⟨pl.isList.typeIs, fun a e => ?_⟩
   cases e
   obtain ⟨o, n, e, c, hd, _⟩ := pl
   exact ⟨o, e, hd⟩
  ·refine ⟨⟨o, I.kIn p o hk, hc⟩, fun a e => ?_⟩
   cases e
   exact ⟨o, I.kIn _ o hk, hd⟩
  ·have z : ∃ o, s.heap.get? p = some o ∧ o.ExactDict := by
    rcases hk with ⟨kvs, hk⟩ | ⟨kvs, hk⟩
    ·obtain ⟨_, _, _, _, o, _, _, e, ex, _⟩ := I.hok p _ hk
     exact ⟨o, e, ex⟩
    ·obtain ⟨_, _, _, _, o, _, _, e, ex, _⟩ := I.hok p _ hk
     exact ⟨o, e, ex⟩
   obtain ⟨o, e, ex⟩ := z
   refine ⟨⟨o, e, ex.1⟩, fun a e2 => ?_⟩
   cases e2
   exact ⟨o, e, ex.2.1⟩
  ·obtain ⟨o, _, _, _, e, ex, _⟩ := I.hok p _ hk
   refine ⟨⟨o, e, ex.1⟩, fun a e2 => ?_⟩
   cases e2
   exact ⟨o, e, ex.2.1⟩
 | _ => exact False.elim ty
def tBM0 (K : PySem.W.Frag) (T : String) (r : V → List V → Hp → VK → Prop) (to : TE) : TE := fun σ H Q => to σ H fun x H1 => tyV K T x H1 ∧ r x [] H1 Q
def tBM (K : PySem.W.Frag) (T : String) (r : V → List V → Hp → VK → Prop) (to : TE) (t : TA) : TE := fun σ H Q => to σ H fun x H1 => tyV K T x H1 ∧ t σ H1 fun xs H2 => r x xs H2 Q
variable {o e : Expr} {es : List Expr} {to : TE} {t : TA} {name : Str} {apos cpos : Pos} {T id : String} {r : V → List V → Hp → VK → Prop}
theorem pe_bm (pa : PlainAttrs T) (slot : Slot T name id) (hty : typeOf (.builtin id) = pure (.type "method_descriptor")) (hm : MtR X id r) (ho : PE X o to) (ha : PA X (e :: es) t)
  (hbase : attributeBase o name X.env (eval o X.env) = eval o X.env := by rfl)
  (hfew : ((backTo cpos (starEach (e :: es) X.env)).all (fun x => !x.1) && (backToKw cpos (keywordEach [] X.env)).all (fun x => x.1.isSome)
   && decide ((e :: es).length + ([] : List Keyword).length + (if ([] : List Keyword).isEmpty then 0 else 1) < 30)) = true := by rfl)
  (hline : (apos.endLine == cpos.line) = true := by rfl) (hs : starEach (e :: es) X.env = (false, eval e X.env) :: starEach es X.env := by rfl) (hplain : (backTo cpos (starEach es X.env)).any (·.1) = false := by rfl) :
  PE X (.Call (.Attribute o name apos) (e :: es) [] cpos) (tBM X.K T r to t) := by
 intro pins s σ H Q I h
 refine wpAny_Call_method_late hbase hfew hline rfl (thn (ho pins s σ H _ I h) fun v s1 ⟨x, H1, I1, r1, ty, q1⟩ => ?_)
 obtain ⟨h1, h2⟩ := tyV_is I1 r1 ty
 refine ⟨T, id, pa, slot, hty, h1, h2, ?_⟩
 have hA := ha cpos pins s1 σ H1 _ I1 q1
 rw [hs] at hA ⊢
 refine Calls.callWith_builtin (by show (false || (backTo cpos (starEach es X.env)).any (·.1)) = false; rw [hplain] <;> rfl) (Calls.evalArgs_plain ?_)
 exact thn hA fun us s2 ⟨vs, H2, I2, r2, q2⟩ => hm pins s2 σ H2 x vs v us Q I2 r1 r2 q2
end
end L2
namespace L2
open PySem PySem.Spec PyProof.Rows
def MtM (X : Cx) (id : String) (r : V → List V → Hp → VK → Prop) : Prop :=
 ∀ (pins : List (Addr × Obj)) (s : Shared) (σ : St) (H : Hp) (x : V) (xs : List V) (v : Value) (us : List Value) (Q : VK), Inv X pins σ H s → RelV x v → Vals xs us → r x xs H Q →
  wpAny (model X.prog X.w) X.A (call (.builtin id) (v :: us)) (EP X pins σ Q) X.xe s
theorem Vals.one : ∀ {x : V} {us : List Value}, Vals [x] us → ∃ u, us = [u] ∧ RelV x u
 | _, _, .cons r .nil => ⟨_, rfl, r⟩
theorem Vals.dropLast {xs : List V} {us : List Value} (h : Vals xs us) : Vals xs.dropLast us.dropLast := by
 induction h with
 | nil => exact .nil
 | cons r t ih =>
  cases t with
  | nil => exact .nil
  | cons q t' => exact .cons r ih
theorem Vals.eraseIdx : ∀ {xs : List V} {us : List Value} (i : Nat), Vals xs us → Vals (xs.eraseIdx i) (us.eraseIdx i)
 | _, _, _, .nil => .nil
 | _, _, 0, .cons _ t => t
 | _, _, i + 1, .cons r t => .cons r (Vals.eraseIdx i t)
theorem erase_last {α : Type} (l : List α) : l.eraseIdx (l.length - 1) = l.dropLast := by
 induction l with
 | nil => rfl
 | cons a r ih =>
  cases r with
  | nil => rfl
  | cons b r =>
   have e : (a :: b :: r).length - 1 = ((b :: r).length - 1) + 1 := by
    have h1 : (a :: b :: r).length = r.length + 2 := rfl
    have h2 : (b :: r).length = r.length + 1 := rfl
    omega
   rw [e, List.eraseIdx_cons_succ, ih]
   all_goals rfl
theorem len_erase {α : Type} : ∀ (l : List α) (i : Nat), (l.eraseIdx i).length ≤ l.length
 | [], _ => Nat.le_refl _
 | _ :: _, 0 => Nat.le_succ _
 | _ :: r, i + 1 => Nat.succ_le_succ (len_erase r i)
section
variable {X : Cx} {pins : List (Addr × Obj)} {σ : St} {H : Hp} {s : Shared} {l b : Addr} {xs ys zs : List V}
theorem Inv.lset {its its' : List Value} {n : Nat} {f : Array Value → Array Value} {t' : Nat} (I : Inv X pins σ H s) (hH : H l = some (.lst xs))
  (e : s.heap.get? l = some { cls := .type "list", data := .seq its.toArray n }) (hf : f its.toArray = its'.toArray) (hv : Vals ys its') (hz : ys.length ≤ sizeLine) :
  Inv X pins σ (upd H l (.lst ys)) { s with heap := s.heap.update l (Obj.mapSeq f), toks := t' } := by
 have q := PySem.IsL.update e f
 rw [hf] at q
 refine I.write (x := l) (e := l) (by rw [hH]; exact trivial) (.inl rfl) (fun b' u hb hu => (Heap.get?_update_other s.heap (Obj.mapSeq f) (Ne.symm hb)).trans hu) ⟨_, q⟩ ?_
 exact ⟨hz, its', _, hv, q⟩
theorem Inv.lnew {its : List Value} {t' : Nat} (I : Inv X pins σ H s) (hv : Vals ys its) (hz : ys.length ≤ sizeLine) :
  Inv X pins σ (upd H s.heap.objs.size (.lst ys)) { s with heap := s.heap.push { cls := .type "list", data := .seq its.toArray }, toks := t' } :=
 I.laid (fun _ _ q => Heap.get?_push_of_some _ q) (Nat.le_refl _) ⟨hz, its, 0, hv, Heap.get?_push_size _ rfl⟩
theorem Inv.fresh (I : Inv X pins σ H s) : H s.heap.objs.size = none := I.hok.fresh (Nat.le_refl _)
theorem Inv.lstM (I : Inv X pins σ H s) (hH : H l = some (.lst xs)) : xs.length ≤ sizeLine ∧ ∃ (its : List Value) (n : Nat), Vals xs its ∧ xs.length = its.length ∧ s.heap.get? l = some { cls := .type "list", data := .seq its.toArray n } := by
 obtain ⟨z, its, n, r, e⟩ := I.hok l _ hH
 exact ⟨z, its, n, r, r.length, e⟩
end
section
variable {X : Cx}
def rAppend : V → List V → Hp → VK → Prop := fun x vs H Q => ∃ l xs y, x = .ref l ∧ vs = [y] ∧ H l = some (.lst xs) ∧ xs.length < sizeLine ∧ Q .non (upd H l (.lst (xs ++ [y])))
theorem mt_append : MtM X "list.append" rAppend := by
 intro pins s σ H x vs v us Q I rx rv h
 obtain ⟨l, xs, y, rfl, rfl, hH, hz, q⟩ := h
 cases rx
 obtain ⟨u, rfl, ru⟩ := rv.one
 obtain ⟨z, its, n, r, hl, e⟩ := I.lstM hH
 refine call_meets F.slot_list_append ⟨_, e, rfl⟩ F.entry_list_append (F.args_list_append_2 _ _) (PySem.list_append l its.toArray n u (by rw [List.size_toArray]; omega)) ⟨e, ?_⟩
 refine ⟨.non, _, I.lset (its' := its ++ [u]) hH e (by simp) (r.append (.cons ru .nil)) ?_, rfl, q⟩
 rw [List.length_append, List.length_singleton]
 omega
def rExtend : V → List V → Hp → VK → Prop := fun x vs H Q => ∃ l b xs zs, x = .ref l ∧ vs = [.ref b] ∧ H l = some (.lst xs) ∧ H b = some (.lst zs) ∧ xs.length + zs.length ≤ sizeLine ∧ Q .non (upd H l (.lst (xs ++ zs)))
def rPop : V → List V → Hp → VK → Prop := fun x vs H Q => ∃ l xs y, x = .ref l ∧ vs = [] ∧ H l = some (.lst xs) ∧ xs[xs.length - 1]? = some y ∧ Q y (upd H l (.lst xs.dropLast))
def rPopAt : V → List V → Hp → VK → Prop := fun x vs H Q => ∃ l xs i k y, x = .ref l ∧ vs = [.int i] ∧ H l = some (.lst xs) ∧ -(2 ^ 63) ≤ i ∧ i < 2 ^ 63 ∧ seqIndex? i xs.length = some k ∧ xs[k]? = some y ∧ Q y (upd H l (.lst (xs.eraseIdx k)))
theorem mt_popAt : MtM X "list.pop" rPopAt := by
 intro pins s σ H x vs v us Q I rx rv h
 obtain ⟨l, xs, i, k, y, rfl, rfl, hH, h1, h2, hk, hy, q⟩ := h
 cases rx
 obtain ⟨u, rfl, ru⟩ := rv.one
 obtain ⟨t, rfl⟩ := ru
 obtain ⟨z, its, n, r, hl, e⟩ := I.lstM hH
 obtain ⟨w, hw, rw'⟩ := r.get hy
 refine call_meets F.slot_list_pop ⟨_, e, rfl⟩ F.entry_list_pop (F.args_list_pop_2 _ _)
  (MeetsSeq.list_pop_at l its.toArray n i t k w (fitsIndex_both h1 h2) (by rw [List.size_toArray, ← hl]; exact hk) (by rw [← Array.getElem?_toList]; exact hw) (by rw [List.size_toArray]; omega)) ⟨e, ?_⟩
 refine ⟨y, _, I.lset (its' := its.eraseIdx k) hH e ?_ (r.eraseIdx k) ?_, rw', q⟩
 ·show its.toArray.eraseIdxIfInBounds k = (its.eraseIdx k).toArray
  rw [List.eraseIdxIfInBounds_toArray]
 ·have := len_erase xs k
  omega
def rReverse : V → List V → Hp → VK → Prop := fun x vs H Q => ∃ l xs, x = .ref l ∧ vs = [] ∧ H l = some (.lst xs) ∧ Q .non (upd H l (.lst xs.reverse))
def rClear : V → List V → Hp → VK → Prop := fun x vs H Q => ∃ l xs, x = .ref l ∧ vs = [] ∧ H l = some (.lst xs) ∧ Q .non (upd H l (.lst []))
def rCat : R2 := fun x y H Q => ∃ l b xs zs, x = .ref l ∧ y = .ref b ∧ H l = some (.lst xs) ∧ H b = some (.lst zs) ∧ xs.length + zs.length ≤ sizeLine ∧ ∀ p, H p = none → Q (.ref p) (upd H p (.lst (xs ++ zs)))
theorem op_cat : OpR X (binaryOp .Add) rCat := by
 intro pins s σ H x y v u Q I rx ry h
 obtain ⟨l, b, xs, zs, rfl, rfl, hH, hB, hz, q⟩ := h
 cases rx
 cases ry
 obtain ⟨z, its, n, r, hl, e⟩ := I.lstM hH
 obtain ⟨z2, its2, n2, r2, hl2, e2⟩ := I.lstM hB
 refine PySem.P.add_list e e2 ?_ (by rw [List.size_toArray, List.size_toArray]; omega)
 have ea : its.toArray ++ its2.toArray = (its ++ its2).toArray := by simp
 rw [ea]
 exact ⟨.ref _, _, I.lnew (t' := s.toks) (r.append r2) (by rw [List.length_append]; omega), rfl, q _ I.fresh⟩
def rRep : R2 := fun x y H Q => ∃ l k xs, x = .ref l ∧ y = .int k ∧ H l = some (.lst xs) ∧ -(2 ^ 63) ≤ k ∧ k < 2 ^ 63 ∧ xs.length * k.toNat ≤ sizeLine ∧
 ∀ p, H p = none → Q (.ref p) (upd H p (.lst (List.replicate k.toNat xs).flatten))
end
section
variable {prog : Program} {w : World} {A : Around} {E : Value → Shared → Prop} {s : Shared}
end
section
variable {X : Cx}
end
end L2
namespace L2
open PySem PySem.Spec PyProof.Rows
section
variable {κ : Type} [DecidableEq κ]
def valV (kvs : List (κ × V)) (k : κ) : Option V := (kvs.find? fun kv => decide (kv.1 = k)).map (·.2)
def putK (kvs : List (κ × V)) (k : κ) (v : V) : List (κ × V) :=
 if (kvs.any fun kv => decide (kv.1 = k)) = true then kvs.map (fun kv => if kv.1 = k then (kv.1, v) else kv) else kvs ++ [(k, v)]
def dropK (kvs : List (κ × V)) (k : κ) : List (κ × V) := kvs.filter fun kv => decide (kv.1 ≠ k)
theorem valV_nil {k : κ} : valV ([] : List (κ × V)) k = none := rfl
theorem valV_pos {p : κ × V} {r : List (κ × V)} {k : κ} (e : p.1 = k) : valV (p :: r) k = some p.2 := by simp [valV, List.find?_cons, e]
theorem valV_neg {p : κ × V} {r : List (κ × V)} {k : κ} (e : ¬ p.1 = k) : valV (p :: r) k = valV r k := by simp [valV, List.find?_cons, e]
theorem valV_any (k : κ) : ∀ kvs : List (κ × V), (kvs.any fun kv => decide (kv.1 = k)) = (valV kvs k).isSome
 | [] => rfl
 | p :: r => by
  rw [List.any_cons]
  by_cases e : p.1 = k
  ·simp only [valV_pos e, decide_eq_true e, Bool.true_or, Option.isSome_some]
  ·rw [valV_neg e, decide_eq_false e, Bool.false_or]; exact valV_any k r
theorem valV_map (k j : κ) (y : V) : ∀ kvs : List (κ × V), valV (kvs.map fun kv => if kv.1 = k then (kv.1, y) else kv) j = (valV kvs j).map fun x => if j = k then y else x
 | [] => rfl
 | p :: r => by
  have ih := valV_map k j y r
  rw [List.map_cons]
  by_cases h : p.1 = k
  ·rw [if_pos h]
   by_cases e : p.1 = j
   ·rw [valV_pos (p := (p.1, y)) e, valV_pos e, Option.map_some, if_pos (e.symm.trans h)]
   ·rw [valV_neg (p := (p.1, y)) e, valV_neg e, ih]
  ·rw [if_neg h]
   by_cases e : p.1 = j
   ·rw [valV_pos (p := p) e, valV_pos e, Option.map_some, if_neg (fun z => h (e.trans z))]
   ·rw [valV_neg (p := p) e, valV_neg e, ih]
theorem valV_snoc (k j : κ) (y : V) : ∀ kvs : List (κ × V), valV kvs k = none → valV (kvs ++ [(k, y)]) j = if j = k then some y else valV kvs j
 | [], _ => by
  by_cases e : k = j
  ·rw [if_pos e.symm]; exact valV_pos (p := (k, y)) e
  ·rw [if_neg (fun z => e z.symm)]; exact valV_neg (p := (k, y)) e
 | p :: r, hn => by
  rw [List.cons_append]
  have hk : ¬ p.1 = k := fun z => by rw [valV_pos z] at hn; cases hn
  rw [valV_neg hk] at hn
  have ih := valV_snoc k j y r hn
  by_cases e : p.1 = j
  ·rw [valV_pos e, valV_pos e, if_neg (fun z => hk (e.trans z))]
  ·rw [valV_neg e, valV_neg e, ih]
theorem valV_put (kvs : List (κ × V)) (k j : κ) (y : V) : valV (putK kvs k y) j = if j = k then some y else valV kvs j := by
 unfold putK
 by_cases a : (kvs.any fun kv => decide (kv.1 = k)) = true
 ·rw [if_pos a, valV_map]
  rw [valV_any] at a
  by_cases e : j = k
  ·obtain ⟨x, hx⟩ := Option.isSome_iff_exists.mp a
   rw [if_pos e, e, hx, Option.map_some, if_pos rfl]
  ·rw [if_neg e]
   cases valV kvs j with
   | none => rfl
   | some x => rw [Option.map_some, if_neg e]
 ·rw [if_neg a]
  refine valV_snoc k j y kvs ?_
  rw [valV_any] at a
  cases q : valV kvs k with
  | none => rfl
  | some x => rw [q] at a; exact (a rfl).elim
theorem length_putK (kvs : List (κ × V)) (k : κ) (v : V) : (putK kvs k v).length ≤ kvs.length + 1 := by
 unfold putK
 split
 ·rw [List.length_map]; omega
 ·rw [List.length_append, List.length_cons, List.length_nil]; omega
theorem RelO.isSome_eq {o : Option V} {u : Option Value} (r : RelO o u) : o.isSome = u.isSome := by
 cases o with
 | none => cases u with
  | none => rfl
  | some _ => exact (show False from r).elim
 | some _ => cases u with
  | none => exact (show False from r).elim
  | some _ => rfl
theorem KV.val {kvs : List (κ × V)} {vs : List (κ × Value)} (r : KV kvs vs) (k : κ) : RelO (valV kvs k) (valueAt vs k) := by
 unfold KV at r
 induction r with
 | nil => exact True.intro
 | @cons p q ps qs h t ih =>
  obtain ⟨h1, h2⟩ := h
  by_cases e : p.1 = k
  ·have e' : q.1 = k := h1.symm.trans e
   have b : valueAt (q :: qs) k = some q.2 := by simp [valueAt, List.find?_cons, e']
   rw [valV_pos e, b]; exact h2
  ·have e' : ¬ q.1 = k := fun z => e (h1.trans z)
   have b : valueAt (q :: qs) k = valueAt qs k := by simp [valueAt, List.find?_cons, e']
   rw [valV_neg e, b]; exact ih
theorem KV.any {kvs : List (κ × V)} {vs : List (κ × Value)} (r : KV kvs vs) (k : κ) : (kvs.any fun kv => decide (kv.1 = k)) = vs.any fun kv => decide (kv.1 = k) := by
 unfold KV at r
 induction r with
 | nil => rfl
 | cons h t ih => rw [List.any_cons, List.any_cons, ih, h.1]
theorem KV.repl {kvs : List (κ × V)} {vs : List (κ × Value)} (r : KV kvs vs) (k : κ) {y : V} {u : Value} (ry : RelV y u) :
  KV (kvs.map fun kv => if kv.1 = k then (kv.1, y) else kv) (vs.map fun kv => if kv.1 = k then (kv.1, u) else kv) := by
 unfold KV at r ⊢
 induction r with
 | nil => exact .nil
 | @cons p q ps qs h t ih =>
  rw [List.map_cons, List.map_cons]
  refine .cons ?_ ih
  obtain ⟨h1, h2⟩ := h
  by_cases e : p.1 = k
  ·rw [if_pos e, if_pos (h1.symm.trans e)]; exact ⟨h1, ry⟩
  ·rw [if_neg e, if_neg (fun z => e (h1.trans z))]; exact ⟨h1, h2⟩
theorem KV.put {kvs : List (κ × V)} {vs : List (κ × Value)} (r : KV kvs vs) (k : κ) {y : V} {u : Value} (ry : RelV y u) : KV (putK kvs k y) (stored vs k u) := by
 unfold putK stored
 rw [r.any k]
 by_cases e : (vs.any fun kv => decide (kv.1 = k)) = true
 ·rw [if_pos e, if_pos e]; exact r.repl k ry
 ·rw [if_neg e, if_neg e]; exact Paired.snoc r ⟨rfl, ry⟩
theorem KV.length {kvs : List (κ × V)} {vs : List (κ × Value)} (r : KV kvs vs) : kvs.length = vs.length := Paired.length r
end
theorem kV_is {P : Program} {w : World} {k : Key} {u : Value} (r : RelV (kV k) u) : (mixKind P w).is k u = true := by
 cases k with
 | inl i => obtain ⟨t, e⟩ := (show ∃ t, u = Value.int i t from r); subst e; exact mixKind_int P w i t
 | inr x => obtain ⟨t, e⟩ := (show ∃ t, u = Value.str x t from r); subst e; exact mixKind_str P w x t
theorem items_are {P : Program} {w : World} : ∀ {ks : List Key} {us : List Value}, Vals (ks.map kV) us → ItemsAre (mixKind P w) ks us
 | [], _, r => by rw [List.map_nil] at r; cases r; exact .nil
 | k :: ks, _, r => by
  rw [List.map_cons] at r
  cases r with
  | cons h t => exact .cons (kV_is h) (items_are t)
abbrev KT (H : Hp) : List (List Key × V) → List (List Key × Addr × Value) → Prop := Paired fun p q => p.1 = q.1 ∧ H q.2.1 = some (.tup (p.1.map kV)) ∧ RelV p.2 q.2.2
theorem KT.val {H : Hp} {kvs : List (List Key × V)} {xs : List (List Key × Addr × Value)} (r : KT H kvs xs) (k : List Key) : RelO (valV kvs k) ((atKey xs k).map (·.2)) := by
 induction r with
 | nil => exact True.intro
 | @cons p q ps qs h t ih =>
  obtain ⟨h1, _, h2⟩ := h
  by_cases e : p.1 = k
  ·have e' : q.1 = k := h1.symm.trans e
   have b : atKey (q :: qs) k = some q.2 := by simp [atKey, List.find?_cons, e']
   rw [valV_pos e, b]; exact h2
  ·have e' : ¬ q.1 = k := fun z => e (h1.trans z)
   have b : atKey (q :: qs) k = atKey qs k := by simp [atKey, List.find?_cons, e']
   rw [valV_neg e, b]; exact ih
theorem KT.repl {H : Hp} {kvs : List (List Key × V)} {xs : List (List Key × Addr × Value)} (r : KT H kvs xs) (k : List Key) {y : V} {u : Value} (ry : RelV y u) :
  KT H (kvs.map fun kv => if kv.1 = k then (kv.1, y) else kv) (xs.map (putAt k u)) := by
 induction r with
 | nil => exact .nil
 | @cons p q ps qs h t ih =>
  rw [List.map_cons, List.map_cons]
  refine .cons ?_ ih
  obtain ⟨h1, h2, h3⟩ := h
  unfold putAt
  by_cases e : p.1 = k
  ·rw [if_pos e, if_pos (h1.symm.trans e)]; exact ⟨h1, h2, ry⟩
  ·rw [if_neg e, if_neg (fun z => e (h1.trans z))]; exact ⟨h1, h2, h3⟩
theorem KT.put {H : Hp} {kvs : List (List Key × V)} {xs : List (List Key × Addr × Value)} (r : KT H kvs xs) (k : List Key) {b : Addr} {y : V} {u : Value} (hb : H b = some (.tup (k.map kV))) (ry : RelV y u) :
  KT H (putK kvs k y) (storedH xs k b u) := by
 have e : (kvs.any fun kv => decide (kv.1 = k)) = (atKey xs k).isSome := by
  rw [valV_any, (r.val k).isSome_eq, Option.isSome_map]
 unfold putK storedH
 rw [e]
 by_cases q : (atKey xs k).isSome = true
 ·rw [if_pos q, if_pos q]; exact r.repl k ry
 ·rw [if_neg q, if_neg q]; exact Paired.snoc r ⟨rfl, hb, ry⟩
theorem KT.keeps {H H' : Hp} {kvs : List (List Key × V)} {xs : List (List Key × Addr × Value)} (r : KT H kvs xs) (ht : ∀ b ys, H b = some (.tup ys) → H' b = some (.tup ys)) : KT H' kvs xs :=
 Paired.mapP r fun _ _ z => ⟨z.1, ht _ _ z.2.1, z.2.2⟩
section
variable {P : Program} {w : World} {H : Hp} {h : Heap} {a : Addr}
theorem rd_of {u : HO} (ok : HOk P w H h) (e : Rd H a u) : ObjOk P w H h a u := e.ok ok
theorem dk_rd {kvs : List (Key × V)} (ok : HOk P w H h) (e : Rd H a (.dK kvs)) : kvs.length ≤ sizeLine ∧ (a == sysModules) = false ∧ ∃ vs, KV kvs vs ∧ h.DictOf (mixKind P w) a vs :=
 show ObjOk P w H h a (.dK kvs) from rd_of ok e
theorem dk_of {kvs : List (Key × V)} (ok : HOk P w H h) (e : H a = some (.dK kvs)) : kvs.length ≤ sizeLine ∧ (a == sysModules) = false ∧ ∃ vs, KV kvs vs ∧ h.DictOf (mixKind P w) a vs := dk_rd ok (.inl e)
theorem key_of {ks : List Key} (ok : HOk P w H h) (e : H a = some (.tup (ks.map kV))) : (tupleKind (mixKind P w)).is h ks a := by
 obtain ⟨_, its, r, o, h1, h2, n, h3⟩ := (show ObjOk P w H h a (.tup (ks.map kV)) from ok a _ e)
 exact ⟨o, its.toArray, n, h1, h2, h3, by simpa using items_are r⟩
theorem dt_rd {kvs : List (List Key × V)} (ok : HOk P w H h) (e : Rd H a (.dT kvs)) : kvs.length ≤ sizeLine ∧ (a == sysModules) = false ∧
  ∃ xs, KT H kvs xs ∧ h.DictOfH (tupleKind (mixKind P w)) a xs := by
 obtain ⟨z, y, xs, r, o, es, ep, h1, h2, h3, h4, h5⟩ := (show ObjOk P w H h a (.dT kvs) from rd_of ok e)
 refine ⟨z, y, xs, r, o, es, ep, h1, h2, h3, h4, fun x hx => ?_, h5⟩
 have all : ∀ {l : List (List Key × V)} {m : List (List Key × Addr × Value)}, KT H l m → ∀ x ∈ m, (tupleKind (mixKind P w)).is h x.1 x.2.1 := by
  intro l m q
  induction q with
  | nil => intro x hx; exact nomatch hx
  | @cons p q ps qs hq t ih =>
   intro x hx
   rcases List.mem_cons.mp hx with e | hx
   ·subst e
    exact key_of ok (by rw [← hq.1]; exact hq.2.1)
   ·exact ih x hx
 exact all r x hx
theorem dt_of {kvs : List (List Key × V)} (ok : HOk P w H h) (e : H a = some (.dT kvs)) : kvs.length ≤ sizeLine ∧ (a == sysModules) = false ∧
  ∃ xs, KT H kvs xs ∧ h.DictOfH (tupleKind (mixKind P w)) a xs := dt_rd ok (.inl e)
end
def DGet (H : Hp) (a : Addr) (y : V) (r : Option V) : Prop :=
 (∃ kvs k, Rd H a (.dK kvs) ∧ y = kV k ∧ r = valV kvs k) ∨ ∃ kvs k b, Rd H a (.dT kvs) ∧ y = .ref b ∧ H b = some (.tup (k.map kV)) ∧ r = valV kvs k
def DPut (H : Hp) (a : Addr) (y v : V) (H' : Hp) : Prop :=
 (∃ kvs k, H a = some (.dK kvs) ∧ y = kV k ∧ kvs.length < sizeLine ∧ H' = upd H a (.dK (putK kvs k v))) ∨
 ∃ kvs k b, H a = some (.dT kvs) ∧ y = .ref b ∧ H b = some (.tup (k.map kV)) ∧ kvs.length < sizeLine ∧ H' = upd H a (.dT (putK kvs k v))
theorem DGet.k {H : Hp} {a : Addr} {kvs : List (Key × V)} {k : Key} (e : H a = some (.dK kvs)) : DGet H a (kV k) (valV kvs k) := .inl ⟨kvs, k, .inl e, rfl, rfl⟩
theorem DPut.k {H : Hp} {a : Addr} {kvs : List (Key × V)} {k : Key} {v : V} (e : H a = some (.dK kvs)) (hl : kvs.length < sizeLine) : DPut H a (kV k) v (upd H a (.dK (putK kvs k v))) := .inl ⟨kvs, k, e, rfl, hl, rfl⟩
section
variable {X : Cx} {pins : List (Addr × Obj)} {σ : St} {H : Hp} {s : Shared} {a : Addr} {y v : V} {u r : Value} {o : Option V} {A : Around} {E : Value → Shared → Prop}
theorem Inv.big (I : Inv X pins σ H s) : sysModules < s.heap.objs.size := by
 have h : mainGlobals < s.heap.objs.size := (I.mod.glob.keeps I.bk).lt
 exact Nat.lt_trans (by decide) h
theorem d_in {Q : Value → Shared → Prop} (hu : A.units + 1 < cLine) (I : Inv X pins σ H s) (g : DGet H a y o) (ry : RelV y u) (h : ∀ s', Inv X pins σ H s' → Q (.bool o.isSome) s') :
  wpAny (model X.prog X.w) A (compareOp .In u (.ref a)) Q E s := by
 rcases g with ⟨kvs, k, e, ey, l⟩ | ⟨kvs, k, b, e, ey, eb, l⟩
 ·subst ey
  obtain ⟨z, hd, vs, rel, dd⟩ := dk_rd I.hok e
  refine wpAny_in_of (kV_is ry) hd dd.mapOf ?_
  rw [← (rel.val k).isSome_eq, ← l]
  exact h _ (I.tok _)
 ·subst ey
  cases (show u = Value.ref b from ry)
  obtain ⟨z, hd, xs, rel, dd⟩ := dt_rd I.hok e
  refine wpAny_in_heap (tupleKind_room_in1 hu) (key_of I.hok eb) hd dd ?_
  have q := (rel.val k).isSome_eq
  rw [Option.isSome_map] at q
  rw [← q, ← l]
  exact h _ (I.tok _)
theorem d_write {h' : Heap} {t' : Nat} {ob : HO} (I : Inv X pins σ H s) (mu : Mut (H a)) (hs : Heap.SameBut a s.heap h') (he : ∃ q, h'.get? a = some q) (new : ObjOk X.prog X.w (upd H a ob) h' a ob) :
  Inv X pins σ (upd H a ob) { s with heap := h', toks := t' } :=
 I.write (x := a) (e := a) mu (.inl rfl) (fun b q hb z => (hs.2 b hb).trans z) he new
theorem dk_new {P : Program} {w : World} {H' : Hp} {h' : Heap} {kvs : List (Key × V)} {vs : List (Key × Value)} (z : kvs.length ≤ sizeLine) (hd : (a == sysModules) = false) (rel : KV kvs vs) (dd : h'.DictOf (mixKind P w) a vs) :
  ObjOk P w H' h' a (.dK kvs) := ⟨z, hd, vs, rel, dd⟩
theorem d_setItem {H' : Hp} {Q : Unit → Shared → Prop} (hu : A.units + 1 < cLine) (I : Inv X pins σ H s) (g : DPut H a y v H') (ry : RelV y u) (rv : RelV v r) (h : ∀ s', Inv X pins σ H' s' → Q () s') :
  wpAny (model X.prog X.w) A (setItem (.ref a) u r) Q E s := by
 rcases g with ⟨kvs, k, e, ey, l, eH⟩ | ⟨kvs, k, b, e, ey, eb, l, eH⟩
 ·subst ey eH
  obtain ⟨z, hd, vs, rel, dd⟩ := dk_of I.hok e
  have hz : vs.length ≤ sizeLine := by rw [← rel.length]; exact z
  have hl : (putK kvs k v).length ≤ sizeLine := by have := length_putK kvs k v; omega
  refine wpAny_setItem_pairs (hsz := hz) (kV_is ry) dd fun h' dd' hs => h _ ?_
  have he : ∃ q, h'.get? a = some q := let ⟨q, _, _, hq, _⟩ := dd'; ⟨q, hq⟩
  exact d_write I (by rw [e]; exact True.intro) hs he (dk_new hl hd (rel.put k rv) dd')
 ·subst ey eH
  cases (show u = Value.ref b from ry)
  obtain ⟨z, hd, xs, rel, dd⟩ := dt_of I.hok e
  have hz : xs.length ≤ sizeLine := by rw [← Paired.length rel]; exact z
  have hl : (putK kvs k v).length ≤ sizeLine := by have := length_putK kvs k v; omega
  refine wpAny_setItem_heap (hsz := hz) (tupleKind_room_in1 hu) (key_of I.hok eb) dd fun h' dd' hs => h _ ?_
  obtain ⟨q, es, ep, hq, h2, h3, h4, _, h5⟩ := dd'
  refine d_write I (by rw [e]; exact True.intro) hs ⟨q, hq⟩ ⟨hl, hd, _, (rel.put k eb rv).keeps fun c ys ec => ?_, q, es, ep, hq, h2, h3, h4, h5⟩
  rw [upd_ne (ne_of ec e (fun z => nomatch z))]
  exact ec
end
section
variable {X : Cx} {pins : List (Addr × Obj)} {σ : St} {H : Hp} {s : Shared} {a : Addr} {kvs : List (Key × V)} {k : Key} {u : Value} {A : Around} {E : Value → Shared → Prop}
end
def NoSl (i : Expr) : Prop := ∀ ov iv, subscripted i false ov iv = operate [ov, iv] (getItem ov iv)
def tDGet (td ty : TE) : TE := fun σ H Q => td σ H fun x H1 => ty σ H1 fun y H2 => ∃ a v, x = .ref a ∧ DGet H2 a y (some v) ∧ Q v H2
def tDIn (ty td : TE) : TE := fun σ H Q => ty σ H fun y H1 => td σ H1 fun x H2 => ∃ a o, x = .ref a ∧ DGet H2 a y o ∧ Q (.bl o.isSome) H2
def tDNotIn (ty td : TE) : TE := fun σ H Q => ty σ H fun y H1 => td σ H1 fun x H2 => ∃ a o, x = .ref a ∧ DGet H2 a y o ∧ Q (.bl (!o.isSome)) H2
def sDPut (td ty tv : TE) : TS := fun D σ H => tv σ H fun v H1 => td σ H1 fun x H2 => ty σ H2 fun y H3 => ∃ a H4, x = .ref a ∧ DPut H3 a y v H4 ∧ D.nx σ H4
def sDAug (td ty tv : TE) (rd : V → V → Hp → VK → Prop) : TS := fun D σ H => td σ H fun x H1 => ty σ H1 fun y H2 => ∃ a v, x = .ref a ∧ DGet H2 a y (some v) ∧
 tv σ H2 fun y2 H3 => rd v y2 H3 fun z H4 => ∃ H5, DPut H4 a y z H5 ∧ D.nx σ H5
def sDDel (td ty : TE) : TS := fun D σ H => td σ H fun x H1 => ty σ H1 fun y H2 => ∃ a kvs k, x = .ref a ∧ H2 a = some (.dK kvs) ∧ y = kV k ∧ (valV kvs k).isSome = true ∧ D.nx σ (upd H2 a (.dK (dropK kvs k)))
section
variable {X : Cx} {o i e value : Expr} {pos pos' tpos : Pos} {td ty tv : TE}
theorem pc_din (hu : X.A.units + 1 < cLine) (hi : PE X i ty) (ho : PE X o td) : PC X .In i o (tDIn ty td) := by
 intro pins s σ H Q I h
 refine thn (hi pins s σ H _ I h) fun iv s1 ⟨y, H1, I1, ry, q1⟩ => thn (ho pins s1 σ H1 _ I1 q1) fun u s2 ⟨x, H2, I2, rx, a, ov, ex, g, q2⟩ => ?_
 subst ex
 obtain rfl : u = Value.ref a := rx
 exact d_in hu I2 g ry fun s3 I3 => ⟨.bl ov.isSome, H2, I3, rfl, q2⟩
theorem ps_dput (hu : X.A.units + 1 < cLine) (ho : PE X o td) (hi : PE X i ty) (hv : PE X value tv) (hs : swapsWith value (some (.Subscript o i pos')) pos.line X.env = pure false) :
  PS X (.Assign [.Subscript o i pos'] value pos) (sDPut td ty tv) := by
 intro pins s σ H D I h
 refine wpAny_Assign_Subscript (thn (hv pins s σ H _ I h) fun r s1 ⟨v, H1, I1, rv, q1⟩ => thn (ho pins s1 σ H1 _ I1 q1) fun u s2 ⟨x, H2, I2, rx, q2⟩ => thn (hi pins s2 σ H2 _ I2 q2) fun iv s3 ⟨y, H3, I3, ry, a, H4, ex, g, q3⟩ => ?_) hs
 subst ex
 obtain rfl : u = Value.ref a := rx
 exact d_setItem hu I3 g ry rv fun s4 I4 => ⟨σ, H4, I4, q3⟩
end
theorem dk_empty {P : Program} {w : World} {H : Hp} (h : Heap) (hb : sysModules < h.objs.size) : ObjOk P w H (h.push { cls := .type "dict", data := .dict #[] }) h.objs.size (.dK []) :=
 ⟨Nat.zero_le _, beq_eq_false_iff_ne.mpr (Ne.symm (Nat.ne_of_lt hb)), [], .nil, Heap.DictOf.new h⟩
def tDNewK : TE := fun _ H Q => ∀ p, H p = none → Q (.ref p) (upd H p (.dK []))
def tDNewT : TE := fun _ H Q => ∀ p, H p = none → Q (.ref p) (upd H p (.dT []))
section
variable {X : Cx} {pos : Pos}
end
def tPairs : List (TE × TE) → St → Hp → (List (V × V) → Hp → Prop) → Prop
 | [], _, H, Q => Q [] H
 | (tk, tv) :: r, σ, H, Q => tk σ H fun x H1 => tv σ H1 fun y H2 => tPairs r σ H2 fun ps H3 => Q ((x, y) :: ps) H3
abbrev VV : List (V × V) → List (Value × Value) → Prop := Paired fun p q => RelV p.1 q.1 ∧ RelV p.2 q.2
def PPs (X : Cx) (pos : Pos) (keys : List (Option Expr)) (values : List Expr) (trs : List (TE × TE)) : Prop :=
 ∀ (pins : List (Addr × Obj)) (s : Shared) (σ : St) (H : Hp) (Q : List (V × V) → Hp → Prop), Inv X pins σ H s → tPairs trs σ H Q →
  wpAny (model X.prog X.w) X.A (evalPairs (pairTrees keys values X.env pos)) (fun vs s' => ∃ ps H', Inv X pins σ H' s' ∧ VV ps vs ∧ Q ps H') X.xe s
theorem pps_nil {X : Cx} {pos : Pos} : PPs X pos [] [] [] := fun pins s σ H Q I h => pairTrees_nil_walk ⟨[], H, I, .nil, h⟩
theorem pps_cons {X : Cx} {pos : Pos} {k v : Expr} {ks : List (Option Expr)} {vs : List Expr} {tk tv : TE} {trs : List (TE × TE)} (hk : PE X k tk) (hv : PE X v tv) (hr : PPs X pos ks vs trs) :
  PPs X pos (some k :: ks) (v :: vs) ((tk, tv) :: trs) := fun pins s σ H Q I h =>
 pairTrees_cons_walk (thn (hk pins s σ H _ I h) fun u s1 ⟨x, H1, I1, rx, q1⟩ => thn (hv pins s1 σ H1 _ I1 q1) fun w2 s2 ⟨y, H2, I2, ry, q2⟩ =>
  thn (hr pins s2 σ H2 _ I2 q2) fun ws s3 ⟨ps, H3, I3, rel, q3⟩ => ⟨(x, y) :: ps, H3, I3, .cons ⟨rx, ry⟩ rel, q3⟩)
def mergeK (kvs more : List (Key × V)) : List (Key × V) := more.foldl (fun acc kv => putK acc kv.1 kv.2) kvs
theorem KV.merge : ∀ {more : List (Key × V)} {rs : List (Key × Value)} {kvs : List (Key × V)} {vs : List (Key × Value)}, KV more rs → KV kvs vs → KV (mergeK kvs more) (merged vs rs) := by
 intro more rs kvs vs r
 unfold KV at r
 induction r generalizing kvs vs with
 | nil => intro q; exact q
 | @cons p q ps qs h t ih =>
  intro r0
  have e : KV (putK kvs p.1 p.2) (stored vs q.1 q.2) := by
   have := r0.put p.1 h.2
   rw [← h.1]; exact this
  exact ih e
theorem length_mergeK : ∀ (more kvs : List (Key × V)), (mergeK kvs more).length ≤ kvs.length + more.length
 | [], kvs => by show kvs.length ≤ kvs.length + 0; omega
 | p :: r, kvs => by
  have h1 := length_mergeK r (putK kvs p.1 p.2)
  have h2 := length_putK kvs p.1 p.2
  show (mergeK (putK kvs p.1 p.2) r).length ≤ _
  rw [List.length_cons]; omega
theorem carries_of {P : Program} {w : World} : ∀ {kvs : List (Key × V)} {ws : List (Value × Value)}, VV (kvs.map fun kv => (kV kv.1, kv.2)) ws → ∃ rs, Carries (mixKind P w) ws rs ∧ KV kvs rs
 | [], _, r => by rw [List.map_nil] at r; cases r; exact ⟨[], True.intro, .nil⟩
 | p :: kvs, _, r => by
  rw [List.map_cons] at r
  cases r with
  | @cons a b as bs h t =>
   obtain ⟨rs, c, q⟩ := carries_of (P := P) (w := w) t
   obtain ⟨b1, b2⟩ := b
   exact ⟨(p.1, b2) :: rs, ⟨kV_is h.1, rfl, c⟩, .cons ⟨rfl, h.2⟩ q⟩
def tDisp (trs : List (TE × TE)) : TE := fun σ H Q => ∀ p, H p = none → tPairs trs σ (upd H p (.dK [])) fun ps H2 => H2 p = some (.dK []) ∧ ∃ kvs : List (Key × V), ps = kvs.map (fun kv => (kV kv.1, kv.2)) ∧ kvs.length ≤ 15 ∧ Q (.ref p) (upd H2 p (.dK (mergeK [] kvs)))
theorem pe_disp {X : Cx} {pos : Pos} {keys : List (Option Expr)} {values : List Expr} {trs : List (TE × TE)} (h : PPs X pos keys values trs) (hall : keys.all (·.isSome) = true) (hl : keys.length = values.length) (h0 : keys ≠ [])
  (h15 : keys.length ≤ 15) : PE X (.Dict keys values pos) (tDisp trs) := by
 intro pins s σ H Q I q
 have hn := I.hok.fresh (Nat.le_refl s.heap.objs.size)
 have I1 := I.laid (a := s.heap.objs.size) (o := .dK []) (h' := s.heap.push { cls := .type "dict", data := .dict #[] }) (t' := s.toks) (fun _ _ q => Heap.get?_push_of_some _ q) (Nat.le_refl _) (dk_empty s.heap I.big)
 refine wpAny_Dict_walk (knd := mixKind X.prog X.w) hall hl h0 h15 (thn (h pins _ σ _ _ I1 (q _ hn)) fun ws s2 ⟨ps, H2, I2, rel, e, kvs, ep, lk, q2⟩ => ?_)
 subst ep
 obtain ⟨rs, c, rk⟩ := carries_of (P := X.prog) (w := X.w) rel
 obtain ⟨z, hd, vs0, r0, dd⟩ := dk_of I2.hok e
 cases r0
 refine ⟨rs, c, dd, fun h' dd' hs => ⟨.ref s.heap.objs.size, _, ?_, rfl, q2⟩⟩
 have hz : (mergeK [] kvs).length ≤ sizeLine := by
  have h1 := length_mergeK kvs []
  rw [List.length_nil] at h1
  rw [sizeLine_eq]; omega
 have he : ∃ q, h'.get? s.heap.objs.size = some q := let ⟨q, _, _, hq, _⟩ := dd'; ⟨q, hq⟩
 exact d_write I2 (by rw [e]; exact True.intro) hs he (dk_new hz hd (rk.merge .nil) dd')
structure M1 (X : Cx) (o : Expr) (m : Str) (apos : Pos) (e : Expr) (cpos : Pos) : Prop where
 base : attributeBase o m X.env (eval o X.env) = eval o X.env
 few : ((backTo cpos (starEach [e] X.env)).all (fun x => !x.1) && (backToKw cpos (keywordEach [] X.env)).all (fun x => x.1.isSome)
  && decide (([e] : List Expr).length + ([] : List Keyword).length + (if ([] : List Keyword).isEmpty then 0 else 1) < 30)) = true
 line : (apos.endLine == cpos.line) = true
 trees : backTo cpos (starEach [e] X.env) = [(false, eval e X.env)]
structure M2 (X : Cx) (o : Expr) (m : Str) (apos : Pos) (e f : Expr) (cpos : Pos) : Prop where
 base : attributeBase o m X.env (eval o X.env) = eval o X.env
 few : ((backTo cpos (starEach [e, f] X.env)).all (fun x => !x.1) && (backToKw cpos (keywordEach [] X.env)).all (fun x => x.1.isSome)
  && decide (([e, f] : List Expr).length + ([] : List Keyword).length + (if ([] : List Keyword).isEmpty then 0 else 1) < 30)) = true
 line : (apos.endLine == cpos.line) = true
 trees : backTo cpos (starEach [e, f] X.env) = [(false, eval e X.env), (false, eval f X.env)]
def IsD (H : Hp) (a : Addr) : Prop := (∃ kvs, Rd H a (.dK kvs)) ∨ ∃ kvs, Rd H a (.dT kvs)
section
variable {X : Cx} {pins : List (Addr × Obj)} {σ : St} {H : Hp} {s : Shared} {a : Addr} {y d : V} {u r : Value} {o : Option V} {A : Around} {E : Value → Shared → Prop}
end
def tDGet1 (td ty : TE) : TE := fun σ H Q => td σ H fun x H1 => ∃ a, x = .ref a ∧ IsD H1 a ∧ ty σ H1 fun y H2 => ∃ o, DGet H2 a y o ∧ Q (o.getD .non) H2
def tDGet2 (td ty tx : TE) : TE := fun σ H Q => td σ H fun x H1 => ∃ a, x = .ref a ∧ IsD H1 a ∧ ty σ H1 fun y H2 => tx σ H2 fun z H3 => ∃ o, DGet H3 a y o ∧ Q (o.getD z) H3
def tDPop1 (td ty : TE) : TE := fun σ H Q => td σ H fun x H1 => ∃ a, x = .ref a ∧ IsD H1 a ∧ ty σ H1 fun y H2 => ∃ kvs k v, H2 a = some (.dK kvs) ∧ y = kV k ∧ valV kvs k = some v ∧ Q v (upd H2 a (.dK (dropK kvs k)))
def tDPop2 (td ty tx : TE) : TE := fun σ H Q => td σ H fun x H1 => ∃ a, x = .ref a ∧ IsD H1 a ∧ ty σ H1 fun y H2 => tx σ H2 fun z H3 => ∃ kvs k, H3 a = some (.dK kvs) ∧ y = kV k ∧
 (∀ v, valV kvs k = some v → Q v (upd H3 a (.dK (dropK kvs k)))) ∧ (valV kvs k = none → Q z H3)
section
variable {X : Cx} {o e f : Expr} {apos cpos : Pos} {td ty tx : TE}
end
section
variable {X : Cx} {pins : List (Addr × Obj)} {σ : St} {H : Hp} {s : Shared} {a : Addr} {kvs : List (Key × V)} {A : Around} {E : Value → Shared → Prop}
end
section
variable {X : Cx} {pins : List (Addr × Obj)} {σ : St} {H : Hp} {s : Shared} {a : Addr} {y : V} {u : Value} {A : Around} {E : Value → Shared → Prop}
end
end L2
namespace Att
open PySem PySem.W PySem.Calls PyProof.Rows
theorem ints_of_wellAll {P : Params} {h : Heap} : ∀ (ns : List Int) (vs : List Value), WellAll P h vs (ns.map WData.int) → IntsAre vs ns := by
 intro ns
 induction ns with
 | nil =>
  intro vs w
  rw [List.map_nil] at w
  cases w
  exact .nil
 | cons n ns ih =>
  intro vs w
  rw [List.map_cons] at w
  cases w with
  | cons a b =>
   cases a
   exact .cons _ _ (ih _ b)
theorem script_of {l : OpenLaw} {n : Nat} (hn : l.most = some n) {P : Params} {h : Heap} {args : List WData} {vals : List Value}
  (hpre : l.row.toRowW.claim.pre args = true) (hwl : WellAll P h vals args) :
  ∃ a vs ns, vals = [Value.ref a] ∧ args = [WData.list (ns.map WData.int)] ∧ h.get? a = some { cls := .type "list", data := .seq vs.toArray } ∧ IntsAre vs ns ∧ ns.length ≤ n := by
 have hsh : WShape.hasAll [] args [.list .int] = true := (pre_splitW hpre).1
 have hc : l.pre.holds [] { args := args } = true := (pre_splitW hpre).2
 obtain ⟨d, r, rfl, h1, h2⟩ := hasAllW_cons hsh
 obtain rfl := hasAllW_nil h2
 obtain ⟨xs, rfl, h3⟩ := hasW_list h1
 obtain ⟨ns, rfl⟩ := items_int h3
 have hlen : ns.length ≤ n := by
  unfold OpenLaw.pre at hc
  have h4 : (WTm.not (.lt (.lit (.int (n : Int))) (.len (.arg 0)))).holds [] { args := [.list (ns.map .int)] } = true := by
   have h4 := (holds_andW hc).1
   rw [hn] at h4
   exact h4
  have h5 := condW_of h4 (w_not (w_lt w_lit (w_len_list (w_arg rfl))))
  rw [List.length_map] at h5
  refine Nat.le_of_not_lt fun q => ?_
  have q' : (n : Int) < ((ns.length : Nat) : Int) := by omega
  first
   | (rw [decide_eq_true q'] at h5; exact absurd h5 (by decide))
   | (simp at h5; omega)
 cases hwl with
 | cons w1 w2 =>
  cases w2
  cases w1 with
  | list ho hall => exact ⟨_, _, ns, rfl, rfl, ho, ints_of_wellAll ns _ hall, hlen⟩
theorem post_true (l : OpenLaw) (args : List WData) : l.row.toRowW.claim.post args (.bool true) args = true :=
 postW_of (r := l.row.toRowW) (X := (true == true))
  (show WShape.has [] (.bool true) .bool = true by first | rfl | decide | simp [WShape.has, WShape.arms, WShape.armsAll])
  (show (WTm.eq .res (.lit (.bool true))).value [] { args := args, res := some (.bool true), after := args } = some (.bool (true == true)) from w_eq_bool (w_res rfl) w_lit) rfl
theorem attach_call {l : OpenLaw} {n : Nat} {q : Program} {loose : List Str} {XP : (Str → Option Value) → Heap → Prop} {YP : World → Heap → Prop} {d : DefRec}
  (hn : l.most = some n) (hdf : d.params.defaults = [])
  (call : ∀ (w : World) (s₀ s₁ : Shared) (mg mb : Str → Option Value) (fa : Addr) (o : Obj) (pm cd doc : Value) (a : Addr) (vs : List Value) (ns : List Int),
   Ground q loose [] XP w s₀ mg mb s₁.heap → YP w s₁.heap →
   s₁.heap.get? fa = some o → o.data = .func (docDef d.name d.params d.body d.scope pm cd doc) → s₁.heap.CodeRec cd d.name → mg d.name = some (.ref fa) →
   s₁.heap.get? a = some { cls := .type "list", data := .seq vs.toArray } → IntsAre vs ns → ns.length ≤ n → s₁.gens = #[] →
   codeAny (model l.prog w) callerA (.call (.ref fa) ⟨[.ref a], []⟩) (fun r s' => r = .ok (.ret (.bool true)) ∧ OldK s₁.heap s'.heap ∧ s'.os = s₁.os ∧ AllBare s'.gens) s₁) :
  WalkO q loose XP YP l.row.toRowW d [] (fun f vs => PySem.call f vs) := by
 intro w s₀ s₁ mg mb G Y fa o pm cd doc dV kV ho hd hcd hD hmg hg args vals as hpre hlay hrd hwl hlo
 obtain rfl : dV = .none := Dflts.none hD hdf
 obtain rfl : kV = .none := Dflts.noKw hD
 obtain ⟨a, vs, ns, rfl, rfl, hobj, hints, hlen⟩ := script_of hn hpre hwl
 refine enter_call (codeAny_mono (call w s₀ s₁ mg mb fa o pm cd doc a vs ns G Y ho (fd_plain hd) hcd hmg hobj hints hlen hg) fun r s' hq => ?_)
 obtain ⟨rfl, h2, h3, h4⟩ := hq
 exact ⟨.inl ⟨.bool true, .bool true, [], rfl, fun _ => rfl, .bool true, post_true l _, fun _ => ⟨List.Pairwise.nil, fun _ hm => (nomatch hm)⟩⟩, h2, h3, h4⟩
section
variable {prog : Program} {w : World} {A : Around} {E : Value → Shared → Prop} {s : Shared} {K : Frag}
def noObjs (h : Heap) : Heap := { h with objs := #[] }
def ledger (h : Heap) (L d : Addr) : List (Addr × Obj) := (List.range h.objs.size).filterMap fun a => if a = L ∨ a = d then none else (h.get? a).map fun o => (a, o)
end
end Att
namespace L2
open PySem PySem.Spec PyProof.Rows
theorem vals_ints : ∀ {vs : List Value} {ns : List Int}, IntsAre vs ns → Vals (ns.map V.int) vs
 | _, _, .nil => .nil
 | _, _, .cons n t h => .cons ⟨t, rfl⟩ (vals_ints h)
def Only (H : Hp) : Prop := ∀ b, H b = none ∨ ∃ o xs, H b = some (.frz o (.lst xs))
theorem law_call {P : Program} {w : World} {K : PySem.W.Frag} {mg mb : Str → Option Value} {CX : CXT} {k : Nat} {fa a : Addr} {fd : FuncData} {x : Str} {sp : Sp} {s₁ : Shared} {vs : List Value} {ns : List Int}
  (KX : K.In s₁.heap) (hns : s₁.heap.Ns mainGlobals mg) (hb : s₁.heap.Ns builtinsNs mb) (hbb : ∀ x : Str, x ≠ "__name__" → mb x = bootBuiltins x) (hlim : s₁.heap.NoLimit) (hg : s₁.gens = #[])
  (ha : s₁.heap.get? a = some { cls := .type "list", data := .seq vs.toArray }) (hi : IntsAre vs ns) (hl : ns.length ≤ sizeLine) (hr : Room k callerA)
  (F : ∀ base : Heap, K.In base → base.Ns mainGlobals mg → FnOk P w K mg base CX k fa fd [x] sp) (hbind : ∀ (s : Shared) (u : Value), BindsTo s fd ⟨[u], []⟩ [(x, u)])
  (hsp : ∀ H : Hp, Only H → SqL K H a (ns.map V.int) → sp [.ref a] H (fun v _ => v = .bl true) fun _ _ _ => False)
  (hCX : ∀ H e s', CX [] H s₁ (fun _ _ _ => False) e s' → False) :
  codeAny (model P w) callerA (.call (.ref fa) ⟨[.ref a], []⟩) (fun r s' => r = .ok (.ret (.bool true)) ∧ OldK s₁.heap s'.heap ∧ s'.os = s₁.os ∧ AllBare s'.gens) s₁ := by
 have rv := vals_ints hi
 have lenV := hi.length
 have core : ∀ H : Hp, Only H → SqL K H a (ns.map V.int) → HOk P w H s₁.heap → (∀ b, H b ≠ none → b = a) → (H a ≠ none → K.lookup a = none) →
   codeAny (model P w) callerA (.call (.ref fa) ⟨[.ref a], []⟩) (fun r s' => r = .ok (.ret (.bool true)) ∧ OldK s₁.heap s'.heap ∧ s'.os = s₁.os ∧ AllBare s'.gens) s₁ := by
  intro H hO hS hok hA hK
  have base_of : ∀ {b : Addr} {o : Obj}, s₁.heap.get? b = some o → H b = none → (hidT s₁.heap H).get? b = some o := fun e n => hidT_get e n
  have noA : ∀ {b : Addr} {o : Obj} {es : Array DictEntry} {ep : Nat}, s₁.heap.get? b = some o → o.data = .dict es ep → H b = none := fun {b o es ep} e d => by
   cases q : H b with
   | none => rfl
   | some u =>
    have e' : b = a := hA b (by rw [q]; simp)
    subst e'
    rw [ha] at e; cases e
    have d' : Data.seq vs.toArray _ = Data.dict es ep := d
    cases d'
  have nsK : ∀ {b : Addr} {m : Str → Option Value}, s₁.heap.Ns b m → (hidT s₁.heap H).Ns b m := fun {b m} ⟨o, es, ep, e, d, r⟩ => ⟨o, es, ep, base_of e (noA e d), d, r⟩
  have hKb : K.In (hidT s₁.heap H) := fun b o e => base_of (KX b o e) (by
   cases q : H b with
   | none => rfl
   | some u =>
    have e' : b = a := hA b (by rw [q]; simp)
    subst e'
    rw [hK (by rw [q]; simp)] at e; cases e)
  have hM : Mod K mg (hidT s₁.heap H) := ⟨hKb, nsK hns, ⟨mb, nsK hb, hbb⟩, let ⟨mc, h1, h2⟩ := hlim; ⟨mc, nsK h1, h2⟩⟩
  have e0 : Env0 P w K mg (hidT s₁.heap H) callerA [] s₁ H := ⟨rfl, hM, fun b o e => of_hidT e, Nat.le_of_eq (hidT_size _ _), trivial, fun b hb => absurd (show b ∈ ([] : List Addr) from hb) (by simp), hok, .of_eq hg⟩
  refine codeAny_mono ((F _ hKb (nsK hns)).run callerA [] s₁ H ⟨[.ref a], []⟩ [.ref a] [.ref a] _ _ hr e0 (hbind s₁ (.ref a)) (.cons rfl .nil) (hsp H hO hS)) fun r s' h => ?_
  cases r with
  | error e => exact (hCX H e s' h).elim
  | ok fl =>
   cases fl with
   | next => exact False.elim h
   | brk => exact False.elim h
   | cont => exact False.elim h
   | ret u =>
    obtain ⟨v, H', os, bare, un, hok', r', q⟩ := h
    have q' : v = .bl true := q
    subst q'
    obtain rfl : u = Value.bool true := r'
    refine ⟨rfl, OldK.of_keep fun b o e => ?_, os, bare⟩
    cases q : H b with
    | none => exact un.keep b o e q (by intro z; exact absurd (show b ∈ ([] : List Addr) from z) (by simp)) (by simp)
    | some u =>
     rcases hO b with z | ⟨ob, xs, z⟩
     ·rw [q] at z; cases z
     ·have z2 := un.frzs b ob _ z
      obtain ⟨e1, _⟩ := hok b _ z
      obtain ⟨e2, _⟩ := hok' b _ z2
      rw [e] at e1; cases e1
      exact e2
 cases hk : K.lookup a with
 | some o =>
  have e := KX a o hk
  rw [ha] at e
  cases e
  refine core (fun _ => none) (fun _ => .inl rfl) (.inr ⟨_, vs.toArray, _, hk, rfl, rfl, rfl, by rw [List.size_toArray, lenV]; exact hl, by simpa using rv⟩) (fun b u z => by have z' : (none : Option HO) = some u := z; cases z') (fun b z => absurd rfl z) fun z => absurd rfl z
 | none =>
  refine core (fun b => if b = a then some (.frz { cls := .type "list", data := .seq vs.toArray } (.lst (ns.map V.int))) else none) (fun b => ?_) (.inl (.inr ⟨{ cls := .type "list", data := .seq vs.toArray }, if_pos rfl⟩)) (fun b u z => ?_) (fun b z => ?_) fun _ => hk
  ·by_cases hb : b = a
   ·exact .inr ⟨_, _, if_pos hb⟩
   ·exact .inl (if_neg hb)
  ·by_cases hb : b = a
   ·have z' := (if_pos hb).symm.trans z
    cases z'
    subst hb
    exact ⟨ha, by rw [List.length_map]; exact hl, vs, _, rv, ha⟩
   ·have z' := (if_neg hb).symm.trans z
    cases z'
  ·by_cases hb : b = a
   ·exact hb
   ·exact absurd (if_neg hb) z
end L2
namespace L2
open PySem PySem.Spec PyProof.Rows
abbrev KOf {K : PySem.W.Frag} {h : Heap} (_ : K.In h) : PySem.W.Frag := K
theorem walk_of {l : PySem.W.OpenLaw} {n k : Nat} {q : Program} {loose : List Str} {XP : (Str → Option Value) → Heap → Prop} {YP : World → Heap → Prop} {d : DefRec} {K : Params → PySem.W.Frag} {CX : World → CXT} {sp : World → Sp} {x : Str}
  (hn : l.most = some n) (hn2 : n ≤ sizeLine) (hdf : d.params.defaults = []) (hr : Room k callerA)
  (hY : ∀ (w : World) (h : Heap), YP w h → (K w.params).In h)
  (F : ∀ (w : World) (mg : Str → Option Value) (fa : Addr) (h : Heap), (K w.params).In h → h.Ns mainGlobals mg → mg d.name = some (.ref fa) →
   ∃ fd : FuncData, (∀ (s : Shared) (u : Value), BindsTo s fd ⟨[u], []⟩ [(x, u)]) ∧
    ∀ base : Heap, (K w.params).In base → base.Ns mainGlobals mg → FnOk l.prog w (K w.params) mg base (CX w) k fa fd [x] (sp w))
  (hsp : ∀ (w : World) (H : Hp) (a : Addr) (ns : List Int), ns.length ≤ n → Only H → SqL (K w.params) H a (ns.map V.int) → sp w [.ref a] H (fun v _ => v = .bl true) fun _ _ _ => False)
  (hCX : ∀ (w : World) (H : Hp) (s : Shared) (e : Value) (s' : Shared), CX w [] H s (fun _ _ _ => False) e s' → False) :
  PySem.W.WalkO q loose XP YP l.row.toRowW d [] (fun f vs => PySem.call f vs) := by
 refine Att.attach_call hn hdf fun w s₀ s₁ mg mb fa o pm cd doc a vs ns G Y ho hd hcd hmg hobj hints hlen hg => ?_
 have KX := hY w _ Y
 obtain ⟨fd, hb, hF⟩ := F w mg fa _ KX G.T.g hmg
 exact law_call KX G.T.g G.T.b G.T.builtins G.T.nolimit hg hobj hints (Nat.le_trans hlen hn2) hr hF hb (fun H hO hS => hsp w H a ns hlen hO hS) fun H e s' => hCX w H s₁ e s'
end L2
namespace L2
open PySem PySem.Spec PyProof.Rows
def inClass (s : Stmt) (j : Nat) : Stmt := match s with
 | .ClassDef _ _ _ body _ _ _ _ _ _ _ => body.getD j (.Pass ⟨0, 0, 0, 0⟩)
 | _ => .Pass ⟨0, 0, 0, 0⟩
def defArgs (s : Stmt) : Arguments := match s with
 | .FunctionDef _ a _ _ _ _ _ _ _ _ => a
 | _ => { posonlyargs := [], args := [], vararg := none, kwonlyargs := [], kw_defaults := [], kwarg := none, defaults := [] }
def defBody (s : Stmt) : List Stmt := match s with
 | .FunctionDef _ _ b _ _ _ _ _ _ _ => b
 | _ => []
def defScope (s : Stmt) : Scope := match s with
 | .FunctionDef _ _ _ _ _ _ sc _ _ _ => sc
 | _ => { kind := .function, names := [], isGenerator := false, isCoroutine := false }
abbrev CX0 : CXT := fun _ _ _ _ _ _ => False
abbrev E0 : XK := fun _ _ _ => False
theorem pass0 {X : Cx} : Passes CX0 X E0 := fun _ _ _ _ _ _ _ h => h.elim
structure Fun (K : PySem.W.Frag) (x qual : Str) (st : Stmt) (f : Addr) (fd : FuncData) : Prop where
 ex : ∃ (oc : Value) (od : Option Addr) (kV doc pm : Value) (an : Option Addr) (cdv ct : Value) (osl : Array (Option Value)),
  fd = PySem.W.fnOf x qual (defArgs st) (defBody st) (defScope st) .none kV doc pm an cdv ct ∧ K.lookup f = some ⟨oc, od, .func fd, osl⟩ ∧ PySem.W.codeIn K cdv qual = true
 kp : PySem.W.keepIn K (.ref f) = true
section
variable {P : Program} {w : World} {K : PySem.W.Frag} {mg : Str → Option Value} {base : Heap}
theorem Fun.ok {x qual : Str} {st : Stmt} {f : Addr} {fd : FuncData} {N ps : List Str} {k : Nat} {sp : Sp} (F : Fun K x qual st f fd) (S : FnScope N ps (defScope st)) (len : ∀ vs H Q E, sp vs H Q E → vs.length = ps.length)
  (hbody : ∀ (cdv : Value) (A : Around) (outer : List Env) (s : Shared) (H : Hp) (vs : List V) (Q : VK) (E : XK), Room k (A.deeper (envOfC qual (defScope st) s.heap.objs.size f cdv)) → sp vs H Q E →
   ∃ t, PSs (cxOf CX0 P w K mg base N qual (defScope st) f cdv A outer s H E).nox (defBody st) t ∧ t { nx := fun _ H' => Q .non H', rt := Q } (start N vs) H) : FnOk P w K mg base CX0 (k + 1) f fd ps sp := by
 obtain ⟨oc, od, kV, doc, pm, an, cdv, ct, osl, rfl, lk, hcd⟩ := F.ex
 refine fn_of lk hcd S len fun A outer s H vs Q E hr hsp => ?_
 obtain ⟨t, h, q⟩ := hbody cdv A outer s H vs Q E hr hsp
 exact ⟨t, h.nox, q⟩
theorem Fun.binds {x qual : Str} {st : Stmt} {f : Addr} {fd : FuncData} {ps : List Str} (F : Fun K x qual st f fd)
  (h : ∀ (kV doc pm : Value) (an : Option Addr) (cdv ct : Value) (us : List Value), us.length = ps.length → bindArgs (PySem.W.fnOf x qual (defArgs st) (defBody st) (defScope st) .none kV doc pm an cdv ct) ⟨us, []⟩ = pure (ps.zip us)) : Binds K fd ps [] := by
 obtain ⟨oc, od, kV, doc, pm, an, cdv, ct, osl, rfl, lk, hcd⟩ := F.ex
 exact .all (h kV doc pm an cdv ct)
theorem fun_mk {x qual : Str} {st : Stmt} {f : Addr} {oc : Value} {od an : Option Addr} {osl : Array (Option Value)} {kV doc pm cdv ct : Value} (l : K.lookup f = some ⟨oc, od, .func (PySem.W.fnOf x qual (defArgs st) (defBody st) (defScope st) .none kV doc pm an cdv ct), osl⟩)
  (c : PySem.W.codeIn K cdv qual = true) (k : PySem.W.keepIn K (.ref f) = true) : Fun K x qual st f (PySem.W.fnOf x qual (defArgs st) (defBody st) (defScope st) .none kV doc pm an cdv ct) := ⟨⟨oc, od, kV, doc, pm, an, cdv, ct, osl, rfl, l, c⟩, k⟩
end
theorem hu_of {A : Around} {k : Nat} (hr : Room k A) : A.units + 1 < cLine := Nat.lt_of_le_of_lt (Nat.add_le_add_left (by decide : 1 ≤ 64) _) hr.units
theorem small1000 {n : Nat} (h : n ≤ 1000) : n < sizeLine := Nat.lt_of_le_of_lt h (by decide)
section
variable {X : Cx}
theorem pv (i : Nat) {x : Str} {pos : Pos} (hN : X.N[i]? = some x := by rfl) (hv : Vis X.env.scope x := by first | exact Or.inl rfl | exact Or.inr (Or.inl rfl) | exact Or.inr (Or.inr rfl)) (hd : (x == ("__debug__" : Str)) = false := by decide)
  (hcd : (x == ("__classdict__" : Str)) = false := by decide) : PE X (.Name x pos) (tVar i) := pe_var hN hv hd hcd
end
theorem iteF {A B : Prop} (h : B) : if false = true then A else B := by
 rw [if_neg Bool.false_ne_true]
 exact h
theorem iteT {A B : Prop} (h : A) : if true = true then A else B := by
 rw [if_pos rfl]
 exact h
def Same (H H' : Hp) : Prop := ∀ b o, H b = some o → H' b = some o
theorem Same.refl (H : Hp) : Same H H := fun _ _ h => h
theorem Same.trans {H H1 H2 : Hp} (a : Same H H1) (b : Same H1 H2) : Same H H2 := fun c o h => b c o (a c o h)
theorem Same.free {H H' : Hp} (e : Same H H') {l : Addr} (h : H' l = Option.none) : H l = Option.none := by
 cases q : H l with
 | none => rfl
 | some o =>
  rw [e l o q] at h
  cases h
theorem Same.seq {K : PySem.W.Frag} {H H' : Hp} {a : Addr} {xs : List V} (e : Same H H') (h : SqL K H a xs) : SqL K H' a xs := by
 rcases h with (h | ⟨o, h⟩) | h
 ·exact .inl (.inl (e _ _ h))
 ·exact .inl (.inr ⟨o, e _ _ h⟩)
 ·exact .inr h
end L2
namespace L2
open PySem PySem.Spec PyProof.Rows
section
variable {X : Cx}
end
section
variable {κ : Type} [DecidableEq κ]
end
end L2
namespace TX
open PySem PySem.Spec PyProof.Rows L2
theorem Same.upd {H H' : Hp} {l : Addr} {o : HO} (e : Same H H') (h : H l = none) : Same H (upd H' l o) := fun b u q => by
 rw [upd_ne (ne_of_none q h)]; exact e b u q
theorem upd_old {H : Hp} {b l : Addr} {o u : HO} (q : H b = some u) (h : H l = none) : upd H l o b = some u := by
 rw [upd_ne (ne_of_none q h)]; exact q
theorem upd_oth {H : Hp} {b l : Addr} {o : HO} {u : Option HO} (q : H b = u) (h : b ≠ l) : upd H l o b = u := by
 rw [upd_ne h]; exact q
section
variable {X : Cx} {a : Expr} {ta : TA} {p pos : Pos}
def tRng1 (ta : TA) : TE := fun σ H Q => ta σ H fun vs H1 => ∃ j : Int, vs = [.int j] ∧ ∀ q, H1 q = none → Q (.ref q) (upd H1 q (.rng 0 j))
def rngV (lo hi : Int) : List V := (List.range (hi - lo).toNat).map fun k => V.int (lo + (k : Nat))
end
section
variable {X : Cx}
def rIndex (K : PySem.W.Frag) : V → List V → Hp → VK → Prop := fun x vs H Q => ∃ (l : Addr) (ns : List Int) (k : Int), x = .ref l ∧ vs = [.int k] ∧ SqL K H l (ns.map V.int) ∧ k ∈ ns ∧ ns.length ≤ 1000 ∧ Q (.int (ns.idxOf k : Nat)) H
end
def rListOf (K : PySem.W.Frag) : List V → Hp → VK → Prop := fun xs H Q => ∃ (p : Addr) (ys : List V), xs = [.ref p] ∧ (SqL K H p ys ∨ SqT K H p ys) ∧ ∀ l, H l = none → Q (.ref l) (upd H l (.lst ys))
theorem call_listOf {X : Cx} : CallR X (.type "list") (rListOf X.K) := call_list_of
section
variable {X : Cx}
def rIsi (K : PySem.W.Frag) : List V → Hp → VK → Prop := fun xs H Q => ∃ x c cv t b, xs = [x, c] ∧ (∀ u, RelV c u → u = cv) ∧ TyOf K H x t ∧ PySem.W.kitOne K t cv = some b ∧ Q (.bl b) H
theorem call_isinst : CallR X (.builtin "isinstance") (rIsi X.K) := by
 intro pins s σ H xs us Q I r h
 obtain ⟨x, c, cv, t, b, rfl, hc, ty, e, q⟩ := h
 obtain ⟨u, w, rfl, rx, rc⟩ := vals2 r
 rw [hc w rc]
 exact isinst_ok I rx ty e fun tk => ⟨.bl b, H, I.tok tk, rfl, q⟩
theorem ty_only {n : String} : ∀ u, RelV (.ty n) u → u = Value.type n := fun _ h => h
theorem ref_only {a : Addr} : ∀ u, RelV (.ref a) u → u = Value.ref a := fun _ h => h
end
section
variable {X : Cx}
theorem truth_bools {prog : Program} {w : World} {A : Around} {bs : List Bool} {its : List Value} (r : Vals (bs.map V.bl) its) : TruthOf prog w A (fun i v => its.toArray[i]? = some v) (fun i => bs.getD i false) := by
 intro i v s Q E hP hQ
 have hl := r.length
 rw [List.length_map] at hl
 have hv : its[i]? = some v := by simpa using hP
 have hi : i < bs.length := by rw [hl]; exact (List.getElem?_eq_some_iff.mp hv).1
 obtain ⟨u, hu, ru⟩ := r.get (i := i) (x := V.bl bs[i]) (by simp [hi])
 rw [hv] at hu
 cases hu
 cases (show v = Value.bool bs[i] from ru)
 have hQ : Q (bs.getD i false) s := hQ
 rw [show bs.getD i false = bs[i] by simp [List.getD, hi]] at hQ
 exact wpAny_truthy_bool hQ
theorem any_range (bs : List Bool) : (List.range bs.length).any (fun i => bs.getD i false) = bs.any id := by
 rw [Bool.eq_iff_iff, List.any_eq_true, List.any_eq_true]
 constructor
 ·rintro ⟨i, hi, e⟩
  have hi' : i < bs.length := by simpa using hi
  refine ⟨bs[i], List.getElem_mem hi', ?_⟩
  simpa [List.getD, hi'] using e
 ·rintro ⟨b, hb, e⟩
  obtain ⟨i, hi, rfl⟩ := List.getElem_of_mem hb
  exact ⟨i, by simpa using hi, by simpa [List.getD, hi] using e⟩
end
end TX
namespace TX
open PySem PySem.Spec PyProof.Rows L2
open PySem.W (Dat kqdP kqdPs kqdOk kqd_lay kqd_eqv)
inductive Dd (K : PySem.W.Frag) (H : Hp) : V → Dat → Prop where
 | non : Dd K H .non .none
 | int (i : Int) : Dd K H (.int i) (.int i)
 | str (x : Str) : Dd K H (.str x) (.str x)
 | lst {a : Addr} {xs : List V} {ds : List Dat} (h : SqL K H a xs) (hl : xs.length = ds.length) (r : ∀ (i : Nat) x d, xs[i]? = some x → ds[i]? = some d → Dd K H x d) : Dd K H (.ref a) (.list ds)
 | tup {a : Addr} {xs : List V} {ds : List Dat} (h : SqT K H a xs) (hl : xs.length = ds.length) (r : ∀ (i : Nat) x d, xs[i]? = some x → ds[i]? = some d → Dd K H x d) : Dd K H (.ref a) (.tuple ds)
theorem readsAll_of {h : Heap} : ∀ (ds : List Dat) (us : List Value), us.length = ds.length → (∀ (i : Nat) u d, us[i]? = some u → ds[i]? = some d → ∃ as, Reads h u (kqdP d) as) → ∃ as, ReadsAll h us (kqdPs ds) as
 | [], [], _, _ => ⟨_, ReadsAll.nil⟩
 | [], _ :: _, hl, _ => nomatch hl
 | _ :: _, [], hl, _ => nomatch hl
 | d :: ds, u :: us, hl, r => by
  obtain ⟨as, q⟩ := r 0 u d rfl rfl
  obtain ⟨bs, p⟩ := readsAll_of ds us (by simpa using hl) fun i u' d' e1 e2 => r (i + 1) u' d' (by simpa using e1) (by simpa using e2)
  rw [kqdPs]
  exact ⟨_, ReadsAll.cons q p⟩
section
variable {X : Cx} {pins : List (Addr × Obj)} {σ : L2.St} {H : Hp} {s : Shared}
theorem Dd.reads (I : Inv X pins σ H s) {x : V} {d : Dat} (r : Dd X.K H x d) : ∀ {u : Value}, RelV x u → ∃ as, Reads s.heap u (kqdP d) as := by
 induction r with
 | non => intro u ru; cases (show u = Value.none from ru); exact ⟨_, Reads.none⟩
 | int i => intro u ru; obtain ⟨t, e⟩ := (show ∃ t, u = Value.int i t from ru); subst e; exact ⟨_, Reads.int i t⟩
 | str x => intro u ru; obtain ⟨t, e⟩ := (show ∃ t, u = Value.str x t from ru); subst e; exact ⟨_, Reads.str x t⟩
 | @lst a xs ds h hl r ih =>
  intro u ru
  cases (show u = Value.ref a from ru)
  obtain ⟨its, rv, p, hz⟩ := I.list h
  obtain ⟨as, q⟩ := readsAll_of (h := s.heap) ds its (by rw [← rv.length]; exact hl) fun i u d e1 e2 => by
   have hi : i < xs.length := by rw [hl]; exact (List.getElem?_eq_some_iff.mp e2).1
   obtain ⟨u', e3, ru'⟩ := rv.get (i := i) (x := xs[i]) (by simp [hi])
   rw [e1] at e3
   cases e3
   exact ih i xs[i] d (by simp [hi]) e2 ru'
  obtain ⟨o, ho, hc, n, hd⟩ := p.isList
  rw [kqdP]
  exact ⟨_, reads_list_at ho hc hd (by simpa using q)⟩
 | @tup a xs ds h hl r ih =>
  intro u ru
  cases (show u = Value.ref a from ru)
  obtain ⟨its, rv, p, hz⟩ := I.tuple h
  obtain ⟨as, q⟩ := readsAll_of (h := s.heap) ds its (by rw [← rv.length]; exact hl) fun i u d e1 e2 => by
   have hi : i < xs.length := by rw [hl]; exact (List.getElem?_eq_some_iff.mp e2).1
   obtain ⟨u', e3, ru'⟩ := rv.get (i := i) (x := xs[i]) (by simp [hi])
   rw [e1] at e3
   cases e3
   exact ih i xs[i] d (by simp [hi]) e2 ru'
  obtain ⟨o, ho, hc, n, hd⟩ := p
  rw [kqdP]
  exact ⟨_, reads_tuple_at ho hc hd (by simpa using q)⟩
theorem shaped_of {d : Dat} (h : kqdOk 9 d = true) : SeqAt.shaped (kqdP d) = true := by
 have l := kqd_lay 9 d h
 unfold SeqAt.shaped
 rw [l.1, Bool.true_and]
 exact decide_eq_true (Nat.le_trans l.2 (by decide))
open Classical in
theorem eqv_of {d e : Dat} (h : kqdOk 9 d = true) (h' : kqdOk 9 e = true) : PyData.eqv (kqdP d) (kqdP e) = decide (d = e) := by
 have q := kqd_eqv 9 d e 9 h h'
 by_cases hq : d = e
 ·rw [decide_eq_true hq]; exact q.mpr hq
 ·rw [decide_eq_false hq]; exact Bool.eq_false_iff.mpr fun x => hq (q.mp x)
def rEqD (K : PySem.W.Frag) : R2 := fun x y H Q => ∃ d e, Dd K H x d ∧ Dd K H y e ∧ kqdOk 9 d = true ∧ kqdOk 9 e = true ∧ (d = e → Q (.bl true) H) ∧ (d ≠ e → Q (.bl false) H)
def rNeD (K : PySem.W.Frag) : R2 := fun x y H Q => ∃ d e, Dd K H x d ∧ Dd K H y e ∧ kqdOk 9 d = true ∧ kqdOk 9 e = true ∧ (d = e → Q (.bl false) H) ∧ (d ≠ e → Q (.bl true) H)
open Classical in
theorem op_eqD (hu : X.A.units + 64 < cLine) : OpR X (compareOp .Eq) (rEqD X.K) := by
 intro pins s σ H x y v u Q I rx ry h
 obtain ⟨d, e, dx, dy, hd, he, q1, q2⟩ := h
 obtain ⟨as, ra⟩ := dx.reads I rx
 obtain ⟨bs, rb⟩ := dy.reads I ry
 refine eq_dataH ra rb (shaped_of hd) (shaped_of he) hu ?_
 rw [eqv_of hd he]
 by_cases hq : d = e
 ·rw [decide_eq_true hq]; exact ⟨.bl true, H, I, rfl, q1 hq⟩
 ·rw [decide_eq_false hq]; exact ⟨.bl false, H, I, rfl, q2 hq⟩
open Classical in
theorem op_neD (hu : X.A.units + 64 < cLine) : OpR X (compareOp .NotEq) (rNeD X.K) := by
 intro pins s σ H x y v u Q I rx ry h
 obtain ⟨d, e, dx, dy, hd, he, q1, q2⟩ := h
 obtain ⟨as, ra⟩ := dx.reads I rx
 obtain ⟨bs, rb⟩ := dy.reads I ry
 refine ne_dataH ra rb (shaped_of hd) (shaped_of he) hu ?_
 rw [eqv_of hd he]
 by_cases hq : d = e
 ·rw [decide_eq_true hq]; exact ⟨.bl false, H, I, rfl, q1 hq⟩
 ·rw [decide_eq_false hq]; exact ⟨.bl true, H, I, rfl, q2 hq⟩
end
def Ite (K : PySem.W.Frag) (a : Addr) : It :=
 ⟨fun i H => ∃ xs x, SqL K H a xs ∧ xs[i]? = some x, fun i H x H' => ∃ p v, H p = none ∧ x = .ref p ∧ H' = upd H p (.tup [.int i, v]) ∧ ∀ xs, SqL K H a xs → xs[i]? = some v, fun i H => ∃ xs, SqL K H a xs ∧ xs.length ≤ i⟩
theorem turn_enum {P : Program} {w : World} {K : PySem.W.Frag} {elts : List Expr} {k : Nat} {pos : Pos} (a e it : Addr) (hei : e ≠ it) :
  Turn P w K (.Tuple elts k pos) (Ite K a) [e, it] e (fun i h => (∃ old, IsEnum h e it (i : Nat) old) ∧ h.IsListIter it a i) where
 mem := by simp
 obj := fun i h st b hb => by
  obtain ⟨⟨old, he⟩, o, ho, c, d⟩ := st
  rcases List.mem_cons.mp hb with rfl | hb
  ·exact ⟨_, he, fun v z => by
    have z' : Data.fields _ = Data.cell v := z
    cases z'⟩
  ·have e : b = it := by simpa using hb
   subst e
   exact ⟨o, ho, fun v z => by rw [d] at z; cases z⟩
 keep := fun i h h' st k => ⟨let ⟨old, he⟩ := st.1; ⟨old, k e (by simp) _ he⟩, st.2.at fun o q => k it (by simp) o q⟩
 item := by
  intro X hP hw hK hc i pins s σ H E I hf st hg
  subst hP hw hK
  obtain ⟨⟨old, he⟩, hit⟩ := st
  obtain ⟨xs, x, hq, hx⟩ := hg
  obtain ⟨its, rv, p, hz⟩ := I.list hq
  obtain ⟨u, hu, ru⟩ := rv.get hx
  have fe := hf e (by simp)
  have fi := hf it (by simp)
  refine wpAny_pyNext_enum_item he hit p.isList (x := u) (by simpa using hu) hei fun h1 heo hit1 ht1 hsz1 hk1 => ?_
  refine ⟨_, rfl, ?_⟩
  refine wpAny_letOwnedTupleGo_enum (s := { s with heap := h1, toks := s.toks + 1 }) heo fun h2 he2 hs2 => ?_
  have hel : e < s.heap.objs.size := Heap.lt_size he
  have hpn : H s.heap.objs.size = none := I.hok.fresh (Nat.le_refl _)
  have hs2' : Heap.SameBut e h1 h2 := hs2
  have kk : ∀ b o, b ≠ e → b ≠ it → s.heap.get? b = some o → h2.get? b = some o := fun b o h3 h4 q => (hs2'.2 b h3).trans (hk1 b o h3 h4 q)
  have ht2 : h2.get? s.heap.objs.size = some { cls := .type "tuple", data := .seq #[.int i s.toks, u] } := (hs2'.2 _ (Nat.ne_of_gt hel)).trans ht1
  have nit : ∀ b o, H b = some o → b ≠ e ∧ b ≠ it := fun b o q => ⟨fun z => (by rw [z, fe.1] at q; cases q), fun z => (by rw [z, fi.1] at q; cases q)⟩
  have ok2 : HOk X.prog X.w (upd H s.heap.objs.size (.tup [.int i, x])) h2 := fun b o q => by
   by_cases hb : b = s.heap.objs.size
   ·subst hb
    rw [upd_same] at q
    cases q
    exact ⟨by show 2 ≤ sizeLine; decide, [.int i s.toks, u], .cons ⟨_, rfl⟩ (.cons ru .nil), _, ht2, rfl, _, rfl⟩
   ·rw [upd_ne hb] at q
    refine (I.hok b o q).stay (fun c v hc' r => ?_) (fun c r => by rw [upd_ne (ne_of_none r hpn)]; exact r) fun c ys r => by rw [upd_ne (ne_of_none r hpn)]; exact r
    rcases hc' with rfl | r'
    ·exact kk c v (nit c o q).1 (nit c o q).2 r
    ·exact kk c v (nit c _ r').1 (nit c _ r').2 r
  have old' : ∀ b o, s.heap.get? b = some o → b ≠ s.heap.objs.size := fun b o q => Nat.ne_of_lt (Heap.lt_size q)
  have I2 : Inv X pins σ (upd H s.heap.objs.size (.tup [.int i, x])) { s with heap := h2, toks := s.toks + 1 } :=
   I.step (g' := s.gens) (d' := s.drawn) (ch := [e, it]) (fun b hb => by
    rcases List.mem_cons.mp hb with rfl | hb
    ·exact ⟨fe.2.2.2.1, fe.2.1, fe.2.2.2.2.1, fe.2.2.2.2.2⟩
    ·have z : b = it := by simpa using hb
     subst z
     exact ⟨fi.2.2.2.1, fi.2.1, fi.2.2.2.2.1, fi.2.2.2.2.2⟩)
    (fun b o _ _ hc' q _ => kk b o (fun z => hc' (by simp [z])) (fun z => hc' (by simp [z])) q)
    (fun b o _ _ hc' q _ => ⟨o.slots, kk b o (fun z => hc' (by simp [z])) (fun z => hc' (by simp [z])) q⟩)
    (fun b o _ q n => by rw [upd_ne (old' b o q)]; exact n)
    (fun b o hc' q => ⟨o, kk b o (fun z => hc' (by simp [z])) (fun z => hc' (by simp [z])) q⟩)
    (fun b ys r => by rw [upd_ne (ne_of_none r hpn)]; exact r) (fun b o ys r => by rw [upd_ne (ne_of_none r hpn)]; exact r)
    (fun b ps r => ⟨#[], by rw [upd_ne (ne_of_none r hpn), r]; simp⟩)
    (fun m hm => by
     obtain ⟨o, es, ep, ho, r⟩ := hm
     exact ⟨o, es, ep, kk _ o (Ne.symm fe.2.1) (Ne.symm fi.2.1) ho, r⟩) ok2 I.bare
  refine ⟨.ref s.heap.objs.size, _, I2, rfl, ⟨_, x, hpn, rfl, rfl, fun ys hy => by rw [I.list_inj hy hq]; exact hx⟩, ⟨⟨u, by simpa using he2⟩, hit1.at fun o q => (hs2'.2 it (Ne.symm hei)).trans q⟩, fun b hb => ?_⟩
  rcases List.mem_cons.mp hb with rfl | hb
  ·rw [upd_ne (Nat.ne_of_lt hel)]; exact fe.1
  ·have z : b = it := by simpa using hb
   subst z
   obtain ⟨o, ho, _⟩ := hit
   rw [upd_ne (Nat.ne_of_lt (Heap.lt_size ho))]; exact fi.1
 done := by
  intro X hP hw hK hc i pins s σ H E I hf st hg
  subst hP hw hK
  obtain ⟨⟨old, he⟩, hit⟩ := st
  obtain ⟨xs, hq, hx⟩ := hg
  obtain ⟨its, rv, p, hz⟩ := I.list hq
  obtain ⟨f0, f1, f2, f3, f4, f5⟩ := hf it (by simp)
  have hl := rv.length
  exact wpAny_pyNext_enum_end (I.ok.hd hc) he hit p.isList (by simp; omega) fun h' eb => ⟨rfl, I.turned (t' := s.toks) (fun b o hb q => eb b o hb q) f0 f1 f3 f4 f5⟩
 self := fun _ _ _ _ _ st h => let ⟨_, he⟩ := st.1; wpAny_pyIter_enum he h
section
variable {X : Cx} {elts : List Expr} {k : Nat} {tp : Pos}
def iEnum (K : PySem.W.Frag) (ta : TA) : TI := fun σ H R => ta σ H fun vs H1 => ∃ a, vs = [.ref a] ∧ (∃ xs, SqL K H1 a xs) ∧ R (Ite K a) H1
theorem pi_enum {a : Expr} {ta : TA} {p pos : Pos} (hg : Gl X "enumerate") (hm : X.mg "enumerate" = none) (ha : PA X [a] ta) (hs : starEach [a] X.env = [(false, eval a X.env)] := by rfl) :
  PI X (.Tuple elts k tp) (.Call (.Name "enumerate" p) [a] [] pos) (iEnum X.K ta) := by
 intro pins s σ H R I h
 refine Call_ (ld_blt I hg hm boot_enumerate (PyProof.Rows.callWith_type1 (thn (ha pos pins s σ H _ I h) fun us s1 ⟨vs, H1, I1, r1, q1⟩ => ?_) hs rfl))
 obtain ⟨a, e, ⟨xs, hq⟩, q⟩ := q1
 subst e
 cases r1 with
 | cons r rr =>
  cases rr
  cases r
  obtain ⟨its, rv, pl, hz⟩ := I1.list hq
  refine call_enumerate_list pl.isList fun h' he hit hsz hk => ?_
  refine wpAny_pyIter_enum (s := { s1 with heap := h' }) he ?_
  refine ⟨s1.heap.objs.size + 1, [s1.heap.objs.size + 1, s1.heap.objs.size], _, Ite X.K a, H1, rfl, I1.kept (t' := s1.toks) hk, turn_enum a _ _ (Nat.succ_ne_self _), ⟨⟨_, he⟩, hit⟩, fun b hb => ?_, q⟩
  rcases List.mem_cons.mp hb with rfl | hb
  ·exact I1.fpOk (Nat.le_succ _) (I1.hok.fresh (Nat.le_succ _))
  ·have z : b = s1.heap.objs.size := by simpa using hb
   subst z
   exact I1.fpOk (Nat.le_refl _) (I1.hok.fresh (Nat.le_refl _))
end
theorem for_enum {K : PySem.W.Frag} {a : Addr} {xs : List V} {g : TG} {tb : TS} {D : Ends} {σ : L2.St} {H : Hp} (Pv : Nat → L2.St → Hp → Prop) (h0 : Pv 0 σ H) (hl : ∀ i σ H, i ≤ xs.length → Pv i σ H → SqL K H a xs)
  (hs : ∀ i x σ H p, xs[i]? = some x → Pv i σ H → H p = none → g (.ref p) σ (upd H p (.tup [.int (i : Nat), x])) fun σ2 H2 => tb { D with nx := Pv (i + 1), ct := Pv (i + 1), bk := D.nx } σ2 H2) (hd : ∀ σ H, Pv xs.length σ H → D.nx σ H) :
  ∃ W : Nat → Nat → L2.St → Hp → Prop, (∃ m, W 0 m σ H) ∧ ∀ i m σ H, W i m σ H →
   ((Ite K a).stop i H ∧ D.nx σ H) ∨ ((Ite K a).go i H ∧ ∃ N : L2.St → Hp → Prop, (∀ σ' H', N σ' H' → ∃ m', m' < m ∧ W (i + 1) m' σ' H') ∧ ∀ x H', (Ite K a).yld i H x H' → g x σ H' fun σ2 H2 => tb { D with nx := N, ct := N, bk := D.nx } σ2 H2) := by
 refine ⟨fun i m σ H => m = xs.length - i ∧ i ≤ xs.length ∧ Pv i σ H, ⟨xs.length, by simp, Nat.zero_le _, h0⟩, ?_⟩
 rintro i m σ H ⟨rfl, hi, p⟩
 have q := hl i σ H hi p
 by_cases hlt : i < xs.length
 ·refine .inr ⟨⟨xs, xs[i], q, by simp [hlt]⟩, Pv (i + 1), fun σ' H' p' => ⟨xs.length - (i + 1), by omega, rfl, hlt, p'⟩, fun x H' y => ?_⟩
  obtain ⟨b, v, hb, rfl, rfl, hv⟩ := y
  exact hs i v σ _ b (hv xs q) p hb
 ·have e : i = xs.length := by omega
  subst e
  exact .inl ⟨⟨xs, q, Nat.le_refl _⟩, hd σ H p⟩
end TX
namespace TX
open PySem PySem.Spec PyProof.Rows L2
theorem closure_ok {scope : Scope} {env : Env} (h : ∀ y ∈ scope.names, y.2 = .free → ∃ c, env.cells.lookup y.1 = some c) :
  ∃ cl, closureFor scope env = pure cl ∧ (∀ n c, cl.lookup n = some c → env.cells.lookup n = some c) ∧ (∀ y ∈ scope.names, y.2 = .free → ∃ c, cl.lookup y.1 = some c) := by
 have go : ∀ (names : List (Str × NameKind)) (cs : List (Str × Addr)), (∀ y ∈ names, y.2 = .free → ∃ c, env.cells.lookup y.1 = some c) → (∀ n c, cs.lookup n = some c → env.cells.lookup n = some c) →
   ∃ cl, (forIn names cs fun (x : Str × NameKind) (r : List (Str × Addr)) => if (x.snd == NameKind.free) = true then do let c ← cellOf env x.fst; pure (ForInStep.yield ((x.fst, c) :: r)) else pure (ForInStep.yield r)) = (pure cl : Sem (List (Str × Addr))) ∧
    (∀ n c, cl.lookup n = some c → env.cells.lookup n = some c) ∧ (∀ n c, cs.lookup n = some c → cl.lookup n = some c) ∧ (∀ y ∈ names, y.2 = .free → ∃ c, cl.lookup y.1 = some c) := by
  intro names
  induction names with
  | nil => intro cs _ hc; exact ⟨cs, rfl, hc, fun _ _ z => z, fun _ z => nomatch z⟩
  | cons x xs ih =>
   obtain ⟨n, k⟩ := x
   intro cs hn hc
   simp only [List.forIn_cons]
   by_cases hk : (k == NameKind.free) = true
   ·have hk' : k = .free := by simpa using hk
    obtain ⟨c, e⟩ := hn (n, k) List.mem_cons_self hk'
    have e' : cellOf env n = pure c := by unfold cellOf; rw [show env.cells.lookup n = some c from e]
    obtain ⟨cl, h1, h2, h3, h4⟩ := ih ((n, c) :: cs) (fun y hy => hn y (List.mem_cons_of_mem _ hy)) fun m d q => by
     rw [List.lookup_cons] at q
     cases hm : m == n with
     | true => rw [hm] at q; cases q; rw [eq_of_beq hm]; exact e
     | false => rw [hm] at q; exact hc m d q
    refine ⟨cl, ?_, h2, fun m d q => ?_, fun y hy hf => ?_⟩
    ·rw [if_pos hk, e']
     exact h1
    ·cases hm : m == n with
     | true =>
      have q1 := h3 n c (by simp)
      have q2 := h2 n c q1
      have q3 := hc m d q
      rw [eq_of_beq hm] at q3 ⊢
      rw [q1, ← q2, q3]
     | false => exact h3 m d (by rw [List.lookup_cons, hm]; exact q)
    ·rcases List.mem_cons.mp hy with rfl | hy
     ·exact ⟨c, h3 _ c (by simp)⟩
     ·exact h4 y hy hf
   ·obtain ⟨cl, h1, h2, h3, h4⟩ := ih cs (fun y hy => hn y (List.mem_cons_of_mem _ hy)) hc
    refine ⟨cl, ?_, h2, h3, fun y hy hf => ?_⟩
    ·rw [if_neg hk]
     exact h1
    ·rcases List.mem_cons.mp hy with rfl | hy
     ·exact absurd (by rw [show k = NameKind.free from hf]; rfl) hk
     ·exact h4 y hy hf
 obtain ⟨cl, h1, h2, _, h4⟩ := go scope.names [] h (fun _ _ z => nomatch z)
 refine ⟨cl, ?_, h2, h4⟩
 have e : closureFor scope env = (forIn scope.names ([] : List (Str × Addr)) fun (x : Str × NameKind) (r : List (Str × Addr)) => if (x.snd == NameKind.free) = true then do let c ← cellOf env x.fst; pure (ForInStep.yield ((x.fst, c) :: r)) else pure (ForInStep.yield r)) >>= fun r => pure r := rfl
 rw [e, h1]
 rfl
theorem lookup_mem' {α : Type} {x : Str} {v : α} : ∀ {l : List (Str × α)}, l.lookup x = some v → (x, v) ∈ l
 | [], h => nomatch h
 | (n, k) :: r, h => by
  rw [List.lookup_cons] at h
  cases hx : x == n with
  | true => rw [hx] at h; cases h; rw [eq_of_beq hx]; exact List.mem_cons_self
  | false => rw [hx] at h; exact List.mem_cons_of_mem _ (lookup_mem' h)
theorem relabel_free {scope : Scope} {env : Env} {x : Str} (hcell : ∀ y ∈ scope.names, y.2 ≠ .cell) (h : (relabel scope env).names.lookup x = some .cell ∨ (relabel scope env).names.lookup x = some .free) : (x, NameKind.free) ∈ scope.names := by
 have go : ∀ (names : List (Str × NameKind)), (∀ y ∈ names, y.2 ≠ .cell) → ∀ k', (names.map fun (n, k) => if (k == NameKind.free && env.scope.kind == .function && env.kindOf n == some .cell) then (n, NameKind.cell) else (n, k)).lookup x = some k' → (k' = .cell ∨ k' = .free) → (x, NameKind.free) ∈ names := by
  intro names
  induction names with
  | nil => intro _ _ h; exact nomatch h
  | cons y r ih =>
   obtain ⟨n, k⟩ := y
   intro hc k' h hk
   have h' : List.lookup x ((if (k == NameKind.free && env.scope.kind == .function && env.kindOf n == some .cell) = true then (n, NameKind.cell) else (n, k)) :: (r.map fun (n, k) => if (k == NameKind.free && env.scope.kind == .function && env.kindOf n == some .cell) then (n, NameKind.cell) else (n, k))) = some k' := h
   by_cases hq : (k == NameKind.free && env.scope.kind == .function && env.kindOf n == some .cell) = true
   ·rw [if_pos hq, List.lookup_cons] at h'
    have hkf : k = .free := by
     have := hq
     simp only [Bool.and_eq_true] at this
     simpa using this.1.1
    cases hx : x == n with
    | true => rw [eq_of_beq hx, hkf]; exact List.mem_cons_self
    | false => rw [hx] at h'; exact List.mem_cons_of_mem _ (ih (fun y hy => hc y (List.mem_cons_of_mem _ hy)) k' h' hk)
   ·rw [if_neg hq, List.lookup_cons] at h'
    cases hx : x == n with
    | true =>
     rw [hx] at h'
     cases h'
     rcases hk with rfl | rfl
     ·exact absurd rfl (hc _ List.mem_cons_self)
     ·rw [eq_of_beq hx]; exact List.mem_cons_self
    | false => rw [hx] at h'; exact List.mem_cons_of_mem _ (ih (fun y hy => hc y (List.mem_cons_of_mem _ hy)) k' h' hk)
 rcases h with h | h
 ·exact go _ hcell _ h (.inl rfl)
 ·exact go _ hcell _ h (.inr rfl)
theorem relabel_of_free {scope : Scope} {env : Env} {x : Str} (h : scope.names.lookup x = some .free) : (relabel scope env).names.lookup x = some .cell ∨ (relabel scope env).names.lookup x = some .free := by
 have go : ∀ (names : List (Str × NameKind)), names.lookup x = some .free → (names.map fun (n, k) => if (k == NameKind.free && env.scope.kind == .function && env.kindOf n == some .cell) then (n, NameKind.cell) else (n, k)).lookup x = some .cell ∨ (names.map fun (n, k) => if (k == NameKind.free && env.scope.kind == .function && env.kindOf n == some .cell) then (n, NameKind.cell) else (n, k)).lookup x = some .free := by
  intro names
  induction names with
  | nil => intro h; exact nomatch h
  | cons y r ih =>
   obtain ⟨n, k⟩ := y
   intro h
   show List.lookup x ((if (k == NameKind.free && env.scope.kind == .function && env.kindOf n == some .cell) = true then (n, NameKind.cell) else (n, k)) :: _) = _ ∨ List.lookup x ((if (k == NameKind.free && env.scope.kind == .function && env.kindOf n == some .cell) = true then (n, NameKind.cell) else (n, k)) :: _) = _
   rw [List.lookup_cons] at h
   by_cases hq : (k == NameKind.free && env.scope.kind == .function && env.kindOf n == some .cell) = true
   ·rw [if_pos hq, List.lookup_cons]
    cases hx : x == n with
    | true => exact .inl rfl
    | false => rw [hx] at h; exact ih h
   ·rw [if_neg hq, List.lookup_cons]
    cases hx : x == n with
    | true => rw [hx] at h; exact .inr h
    | false => rw [hx] at h; exact ih h
 exact go _ h
def subSt (σ : L2.St) (ixs : List (Option Nat)) : L2.St := ixs.map fun o => o.bind fun i => (σ[i]?).join
def Kps (σ σ' : L2.St) : Prop := σ'.length = σ.length ∧ ∀ (k : Nat) v, σ[k]? = some (some v) → σ'[k]? = some (some v)
theorem Kps.own {r : L2.St} {v : V} : Kps (none :: r) (some v :: r) := ⟨rfl, fun k u h => by
 cases k with
 | zero => cases h
 | succ k => simpa using h⟩
theorem Kps.own2 {r : L2.St} {v u : V} : Kps (none :: none :: r) (some v :: some u :: r) := ⟨rfl, fun k u h => by
 cases k with
 | zero => cases h
 | succ k => cases k with
  | zero => cases h
  | succ k => simpa using h⟩
abbrev cxC (X : Cx) (N' : List Str) (scope : Scope) (cl : List (Str × Addr)) (C : Addr) (fp : List Addr) (s₂ : Shared) (H₂ : Hp) : Cx where
 prog := X.prog
 w := X.w
 K := X.K
 mg := X.mg
 base := X.base
 A := X.A
 N := N'
 s₀ := s₂
 H₀ := H₂
 env := compEnvC scope cl C X.env
 outer := X.stack
 stack := X.stack
 ex := fp
 fn := fun _ => false
 calm := X.calm
 pn := X.pn
 xe := fun _ _ => False
def PTs (X : Cx) (ifs : List Expr) (t : TT) : Prop :=
 ∀ (pins : List (Addr × Obj)) (s : Shared) (σ : L2.St) (H : Hp) (Q : Bool → Hp → Prop), Inv X pins σ H s → t σ H Q →
  wpAny (model X.prog X.w) X.A (forIn ifs true fun c r => if r = true then do let ok ← isTrue c X.env (eval c X.env); pure (ForInStep.yield ok) else pure (ForInStep.yield r)) (TP X pins σ Q) X.xe s
def tYes : TT := fun _ H Q => Q true H
theorem pts_nil {X : Cx} : PTs X [] tYes := fun _ _ _ H _ I h => wpAny_tests_nil ⟨H, I, h⟩
theorem pts_one {X : Cx} {c : Expr} {t : TT} (h : PT X c t) : PTs X [c] t := fun pins s σ H Q I q => wpAny_tests_one (h pins s σ H Q I q)
def tComp (ixs : List (Option Nat)) (wi : TI) (g : TG) (tc : TT) (te : TE) : TE := fun σ H Q => wi σ H fun J H1 => ∃ W : Nat → Nat → List V → Hp → Prop, (∃ m, W 0 m [] H1) ∧ ∀ i m ys H, W i m ys H →
 (J.stop i H ∧ ∀ p, H p = none → Q (.ref p) (upd H p (.lst ys))) ∨
 (J.go i H ∧ ys.length < sizeLine ∧ ∀ x H', J.yld i H x H' → g x (subSt σ ixs) H' fun σ2 H2 => Kps (subSt σ ixs) σ2 ∧ tc σ2 H2 fun b H3 =>
  if b = true then te σ2 H3 fun y H4 => ∃ m', m' < m ∧ W (i + 1) m' (ys ++ [y]) H4 else ∃ m', m' < m ∧ W (i + 1) m' ys H3)
section
variable {prog : Program} {w : World} {A : Around} {R : Result → Shared → Prop} {s : Shared}
theorem compLoop_any {elt target iter : Expr} {ifs : List Expr} {scope : Scope} {pos : Pos} {it acc : Value} {env : Env} (I : Nat → Shared → Prop)
  (turn : ∀ n s, I n s → wpAny (model prog w) A (pyNext it) (fun r s₁ => match r with
   | none => R (.ok .next) s₁
   | some v => wpAny (model prog w) A (letOwnedTupleGo target it v) (fun _ s' => wpAny (model prog w) A (assign target env v) (fun _ s₂ =>
     wpAny (model prog w) A (forIn ifs true fun c r => if r = true then do let ok ← isTrue c env (eval c env); pure (ForInStep.yield ok) else pure (ForInStep.yield r)) (fun ok s₃ =>
      if ok = true then wpAny (model prog w) A (eval elt env) (fun x s₄ =>
       wpAny (model prog w) A (call (.builtin "list.append") [acc, x]) (fun _ s₅ => ∃ m, m < n ∧ I m s₅) (fun _ _ => False) s₄) (fun _ _ => False) s₃
      else ∃ m, m < n ∧ I m s₃) (fun _ _ => False) s₂) (fun _ _ => False) s') (fun _ _ => False) s₁) (fun _ _ => False) s)
  (n : Nat) (h : I n s) : codeAny (model prog w) A (.compLoop (.ListComp elt [⟨target, iter, ifs, 0⟩] scope pos) 0 it acc env) R s := by
 refine codeAny_loop rfl I (fun n s hI => ?_) n h
 show wpAny _ A ((compTurn (.ListComp elt [⟨target, iter, ifs, 0⟩] scope pos) 0 it acc env).onRaise (fun x => do noteFrame x env; theTreesLotGoes x)) _ _ s
 refine wpAny_noted ?_
 rw [compTurn_list]
 refine wpAny_bind (wpAny_standAt (wpAny_bind (wpAny_mono (turn n s hI) (fun r s₁ h₁ => ?_) fun _ _ f => f.elim)))
 cases r with
 | none => exact wpAny_pure h₁
 | some v =>
  refine wpAny_bind (wpAny_mono h₁ (fun _ s' h' => ?_) fun _ _ f => f.elim)
  refine wpAny_bind (wpAny_mono h' (fun _ s₂ h₂ => wpAny_bind (wpAny_mono h₂ (fun ok s₃ h₃ => ?_) fun _ _ f => f.elim)) fun _ _ f => f.elim)
  cases ok with
  | false => exact wpAny_pure ⟨rfl, h₃⟩
  | true =>
   exact wpAny_bind (wpAny_bind (wpAny_mono h₃ (fun x s₄ h₄ => wpAny_bind (wpAny_mono h₄ (fun _ s₅ h₅ => wpAny_pure (wpAny_pure ⟨rfl, h₅⟩)) fun _ _ f => f.elim)) fun _ _ f => f.elim))
end
section
variable {X : Cx} {pins : List (Addr × Obj)} {σ : L2.St} {H : Hp} {s : Shared}
theorem Inv.cxOk {N' : List Str} {scope : Scope} {cl : List (Str × Addr)} {C : Addr} {fp : List Addr} (I : Inv X pins σ H s) (hf : ∀ b ∈ fp, FpOk X pins H b) (hob : ∀ b ∈ fp, b < s.heap.objs.size) (hC : s.heap.objs.size ≤ C)
  (hcl : ∀ n c, cl.lookup n = some c → X.env.cells.lookup n = some c) (hcl2 : ∀ y ∈ scope.names, y.2 = .free → ∃ c, cl.lookup y.1 = some c) (hkind : scope.kind = .function) (hcell : ∀ y ∈ scope.names, y.2 ≠ .cell) :
  (cxC X N' scope cl C fp s H).Ok where
 mod := I.mod
 kind := hkind
 glob := I.ok.glob
 blt := I.ok.blt
 above := hC
 inj := fun x y c e1 e2 => I.ok.inj x y c (hcl x c e1) (hcl y c e2)
 has := fun x h => hcl2 _ (relabel_free hcell h) rfl
 cab := fun _ _ h => nomatch h
 hd := I.ok.hd
 frames := I.ok.frames
 stk := .inl rfl
 exf := fun b hb => ⟨Nat.ne_of_lt (Nat.lt_of_lt_of_le (hob b hb) hC), fun x c e => (hf b hb).2.2.2.2.1 x c (hcl x c e)⟩
 bs := I.bs
 bsz := Nat.le_trans I.ok.bsz I.sz
 noex := fun b o e hb => by
  rcases (hf b hb).2.2.2.1 with z | z
  ·exact I.ok.noex b o e z
  ·exact absurd (Nat.lt_of_lt_of_le (Heap.lt_size e) (Nat.le_trans I.ok.bsz z)) (Nat.lt_irrefl _)
 exfs := fun b hb z => by
  rcases List.mem_cons.mp (I.stkSub b z) with e | z
  ·exact (hf b hb).2.1 e
  ·exact (hf b hb).2.2.1 z
 funs := I.stack
 frf := I.stkFree
theorem comp_core {target iter elt : Expr} {ifs : List Expr} {scope : Scope} {pos p2 : Pos} {N' : List Str} {ixs : List (Option Nat)} {wi : TI} {g : TG} {tc : TT} {te : TE} {use : Option (Value → Sem Unit)} {Qf : Value → Shared → Prop} {Q : VK}
  (hc : X.calm = true) (hi : PI X target iter wi)
  (hg : ∀ cl C fp s₂ H₂, PG (cxC X N' scope cl C fp s₂ H₂) target g)
  (hts : ∀ cl C fp s₂ H₂, PTs (cxC X N' scope cl C fp s₂ H₂) ifs tc)
  (he : ∀ cl C fp s₂ H₂, PE (cxC X N' scope cl C fp s₂ H₂) elt te)
  (hkind : scope.kind = .function) (hcell : ∀ y ∈ scope.names, y.2 ≠ .cell) (hnames : ∀ y ∈ scope.names, y.2 = .local → scope.names.lookup y.1 = some .local)
  (hfree : ∀ y ∈ scope.names, y.2 = .free → X.env.kindOf y.1 = some .cell ∨ X.env.kindOf y.1 = some .free)
  (hlen : N'.length = ixs.length) (hix : ∀ (k i : Nat) (y : Str), N'[k]? = some y → ixs[k]? = some (some i) → X.N[i]? = some y ∧ scope.names.lookup y = some .free)
  (hs : ∀ x, foldedSetIterable iter X.env x = pure x) (I : Inv X pins σ H s) (h : tComp ixs wi g tc te σ H Q)
  (fin : ∀ (C D : Addr) (oC : Obj) (m : Str → Option Value) (H' : Hp) (s' : Shared), Inv X (pins ++ [(C, oC)]) σ H' s' → (∀ h : Heap, h.get? C = some oC → h.Ns C m) → C ≠ D → (C ∈ X.ex ∨ X.s₀.heap.objs.size ≤ C) → (∀ x c, X.env.cells.lookup x = some c → c ≠ C) →
   (∀ p ∈ X.pn ++ pins, p.1 ≠ C) → Q (.ref D) H' → compPost (model X.prog X.w) X.A X.xe use Qf (.ref D) C (.ok .next) s') :
  wpAny (model X.prog X.w) X.A (comprehension (.ListComp elt [⟨target, iter, ifs, 0⟩] scope pos) scope X.env p2 (newList []) false (eval iter X.env) use) Qf X.xe s := by
 obtain ⟨cl, hclos, hcl, hcl2⟩ := closure_ok (scope := scope) (env := X.env) fun y hy hf => I.ok.has y.1 (hfree y hy hf)
 refine wpAny_comprehension_free (g := ⟨target, iter, ifs, 0⟩) (gs := []) rfl hs hclos hkind hnames (thn (hi pins s σ H _ I h) fun xv s1 h1 => thn h1 fun itv s2 h2 => ?_)
 obtain ⟨it, fp, tn, J, H2, e, I2, T, st2, f2, W, ⟨m0, w0⟩, turn⟩ := h2
 subst e
 have hob : ∀ b ∈ fp, b < s2.heap.objs.size := fun b hb => let ⟨o, e, _⟩ := T.obj _ _ st2 b hb; Heap.lt_size e
 refine wpAny_newObj_type (wpAny_newFunctionEnv hcell (by intro y hy; simp at hy) (fun h₁ hns₁ hsb₁ => ?_) hkind)
 dsimp only at hns₁ hsb₁ ⊢
 generalize hH2 : s2.heap.push { cls := .type "list", dict := none, data := .seq ([] : List Value).toArray } = G2 at hns₁ hsb₁ ⊢
 have hC : G2.objs.size = s2.heap.objs.size + 1 := by rw [← hH2, Heap.size_push]
 have hDC : s2.heap.objs.size ≠ G2.objs.size := by rw [hC]; exact Nat.ne_of_lt (Nat.lt_succ_self _)
 have hCle : s2.heap.objs.size ≤ G2.objs.size := by rw [hC]; exact Nat.le_succ _
 generalize hCC : G2.objs.size = C at hns₁ hsb₁ hDC hCle hC ⊢
 generalize hDD : s2.heap.objs.size = D at hDC ⊢
 have hDle : s2.heap.objs.size ≤ D := Nat.le_of_eq hDD
 have below : ∀ b, b < s2.heap.objs.size → b ≠ C ∧ b ≠ D := fun b hb => ⟨Nat.ne_of_lt (Nat.lt_of_lt_of_le hb hCle), Nat.ne_of_lt (Nat.lt_of_lt_of_le hb hDle)⟩
 have old : ∀ b o, s2.heap.get? b = some o → h₁.get? b = some o := fun b o e => hsb₁.extBut b o (below b (Heap.lt_size e)).1 (Heap.get?_push_of_some _ (hH2 ▸ Heap.get?_push_of_some _ e))
 have hacc : h₁.get? D = some { cls := .type "list", data := .seq ([] : List Value).toArray } := hsb₁.extBut _ _ hDC (Heap.get?_push_of_some _ (hH2 ▸ (by rw [← hDD]; exact Heap.get?_push_size _ rfl)))
 have hCn : H2 C = none := I2.hok.fresh hCle
 have hDn : H2 D = none := I2.hok.fresh hDle
 have okX : (cxC X N' scope cl C fp s2 H2).Ok := Inv.cxOk I2 f2 hob hCle hcl hcl2 hkind hcell
 have cellLt : ∀ x c, X.env.cells.lookup x = some c → c < s2.heap.objs.size := fun x c e => let ⟨v, o, ho, _⟩ := I2.cell x c e; Heap.lt_size ho
 have notFs : ∀ b, s2.heap.objs.size ≤ b → b ∉ frs X.stack := fun b hb z => by
  rcases List.mem_cons.mp (I2.stkSub b z) with e | z
  ·exact absurd (Nat.lt_of_lt_of_le I2.lt (e ▸ hb)) (Nat.lt_irrefl _)
  ·exact I2.nofs hb z
 have pinOld : ∀ p ∈ X.pn ++ pins, p.1 < s2.heap.objs.size := fun p hp => Heap.lt_size (I2.pin p hp).1
 have pinFs : ∀ p ∈ X.pn ++ pins, p.1 ∉ frs X.stack := fun p hp z => by
  obtain ⟨_, _, n1, n2, _⟩ := I2.pin p hp
  rcases List.mem_cons.mp (I2.stkSub _ z) with e | z
  ·exact n1 e
  ·exact n2 z
 have I0 : Inv (cxC X N' scope cl C fp s2 H2) (pins ++ [(D, { cls := .type "list", data := .seq ([] : List Value).toArray })]) (subSt σ ixs) H2 { s2 with heap := h₁, toks := s2.toks + ([] : List (Str × Value)).length } := by
  refine ⟨okX, rfl, I2.bare, Un.kept old, ⟨_, hns₁, fun k y v e1 e2 e3 => ?_⟩, fun x c e => ?_, hCn, fun x c e => I2.freeC x c (hcl x c e), fun p hp => ?_, I2.hok.kept old, by unfold subSt; rw [List.length_map]; exact hlen.symm⟩
  ·unfold subSt at e2
   rw [List.getElem?_map] at e2
   cases ek : ixs[k]? with
   | none => rw [ek] at e2; cases e2
   | some o =>
    cases o with
    | none => rw [ek] at e2; cases e2
    | some i =>
     rw [ek] at e2
     have e2' : (σ[i]?).join = some v := by simpa using e2
     have e4 : σ[i]? = some (some v) := by
      cases eq : σ[i]? with
      | none => rw [eq] at e2'; cases e2'
      | some z => rw [eq] at e2'; cases z with
       | none => cases e2'
       | some z => cases e2'; rfl
     obtain ⟨hNi, hsf⟩ := hix k i y e1 ek
     have hk := hfree (y, .free) (lookup_mem' hsf) rfl
     obtain ⟨m, hn, hl⟩ := I2.loc
     have hvis : Vis X.env.scope y := by
      rcases hk with hk | hk
      ·exact .inr (.inl hk)
      ·exact .inr (.inr hk)
     obtain ⟨u, ru, lk⟩ := hl i y v hNi e4 hvis
     refine ⟨u, ru, .inr ⟨relabel_of_free hsf, ?_⟩⟩
     rcases lk with ⟨z, _⟩ | ⟨_, c, ec, zc⟩
     ·rcases hk with hk | hk <;> (rw [show X.env.kindOf y = some .local from z] at hk; cases hk)
     ·obtain ⟨c', ec'⟩ := hcl2 (y, .free) (lookup_mem' hsf) rfl
      have := hcl _ _ ec'
      rw [ec] at this
      cases this
      obtain ⟨o, ho, hd⟩ := zc
      exact ⟨c, ec', o, old _ _ ho, hd⟩
  ·obtain ⟨v, o, ho, hd⟩ := I2.cell x c (hcl x c e)
   exact ⟨v, o, old _ _ ho, hd⟩
  ·have hp' : p ∈ X.pn ++ (pins ++ [(D, { cls := .type "list", data := .seq ([] : List Value).toArray })]) := hp
   rw [← List.append_assoc] at hp'
   rcases List.mem_append.mp hp' with hp' | hp'
   ·obtain ⟨a1, a2, a3, a4, a5⟩ := I2.pin p hp'
    exact ⟨old _ _ a1, a2, (below _ (pinOld p hp')).1, pinFs p hp', a5⟩
   ·have e : p = (D, { cls := .type "list", data := .seq ([] : List Value).toArray }) := by simpa using hp'
    subst e
    exact ⟨hacc, hDn, hDC, notFs D hDle, fun v z => nomatch z⟩
 have statE : ∀ {H' : Hp} {ob : Obj}, (∀ b ∈ fp, H' b = none) → ∀ b ∈ fp, FpOk (cxC X N' scope cl C fp s2 H2) (pins ++ [(D, ob)]) H' b := fun {H' ob} hn b hb => by
  refine ⟨hn b hb, (below b (hob b hb)).1, okX.exfs b hb, .inl hb, fun x c e => (f2 b hb).2.2.2.2.1 x c (hcl x c e), fun p hp => ?_⟩
  have hp' : p ∈ X.pn ++ (pins ++ [(D, ob)]) := hp
  rw [← List.append_assoc] at hp'
  rcases List.mem_append.mp hp' with hp' | hp'
  ·exact (f2 b hb).2.2.2.2.2 p hp'
  ·have e : p = (D, ob) := by simpa using hp'
   subst e
   exact Ne.symm (below b (hob b hb)).2
 have loop : ∀ s₃ : Shared, s₃ = { s2 with heap := h₁, toks := s2.toks + ([] : List (Str × Value)).length } →
   codeAny (model X.prog X.w) X.A (.compLoop (.ListComp elt [⟨target, iter, ifs, 0⟩] scope pos) 0 (.ref it) (.ref D) (compEnvC scope cl C X.env)) (compPost (model X.prog X.w) X.A X.xe use Qf (.ref D) C) s₃ := by
  rintro s₃ rfl
  refine compLoop_any (fun n s' => ∃ (i : Nat) (ys : List V) (us : List Value) (c : Nat) (H' : Hp), Inv (cxC X N' scope cl C fp s2 H2) (pins ++ [(D, { cls := .type "list", data := .seq us.toArray c })]) (subSt σ ixs) H' s' ∧
    tn i s'.heap ∧ (∀ b ∈ fp, H' b = none) ∧ Vals ys us ∧ ys.length ≤ sizeLine ∧ W i n ys H') ?_ m0 ⟨0, [], [], _, H2, I0, T.keep _ _ _ st2 fun b _ o e => old b o e, fun b hb => (f2 b hb).1, .nil, Nat.zero_le _, w0⟩
  rintro n s3 ⟨i, ys, us, c, H3, I3, st3, fr3, rv3, hz3, w3⟩
  rcases turn i n ys H3 w3 with ⟨stop, qn⟩ | ⟨go, hz, step⟩
  ·refine thn (T.done (cxC X N' scope cl C fp s2 H2) rfl rfl rfl hc i _ s3 _ H3 (fun _ _ => False) I3 (statE fr3) st3 stop) fun r s4 ⟨hr, I4⟩ => ?_
   subst hr
   obtain ⟨p1, p2, p3, p4, p5⟩ := I4.pin (D, { cls := .type "list", data := .seq us.toArray c }) (List.mem_append_right _ (List.mem_append_right _ (by simp)))
   obtain ⟨m, hnC, _⟩ := I4.loc
   obtain ⟨oC, es, ep, eC, dC, rC⟩ := id hnC
   have HDn : H3 D = none := p2
   have HCn : H3 C = none := I4.free
   have u4 : Un (frs X.stack) fp H2 H3 s2.heap s4.heap := I4.base
   have u5 : Un (frs X.stack) fp H2 (upd H3 D (.lst ys)) s2.heap s4.heap := by
    have nD : ∀ b o, s2.heap.get? b = some o → b ≠ D := fun b o e => (below b (Heap.lt_size e)).2
    have nH : ∀ b o, H2 b = some o → b ≠ D := fun b o e => (below b (I2.hok.lt e)).2
    exact ⟨u4.keep, u4.slot, fun b o e n hx => by rw [upd_ne (nD b o e)]; exact u4.free b o e n hx, u4.there, fun b xs e => by rw [upd_ne (nH b _ e)]; exact u4.tups b xs e,
     fun b o xs e => by rw [upd_ne (nH b _ e)]; exact u4.frzs b o xs e, fun b ps e => by rw [upd_ne (nH b _ e)]; exact u4.tbls b ps e⟩
   have ok5 : HOk X.prog X.w (upd H3 D (.lst ys)) s4.heap := fun b o q => by
    by_cases hb : b = D
    ·subst hb
     rw [upd_same] at q
     cases q
     exact ⟨hz3, us, c, rv3, p1⟩
    ·rw [upd_ne hb] at q
     exact (I4.hok b o q).stay (fun c v _ r => r) (fun c r => by rw [upd_ne (ne_of_none r HDn)]; exact r) fun c xs r => by rw [upd_ne (ne_of_none r HDn)]; exact r
   have I5 : Inv X pins σ (upd H3 D (.lst ys)) s4 := I2.call' I4.os u5 ok5 I4.bare fun b hb => ⟨(f2 b hb).2.2.2.1, (f2 b hb).2.1, (f2 b hb).2.2.2.2.1, (f2 b hb).2.2.2.2.2⟩
   have I6 : Inv X (pins ++ [(C, oC)]) σ (upd H3 D (.lst ys)) s4 := I5.pins_of fun p hp => by
    rcases List.mem_append.mp hp with hp | hp
    ·exact I5.pin p (List.mem_append_right _ hp)
    ·have e : p = (C, oC) := by simpa using hp
     subst e
     refine ⟨eC, by rw [upd_ne (Ne.symm hDC)]; exact HCn, Ne.symm (below _ I2.lt).1, fun z => I2.nofs hCle z, fun v z => ?_⟩
     rw [dC] at z
     cases z
   exact fin C D oC m _ s4 I6 (fun h e => ⟨oC, es, ep, e, dC, rC⟩) (Ne.symm hDC) (.inr (Nat.le_trans I2.sz hCle)) (fun x c e => (below _ (cellLt x c e)).1) (fun p hp => (below _ (pinOld p hp)).1) (qn D HDn)
  ·refine thn (T.item (cxC X N' scope cl C fp s2 H2) rfl rfl rfl hc i _ s3 _ H3 (fun _ _ => False) I3 (statE fr3) st3 go) fun r s4 ⟨u, hr, h4⟩ => ?_
   subst hr
   refine thn h4 fun _ s5 ⟨x, H5, I5, r5, y5, st5, fr5⟩ => ?_
   have I5' := I5.pinned (statE fr5) (T.obj _ _ st5)
   refine thn (hg _ _ _ _ _ _ s5 _ H5 x u _ I5' r5 (step x H5 y5)) fun _ s6 ⟨σ6, H6, I6, kp, q6⟩ => ?_
   refine thn (hts _ _ _ _ _ _ s6 σ6 H6 _ I6 q6) fun ok s7 ⟨H7, I7, q7⟩ => ?_
   have keepTn : ∀ {H8 : Hp} {s8 : Shared} {σ8 : L2.St}, Inv (cxC X N' scope cl C fp s2 H2) (pins ++ [(D, { cls := .type "list", data := .seq us.toArray c })] ++ pinsAt fp s5.heap) σ8 H8 s8 → tn (i + 1) s8.heap ∧ ∀ b ∈ fp, H8 b = none := fun {H8 s8 σ8} I8 =>
    ⟨T.keep _ _ _ st5 fun b hb o e => (I8.pin (b, o) (List.mem_append_right _ (List.mem_append_right _ (mem_pinsAt hb e)))).1, fun b hb => by
     obtain ⟨o, e, d⟩ := T.obj _ _ st5 b hb
     exact (I8.pin (b, o) (List.mem_append_right _ (List.mem_append_right _ (mem_pinsAt hb e)))).2.1⟩
   cases ok with
   | false =>
    simp only [Bool.false_eq_true, if_false] at q7 ⊢
    obtain ⟨m', hm, w7⟩ := q7
    obtain ⟨t7, f7⟩ := keepTn I7
    exact ⟨m', hm, i + 1, ys, us, c, H7, I7.unpinned.weak kp.1.symm kp.2, t7, f7, rv3, hz3, w7⟩
   | true =>
    simp only [if_true] at q7 ⊢
    refine thn (he _ _ _ _ _ _ s7 σ6 H7 _ I7 q7) fun yv s8 ⟨y, H8, I8, r8, m', hm, w8⟩ => ?_
    obtain ⟨t8, f8⟩ := keepTn I8
    have I8' := I8.unpinned
    obtain ⟨p1, p2, p3, p4, p5⟩ := I8'.pin (D, { cls := .type "list", data := .seq us.toArray c }) (List.mem_append_right _ (List.mem_append_right _ (by simp)))
    refine append_at (hsz := by rw [List.size_toArray, ← rv3.length]; exact hz3) p1 fun h9 hs9 hD9 => ?_
    have I8o : Inv (cxC X N' scope cl C fp s2 H2) pins σ6 H8 s8 := I8'.unpinned
    have I9 : Inv (cxC X N' scope cl C fp s2 H2) pins σ6 H8 { s8 with heap := h9 } :=
     I8o.turned (t' := s8.toks) (it := D) (fun b o hb e => hs9.extBut b o hb e) p2 hDC (.inr hDle) (fun x c e => (below _ (cellLt x c (hcl x c e))).2) fun p hp => (below _ (pinOld p hp)).2
    have I9' : Inv (cxC X N' scope cl C fp s2 H2) (pins ++ [(D, { cls := .type "list", data := .seq (us ++ [yv]).toArray (c + 1) })]) σ6 H8 { s8 with heap := h9 } := I9.pins_of fun p hp => by
     rcases List.mem_append.mp hp with hp | hp
     ·exact I9.pin p (List.mem_append_right _ hp)
     ·have e : p = (D, { cls := .type "list", data := .seq (us ++ [yv]).toArray (c + 1) }) := by simpa using hp
      subst e
      refine ⟨?_, p2, hDC, notFs D hDle, fun v z => nomatch z⟩
      rw [← List.push_toArray]
      exact hD9
    refine ⟨m', hm, i + 1, ys ++ [y], us ++ [yv], c + 1, H8, I9'.weak kp.1.symm kp.2, T.keep _ _ _ t8 fun b hb o e => hs9.extBut b o (below b (hob b hb)).2 e, f8, rv3.append (.cons r8 .nil), ?_, w8⟩
    rw [List.length_append, List.length_singleton]
    exact hz
 exact codeAny_compStart_list (loop _ rfl) (T.self _ 0 _ _ _ (T.keep _ _ _ st2 fun b _ o e => old b o e) (loop _ rfl))
end
def ixOk (N' : List Str) (ixs : List (Option Nat)) (No : List Str) (scope : Scope) : Bool :=
 (N'.zip ixs).all fun p => match p.2 with
  | none => true
  | some i => decide (No[i]? = some p.1) && decide (scope.names.lookup p.1 = some .free)
theorem ixOk_at {N' : List Str} {ixs : List (Option Nat)} {No : List Str} {scope : Scope} (h : ixOk N' ixs No scope = true) : ∀ (k i : Nat) (y : Str), N'[k]? = some y → ixs[k]? = some (some i) → No[i]? = some y ∧ scope.names.lookup y = some .free := by
 intro k i y e1 e2
 have hm : (y, some i) ∈ N'.zip ixs := by
  refine List.mem_iff_getElem?.mpr ⟨k, ?_⟩
  rw [List.getElem?_zip_eq_some]
  exact ⟨e1, e2⟩
 have := List.all_eq_true.mp h _ hm
 simpa using this
section
variable {X : Cx}
theorem pe_comp {target iter elt : Expr} {ifs : List Expr} {scope : Scope} {pos : Pos} {wi : TI} {g : TG} {tc : TT} {te : TE} {No : List Str} {sc : Scope}
  (N' : List Str) (ixs : List (Option Nat)) (hc : X.calm = true) (hi : PI X target iter wi)
  (hg : ∀ cl C fp s₂ H₂, PG (cxC X N' scope cl C fp s₂ H₂) target g)
  (hts : ∀ cl C fp s₂ H₂, PTs (cxC X N' scope cl C fp s₂ H₂) ifs tc)
  (he : ∀ cl C fp s₂ H₂, PE (cxC X N' scope cl C fp s₂ H₂) elt te)
  (hkind : scope.kind = .function) (hcell : ∀ y ∈ scope.names, y.2 ≠ .cell) (hnames : ∀ y ∈ scope.names, y.2 = .local → scope.names.lookup y.1 = some .local)
  (hNo : X.N = No) (hsc : X.env.scope = sc) (hfree : ∀ y ∈ scope.names, y.2 = .free → sc.names.lookup y.1 = some .cell ∨ sc.names.lookup y.1 = some .free)
  (hlen : N'.length = ixs.length) (hix : ixOk N' ixs No scope = true)
  (hs : ∀ x, foldedSetIterable iter X.env x = pure x := by intro _; rfl) :
  PE X (.ListComp elt [⟨target, iter, ifs, 0⟩] scope pos) (tComp ixs wi g tc te) := by
 intro pins s σ H Q I h
 rw [eval_ListComp]
 refine comp_core (use := none) hc hi hg hts he hkind hcell hnames (fun y hy hf => by have := hfree y hy hf; rw [← hsc] at this; exact this) hlen (hNo ▸ ixOk_at hix) hs I h fun C D oC m H' s' I' hn hCD h1 h2 h3 q => ?_
 have pC := I'.pin (C, oC) (List.mem_append_right _ (List.mem_append_right _ (by simp)))
 exact ⟨m, hn _ pC.1, fun h' hs' => ⟨.ref D, H', I'.unpinned.turned (t' := s'.toks) (it := C) (fun b o hb e => hs'.extBut b o hb e) pC.2.1 pC.2.2.1 h1 h2 h3, rfl, q⟩⟩
def tSetC (j : Nat) (t : TE) : TS := fun D σ H => t σ H fun x H1 => D.nx (σ.set j (some x)) H1
theorem ps_setC {target iter elt : Expr} {ifs : List Expr} {scope : Scope} {pos spos py : Pos} {y : Str} {j : Nat} {wi : TI} {g : TG} {tc : TT} {te : TE} {No : List Str} {sc : Scope}
  (N' : List Str) (ixs : List (Option Nat)) (hN : X.N.Nodup) (hj : X.N[j]? = some y) (hy : Loc X.env.scope y) (hc : X.calm = true) (hi : PI X target iter wi)
  (hg : ∀ cl C fp s₂ H₂, PG (cxC X N' scope cl C fp s₂ H₂) target g)
  (hts : ∀ cl C fp s₂ H₂, PTs (cxC X N' scope cl C fp s₂ H₂) ifs tc)
  (he : ∀ cl C fp s₂ H₂, PE (cxC X N' scope cl C fp s₂ H₂) elt te)
  (hkind : scope.kind = .function) (hcell : ∀ y ∈ scope.names, y.2 ≠ .cell) (hnames : ∀ y ∈ scope.names, y.2 = .local → scope.names.lookup y.1 = some .local)
  (hNo : X.N = No) (hsc : X.env.scope = sc) (hfree : ∀ y ∈ scope.names, y.2 = .free → sc.names.lookup y.1 = some .cell ∨ sc.names.lookup y.1 = some .free)
  (hlen : N'.length = ixs.length) (hix : ixOk N' ixs No scope = true)
  (hsw : swapsWith (.ListComp elt [⟨target, iter, ifs, 0⟩] scope pos) (some (.Name y py)) spos.line X.env = pure true := by rfl)
  (hs : ∀ x, foldedSetIterable iter X.env x = pure x := by intro _; rfl)
  (hf : X.fn y = true ∨ X.env.scope.names.lookup y = some .local := by first | exact .inl rfl | exact .inr rfl | assumption) :
  PS X (.Assign [.Name y py] (.ListComp elt [⟨target, iter, ifs, 0⟩] scope pos) spos) (tSetC j (tComp ixs wi g tc te)) := by
 intro pins s σ H D I h
 rw [exec_Assign_Name_used _ _ _ _ hsw]
 refine wpAny_bind (wpAny_standAt (wpAny_bind ?_))
 show wpAny _ _ (do let _ ← comprehension (.ListComp elt [⟨target, iter, ifs, 0⟩] scope pos) scope X.env _ (newList []) false (eval iter X.env) (some (assign (.Name y py) X.env))) _ _ s
 refine wpAny_bind (wpAny_mono (comp_core (use := some (assign (.Name y py) X.env)) (Qf := fun _ s' => SP X pins D .next s') hc hi hg hts he hkind hcell hnames (fun y hy hf => by have := hfree y hy hf; rw [← hsc] at this; exact this) hlen (hNo ▸ ixOk_at hix) hs I h fun C E oC m H' s' I' hn hCD h1 h2 h3 q => ?_)
  (fun _ s' hq => wpAny_pure (wpAny_pure hq)) fun _ _ e => e)
 refine thn (pg_name (pos := py) hN hj hy hf _ s' σ H' (.ref E) (.ref E) (fun σ' H'' => σ' = σ.set j (some (.ref E)) ∧ H'' = H') I' rfl ⟨rfl, rfl⟩) fun _ s'' ⟨σ', H'', I'', e1, e2⟩ => ?_
 subst e1 e2
 have pC := I''.pin (C, oC) (List.mem_append_right _ (List.mem_append_right _ (by simp)))
 exact ⟨m, hn _ pC.1, fun h' hs' => ⟨_, _, I''.unpinned.turned (t' := s''.toks) (it := C) (fun b o hb e => hs'.extBut b o hb e) pC.2.1 pC.2.2.1 h1 h2 h3, q⟩⟩
end
end TX
namespace TM
abbrev Ls := List (List Int)
abbrev Prs := List (Int × Int)
def lof (ls : Ls) (i : Int) : List Int := ls.getD i.toNat []
def would (ls : Ls) (i j : Int) : Bool := decide (j ∈ lof ls i) && decide (i ∈ lof ls j)
structure Valid (ls : Ls) : Prop where
 pos : 1 ≤ ls.length
 le : ls.length ≤ 6
 mem : ∀ (i : Nat) (l : List Int), ls[i]? = some l → (∀ x ∈ l, 0 ≤ x ∧ x < ls.length ∧ x ≠ (i : Int)) ∧ l.Nodup
def rather (ls : Ls) (c a b : Int) : Bool := if a = c ∨ a = b then false else decide (b = c) || decide ((lof ls c).idxOf a < (lof ls c).idxOf b)
def wr (ls : Ls) (c a : Int) : Option Int → Bool
 | none => true
 | some h => decide ((lof ls c).idxOf a < (lof ls c).idxOf h)
def row (f : Int → Int → Bool) (i k : Nat) : Prs := ((List.range k).map fun (d : Nat) => ((i : Int), (i : Int) + 1 + (d : Int))).filter fun p => f p.1 p.2
def rows (f : Int → Int → Bool) (n i : Nat) : Prs := (List.range i).flatMap fun a => row f a (n - (a + 1))
theorem rows_zero (f : Int → Int → Bool) (n : Nat) : rows f n 0 = [] := rfl
def openP (ls : Ls) : Prs := rows (would ls) ls.length ls.length
def step (f : Int → Option Int) (p : Int × Int) : Int → Option Int := fun i => if i = p.2 then some p.1 else if i = p.1 then some p.2 else f i
def mate (ps : Prs) : Int → Option Int := ps.foldl step fun _ => none
def setH (h : List Int) (p : Int × Int) : List Int := (h.set p.1.toNat p.2).set p.2.toNat p.1
def rng (n : Nat) : List Int := (List.range n).map fun (k : Nat) => (k : Int)
def haveOf (n : Nat) (ps : Prs) : List Int := ps.foldl setH (rng n)
theorem rng_length (n : Nat) : (rng n).length = n := by simp [rng]
structure Pairs (ls : Ls) (ps : Prs) : Prop where
 each : ∀ p ∈ ps, 0 ≤ p.1 ∧ p.1 < ls.length ∧ 0 ≤ p.2 ∧ p.2 < ls.length ∧ p.1 ≠ p.2 ∧ would ls p.1 p.2 = true
 apart : (ps.flatMap fun p => [p.1, p.2]).Nodup
def who (ps : Prs) : List Int := ps.flatMap fun p => [p.1, p.2]
def brk (ls : Ls) (ps : Prs) (i j : Int) : Bool := would ls i j && (wr ls i j (mate ps i) && wr ls j i (mate ps j))
def brkL (ls : Ls) (h : List Int) (i j : Int) : Bool := rather ls i j (h.getD i.toNat 0) && rather ls j i (h.getD j.toNat 0)
def broken (ls : Ls) (h : List Int) : Prs := (openP ls).filter fun p => brkL ls h p.1 p.2
def breaking (ls : Ls) (ps : Prs) : Prs := rows (brk ls ps) ls.length ls.length
end TM
namespace TM
def OkAt (n : Nat) (i : Int) (l : List Int) : Prop := (∀ x ∈ l, 0 ≤ x ∧ x < n ∧ x ≠ i) ∧ l.Nodup
theorem OkAt.nil (n : Nat) (i : Int) : OkAt n i [] := ⟨fun _ h => (nomatch h), List.nodup_nil⟩
theorem OkAt.take {n : Nat} {i : Int} {l : List Int} (h : OkAt n i l) (k : Nat) : OkAt n i (l.take k) :=
 ⟨fun x hx => h.1 x (List.mem_of_mem_take hx), h.2.sublist (List.take_sublist k l)⟩
theorem pop_perm {α : Type} (l : List α) (k : Nat) (y : α) (h : l[k]? = some y) : (y :: l.eraseIdx k).Perm l := by
 induction l generalizing k with
 | nil => simp at h
 | cons x l ih =>
  cases k with
  | zero => simp at h; subst h; exact List.Perm.refl _
  | succ k =>
   simp at h
   exact (List.Perm.swap x y (l.eraseIdx k)).trans ((ih k h).cons x)
theorem OkAt.pop {n : Nat} {i : Int} {told left : List Int} (h : OkAt n i (told ++ left)) {k : Nat} {y : Int} (e : left[k]? = some y) : OkAt n i ((told ++ [y]) ++ left.eraseIdx k) := by
 have p : ((told ++ [y]) ++ left.eraseIdx k).Perm (told ++ left) := by
  rw [List.append_assoc]
  exact List.Perm.append_left told (pop_perm left k y e)
 exact ⟨fun x hx => h.1 x (p.mem_iff.mp hx), p.nodup_iff.mpr h.2⟩
theorem rng_nodup (n : Nat) : (rng n).Nodup := by
 unfold rng List.Nodup
 rw [List.pairwise_map]
 exact List.Pairwise.imp (fun h e => h (by omega)) (List.nodup_range (n := n))
theorem others_ok (n : Nat) (c : Int) : OkAt n c ((rng n).filter fun x => decide (x ≠ c)) := by
 refine ⟨fun x hx => ?_, ?_⟩
 ·rw [List.mem_filter] at hx
  obtain ⟨h1, h2⟩ := hx
  unfold rng at h1
  rw [List.mem_map] at h1
  obtain ⟨k, hk, rfl⟩ := h1
  have : k < n := by simpa using hk
  refine ⟨by omega, by omega, by simpa using h2⟩
 ·refine List.Nodup.sublist List.filter_sublist ?_
  exact rng_nodup n
theorem OkAt.ring {n : Nat} {c r : Int} {l : List Int} (h : OkAt n c l) (h0 : 0 ≤ c) (hc : c < r) (h3 : 3 ≤ r) (hr : r ≤ n) :
  OkAt n c ([(c + 1) % r, (c + r - 1) % r] ++ l.filter fun x => decide (¬ x ∈ [(c + 1) % r, (c + r - 1) % r])) := by
 have b1 : 0 ≤ (c + 1) % r := Int.emod_nonneg _ (by omega)
 have b2 : (c + 1) % r < r := Int.emod_lt_of_pos _ (by omega)
 have b3 : 0 ≤ (c + r - 1) % r := Int.emod_nonneg _ (by omega)
 have b4 : (c + r - 1) % r < r := Int.emod_lt_of_pos _ (by omega)
 have e1 : (c + 1) % r = if c + 1 = r then 0 else c + 1 := by
  split
  ·rename_i h; rw [h]; exact Int.emod_self
  ·exact Int.emod_eq_of_lt (by omega) (by omega)
 have e2 : (c + r - 1) % r = if c = 0 then r - 1 else c - 1 := by
  split
  ·rename_i h; rw [h]; rw [show 0 + r - 1 = r - 1 by omega]; exact Int.emod_eq_of_lt (by omega) (by omega)
  ·rw [show c + r - 1 = (c - 1) + r by omega, Int.add_emod_right]; exact Int.emod_eq_of_lt (by omega) (by omega)
 have n1 : (c + 1) % r ≠ c := by rw [e1]; split <;> omega
 have n2 : (c + r - 1) % r ≠ c := by rw [e2]; split <;> omega
 have n3 : (c + 1) % r ≠ (c + r - 1) % r := by rw [e1, e2]; split <;> split <;> omega
 generalize (c + 1) % r = a at *
 generalize (c + r - 1) % r = b at *
 refine ⟨fun x hx => ?_, ?_⟩
 ·rcases List.mem_append.mp hx with hx | hx
  ·simp at hx
   rcases hx with rfl | rfl
   ·exact ⟨b1, by omega, n1⟩
   ·exact ⟨b3, by omega, n2⟩
  ·exact h.1 x (List.mem_filter.mp hx).1
 ·rw [List.nodup_append]
  refine ⟨by simp [n3], h.2.sublist List.filter_sublist, ?_⟩
  intro x hx y hy e
  subst e
  have := (List.mem_filter.mp hy).2
  simp at this hx
  rcases hx with rfl | rfl
  ·exact this.1 rfl
  ·exact this.2 rfl
theorem shift_inj {n s x y : Int} (hn : 0 < n) (hx : 0 ≤ x ∧ x < n) (hy : 0 ≤ y ∧ y < n) (h : (x + s) % n = (y + s) % n) : x = y := by
 have h1 := Int.emod_add_mul_ediv (x + s) n
 have h2 := Int.emod_add_mul_ediv (y + s) n
 have h3 : x - y = n * ((x + s) / n - (y + s) / n) := by rw [Int.mul_sub]; omega
 generalize (x + s) / n - (y + s) / n = q at h3
 have hq : q = 0 := by
  rcases Int.lt_trichotomy q 0 with hq | hq | hq
  ·have : n * q ≤ n * (-1) := Int.mul_le_mul_of_nonneg_left (by omega) (by omega)
   omega
  ·exact hq
  ·have : n * 1 ≤ n * q := Int.mul_le_mul_of_nonneg_left (by omega) (by omega)
   omega
 rw [hq] at h3
 omega
theorem OkAt.shift {n : Nat} {c s : Int} {l : List Int} (h : OkAt n c l) (h0 : 0 ≤ c) (hc : c < n) : OkAt n ((c + s) % n) (l.map fun x => (x + s) % n) := by
 have hn : (0 : Int) < n := by omega
 refine ⟨fun x hx => ?_, ?_⟩
 ·rw [List.mem_map] at hx
  obtain ⟨y, hy, rfl⟩ := hx
  obtain ⟨a1, a2, a3⟩ := h.1 y hy
  exact ⟨Int.emod_nonneg _ (by omega), Int.emod_lt_of_pos _ hn, fun e => a3 (shift_inj hn ⟨a1, a2⟩ ⟨h0, hc⟩ e)⟩
 ·have gen : ∀ l : List Int, (∀ x ∈ l, 0 ≤ x ∧ x < (n : Int)) → l.Nodup → (l.map fun x => (x + s) % (n : Int)).Nodup := by
   intro l
   induction l with
   | nil => intro _ _; exact List.nodup_nil
   | cons y l ih =>
    intro hm hd
    rw [List.nodup_cons] at hd
    rw [List.map_cons, List.nodup_cons]
    refine ⟨fun z => ?_, ih (fun x hx => hm x (List.mem_cons_of_mem _ hx)) hd.2⟩
    rw [List.mem_map] at z
    obtain ⟨x, hx, e⟩ := z
    have := shift_inj hn (hm x (List.mem_cons_of_mem _ hx)) (hm y List.mem_cons_self) e
    subst this
    exact hd.1 hx
  exact gen l (fun x hx => ⟨(h.1 x hx).1, (h.1 x hx).2.1⟩) h.2
def AllOk (n : Nat) (ls : Ls) : Prop := ∀ (j : Nat) l, ls[j]? = some l → OkAt n j l
theorem AllOk.set {n : Nat} {ls : Ls} (h : AllOk n ls) {j : Nat} {l : List Int} (hl : OkAt n j l) : AllOk n (ls.set j l) := by
 intro k m e
 by_cases hk : k = j
 ·subst hk
  by_cases hlt : k < ls.length
  ·rw [List.getElem?_set_self hlt] at e
   cases e
   exact hl
  ·rw [List.getElem?_eq_none (by simp; omega)] at e
   cases e
 ·rw [List.getElem?_set_ne (Ne.symm hk)] at e
  exact h k m e
theorem AllOk.snoc {n : Nat} {ls : Ls} (h : AllOk n ls) {l : List Int} (hl : OkAt n ls.length l) : AllOk n (ls ++ [l]) := by
 intro k m e
 rw [List.getElem?_append] at e
 split at e
 ·exact h k m e
 ·rename_i hk
  have : k = ls.length := by
   cases hd : k - ls.length with
   | zero => omega
   | succ d => rw [hd] at e; simp at e
  subst this
  simp at e
  subst e
  exact hl
theorem allOk_nil (n : Nat) : AllOk n [] := fun _ _ e => nomatch e
theorem allOk_rep (n k : Nat) : AllOk n (List.replicate k []) := by
 intro j l e
 have : l = [] := by
  have := List.mem_of_getElem? e
  exact (List.mem_replicate.mp this).2
 subst this
 exact OkAt.nil _ _
theorem AllOk.valid {ls : Ls} (h : AllOk ls.length ls) (h1 : 1 ≤ ls.length) (h2 : ls.length ≤ 6) : Valid ls := ⟨h1, h2, h⟩
theorem lof_ok {ls : Ls} (V : Valid ls) {i : Int} (h0 : 0 ≤ i) (h1 : i < ls.length) : OkAt ls.length i (lof ls i) := by
 have hi : i.toNat < ls.length := by omega
 have := V.mem i.toNat (ls[i.toNat]) (by simp [hi])
 rw [show ((i.toNat : Nat) : Int) = i by omega] at this
 unfold lof
 rw [show ls.getD i.toNat [] = ls[i.toNat] by simp [List.getD, hi]]
 exact this
theorem lof_at {ls : Ls} {i : Int} (h0 : 0 ≤ i) (h1 : i < ls.length) : ls[i.toNat]? = some (lof ls i) := by
 have hi : i.toNat < ls.length := by omega
 unfold lof
 simp [List.getD, hi]
theorem nodup_len {n : Nat} {i : Int} {l : List Int} (h : OkAt n i l) : l.length ≤ n := by
 have gen : ∀ (m : Nat) (l : List Int), l.Nodup → (∀ x ∈ l, 0 ≤ x ∧ x < m) → l.length ≤ m := by
  intro m
  induction m with
  | zero =>
   intro l _ hm
   cases l with
   | nil => exact Nat.le_refl _
   | cons x l => have := hm x List.mem_cons_self; omega
  | succ m ih =>
   intro l hd hm
   have h1 : (l.erase (m : Int)).length ≤ m := ih _ (hd.erase _) fun x hx => by
    have hx' := List.mem_of_mem_erase hx
    have := hm x hx'
    have hne : x ≠ (m : Int) := fun z => by
     subst z
     exact absurd hx (List.Nodup.not_mem_erase hd)
    omega
   have h2 : l.length ≤ (l.erase (m : Int)).length + 1 := by
    rw [List.length_erase]
    split <;> omega
   omega
 exact gen n l h.2 fun x hx => ⟨(h.1 x hx).1, (h.1 x hx).2.1⟩
end TM
namespace TM
def InR (ls : Ls) (p : Int × Int) : Prop := 0 ≤ p.1 ∧ p.1 < ls.length ∧ 0 ≤ p.2 ∧ p.2 < ls.length
def hstep (ls : Ls) (o : Option (List Int)) (p : Int × Int) : Option (List Int) := match o with
 | none => none
 | some h => if (h.getD p.1.toNat 0 = p.1 ∧ h.getD p.2.toNat 0 = p.2) ∧ would ls p.1 p.2 = true then some (setH h p) else none
def haveG (ls : Ls) (ps : Prs) : Option (List Int) := ps.foldl (hstep ls) (some (rng ls.length))
def steadyB (ls : Ls) (ps : Prs) : Bool := match haveG ls ps with
 | none => false
 | some h => decide (broken ls h = [])
def ra (ring : List Int) (k : Nat) : Int := ring.getD k 0
def rp (ring : List Int) (k : Nat) : Int := ring.getD (if k = 0 then ring.length - 1 else k - 1) 0
def ok1 (ls : Ls) (ring : List Int) (k : Nat) : Bool := !(decide (1 < ring.length) && !would ls (ra ring k) (rp ring k))
def lastR (ring : List Int) (h : List Int) (k : Nat) : List Int := (List.range k).foldl (fun h j => h.set (ra ring j).toNat (rp ring j)) h
def lastA (n : Nat) (rings : List (List Int)) : List Int := rings.foldl (fun h ring => lastR ring h ring.length) (rng n)
def ok2 (ls : Ls) (last ring : List Int) (k : Nat) : Bool := !(decide (2 < ring.length) && !rather ls (rp ring k) (ra ring k) (last.getD (rp ring k).toNat 0))
def ins (x : Int) : List Int → List Int
 | [] => [x]
 | y :: l => if x ≤ y then x :: y :: l else y :: ins x l
def isort : List Int → List Int
 | [] => []
 | x :: l => ins x (isort l)
def oddR (rings : List (List Int)) : List (List Int) := rings.filter fun ring => decide ((ring.length : Int) = 3) || decide ((ring.length : Int) = 5)
def goodB (ls : Ls) (rings : List (List Int)) : Bool :=
 (decide (isort rings.flatten = rng ls.length) && !decide (oddR rings = [])) &&
 ((rings.all fun ring => (List.range ring.length).all (ok1 ls ring)) && ((rings.all fun ring => (List.range ring.length).all (ok2 ls (lastA ls.length rings) ring)) && decide (broken ls (lastA ls.length rings) = [])))
end TM
namespace TK
open PySem PySem.Spec PyProof.Rows L2 TX TM
open PySem.W (Dat kqdP kqdPs kqdOk)
abbrev Rel (α : Type) := Hp → V → α → Prop
def Mono {α : Type} (R : Rel α) : Prop := ∀ H H' v d, Same H H' → R H v d → R H' v d
theorem Paired.at1 {α β : Type} {F : α → β → Prop} : ∀ {l₁ : List α} {l₂ : List β} {i : Nat} {a : α}, Paired F l₁ l₂ → l₁[i]? = some a → ∃ b, l₂[i]? = some b ∧ F a b
 | _, _, _, _, .nil, e => by simp at e
 | _, _, 0, _, .cons r _, e => by simp at e; subst e; exact ⟨_, rfl, r⟩
 | _, _, i + 1, a, .cons _ t, e => by
  obtain ⟨u, h1, h2⟩ := Paired.at1 (i := i) (a := a) t (by simpa using e)
  exact ⟨u, by simpa using h1, h2⟩
theorem Paired.at2 {α β : Type} {F : α → β → Prop} : ∀ {l₁ : List α} {l₂ : List β} {i : Nat} {b : β}, Paired F l₁ l₂ → l₂[i]? = some b → ∃ a, l₁[i]? = some a ∧ F a b
 | _, _, _, _, .nil, e => by simp at e
 | _, _, 0, _, .cons r _, e => by simp at e; subst e; exact ⟨_, rfl, r⟩
 | _, _, i + 1, a, .cons _ t, e => by
  obtain ⟨u, h1, h2⟩ := Paired.at2 (i := i) (b := a) t (by simpa using e)
  exact ⟨u, by simpa using h1, h2⟩
theorem Paired.app {α β : Type} {F : α → β → Prop} : ∀ {l₁ m₁ : List α} {l₂ m₂ : List β}, Paired F l₁ l₂ → Paired F m₁ m₂ → Paired F (l₁ ++ m₁) (l₂ ++ m₂)
 | _, _, _, _, .nil, q => q
 | _, _, _, _, .cons r t, q => .cons r (Paired.app t q)
theorem Paired.setAt {α β : Type} {F : α → β → Prop} {a : α} {b : β} (r : F a b) : ∀ {l₁ : List α} {l₂ : List β} (i : Nat), Paired F l₁ l₂ → Paired F (l₁.set i a) (l₂.set i b)
 | _, _, _, .nil => .nil
 | _, _, 0, .cons _ t => .cons r t
 | _, _, i + 1, .cons q t => .cons q (Paired.setAt r i t)
theorem Paired.impl {α β : Type} {F G : α → β → Prop} (h : ∀ a b, F a b → G a b) : ∀ {l₁ : List α} {l₂ : List β}, Paired F l₁ l₂ → Paired G l₁ l₂
 | _, _, .nil => .nil
 | _, _, .cons r t => .cons (h _ _ r) (Paired.impl h t)
def Of {α : Type} (R : Rel α) (H : Hp) (a : Addr) (ds : List α) : Prop := ∃ xs : List V, H a = some (.lst xs) ∧ Paired (R H) xs ds
section
variable {α : Type} {R : Rel α} {H H' : Hp} {a : Addr} {ds : List α}
theorem Of.same (m : Mono R) (h : Of R H a ds) (e : Same H H') : Of R H' a ds := by
 obtain ⟨xs, h1, h2⟩ := h
 exact ⟨xs, e _ _ h1, Paired.impl (fun _ _ r => m _ _ _ _ e r) h2⟩
end
def RZ : Rel Int := fun _ v i => v = .int i
def RI : Rel (List Int) := fun H v l => ∃ p, v = .ref p ∧ H p = some (.lst (l.map V.int))
theorem mI : Mono RI := fun _ _ _ _ e h => let ⟨p, h1, h2⟩ := h; ⟨p, h1, e _ _ h2⟩
def RP : Rel (Int × Int) := fun H v q => ∃ p, v = .ref p ∧ H p = some (.tup [.int q.1, .int q.2])
abbrev LL : Hp → Addr → Ls → Prop := Of RI
abbrev PL : Hp → Addr → Prs → Prop := Of RP
theorem atI_of {α : Type} {xs : List α} {i : Int} {v : α} (h0 : 0 ≤ i) (h : xs[i.toNat]? = some v) : atI xs i = some v := by
 have := atI_nat (j := i.toNat) h
 rw [show ((i.toNat : Nat) : Int) = i by omega] at this
 exact this
theorem LL.at {H : Hp} {a : Addr} {ls : Ls} (h : LL H a ls) {i : Int} (h0 : 0 ≤ i) (h1 : i < ls.length) : ∃ xs p, H a = some (.lst xs) ∧ atI xs i = some (.ref p) ∧ H p = some (.lst ((lof ls i).map V.int)) := by
 obtain ⟨xs, e, r⟩ := h
 obtain ⟨v, e2, p, rfl, hp⟩ := Paired.at2 r (lof_at h0 h1)
 exact ⟨xs, p, e, atI_of h0 e2, hp⟩
def dZ (l : List Int) : Dat := .list (l.map Dat.int)
def dLL (ls : Ls) : Dat := .list (ls.map dZ)
def dP (q : Int × Int) : Dat := .tuple [.int q.1, .int q.2]
def dPL (ps : Prs) : Dat := .list (ps.map dP)
theorem dd_ints {K : PySem.W.Frag} {H : Hp} {p : Addr} {l : List Int} (h : H p = some (.lst (l.map V.int))) : Dd K H (.ref p) (dZ l) := by
 refine .lst (SqL.of h) (by simp) fun i x d e1 e2 => ?_
 rw [List.getElem?_map] at e1 e2
 cases e : l[i]? with
 | none => rw [e] at e1; cases e1
 | some z => rw [e] at e1 e2; cases e1; cases e2; exact .int z
theorem ok_dZ (l : List Int) (n : Nat) : kqdOk (n + 1) (dZ l) = true := by
 unfold dZ
 rw [kqdOk, List.all_map, List.all_eq_true]
 intro x _
 cases n <;> simp [kqdOk]
theorem dd_nil {K : PySem.W.Frag} {H : Hp} {p : Addr} (h : H p = some (.lst [])) : Dd K H (.ref p) (.list []) :=
 .lst (SqL.of h) rfl fun i x d e => by simp at e
theorem flat_ints (l : List Int) : (l.map V.int).all flatV = true := by
 rw [List.all_map, List.all_eq_true]
 intro x _
 rfl
theorem inV_ints (x : Int) (l : List Int) : inV (.int x) (l.map V.int) = decide (x ∈ l) := by
 unfold inV
 rw [List.any_map]
 induction l with
 | nil => rfl
 | cons y l ih =>
  rw [List.any_cons, ih]
  show ((y == x) || decide (x ∈ l)) = _
  by_cases h : y = x
  ·subst h; simp
  ·rw [show (y == x) = false by simpa using h, Bool.false_or]
   by_cases h2 : x ∈ l
   ·simp [h2]
   ·have : ¬ x ∈ y :: l := by simp [h2]; exact fun z => h z.symm
    rw [decide_eq_false h2, decide_eq_false this]
theorem iteB {A B : Prop} {b : Bool} (h1 : b = true → A) (h2 : b = false → B) : if b = true then A else B := by
 cases b with
 | true => exact h1 rfl
 | false => exact h2 rfl
section
variable {K : PySem.W.Frag} {ta tv te : TE} {f : Str} {D : Ends} {σ : L2.St} {H : Hp} {j : Nat} {Q : VK} {g : TG} {a b : TS}
theorem sFld_of (h : tv σ H fun y H1 => ta σ H1 fun x H2 => ∃ a C dx fs, x = .ref a ∧ H2 a = some (.ins C dx fs) ∧ Cls K C ∧ NoAttr K C f ∧ fs.length < 1000 ∧ D.nx σ (upd H2 a (.ins C dx (putF f y fs)))) : sFld K ta tv f D σ H := h
theorem tSetC_of (h : te σ H fun x H1 => D.nx (σ.set j (some x)) H1) : tSetC j te D σ H := h
theorem tRet_of (h : te σ H D.rt) : tRet te D σ H := h
theorem tAsg_of (h : te σ H fun x H1 => g x σ H1 D.nx) : tAsg te g D σ H := h
theorem tCons_of {tr : TA} {R : List V → Hp → Prop} (h : te σ H fun x H1 => tr σ H1 fun xs H2 => R (x :: xs) H2) : tCons te tr σ H R := h
theorem gName_of {v : V} {R : L2.St → Hp → Prop} (h : R (σ.set j (some v)) H) : gName j v σ H R := h
theorem tSeq_of (h : a { D with nx := b D } σ H) : tSeq a b D σ H := h
end
structure FnP (K : PySem.W.Frag) (mg : Str → Option Value) (x qual : Str) (st : Stmt) (ps : List Str) (f : Addr) (fd : FuncData) : Prop where
 fn : Fun K x qual st f fd
 b : Binds K fd ps []
 mg : mg x = some (.ref f)
structure MeP (K : PySem.W.Frag) (C : Addr) (x qual : Str) (st : Stmt) (ps : List Str) (f : Addr) (fd : FuncData) : Prop where
 fn : Fun K x qual st f fd
 b : Binds K fd ps []
 me : Meth K C x f
theorem boot_len : bootBuiltins "len" = some (.builtin "len") := by decide +kernel
theorem boot_list : bootBuiltins "list" = some (.type "list") := by decide +kernel
theorem boot_isinstance : bootBuiltins "isinstance" = some (.builtin "isinstance") := by decide +kernel
theorem boot_any : bootBuiltins "any" = some (.builtin "any") := by decide +kernel
theorem boot_min : bootBuiltins "min" = some (.builtin "min") := by decide +kernel
theorem boot_int : bootBuiltins "int" = some (.type "int") := by decide +kernel
theorem boot_bool : bootBuiltins "bool" = some (.type "bool") := by decide +kernel
theorem boot_str : bootBuiltins "str" = some (.type "str") := by decide +kernel
section
variable {K : PySem.W.Frag}
theorem kit_int_bool : PySem.W.kitOne K (.type "int") (.type "bool") = some false := by rfl
theorem kit_int_int : PySem.W.kitOne K (.type "int") (.type "int") = some true := by rfl
theorem kit_list_list : PySem.W.kitOne K (.type "list") (.type "list") = some true := by rfl
end
end TK
namespace TX
open PySem PySem.Spec PyProof.Rows L2
theorem cut {X : Cx} {st : List Stmt} {u : TS} {M : TS} (h : PSs X st u) (hM : ∀ D σ H, M D σ H → u D σ H) : PSs X st M := fun pins s σ H D I q => h pins s σ H D I (hM D σ H q)
end TX
namespace TX
open PySem PySem.Spec PyProof.Rows L2
section
variable {X : Cx}
def rLen (K : PySem.W.Frag) : List V → Hp → VK → Prop := fun xs H Q => ∃ (p : Addr) (ys : List V), xs = [.ref p] ∧ (SqL K H p ys ∨ SqT K H p ys) ∧ Q (.int ys.length) H
theorem call_lenS : CallR X (.builtin "len") (rLen X.K) := call_len_seq
end
end TX
namespace TK
open PySem
end TK
namespace TS
open PySem TM
def jl (sep : List Nat) : List (List Nat) → List Nat
 | [] => []
 | [x] => x
 | x :: y :: r => x ++ sep ++ jl sep (y :: r)
theorem join_list (sep : Str) : ∀ ps : List Str, (Str.join sep ps).cps.toList = jl sep.cps.toList (ps.map (·.cps.toList))
 | [] => rfl
 | [x] => rfl
 | x :: y :: r => by
  have ih := join_list sep (y :: r)
  show ((x ++ sep) ++ Str.join sep (y :: r)).cps.toList = _
  rw [Str.cps_append, Str.cps_append, Array.toList_append, Array.toList_append, ih]
  rfl
theorem cut_eq {c : Nat} : ∀ {x y A B : List Nat}, c ∉ x → c ∉ y → x ++ c :: A = y ++ c :: B → x = y ∧ A = B
 | [], [], A, B, _, _, h => by
  simp at h; exact ⟨rfl, h⟩
 | [], b :: y, A, B, _, hy, h => by
  simp at h; exact absurd (h.1 ▸ List.mem_cons_self) hy
 | a :: x, [], A, B, hx, _, h => by
  simp at h; exact absurd (h.1 ▸ List.mem_cons_self) hx
 | a :: x, b :: y, A, B, hx, hy, h => by
  simp at h
  obtain ⟨e, h⟩ := h
  have := cut_eq (fun z => hx (List.mem_cons_of_mem _ z)) (fun z => hy (List.mem_cons_of_mem _ z)) h
  exact ⟨by rw [e, this.1], this.2⟩
theorem jl_inj {c : Nat} : ∀ {ps qs : List (List Nat)}, ps ≠ [] → qs ≠ [] → (∀ p ∈ ps, c ∉ p) → (∀ q ∈ qs, c ∉ q) → jl [c] ps = jl [c] qs → ps = qs
 | [], _, h, _, _, _, _ => absurd rfl h
 | _, [], _, h, _, _, _ => absurd rfl h
 | [x], [y], _, _, _, _, h => by rw [show x = y from h]
 | [x], y :: z :: r, _, _, hp, _, h => by
  have h : x = y ++ [c] ++ jl [c] (z :: r) := h
  exact absurd (by rw [h]; simp) (hp x List.mem_cons_self)
 | x :: z :: r, [y], _, _, _, hq, h => by
  have h : x ++ [c] ++ jl [c] (z :: r) = y := h
  exact absurd (by rw [← h]; simp) (hq y List.mem_cons_self)
 | x :: u :: r, y :: v :: t, _, _, hp, hq, h => by
  have h : x ++ [c] ++ jl [c] (u :: r) = y ++ [c] ++ jl [c] (v :: t) := h
  rw [List.append_assoc, List.append_assoc] at h
  obtain ⟨e1, e2⟩ := cut_eq (hp x List.mem_cons_self) (hq y List.mem_cons_self) h
  rw [e1, jl_inj (by simp) (by simp) (fun p h => hp p (List.mem_cons_of_mem _ h)) (fun q h => hq q (List.mem_cons_of_mem _ h)) e2]
theorem parts_ne (x : Str) (w : Nat) (a : Nat) : ∀ cuts, StrLaws.partsFrom x w a cuts ≠ []
 | [] => by intro h; cases h
 | _ :: _ => by intro h; cases h
theorem split_ne (x y : Str) : Txt.split x y ≠ [] := by
 unfold Txt.split
 split
 ·simp
 ·split
  ·simp
  ·rw [StrLaws.partsBetween_eq]; exact parts_ne _ _ _ _
theorem split_join {c : Nat} {ps : List Str} (h1 : ps ≠ []) (h2 : ∀ p ∈ ps, c ∉ p.cps.toList) : Txt.split (Str.join ⟨#[c]⟩ ps) ⟨#[c]⟩ = ps := by
 have e := StrLaws.join_split (Str.join ⟨#[c]⟩ ps) ⟨#[c]⟩
 have f := StrLaws.split_free (Str.join ⟨#[c]⟩ ps) c
 have n := split_ne (Str.join ⟨#[c]⟩ ps) ⟨#[c]⟩
 generalize Txt.split (Str.join ⟨#[c]⟩ ps) ⟨#[c]⟩ = qs at e f n
 have e' := congrArg (fun x : Str => x.cps.toList) e
 simp only [join_list] at e'
 have := jl_inj (c := c) (by simpa using n) (by simpa using h1) (by intro p hp; obtain ⟨q, hq, rfl⟩ := List.mem_map.mp hp; exact f q hq) (by intro p hp; obtain ⟨q, hq, rfl⟩ := List.mem_map.mp hp; exact h2 q hq) e'
 exact (List.map_inj_right (fun a b h => Str.ext' (Array.toList_inj.mp h))).mp this
theorem join_empty_cons (a : Str) : ∀ r, Str.join Str.empty (a :: r) = a ++ Str.join Str.empty r
 | [] => (Str.append_empty a).symm
 | b :: r => by
  show a ++ Str.empty ++ Str.join Str.empty (b :: r) = _
  rw [Str.append_empty]
theorem join_head {α : Type} (g : α → Str) (sep : Str) : ∀ (h : Str) (l : List α), Str.join sep (h :: l.map g) = h ++ Str.join Str.empty (l.map fun x => sep ++ g x)
 | h, [] => (Str.append_empty h).symm
 | h, x :: l => by
  rw [List.map_cons, List.map_cons, join_empty_cons]
  show h ++ sep ++ Str.join sep (g x :: l.map g) = _
  rw [join_head g sep (g x) l, Str.append_assoc, Str.append_assoc]
def dg (z : Int) : Str := Str.ofString (toString z)
theorem dg_eq {z : Int} (h0 : 0 ≤ z) (h1 : z < 6) : dg z = ⟨#[48 + z.toNat]⟩ := by
 have : z = 0 ∨ z = 1 ∨ z = 2 ∨ z = 3 ∨ z = 4 ∨ z = 5 := by omega
 rcases this with rfl | rfl | rfl | rfl | rfl | rfl <;> decide +kernel
theorem dg_inj {y z : Int} (h0 : 0 ≤ y ∧ y < 6) (h1 : 0 ≤ z ∧ z < 6) (h : dg y = dg z) : y = z := by
 rw [dg_eq h0.1 h0.2, dg_eq h1.1 h1.2] at h
 injection h with h
 have h : #[48 + y.toNat].toList = #[48 + z.toNat].toList := by rw [h]
 simp at h
 omega
def colon : Str := ":"
def blank : Str := " "
def feed : Str := "\n"
theorem colon_eq : colon = ⟨#[58]⟩ := by decide +kernel
theorem blank_eq : blank = ⟨#[32]⟩ := by decide +kernel
theorem feed_eq : feed = ⟨#[10]⟩ := by decide +kernel
def hd (i : Int) : Str := dg i ++ colon
def parts (i : Int) (l : List Int) : List Str := hd i :: l.map dg
def rowS (i : Int) (l : List Int) : Str := Str.join blank (parts i l)
def rowsS (ls : Ls) (k : Nat) : List Str := (List.range k).map fun (i : Nat) => rowS (i : Int) (ls.getD i [])
def textS (ls : Ls) : Str := Str.join feed (rowsS ls ls.length)
theorem rowS_eq (i : Int) (l : List Int) : rowS i l = hd i ++ Str.join Str.empty (l.map fun x => blank ++ dg x) := join_head dg blank (hd i) l
theorem rowsS_succ (ls : Ls) (k : Nat) : rowsS ls (k + 1) = rowsS ls k ++ [rowS (k : Int) (ls.getD k [])] := by
 unfold rowsS
 rw [List.range_succ, List.map_append]
 rfl
theorem rowsS_length (ls : Ls) (k : Nat) : (rowsS ls k).length = k := by simp [rowsS]
theorem hd_list {i : Int} (h0 : 0 ≤ i) (h1 : i < 6) : (hd i).cps.toList = [48 + i.toNat, 58] := by
 unfold hd
 rw [dg_eq h0 h1, colon_eq]
 rfl
theorem dg_list {i : Int} (h0 : 0 ≤ i) (h1 : i < 6) : (dg i).cps.toList = [48 + i.toNat] := by
 rw [dg_eq h0 h1]
def Figs (l : List Int) : Prop := ∀ x ∈ l, 0 ≤ x ∧ x < 6
theorem part_free {i : Int} {l : List Int} (h0 : 0 ≤ i) (h1 : i < 6) (hl : Figs l) {c : Nat} (hc : c < 48) : ∀ p ∈ parts i l, c ∉ p.cps.toList := by
 intro p hp
 rcases List.mem_cons.mp hp with rfl | hp
 ·rw [hd_list h0 h1]; simp; omega
 ·obtain ⟨x, hx, rfl⟩ := List.mem_map.mp hp
  rw [dg_list (hl x hx).1 (hl x hx).2]; simp; omega
theorem jl_mem {c : Nat} {sep : List Nat} : ∀ {ps : List (List Nat)}, c ∈ jl sep ps → c ∈ sep ∨ ∃ p ∈ ps, c ∈ p
 | [], h => nomatch h
 | [x], h => .inr ⟨x, List.mem_cons_self, h⟩
 | x :: y :: r, h => by
  have h : c ∈ x ++ sep ++ jl sep (y :: r) := h
  rw [List.mem_append, List.mem_append] at h
  rcases h with (h | h) | h
  ·exact .inr ⟨x, List.mem_cons_self, h⟩
  ·exact .inl h
  ·rcases jl_mem h with h | ⟨p, hp, h⟩
   ·exact .inl h
   ·exact .inr ⟨p, List.mem_cons_of_mem _ hp, h⟩
theorem row_free {i : Int} {l : List Int} (h0 : 0 ≤ i) (h1 : i < 6) (hl : Figs l) : 10 ∉ (rowS i l).cps.toList := by
 unfold rowS
 rw [join_list, blank_eq]
 intro h
 rcases jl_mem h with h | ⟨p, hp, h⟩
 ·simp at h
 ·obtain ⟨q, hq, rfl⟩ := List.mem_map.mp hp
  exact part_free h0 h1 hl (by decide) q hq h
theorem row_split {i : Int} {l : List Int} (h0 : 0 ≤ i) (h1 : i < 6) (hl : Figs l) : Txt.split (rowS i l) blank = parts i l := by
 unfold rowS
 rw [blank_eq]
 exact split_join (by simp [parts]) (part_free h0 h1 hl (by decide))
theorem valid_figs {ls : Ls} (V : Valid ls) {i : Nat} (h : i < ls.length) : Figs (ls.getD i []) := by
 have := lof_ok V (i := (i : Int)) (by omega) (by omega)
 intro x hx
 have h6 := V.le
 have := this.1 x (by simpa [lof] using hx)
 omega
theorem text_split {ls : Ls} (V : Valid ls) : Txt.split (textS ls) feed = rowsS ls ls.length := by
 unfold textS
 rw [feed_eq]
 have hp := V.pos
 have h6 := V.le
 refine split_join (fun z => ?_) (fun p h => ?_)
 ·have := rowsS_length ls ls.length
  rw [z] at this; simp at this; omega
 ·obtain ⟨i, hi, rfl⟩ := List.mem_map.mp h
  have hi := List.mem_range.mp hi
  exact row_free (by omega) (by omega) (valid_figs V hi)
theorem hd_len {i : Int} (h0 : 0 ≤ i) (h1 : i < 6) : (hd i).length = 2 := by
 have := congrArg List.length (hd_list h0 h1)
 simpa [Str.length] using this
theorem dg_len {i : Int} (h0 : 0 ≤ i) (h1 : i < 6) : (dg i).length = 1 := by
 have := congrArg List.length (dg_list h0 h1)
 simpa [Str.length] using this
theorem part_len {i : Int} {l : List Int} (h0 : 0 ≤ i) (h1 : i < 6) (hl : Figs l) : ∀ p ∈ parts i l, p.length ≤ 2 := by
 intro p hp
 rcases List.mem_cons.mp hp with rfl | hp
 ·rw [hd_len h0 h1]; exact Nat.le_refl _
 ·obtain ⟨x, hx, rfl⟩ := List.mem_map.mp hp
  rw [dg_len (hl x hx).1 (hl x hx).2]; decide
theorem row_len {i : Int} {l : List Int} (h0 : 0 ≤ i) (h1 : i < 6) (hl : Figs l) : (rowS i l).length ≤ 3 * (l.length + 1) := by
 have h := StrLaws.join_length_le blank (parts i l)
 have h2 := StrLaws.sumLen_le (parts i l) (part_len h0 h1 hl)
 have e : blank.length = 1 := by decide +kernel
 have e2 : (parts i l).length = l.length + 1 := by simp [parts]
 rw [e, e2] at h
 rw [e2] at h2
 unfold rowS
 omega
theorem valid_len {ls : Ls} (V : Valid ls) {i : Nat} (h : i < ls.length) : (ls.getD i []).length ≤ 6 := by
 have := nodup_len (lof_ok V (i := (i : Int)) (by omega) (by omega))
 have h6 := V.le
 have : (lof ls (i : Int)).length ≤ ls.length := this
 have e : lof ls (i : Int) = ls.getD i [] := by simp [lof]
 rw [e] at this
 omega
theorem rows_len {ls : Ls} (V : Valid ls) {k : Nat} (hk : k ≤ ls.length) : ∀ p ∈ rowsS ls k, p.length ≤ 21 := by
 intro p h
 obtain ⟨i, hi, rfl⟩ := List.mem_map.mp h
 have hi := List.mem_range.mp hi
 have h6 := V.le
 have h1 := valid_len V (i := i) (by omega)
 have h2 := row_len (i := (i : Int)) (l := ls.getD i []) (by omega) (by omega) (valid_figs V (by omega))
 omega
theorem text_len {ls : Ls} (V : Valid ls) : (textS ls).length ≤ 200 := by
 have h := StrLaws.join_length_le feed (rowsS ls ls.length)
 have h2 := StrLaws.sumLen_le (rowsS ls ls.length) (rows_len V (Nat.le_refl _))
 have e : feed.length = 1 := by decide +kernel
 rw [e, rowsS_length] at h
 rw [rowsS_length] at h2
 have h6 := V.le
 unfold textS
 omega
theorem join_ok {sep : Str} {texts : List Str} {B : Nat} (hB : ∀ y ∈ texts, y.length ≤ B) (h : texts.length * B + texts.length * sep.length ≤ 16777216) : JoinOk sep texts = true := by
 unfold JoinOk
 rw [StrLaws.joinFits hB h]
 rfl
end TS
namespace TX
open PySem PySem.Spec PyProof.Rows L2 TS
open PySem.Builtin PySem.Builtin.Str
theorem strVals_of : ∀ {ts : List Str} {us : List Value}, Vals (ts.map V.str) us → ∃ l : List (Str × Tok), us = strValues l ∧ l.map (·.1) = ts
 | [], _, .nil => ⟨[], rfl, rfl⟩
 | x :: ts, _, .cons r t => by
  obtain ⟨k, rfl⟩ := r
  obtain ⟨l, rfl, e⟩ := strVals_of t
  exact ⟨(x, k) :: l, rfl, by rw [List.map_cons, e]⟩
theorem vals_strs : ∀ (l : List (Str × Tok)), Vals ((l.map (·.1)).map V.str) (strValues l)
 | [] => .nil
 | p :: l => .cons ⟨p.2, rfl⟩ (vals_strs l)
section
variable {X : Cx}
def rJoin (K : PySem.W.Frag) : V → List V → Hp → VK → Prop := fun x vs H Q => ∃ sep p ts, x = .str sep ∧ vs = [.ref p] ∧ SqL K H p (ts.map V.str) ∧ JoinOk sep ts = true ∧ Q (.str (Str.join sep ts)) H
theorem mt_join : MtR X "str.join" (rJoin X.K) := by
 intro pins s σ H x vs v us Q I rx rv h
 obtain ⟨sep, p, ts, rfl, rfl, hq, hok, q⟩ := h
 obtain ⟨t, rfl⟩ := rx
 obtain ⟨u, rfl, ru⟩ := Vals.one rv
 cases ru
 obtain ⟨its, r, pl, hz⟩ := I.list hq
 obtain ⟨l, rfl, e⟩ := strVals_of r
 have hok' : tooLong ((l.map (·.1)).toArray.foldl (· + ·.length + sep.length) 0) = false := by
  rw [e]
  unfold JoinOk at hok
  rwa [Bool.not_eq_true'] at hok
 refine call_meets F.slot_str_join (typeIs_str _ _ _) F.entry_str_join (F.args_str_join_2 _ _) (meets_str_join_list sep t p l hok') ⟨pl.isList, post_join l ⟨joinFit_length hok', fun t' k => ?_⟩⟩
 refine ⟨.str (Str.join sep ts), H, I.tok _, ⟨t', ?_⟩, q⟩
 rw [e]
 show Value.str (glued sep ts) t' = _
 rw [StrLaws.glued_eq_join]
def rSplit : V → List V → Hp → VK → Prop := fun x vs H Q => ∃ z y, x = .str z ∧ vs = [.str y] ∧ (y.length == 0) = false ∧ z.length ≤ sizeLine ∧ (Txt.split z y).length ≤ sizeLine ∧ ∀ l, H l = none → Q (.ref l) (upd H l (.lst ((Txt.split z y).map V.str)))
theorem mt_split : MtR X "str.split" rSplit := by
 intro pins s σ H x vs v us Q I rx rv h
 obtain ⟨z, y, rfl, rfl, hy, hz, hn, q⟩ := h
 obtain ⟨t, rfl⟩ := rx
 obtain ⟨_, rfl, ru⟩ := Vals.one rv
 obtain ⟨u, rfl⟩ := ru
 cases h1 : (decide (z.length < y.length) || decide (strKind z < strKind y))
 ·cases hf : (occurrences z y 0 z.length (z.length + 1)).isEmpty
  ·have e : Txt.split z y = partsBetween z (occurrences z y 0 z.length (z.length + 1)) y.length := (if_neg (ne_true_of_eq_false h1)).trans (if_neg (ne_true_of_eq_false hf))
   rw [e] at hn q
   refine call_meets F.slot_str_split (typeIs_str _ _ _) F.entry_str_split (F.args_str_split_2 _ _) (meets_str_split_sep z y t u h1 hy hf hz hn) ?_
   show wants _ _ _ _
   rw [strsFrom_eq]
   have hv := vals_strs (numbered s.toks (partsBetween z (occurrences z y 0 z.length (z.length + 1)) y.length))
   rw [numbered_texts] at hv
   exact ⟨.ref s.heap.objs.size, _, I.lnew hv (by rw [List.length_map]; exact hn), rfl, q _ I.fresh⟩
  ·have e : Txt.split z y = [z] := (if_neg (ne_true_of_eq_false h1)).trans (if_pos hf)
   rw [e] at hn q
   refine call_meets F.slot_str_split (typeIs_str _ _ _) F.entry_str_split (F.args_str_split_2 _ _) (meets_str_split_not_found z y t u h1 hy hf) ?_
   exact ⟨.ref s.heap.objs.size, _, I.lnew (ys := [.str z]) (its := [.str z t]) (.cons ⟨t, rfl⟩ .nil) hn, rfl, q _ I.fresh⟩
 ·have e : Txt.split z y = [z] := if_pos h1
  rw [e] at hn q
  refine call_meets F.slot_str_split (typeIs_str _ _ _) F.entry_str_split (F.args_str_split_2 _ _) (meets_str_split_cannot_occur z y t u h1) ?_
  exact ⟨.ref s.heap.objs.size, _, I.lnew (ys := [.str z]) (its := [.str z t]) (.cons ⟨t, rfl⟩ .nil) hn, rfl, q _ I.fresh⟩
def rStr : List V → Hp → VK → Prop := fun xs H Q => ∃ i : Int, xs = [.int i] ∧ (-1000 < i ∧ i < 1000) ∧ Q (.str (dg i)) H
theorem small_log {i : Int} (h : -1000 < i ∧ i < 1000) : i.natAbs.log2 < 1920 := shown (N := 1000) h.1 h.2 (by decide +kernel)
theorem call_str : CallR X (.type "str") rStr := by
 intro pins s σ H xs us Q I r h
 obtain ⟨i, rfl, hi, q⟩ := h
 obtain ⟨u, rfl, rx⟩ := vals1 r
 obtain ⟨t, rfl⟩ := rx
 exact P.str_of_int (small_log hi) ⟨.str (dg i), H, I.tok _, ⟨_, rfl⟩, q⟩
def rInt : List V → Hp → VK → Prop := fun xs H Q => ∃ i : Int, xs = [.str (dg i)] ∧ (0 ≤ i ∧ i < 1000) ∧ Q (.int i) H
theorem call_intS : CallR X (.type "int") rInt := by
 intro pins s σ H xs us Q I r h
 obtain ⟨i, rfl, hi, q⟩ := h
 obtain ⟨u, rfl, rx⟩ := vals1 r
 obtain ⟨t, rfl⟩ := rx
 exact PySem.W.KIN.call_num hi.1 (by have := hi.2; omega) ⟨.int i, H, I.tok _, ⟨_, rfl⟩, q⟩
def tFmt (te : TE) : TE := fun σ H Q => te σ H fun x H1 => ∃ i : Int, x = .int i ∧ (-1000 < i ∧ i < 1000) ∧ Q (.str (dg i)) H1
def tJoin2 (ta tb : TE) : TE := fun σ H Q => ta σ H fun x H1 => ∃ a, x = .str a ∧ a.length ≤ sizeLine ∧ tb σ H1 fun y H2 => ∃ b, y = .str b ∧ a.length + b.length ≤ sizeLine ∧ Q (.str (a ++ b)) H2
variable {e a b : Expr} {te ta tb : TE} {pos : Pos}
theorem pe_fmt (he : PE X e te) : PE X (.FormattedValue e (-1) none pos) (tFmt te) := by
 intro pins s σ H Q I h
 refine FormattedValue_plain (thn (he pins s σ H _ I h) fun v s1 ⟨x, H1, I1, r1, q1⟩ => ?_)
 obtain ⟨i, rfl, hi, q⟩ := q1
 obtain ⟨t, rfl⟩ := r1
 exact formatField_int_small (small_log hi) ⟨.str (dg i), H1, I1.tok _, ⟨_, rfl⟩, q⟩
theorem pe_join2 (ha : PE X a ta) (hb : PE X b tb) : PE X (.JoinedStr [a, b] pos) (tJoin2 ta tb) := by
 intro pins s σ H Q I h
 refine JoinedStr_many (joinParts_cons (thn (ha pins s σ H _ I h) fun v s1 ⟨x, H1, I1, r1, q1⟩ => ?_))
 obtain ⟨za, rfl, hza, q1⟩ := q1
 obtain ⟨t, rfl⟩ := r1
 refine ⟨by rw [Str.empty_append]; exact hza, joinParts_cons (thn (hb pins s1 σ H1 _ I1 q1) fun w s2 ⟨y, H2, I2, r2, q2⟩ => ?_)⟩
 obtain ⟨zb, rfl, hzb, q2⟩ := q2
 obtain ⟨u, rfl⟩ := r2
 have hz : (Str.empty ++ za ++ zb).length ≤ sizeLine := by rw [Str.empty_append, Str.length_append]; exact hzb
 refine ⟨hz, joinParts_nil ⟨.str (za ++ zb), H2, I2.tok _, ⟨_, by rw [Str.empty_append]⟩, q2⟩ hz⟩
theorem ps_tryN {body : List Stmt} {h₀ : ExceptHandler} {hs : List ExceptHandler} {t : TS} (hb : PSs X.nox body t) : PS X (.Try body (h₀ :: hs) [] [] pos) t := by
 intro pins s σ H D I h
 refine wpAny_Try_except (wpAny_mono (hb pins s σ H D (I.wish _) h) (fun f s1 q => ?_) fun _ _ z => False.elim z)
 have q' := q.unwish
 cases f with
 | next => exact wpAny_execs_nil q'
 | ret v => exact q'
 | brk => exact q'
 | cont => exact q'
end
end TX
namespace TX
open PySem
theorem dict_mapFields (f : Array Value → Array Value) (o : Obj) : (Obj.mapFields f o).dict = o.dict := by
 unfold Obj.mapFields
 split <;> rfl
def TrD (h base : Heap) (e : Addr) (cls cx fl : Value) (od : Option Addr) : Prop :=
 ∃ x fs T y ts, h.get? e = some x ∧ (x.cls = cls ∧ fs[2]? = some cx ∧ x.dict = od) ∧ x.data = .fields fs ∧ fs[1]? = some (.ref T) ∧ base.get? T = none ∧ T ≠ e ∧ h.get? T = some y ∧ y.data = .fields ts ∧ ts[3]? = some fl
def NoD (base : Heap) (l : List Env) (e : Addr) (cls cx fl : Value) (od : Option Addr) (h h' : Heap) : Prop := base.StaysIn h' ∧ h'.FunFrames base l ∧ TrD h' base e cls cx fl od ∧ h.UpToSlots h'
section
variable {M : Model} {A : Around} {E : Value → Shared → Prop} {s : Shared}
theorem entryD {base : Heap} {env : Env} {outer : List Env} {L e : Addr} {x : Obj} {fs : Array Value} {head cx : Value} {more : Bool} {Q : Unit → Shared → Prop}
  (fr : A.frames = some (env :: outer)) (ff : s.heap.FunFrames base (env :: outer)) (lf : env.frame = some L) (ge : s.heap.get? e = some x) (kb : base.StaysIn s.heap) (ne : base.get? e = none) (dx : x.data = .fields fs) (sz : 1 < fs.size) (a : fs[2]? = some cx)
  (q : ∀ h', NoD base (env :: outer) e x.cls cx (rawInt L) x.dict s.heap h' → Q () { s with heap := h' }) :
  wpAny M A (do let u ← frameOf env; let p ← entryPlaceOf L more; let v ← EntryCells.newEntry head u .none (rawInt L) .none p; setField (.ref e) 1 v) Q E s := by
 have out : e ∉ (env :: outer).filterMap (·.frame) := fun z => by
  obtain ⟨_, o, go, nf⟩ := ff.mem z
  rw [ge] at go; cases go; exact nf fs dx
 refine wpAny_bind (wpAny_frameOf_fun fr ff lf fun g kg => wpAny_bind (wpAny_entryPlaceOf fun p hp => ?_))
 unfold EntryCells.newEntry newFields
 refine wpAny_bind (wpAny_newObj_type ?_ (hp.sizeOk5 _ _ _ _ _))
 have ge1 : g.get? e = some x := (kg.2.1 e out).trans ge
 have kb1 : base.StaysIn g := fun b o z => (kg.2.1 b fun y => by rw [(ff.mem y).1] at z; cases z).trans (kb b o z)
 generalize hN : ({ cls := .type "traceback", dict := none, data := .fields ([head, .ref L, .none, rawInt L, .none] ++ (if p.isEmpty then List.replicate 6 Value.none else p)).toArray } : Obj) = N
 have hNd : N.data = .fields ([head, .ref L, .none, rawInt L, .none] ++ (if p.isEmpty then List.replicate 6 Value.none else p)).toArray := by rw [← hN]
 have hNf : N.isFreed = false := Obj.isFreed_of_fields hNd
 have ge2 := Heap.get?_push_of_some (h := g) N ge1
 refine wpAny_setField ge2 dx sz (q _ ?_)
 have nT : g.objs.size ≠ e := Nat.ne_of_gt (Heap.lt_size ge1)
 have d3 := Obj.data_mapFields dx (·.setIfInBounds 1 (Value.ref g.objs.size))
 have ge3 := Heap.get?_update_self (Obj.mapFields (·.setIfInBounds 1 (Value.ref g.objs.size))) ge2 (Obj.isFreed_of_fields d3)
 have gT := (Heap.get?_update_other (g.push N) (Obj.mapFields (·.setIfInBounds 1 (Value.ref g.objs.size))) (Ne.symm nT)).trans (Heap.get?_push_size g hNf)
 have stay : ∀ b o, b ≠ e → g.get? b = some o → ((g.push N).update e (Obj.mapFields (·.setIfInBounds 1 (Value.ref g.objs.size)))).get? b = some o := fun b o z y =>
  (Heap.get?_update_other _ _ (Ne.symm z)).trans (Heap.get?_push_of_some _ y)
 have rcd : ∀ b o, s.heap.get? b = some o → (∀ vs, o.data ≠ .fields vs) → b ≠ e := fun b o z nf y => by
  rw [y, ge] at z; cases z; exact nf fs dx
 refine ⟨fun b o z => stay b o (fun y => by rw [y, ne] at z; cases z) (kb1 b o z), ff.of_keeps fun b o z nf => ?_, ?_, fun b o z nf => ?_⟩
 ·obtain ⟨sl, y⟩ := kg.2.2 b o z
  exact ⟨_, stay b _ (rcd b o z nf) y, rfl⟩
 ·refine ⟨_, _, g.objs.size, _, _, ge3, ⟨Obj.cls_mapFields _ _, (Array.getElem?_setIfInBounds_ne (by decide)).trans a, dict_mapFields _ _⟩, d3, by simp [sz], kb1.fresh, nT, gT, hNd, ?_⟩
  first | (simp; done) | (rcases hp with rfl | ⟨_, _, _, _, _, _, _, rfl⟩ <;> simp)
 ·obtain ⟨sl, y⟩ := kg.2.2 b o z
  exact ⟨sl, stay b _ (rcd b o z nf) y⟩
theorem noteFirstD {base : Heap} {env : Env} {outer : List Env} {L e : Addr} {x : Obj} {fs : Array Value} {cx : Value} {Q : Unit → Shared → Prop}
  (fr : A.frames = some (env :: outer)) (ff : s.heap.FunFrames base (env :: outer)) (lf : env.frame = some L) (ge : s.heap.get? e = some x) (kb : base.StaysIn s.heap) (ne : base.get? e = none) (dx : x.data = .fields fs) (a1 : fs[1]? = some .none) (a : fs[2]? = some cx)
  (q : ∀ h', NoD base (env :: outer) e x.cls cx (rawInt L) x.dict s.heap h' → Q () { s with heap := h' }) : wpAny M A (noteFrame (.ref e) env) Q E s := by
 unfold noteFrame
 simp only [lf]
 refine wpAny_bind (wpAny_field ge dx a1 ?_)
 rw [if_neg (by decide)]
 exact entryD fr ff lf ge kb ne dx (Array.getElem?_eq_some_iff.mp a1).1 a q
theorem noteOnD {base : Heap} {env : Env} {outer : List Env} {L e : Addr} {cls cx : Value} {od : Option Addr} {Q : Unit → Shared → Prop}
  (fr : A.frames = some (env :: outer)) (ff : s.heap.FunFrames base (env :: outer)) (lf : env.frame = some L) (tr : TrD s.heap base e cls cx .none od) (kb : base.StaysIn s.heap) (ne : base.get? e = none)
  (q : ∀ h', NoD base (env :: outer) e cls cx (rawInt L) od s.heap h' → Q () { s with heap := h' }) : wpAny M A (noteFrame (.ref e) env) Q E s := by
 obtain ⟨x, fs, T, y, ts, ge, ⟨rfl, a, rfl⟩, dx, a1, nT, Te, gT, dT, a3⟩ := tr
 unfold noteFrame
 simp only [lf]
 refine wpAny_bind (wpAny_field ge dx a1 ?_)
 rw [if_pos (show (Value.ref T != Value.none) = true from by simp)]
 refine wpAny_bind (wpAny_field gT dT a3 ?_)
 rw [if_neg (show ¬ ((Value.none == rawInt L) = true) from by simp [rawInt])]
 refine wpAny_bind (wpAny_setField gT dT (Array.getElem?_eq_some_iff.mp a3).1 ?_)
 have oth : ∀ b, b ≠ T → (s.heap.update T (Obj.mapFields (·.setIfInBounds 3 Value.none))).get? b = s.heap.get? b := fun b z => Heap.get?_update_other _ _ (Ne.symm z)
 have rcd : ∀ b o, s.heap.get? b = some o → (∀ vs, o.data ≠ .fields vs) → b ≠ T := fun b o z nf y => by
  rw [y, gT] at z; cases z; exact nf ts dT
 refine entryD fr (ff.of_keeps fun b o z nf => ⟨o, (oth b (rcd b o z nf)).trans z, rfl⟩) lf ((oth e (Ne.symm Te)).trans ge) (fun b o z => (oth b fun y => by rw [y, nT] at z; cases z).trans (kb b o z)) ne dx (Array.getElem?_eq_some_iff.mp a1).1 a fun h' k => ?_
 exact q h' ⟨k.1, k.2.1, k.2.2.1, fun b o z nf => k.2.2.2 b o ((oth b (rcd b o z nf)).trans z) nf⟩
theorem setFlightD {base : Heap} {l : List Env} {e : Addr} {cls cx fl : Value} {od : Option Addr} {Q : Unit → Shared → Prop} (kb : base.StaysIn s.heap) (ff : s.heap.FunFrames base l) (tr : TrD s.heap base e cls cx fl od)
  (q : ∀ h', NoD base l e cls cx .none od s.heap h' → Q () { s with heap := h' }) : wpAny M A (setFlight (.ref e) none) Q E s := by
 obtain ⟨x, fs, T, y, ts, ge, c, dx, a1, nT, Te, gT, dT, a3⟩ := tr
 have z3 : 3 < ts.size := (Array.getElem?_eq_some_iff.mp a3).1
 have oth : ∀ b, b ≠ T → (s.heap.update T (Obj.mapFields (·.setIfInBounds 3 ((none : Option Addr).elim Value.none fun f => rawInt f)))).get? b = s.heap.get? b := fun b z => Heap.get?_update_other _ _ (Ne.symm z)
 have rcd : ∀ b o, s.heap.get? b = some o → (∀ vs, o.data ≠ .fields vs) → b ≠ T := fun b o z nf y => by
  rw [y, gT] at z; cases z; exact nf ts dT
 unfold setFlight
 refine wpAny_bind (wpAny_field ge dx a1 ?_)
 rw [if_pos (show (Value.ref T != Value.none) = true from by simp)]
 refine wpAny_setField gT dT z3 (q _ ⟨fun b o z => (oth b fun y => by rw [y, nT] at z; cases z).trans (kb b o z), ff.of_keeps fun b o z nf => ⟨o, (oth b (rcd b o z nf)).trans z, rfl⟩, ?_, fun b o z nf => ⟨o.slots, (oth b (rcd b o z nf)).trans z⟩⟩)
 exact ⟨x, fs, T, _, _, (oth e (Ne.symm Te)).trans ge, c, dx, a1, nT, Te, Heap.get?_update_self _ gT (Obj.isFreed_of_fields (Obj.data_mapFields dT _)), Obj.data_mapFields dT _, by simp [z3]⟩
theorem noD_trans {base h h1 h2 : Heap} {l : List Env} {e : Addr} {cls cx f1 f2 : Value} {od : Option Addr} (x : NoD base l e cls cx f1 od h h1) (y : NoD base l e cls cx f2 od h1 h2) : NoD base l e cls cx f2 od h h2 := ⟨y.1, y.2.1, y.2.2.1, x.2.2.2.trans y.2.2.2⟩
theorem leaveFirstD {base : Heap} {env : Env} {outer : List Env} {L e : Addr} {x : Obj} {fs : Array Value} {cx : Value} {Q : Unit → Shared → Prop}
  (fr : A.frames = some (env :: outer)) (ff : s.heap.FunFrames base (env :: outer)) (lf : env.frame = some L) (ge : s.heap.get? e = some x) (kb : base.StaysIn s.heap) (ne : base.get? e = none) (dx : x.data = .fields fs) (a1 : fs[1]? = some .none) (a : fs[2]? = some cx)
  (q : ∀ h', NoD base (env :: outer) e x.cls cx .none x.dict s.heap h' → Q () { s with heap := h' }) : wpAny M A (leaving env (.ref e)) Q E s := by
 unfold leaving
 exact wpAny_bind (noteFirstD fr ff lf ge kb ne dx a1 a fun h' k => setFlightD k.1 k.2.1 k.2.2.1 fun h2 k2 => q h2 (noD_trans k k2))
theorem leaveOnD {base : Heap} {env : Env} {outer : List Env} {L e : Addr} {cls cx : Value} {od : Option Addr} {Q : Unit → Shared → Prop}
  (fr : A.frames = some (env :: outer)) (ff : s.heap.FunFrames base (env :: outer)) (lf : env.frame = some L) (tr : TrD s.heap base e cls cx .none od) (kb : base.StaysIn s.heap) (ne : base.get? e = none)
  (q : ∀ h', NoD base (env :: outer) e cls cx .none od s.heap h' → Q () { s with heap := h' }) : wpAny M A (leaving env (.ref e)) Q E s := by
 unfold leaving
 exact wpAny_bind (noteOnD fr ff lf tr kb ne fun h' k => setFlightD k.1 k.2.1 k.2.2.1 fun h2 k2 => q h2 (noD_trans k k2))
end
end TX
namespace TX
open PySem
theorem entry_unchain : entryFor table "proto.unchain" = some Builtin.«proto.unchain» := entryFor_of_tree (by kernel_rfl)
def Chn (e : Addr) (pl : List (Addr × Obj)) : Prop := (∃ o fs, pl = [(e, o)] ∧ o.data = .fields fs ∧ fs[2]? = some .none) ∨
 ∃ o fs c u gs, pl = [(e, o), (c, u)] ∧ o.data = .fields fs ∧ fs[2]? = some (.ref c) ∧ c ≠ e ∧ u.data = .fields gs ∧ gs[2]? = some .none
theorem Chn.mem {e : Addr} {pl : List (Addr × Obj)} (x : Chn e pl) : ∃ o, (e, o) ∈ pl := by
 rcases x with ⟨o, _, rfl, _⟩ | ⟨o, _, c, u, _, rfl, _⟩
 ·exact ⟨o, List.mem_cons_self⟩
 ·exact ⟨o, List.mem_cons_self⟩
section
variable {prog : Program} {w : World} {A : Around} {E : Value → Shared → Prop} {s : Shared}
theorem unchain_end {a c v : Addr} {b : Bool} {u : Obj} {gs : Array Value} {R : Result → Shared → Prop} (h1 : s.heap.get? c = some u) (h2 : u.data = .fields gs) (h3 : gs[2]? = some .none) (q : R (.ok (.ret .none)) s) :
  codeAny (model prog w) A (.builtin "proto.unchain" ⟨[.ref a, .ref c, .ref v, .bool b], []⟩) R s := by
 refine codeAny_builtin entry_unchain ?_
 unfold Builtin.«proto.unchain»
 dsimp only
 refine wpAny_bind (wpAny_field h1 h2 h3 ?_)
 rw [if_pos (by decide)]
 exact wpAny_pure q
theorem unchain_ok {a e : Addr} {pl : List (Addr × Obj)} {R : Result → Shared → Prop} (x : Chn e pl) (k : ∀ p ∈ pl, s.heap.get? p.1 = some p.2 ∧ p.1 ≠ a) (q : R (.ok (.ret .none)) s) :
  codeAny (model prog w) A (.builtin "proto.unchain" ⟨[.ref a, .ref e, .ref e, .bool false], []⟩) R s := by
 rcases x with ⟨o, fs, rfl, h2, h3⟩ | ⟨o, fs, c, u, gs, rfl, h2, h3, h4, h6, h7⟩
 ·exact unchain_end (k _ List.mem_cons_self).1 h2 h3 q
 ·have k2 := k (c, u) (by simp)
  refine codeAny_builtin entry_unchain ?_
  unfold Builtin.«proto.unchain»
  dsimp only
  refine wpAny_bind (wpAny_field (k _ List.mem_cons_self).1 h2 h3 ?_)
  rw [if_neg (by simp), if_neg (by simpa using k2.2), if_neg (by simpa using h4)]
  refine wpAny_bind (wpAny_pure ?_)
  exact wpAny_pure ⟨Code.quiet_builtin _ (by decide +kernel), unchain_end k2.1 h6 h7 q⟩
theorem raiseNew_some {α : Type} {a e : Addr} {pl : List (Addr × Obj)} {o : Obj} {vs : Array Value} {Q : α → Shared → Prop} (hh : A.handled = some (.ref e)) (x : Chn e pl) (k : ∀ p ∈ pl, s.heap.get? p.1 = some p.2 ∧ p.1 ≠ a)
  (ga : s.heap.get? a = some o) (d : o.data = .fields vs) (sz : 2 < vs.size) (q : E (.ref a) { s with heap := s.heap.update a (Obj.mapFields (·.setIfInBounds 2 (.ref e))) }) : wpAny (model prog w) A (raiseNew (.ref a) : Sem α) Q E s := by
 have hea : e ≠ a := by obtain ⟨o, h⟩ := x.mem; exact (k _ h).2
 unfold raiseNew
 refine wpAny_bind (wpAny_handled ?_)
 rw [hh]
 dsimp only
 rw [if_pos (by simpa using hea)]
 refine wpAny_bind (wpAny_holding (wpAny_runValue (unchain_ok x k ?_)))
 show wpAny (model prog w) A (setField (.ref a) 2 (.ref e) >>= fun _ => throw (Value.ref a)) Q E s
 exact wpAny_bind (wpAny_setField ga d sz (wpAny_throw q))
theorem list_endH {it l e : Addr} {i : Nat} {items : Array Value} {pl : List (Addr × Obj)} {Q : Option Value → Shared → Prop} (hh : A.handled = some (.ref e)) (x : Chn e pl) (k : ∀ p ∈ pl, s.heap.get? p.1 = some p.2 ∧ p.1 ≠ it)
  (ti : s.heap.IsListIter it l i) (tl : s.heap.IsList l items) (hx : items[i]? = none) (q : ∀ h', Heap.ExtBut it s.heap h' → Q none { s with heap := h' }) : wpAny (model prog w) A (pyNext (.ref it)) Q E s := by
 obtain ⟨o, ho, hc, hd⟩ := id ti
 obtain ⟨ol, hol, _, nl, hdl⟩ := tl
 unfold pyNext
 refine wpAny_bind (wpAny_attempt (wpAny_callSpecial?_slot (name := Str.ofString "__next__") ti.typeIs slot_listiter_next (wpAny_call_entry slot_listiter_next ti.typeIs entry_listiter_next ?_ (args_listiter_next _))))
 show wpAny _ _ (field (.ref it) 0 >>= _) _ _ _
 refine wpAny_bind (wpAny_field ho hd (x := .ref l) rfl ?_)
 show wpAny _ _ (if (Value.ref l == Value.none) = true then _ else _) _ _ _
 rw [if_neg (by simp)]
 show wpAny _ _ (field (.ref it) 1 >>= _) _ _ _
 refine wpAny_bind (wpAny_field ho hd (x := .int i 0) rfl ?_)
 show wpAny _ _ (seqItems? (.ref l) >>= _) _ _ _
 refine wpAny_bind (wpAny_seqItems hol hdl ?_)
 simp only [Int.toNat_natCast, hx]
 refine wpAny_bind (wpAny_rule (wpAny_bind (wpAny_setField ho hd (by simp) (wpAny_bind ?_))))
 simp only [newExc, newTuple]
 refine wpAny_bind (wpAny_newObj_type ?_ (by size_fits))
 refine wpAny_bind (m := firstArgMember _ _) (wpAny_of_eq (a := Value.none) (by first | rfl | (simp only [firstArgMember]; rfl)) (wpAny_newObj_type ?_ (by size_fits)))
 have kk : ∀ b o, b ≠ it → s.heap.get? b = some o → (s.heap.update it (Obj.mapFields (·.setIfInBounds 0 Value.none))).get? b = some o := fun b o n z => (Heap.get?_update_other _ _ (Ne.symm n)).trans z
 generalize s.heap.update it (Obj.mapFields (·.setIfInBounds 0 Value.none)) = g at kk ⊢
 dsimp only
 have gX := Heap.get?_push_size (g.push { cls := Value.type "tuple", data := Data.seq #[] }) (o := { cls := Value.type "StopIteration", data := Data.fields (#[Value.ref g.objs.size, Value.none, Value.none, Value.none, Value.bool false, Value.none] ++ ownMembersOf (Value.type "StopIteration") []) }) rfl
 have old : ∀ b o, b ≠ it → s.heap.get? b = some o → (g.push { cls := Value.type "tuple", data := Data.seq #[] }).get? b = some o := fun b o n z => Heap.get?_push_of_some _ (kk b o n z)
 refine raiseNew_some (A := A.in1) hh x (fun p hp => ⟨Heap.get?_push_of_some _ (old _ _ (k p hp).2 (k p hp).1), Nat.ne_of_lt (Heap.lt_size (old _ _ (k p hp).2 (k p hp).1))⟩) gX rfl (by simp [ownMembersOf]) ?_
 refine wpAny_bind (wpAny_isInstance (T := "StopIteration") (b := true) ⟨_, Heap.get?_update_self _ gX rfl, Obj.cls_mapFields _ _⟩ isSubtype_stop ?_)
 refine wpAny_pure (q _ fun b o n z => ?_)
 exact (Heap.get?_update_other _ _ (Nat.ne_of_gt (Heap.lt_size (old b o n z)))).trans (Heap.get?_push_of_some _ (old b o n z))
theorem walks_listH (I ax e : Addr) (pl : List (Addr × Obj)) (hh : A.handled = some (.ref e)) (x : Chn e pl) (np : ∀ p ∈ pl, p.1 ≠ I) (hne : ax ≠ I) (items : Array Value) :
  Walks prog w A I ([I, ax] ++ pl.map (·.1)) [I] items.size (fun i v => items[i]? = some v) (fun i h => h.IsListIter I ax i ∧ h.IsList ax items ∧ ∀ p ∈ pl, h.get? p.1 = some p.2) where
 sub := fun b hb => by simp at hb; simp [hb]
 frame := fun _ _ _ st hk => ⟨st.1.at fun o e => hk I (by simp) o e, st.2.1.at fun o e => hk ax (by simp) o e, fun p hp => hk p.1 (List.mem_append_right _ (List.mem_map.mpr ⟨p, hp, rfl⟩)) _ (st.2.2 p hp)⟩
 item := fun i s Q E hi st hQ => by
  refine wpAny_pyNext_list_item st.1 st.2.1 (x := items[i]) (by simp [hi]) fun h' z y => hQ _ h' s.toks (by simp [hi]) ⟨z, st.2.1.extBut y.extBut hne, fun p hp => y.extBut _ _ (np p hp) (st.2.2 p hp)⟩ fun b o hb u => y.extBut b o (fun v => hb (by simp [v])) u
 done := fun s Q E st hQ => list_endH hh x (fun p hp => ⟨st.2.2 p hp, np p hp⟩) st.1 st.2.1 (by simp) fun h' y => hQ h' s.toks fun b o hb u => y b o (fun v => hb (by simp [v])) u
 self := fun _ _ _ _ st hQ => wpAny_pyIter_listiter st.1 hQ
end
end TX
namespace TX
open PySem PySem.Spec PyProof.Rows L2
theorem ObjOk.has {P : Program} {w : World} {H : Hp} {h : Heap} {a : Addr} {o : HO} (x : ObjOk P w H h a o) : ∃ u, h.get? a = some u := by
 cases o with
 | lst xs => obtain ⟨_, _, _, _, e⟩ := x; exact ⟨_, e⟩
 | tup xs => obtain ⟨_, _, _, u, e, _⟩ := x; exact ⟨u, e⟩
 | dK kvs => obtain ⟨_, _, _, _, o, _, _, e, _⟩ := x; exact ⟨o, e⟩
 | dT kvs => obtain ⟨_, _, _, _, o, _, _, e, _⟩ := x; exact ⟨o, e⟩
 | set S n => obtain ⟨o, _, _, _, e, _⟩ := x; exact ⟨o, e⟩
 | ins C dx fs => obtain ⟨_, _, _, e, _⟩ := x; exact ⟨_, e⟩
 | own y => exact x
 | xd fs => obtain ⟨_, ⟨o, _, _, e, _⟩, _⟩ := x; exact ⟨o, e⟩
 | met f y => exact ⟨_, x⟩
 | rng lo hi => obtain ⟨_, _, _, e⟩ := x; exact ⟨_, e⟩
 | frz o u => exact ⟨_, x.1⟩
 | tbl ps => exact ⟨_, x⟩
 | ext φ => exact x.2.1
theorem HOk.none {P : Program} {w : World} {H : Hp} {h : Heap} {a : Addr} (x : HOk P w H h) (e : h.get? a = none) : H a = none := by
 cases q : H a with
 | none => rfl
 | some o => obtain ⟨u, z⟩ := ObjOk.has (x a o q); rw [e] at z; cases z
def ctxO (c : Addr) : HO := .ext fun h => ∃ o fs, h.get? c = some o ∧ o.data = .fields fs ∧ fs[2]? = some .none
def CtxOk (lo : Bool) (H : Hp) (cx : Value) : Prop := cx = .none ∨ (lo = true ∧ ∃ c, cx = .ref c ∧ H c = some (ctxO c))
def Fly (lo : Bool) (H : Hp) (h₀ h : Heap) (C e : Addr) (od : Option Addr) : Prop := ∃ (cx : Value) (oe : Obj) (vs : Array Value) (T : Addr) (oT : Obj) (ts : Array Value), h.get? e = some oe ∧ (oe.cls = .ref C ∧ vs[2]? = some cx ∧ oe.dict = od) ∧ oe.data = .fields vs ∧ vs[1]? = some (.ref T) ∧ T ≠ e ∧
 h.get? T = some oT ∧ oT.data = .fields ts ∧ ts[3]? = some .none ∧ H e = none ∧ H T = none ∧ h₀.get? e = none ∧ h₀.get? T = none ∧ CtxOk lo H cx
def CXb (lo : Bool) (P : Program) (w : World) (C : Addr) : CXT := fun outer H s E ev s' => ∃ (e : Addr) (H' : Hp) (od : Option Addr), ev = .ref e ∧ s'.os = s.os ∧ AllBare s'.gens ∧ Un (frs outer) [] H H' s.heap s'.heap ∧ HOk P w H' s'.heap ∧ Fly lo H' s.heap s'.heap C e od ∧ E (.ref C) od H'
structure Kp (fs ex : List Addr) (h h' : Heap) : Prop where
 keep : ∀ b o, h.get? b = some o → b ∉ fs → b ∉ ex → h'.get? b = some o
 slot : ∀ b o, h.get? b = some o → b ∈ fs → ∃ sl, h'.get? b = some { o with slots := sl }
theorem Kp.of {fs ex : List Addr} {h h' : Heap} (k : (PySem.W.hideAll h (ex ++ fs)).StaysIn h') (u : ∀ b o, h.get? b = some o → b ∈ fs → ∃ sl, h'.get? b = some { o with slots := sl }) : Kp fs ex h h' :=
 ⟨fun b o e n1 n2 => k b o (PySem.W.hideAll_get _ e fun z => (List.mem_append.mp z).elim n2 n1), u⟩
theorem Kp.hok {P : Program} {w : World} {H : Hp} {fs ex : List Addr} {h h' : Heap} (k : Kp fs ex h h') (x : HOk P w H h) (hf : ∀ b ∈ fs, H b = none) (he : ∀ b ∈ ex, H b = none) : HOk P w H h' := fun a o e => by
 refine (x a o e).stay (fun c v hc q => k.keep c v q ?_ ?_) (fun _ q => q) fun _ _ q => q
 ·intro z
  rcases hc with rfl | hc
  ·rw [hf _ z] at e; cases e
  ·rw [hf _ z] at hc; cases hc
 ·intro z
  rcases hc with rfl | hc
  ·rw [he _ z] at e; cases e
  ·rw [he _ z] at hc; cases hc
theorem Kp.un {H H' : Hp} {fs ex : List Addr} {h₀ h h' : Heap} (k : Kp fs ex h h') (u : Un fs [] H H' h₀ h) (he : ∀ b ∈ ex, h₀.get? b = none) : Un fs [] H H' h₀ h' := by
 have nex : ∀ b o, h₀.get? b = some o → b ∉ ex := fun b o q z => by rw [he b z] at q; cases q
 have nil : ∀ b : Addr, b ∉ ([] : List Addr) := fun b z => absurd z (by simp)
 refine ⟨fun b o q n hb _ => k.keep b o (u.keep b o q n hb (nil b)) hb (nex b o q), fun b o q n hb _ => ?_, fun b o q n hx => u.free b o q n hx, fun b o q _ => ?_, u.tups, u.frzs, u.tbls⟩
 ·obtain ⟨sl, e⟩ := u.slot b o q n hb (nil b)
  obtain ⟨sl', e'⟩ := k.slot b _ e hb
  exact ⟨sl', e'⟩
 ·obtain ⟨o', e⟩ := u.there b o q (nil b)
  by_cases hb : b ∈ fs
  ·obtain ⟨sl, e'⟩ := k.slot b o' e hb
   exact ⟨_, e'⟩
  ·exact ⟨o', k.keep b o' e hb (nex b o q)⟩
section
variable {X : Cx} {pins : List (Addr × Obj)} {σ : L2.St} {H H' : Hp} {s s' : Shared} {C e : Addr} {lo : Bool}
theorem frames_kept {base h h' : Heap} {l : List Env} (f : h.FunFrames base l) (u : h.UpToSlots h') : ∀ b o, h.get? b = some o → b ∈ frs l → ∃ sl, h'.get? b = some { o with slots := sl } := fun b o q hb => by
 obtain ⟨_, o', ho, hn⟩ := f.mem hb
 rw [q] at ho; cases ho
 exact u b o q hn
theorem fly_of {B h h' h₀ : Heap} {ex : List Addr} {l : List Env} (hB : B = PySem.W.hideAll h (ex ++ frs l)) (f : h'.FunFrames B l) {cx : Value} {od : Option Addr} (t : TrD h' B e (.ref C) cx .none od) (hcx : CtxOk lo H cx) (he : H e = none) (hex : ∀ b ∈ ex, H b = none ∧ h₀.get? b = none)
  (e0 : h₀.get? e = none) (hn : ∀ b, h.get? b = none → H b = none) (h0 : ∀ b o, h₀.get? b = some o → ∃ o', h.get? b = some o') : Fly lo H h₀ h' C e od := by
 obtain ⟨oe, vs, T, oT, ts, g1, g2, g3, g4, g5, g6, g7, g8, g9⟩ := t
 have hT : ∀ o, h.get? T = some o → T ∈ ex := fun o q => by
  rw [hB] at g5
  refine Classical.byContradiction fun nx => ?_
  by_cases hb : T ∈ frs l
  ·obtain ⟨_, o', ho, hnf⟩ := f.mem hb
   rw [g7] at ho; cases ho
   exact hnf ts g8
  ·rw [PySem.W.hideAll_get _ q fun z => (List.mem_append.mp z).elim nx hb] at g5
   cases g5
 have hTH : H T = none ∧ h₀.get? T = none := by
  cases q : h.get? T with
  | some o => exact hex T (hT o q)
  | none =>
   refine ⟨hn T q, ?_⟩
   cases z : h₀.get? T with
   | none => rfl
   | some o => obtain ⟨o', z'⟩ := h0 T o z; rw [q] at z'; cases z'
 exact ⟨cx, oe, vs, T, oT, ts, g1, g2, g3, g4, g6, g7, g8, g9, he, hTH.1, e0, hTH.2, hcx⟩
theorem Inv.after0 (I : Inv X pins σ H s) (ho : s'.os = s.os) (u : Un (frs X.stack) [] H H' s.heap s'.heap) (hok : HOk X.prog X.w H' s'.heap) (hg : AllBare s'.gens) : Inv X pins σ H' s' :=
 I.call' ho u hok hg fun b z => absurd z (by simp)
end
section
variable {P : Program} {w : World} {K : PySem.W.Frag} {mg : Str → Option Value} {base : Heap} {N : List Str} {qual : Str} {scope : Scope} {f : Addr} {cd : Value} {A : Around} {outer : List Env} {s₀ : Shared} {H₀ : Hp} {E : XK} {C : Addr} {lo : Bool}
abbrev cxb (lo : Bool) (C : Addr) (P : Program) (w : World) (K : PySem.W.Frag) (mg : Str → Option Value) (base : Heap) (N : List Str) (qual : Str) (scope : Scope) (f : Addr) (cd : Value) (A : Around) (outer : List Env) (s : Shared) (H : Hp) (E : XK) : Cx :=
 cxOf (CXb lo P w C) P w K mg base N qual scope f cd A outer s H E
theorem there0 {pins : List (Addr × Obj)} {σ : L2.St} {H : Hp} {s : Shared} (I : Inv (cxb lo C P w K mg base N qual scope f cd A outer s₀ H₀ E) pins σ H s) : ∀ b o, s₀.heap.get? b = some o → ∃ o', s.heap.get? b = some o' := fun b o q =>
 I.base.there b o q fun z => absurd z (by simp [cxb, cxOf])
theorem neLoc {pins : List (Addr × Obj)} {σ : L2.St} {H : Hp} {s : Shared} (I : Inv (cxb lo C P w K mg base N qual scope f cd A outer s₀ H₀ E) pins σ H s) {b : Addr} {o : Obj} (q : s₀.heap.get? b = some o) : b ≠ (cxb lo C P w K mg base N qual scope f cd A outer s₀ H₀ E).env.locals :=
 Nat.ne_of_lt (Nat.lt_of_lt_of_le (Heap.lt_size q) I.ok.above)
theorem left {pins : List (Addr × Obj)} {σ : L2.St} {H : Hp} {s s'' : Shared} {ex : List Addr} {e : Addr} {od : Option Addr} {h1 : Heap} (I : Inv (cxb lo C P w K mg base N qual scope f cd A outer s₀ H₀ E) pins σ H s)
  (hos : s''.os = s.os) (hg : s''.gens = s.gens) (k1 : ∀ b o, s.heap.get? b = some o → b ∉ ex → h1.get? b = some o)
  (kb : (PySem.W.hideAll h1 (ex ++ frs (cxb lo C P w K mg base N qual scope f cd A outer s₀ H₀ E).stack)).StaysIn s''.heap) (us : h1.UpToSlots s''.heap) (hex : ∀ b ∈ ex, H b = none ∧ s₀.heap.get? b = none)
  (fl : Fly lo H s₀.heap s''.heap C e od) (hE : E (.ref C) od H) : CXb lo P w C outer H₀ s₀ E (.ref e) s'' := by
 have nil : ∀ b : Addr, b ∉ (cxb lo C P w K mg base N qual scope f cd A outer s₀ H₀ E).ex := fun b z => absurd (show b ∈ ([] : List Addr) from z) (by simp)
 have nex : ∀ b o, s₀.heap.get? b = some o → b ∉ ex := fun b o q z => by rw [(hex b z).2] at q; cases q
 have hin : ∀ b ∈ frs outer, b ∈ frs (cxb lo C P w K mg base N qual scope f cd A outer s₀ H₀ E).stack := fun b hb => by
  show b ∈ frs (_ :: outer)
  unfold frs at hb ⊢
  rw [List.filterMap_cons]
  split
  ·exact hb
  ·exact List.mem_cons_of_mem _ hb
 have keep : ∀ b o, s.heap.get? b = some o → b ∉ ex → b ∉ frs (cxb lo C P w K mg base N qual scope f cd A outer s₀ H₀ E).stack → s''.heap.get? b = some o := fun b o q n1 n2 =>
  kb b o (PySem.W.hideAll_get _ (k1 b o q n1) fun z => (List.mem_append.mp z).elim n1 n2)
 have nst : ∀ b o, s₀.heap.get? b = some o → b ∉ frs outer → b ∉ frs (cxb lo C P w K mg base N qual scope f cd A outer s₀ H₀ E).stack := fun b o q n z => by
  rcases List.mem_cons.mp (I.stkSub b z) with r | r
  ·exact neLoc I q r
  ·exact n r
 have fr : s.heap.FunFrames base outer := I.funs
 have frk : ∀ b o, s.heap.get? b = some o → b ∉ ex → b ∈ frs outer → ∃ sl, s''.heap.get? b = some { o with slots := sl } := fun b o q n hb => by
  obtain ⟨_, o', ho, hn⟩ := fr.mem hb
  rw [q] at ho; cases ho
  exact us b o (k1 b o q n) hn
 have un : Un (frs outer) [] H₀ H s₀.heap s''.heap := by
  refine ⟨fun b o q n hb _ => keep b o (I.base.keep b o q n hb (nil b)) (nex b o q) (nst b o q hb), fun b o q n hb _ => ?_, fun b o q n _ => I.base.free b o q n (nil b), fun b o q _ => ?_, I.base.tups, I.base.frzs, I.base.tbls⟩
  ·obtain ⟨sl, e1⟩ := I.base.slot b o q n hb (nil b)
   obtain ⟨sl', e2⟩ := frk b _ e1 (nex b o q) hb
   exact ⟨sl', e2⟩
  ·obtain ⟨o', e1⟩ := I.base.there b o q (nil b)
   by_cases hb : b ∈ frs outer
   ·obtain ⟨sl', e2⟩ := frk b _ e1 (nex b o q) hb
    exact ⟨_, e2⟩
   ·exact ⟨o', keep b o' e1 (nex b o q) (nst b o q hb)⟩
 refine ⟨e, H, od, rfl, hos.trans I.os, by rw [hg]; exact I.bare, un, fun a o q => ?_, fl, hE⟩
 refine (I.hok a o q).stay (fun c v hc r => keep c v r (fun z => ?_) fun z => ?_) (fun _ r => r) fun _ _ r => r
 ·have hz := (hex c z).1
  rcases hc with rfl | hc
  ·rw [hz] at q; cases q
  ·rw [hz] at hc; cases hc
 ·have hz := I.stkFree c z
  rcases hc with rfl | hc
  ·rw [hz] at q; cases q
  ·rw [hz] at hc; cases hc
theorem made_leaves {pins : List (Addr × Obj)} {σ : L2.St} {H : Hp} {s : Shared} {h' : Heap} {e : Addr} {vs : List Value} (I : Inv (cxb lo C P w K mg base N qual scope f cd A outer s₀ H₀ E) pins σ H s) (hx : Heap.MadeExcOf s.heap h' e (.ref C) vs) (hE : E (.ref C) none H) :
  (cxb lo C P w K mg base N qual scope f cd A outer s₀ H₀ E).xe (.ref e) { s with heap := h' } := by
 have hin : ∀ env ∈ (cxb lo C P w K mg base N qual scope f cd A outer s₀ H₀ E).stack, ∀ b, env.frame = some b → b ∈ [] ++ frs (cxb lo C P w K mg base N qual scope f cd A outer s₀ H₀ E).stack := fun env he b hb => List.mem_filterMap.mpr ⟨env, he, hb⟩
 have e0 : s₀.heap.get? e = none := by
  cases q : s₀.heap.get? e with
  | none => rfl
  | some o => obtain ⟨o', z⟩ := there0 I e o q; rw [hx.new] at z; cases z
 obtain ⟨tp, he, _, _⟩ := hx.there
 have ff := PySem.W.funFrames_hide I.stack hin
 have bn : (PySem.W.hideAll s.heap ([] ++ frs (cxb lo C P w K mg base N qual scope f cd A outer s₀ H₀ E).stack)).get? e = none := by
  cases q : (PySem.W.hideAll s.heap ([] ++ frs (cxb lo C P w K mg base N qual scope f cd A outer s₀ H₀ E).stack)).get? e with
  | none => rfl
  | some o => have z := PySem.W.of_hideAll _ q; rw [hx.new] at z; cases z
 refine leaveFirstD (s := { s with heap := h' }) (base := PySem.W.hideAll s.heap ([] ++ frs (cxb lo C P w K mg base N qual scope f cd A outer s₀ H₀ E).stack)) I.ok.frames (ff.of_keeps fun b o q _ => ⟨o, hx.keeps b o q, rfl⟩) rfl he (fun b o q => hx.keeps b o (PySem.W.of_hideAll _ q)) bn rfl rfl rfl fun h2 k => ?_
 have us : s.heap.UpToSlots h2 := (Heap.UpToSlots.of_keeps hx.keeps).trans k.2.2.2
 refine left (ex := []) (h1 := s.heap) I rfl rfl (fun b o q _ => q) k.1 us (fun b z => absurd z (by simp)) ?_ hE
 refine fly_of (h := s.heap) (ex := []) (l := (cxb lo C P w K mg base N qual scope f cd A outer s₀ H₀ E).stack) rfl ?_ k.2.2.1 (.inl rfl) (HOk.none I.hok hx.new) (fun b z => absurd z (by simp)) e0 (fun b q => HOk.none I.hok q) (there0 I)
 exact ff.of_keeps fun b o q hn => by
  obtain ⟨sl, z⟩ := us b o q hn
  exact ⟨_, z, rfl⟩
theorem passes1 : Passes (CXb lo P w C) (cxb lo C P w K mg base N qual scope f cd A outer s₀ H₀ E) E := by
 intro pins σ H s ev s' I hx
 obtain ⟨e, H', od, rfl, hos, hg, un, hok, ⟨cx, oe, vs, T, oT, ts, g1, g2, g3, g4, g5, g6, g7, g8, g9, g10, g11, g12, g13⟩, hE⟩ := hx
 have I' : Inv (cxb lo C P w K mg base N qual scope f cd A outer s₀ H₀ E) pins σ H' s' := Inv.after0 I hos un hok hg
 have hin : ∀ env ∈ (cxb lo C P w K mg base N qual scope f cd A outer s₀ H₀ E).stack, ∀ b, env.frame = some b → b ∈ [e, T] ++ frs (cxb lo C P w K mg base N qual scope f cd A outer s₀ H₀ E).stack := fun env he b hb => List.mem_append_right _ (List.mem_filterMap.mpr ⟨env, he, hb⟩)
 have old : ∀ b, s.heap.get? b = none → s₀.heap.get? b = none := fun b q => by
  cases z : s₀.heap.get? b with
  | none => rfl
  | some o => obtain ⟨o', z'⟩ := there0 I b o z; rw [q] at z'; cases z'
 have hex : ∀ b ∈ [e, T], H' b = none ∧ s₀.heap.get? b = none := fun b hb => by
  rcases List.mem_cons.mp hb with rfl | hb
  ·exact ⟨g9, old _ g11⟩
  ·obtain rfl := List.mem_singleton.mp hb
   exact ⟨g10, old _ g12⟩
 have ff := PySem.W.funFrames_hide I'.stack hin
 have tr : TrD s'.heap (PySem.W.hideAll s'.heap ([e, T] ++ frs (cxb lo C P w K mg base N qual scope f cd A outer s₀ H₀ E).stack)) e (.ref C) cx .none od := ⟨oe, vs, T, oT, ts, g1, g2, g3, g4, PySem.W.hideAll_none _ (by simp), g5, g6, g7, g8⟩
 refine leaveOnD I'.ok.frames ff rfl tr (fun b o q => PySem.W.of_hideAll _ q) (PySem.W.hideAll_none _ (by simp)) fun h2 k => ?_
 refine left (ex := [e, T]) (h1 := s'.heap) I' rfl rfl (fun b o q _ => q) k.1 k.2.2.2 hex ?_ hE
 refine fly_of (h := s'.heap) (ex := [e, T]) (l := (cxb lo C P w K mg base N qual scope f cd A outer s₀ H₀ E).stack) rfl ?_ k.2.2.1 g13 g9 hex (old _ g11) (fun b q => HOk.none hok q) (there0 I')
 exact ff.of_keeps fun b o q hn => by
  obtain ⟨sl, z⟩ := k.2.2.2 b o q hn
  exact ⟨_, z, rfl⟩
theorem exc_obj {h : Heap} {bmB : List Value} {newId : String} (kin : K.In h) (q : PySem.W.excIn K C bmB newId = true) :
  ∃ (bm : List Value) (Na : Addr) (nm qn : Str) (bs : List Value) (hdct : Bool) (sn : List Str) (sub : List Value) (ab : Bool) (col : Option Bool) (dd : Option Addr) (k0 k1 k2 k3 k5 : Option Value) (mN : Str → Option Value),
   h.get? C = some (excClassObj nm qn C Na bs bm hdct sn sub ab col dd k0 k1 k2 k3 k5 newId) ∧ h.Ns Na mN ∧ mN "__init__" = none ∧ OwnTail h bmB bm := by
 unfold PySem.W.excIn at q
 split at q
 case h_2 => cases q
 case h_1 dd cl sl look =>
  split at q
  case h_2 => cases q
  case h_1 C2 bm k0 k1 k2 k3 nid k5 mro slots =>
   rw [Bool.and_eq_true, Bool.and_eq_true, Bool.and_eq_true, Bool.and_eq_true, Bool.and_eq_true] at q
   obtain ⟨⟨⟨⟨⟨q1, q2⟩, q3⟩, q4⟩, q5⟩, q6⟩ := q
   have r1 : C2 = C := by simpa using q1
   have r2 : nid = newId := by simpa using q2
   have r6 : PySem.W.nsIn K cl.ns "__init__" = some none := by simpa using q6
   subst r1; subst r2
   have there := kin _ _ look
   have own := PySem.W.tail_of_in kin q4
   have ns : h.Ns cl.ns (h.nsMap cl.ns) := .of_isNs (PySem.W.isNs_of_in kin q5)
   have no := PySem.W.nsMap_none_of_in kin q5 r6
   cases cl
   have esl : sl = #[k0, k1, k2, k3, some (.builtin nid), k5] := Array.toList_inj.mp slots
   simp only [Bool.not_eq_true'] at q3
   simp only at mro q3 own ns no
   subst esl
   rw [mro, q3] at there
   exact ⟨bm, _, _, _, _, _, _, _, _, _, dd, k0, k1, k2, k3, k5, _, there, ns, no, own⟩
def tRaise (E : XK) (C : Addr) (ta : TE) : TS := fun _ σ H => ta σ H fun _ H1 => E (.ref C) none H1
theorem ps_raise {x : Str} {np cpos pos : Pos} {a : Expr} {ta : TE} {bmB bmN : List Value} {B Bn newId nid initId inN : String} (Fn : ExcBaseFacts Bn newId inN bmN) (hBn : bmB.contains (.type Bn) = true) (FB : ExcBaseFacts B nid initId bmB) (q : PySem.W.excIn K C bmB newId = true)
  (hg : Gl (cxb lo C P w K mg base N qual scope f cd A outer s₀ H₀ E) x) (hm : mg x = some (.ref C)) (ha : PE (cxb lo C P w K mg base N qual scope f cd A outer s₀ H₀ E) a ta) (hc : (cxb lo C P w K mg base N qual scope f cd A outer s₀ H₀ E).A.handled = none)
  (hd : (x == ("__debug__" : Str)) = false := by decide) (hs : starEach [a] (cxb lo C P w K mg base N qual scope f cd A outer s₀ H₀ E).env = [(false, eval a (cxb lo C P w K mg base N qual scope f cd A outer s₀ H₀ E).env)] := by rfl) :
  PS (cxb lo C P w K mg base N qual scope f cd A outer s₀ H₀ E) (.Raise (some (.Call (.Name x np) [a] [] cpos)) none pos) (tRaise E C ta) := by
 intro pins s σ H D I h
 obtain ⟨bm, Na, nm, qn, bs, hdct, sn, sub, ab, col, dd, k0, k1, k2, k3, k5, mN, hC, hN, hni, TL⟩ := exc_obj I.mod.kin q
 refine wpAny_Raise_call_subU (C := C) (nm := nm) (q := qn) (N := Na) (bs := bs) (bm := bm) (hdct := hdct) (sn := sn) (sub := sub) (ab := ab) (col := col) (dd := dd) (k0 := k0) (k1 := k1) (k2 := k2) (k3 := k3) (k5 := k5) Fn hBn FB (mN := mN) (TL.hasType FB.hasBase) hc (by rw [hs]; rfl) hni (ld_glob I hg hm ⟨rfl, ?_⟩ hd)
 rw [hs]
 refine Calls.evalArgs_plain (Calls.spliced_cons (thn (ha pins s σ H _ I h) fun v s1 ⟨y, H1, I1, r1, q1⟩ => Calls.spliced_nil ?_))
 exact ⟨rfl, (by show 1 ≤ sizeLine; decide), I1.bk _ _ hC, hN.keeps I1.bk, TL.keeps I1.bk, fun h' e hx => made_leaves I1 hx q1⟩
end
abbrev CX1 (P : Program) (w : World) (C : Addr) : CXT := CXb false P w C
abbrev cx1 (C : Addr) (P : Program) (w : World) (K : PySem.W.Frag) (mg : Str → Option Value) (base : Heap) (N : List Str) (qual : Str) (scope : Scope) (f : Addr) (cd : Value) (A : Around) (outer : List Env) (s : Shared) (H : Hp) (E : XK) : Cx := cxb false C P w K mg base N qual scope f cd A outer s H E
section
variable {X : Cx} {C : Addr} {lo : Bool}
abbrev cxT (lo : Bool) (X : Cx) (C : Addr) (pn : List (Addr × Obj)) (E : XK) : Cx := { X with pn := pn, xe := fun ev s' => ∃ (σ : L2.St) (H0 : Hp) (s1 : Shared), Inv { X with pn := pn } [] σ H0 s1 ∧ CXb lo X.prog X.w C X.stack H0 s1 E ev s' }
theorem ok_pn {X : Cx} (ok : X.Ok) (pn : List (Addr × Obj)) (xe : Value → Shared → Prop) : Cx.Ok { X with pn := pn, xe := xe } :=
 ⟨ok.mod, ok.kind, ok.glob, ok.blt, ok.above, ok.inj, ok.has, ok.cab, ok.hd, ok.frames, ok.stk, ok.exf, ok.bs, ok.bsz, ok.noex, ok.exfs, ok.funs, ok.frf⟩
theorem ok_unpn {X : Cx} {pn : List (Addr × Obj)} {xe : Value → Shared → Prop} (ok : Cx.Ok { X with pn := pn, xe := xe }) : X.Ok :=
 ⟨ok.mod, ok.kind, ok.glob, ok.blt, ok.above, ok.inj, ok.has, ok.cab, ok.hd, ok.frames, ok.stk, ok.exf, ok.bs, ok.bsz, ok.noex, ok.exfs, ok.funs, ok.frf⟩
theorem inv_pn {pins : List (Addr × Obj)} {σ : L2.St} {H : Hp} {s : Shared} (I : Inv X pins σ H s) (xe : Value → Shared → Prop) : Inv { X with pn := X.pn ++ pins, xe := xe } [] σ H s :=
 ⟨ok_pn I.ok _ _, I.os, I.bare, I.base, I.loc, I.cell, I.free, I.freeC, fun p hp => I.pin p (by rw [List.append_nil] at hp; exact hp), I.hok, I.len⟩
theorem inv_unpn {pins pins2 : List (Addr × Obj)} {σ : L2.St} {H : Hp} {s : Shared} {xe : Value → Shared → Prop} (I : Inv { X with pn := X.pn ++ pins, xe := xe } pins2 σ H s) : Inv X pins σ H s :=
 ⟨ok_unpn I.ok, I.os, I.bare, I.base, I.loc, I.cell, I.free, I.freeC, fun p hp => I.pin p (List.mem_append_left _ hp), I.hok, I.len⟩
theorem inv_drop {pins : List (Addr × Obj)} {σ : L2.St} {H : Hp} {s : Shared} {pn : List (Addr × Obj)} {xe xe' : Value → Shared → Prop} (I : Inv { X with pn := pn, xe := xe } pins σ H s) : Inv { X with pn := pn, xe := xe' } [] σ H s :=
 ⟨ok_pn (ok_unpn I.ok) _ _, I.os, I.bare, I.base, I.loc, I.cell, I.free, I.freeC, fun p hp => I.pin p (by rw [List.append_nil] at hp; exact List.mem_append_left _ hp), I.hok, I.len⟩
theorem pass2 {pn : List (Addr × Obj)} {E : XK} : Passes (CXb lo X.prog X.w C) (cxT lo X C pn E) E := fun pins σ H s e s' I hx => ⟨σ, H, s, inv_drop I, hx⟩
theorem sp_unpn {pins : List (Addr × Obj)} {D : Ends} {f : Flow} {s' : Shared} {xe : Value → Shared → Prop} (h : SP { X with pn := X.pn ++ pins, xe := xe } [] D f s') : SP X pins D f s' := by
 cases f with
 | next => obtain ⟨σ', H', I, q⟩ := h; exact ⟨σ', H', inv_unpn I, q⟩
 | brk => obtain ⟨σ', H', I, q⟩ := h; exact ⟨σ', H', inv_unpn I, q⟩
 | cont => obtain ⟨σ', H', I, q⟩ := h; exact ⟨σ', H', inv_unpn I, q⟩
 | ret u => obtain ⟨v, σ', H', I, r, q⟩ := h; exact ⟨v, σ', H', inv_unpn I, r, q⟩
def tTryF (tb : XK → TS) : TS := fun D σ H => tb (fun _ _ H' => D.rt (.bl false) H') D σ H
end
end TX
namespace TX
open PySem PySem.Spec PyProof.Rows L2
open PySem.W (Dat kqdP kqdPs kqdOk)
section
variable {X : Cx}
def rInD (K : PySem.W.Frag) : R2 := fun x y H Q => ∃ (d : Dat) (ds : List Dat), Dd K H x d ∧ Dd K H y (.list ds) ∧ kqdOk 8 d = true ∧ kqdOk 9 (.list ds) = true ∧ (d ∈ ds → Q (.bl true) H) ∧ (¬ d ∈ ds → Q (.bl false) H)
end
def pLt : List (Int × Int) → List (Int × Int) → Bool
 | [], [] => false
 | [], _ :: _ => true
 | _ :: _, [] => false
 | p :: ps, q :: qs => if p = q then pLt ps qs else HT.lexLt [p.1, p.2] [q.1, q.2]
def LtAt (A : Around) (s : Shared) (x y : Value) (b : Bool) : Prop := ∀ (prog : Program) (w : World) (E : Value → Shared → Prop) (Q : Value → Shared → Prop), Q (.bool b) s → wpAny (model prog w) A (richCompare .Lt x y) Q E s
def ltFrom (e lt : Nat → Bool) (n m : Nat) : Nat → Nat → Bool
 | 0, _ => decide (n < m)
 | k + 1, i => if e i = true then ltFrom e lt n m k (i + 1) else lt i
section
open PySem.SeqAt
open PySem.AutoSeq1 (wpAny_loadPart')
end
section
variable {prog : Program} {w : World} {A : Around} {E : Value → Shared → Prop} {s : Shared}
open PySem.SeqAt
end
end TX
namespace TQ
open PySem PySem.W PyProof.Rows
def Runs (b : Nat → Nat → Bool) (V : Nat → Prop) {α : Type} : KasT α → α → Prop
 | .ret a, c => a = c
 | .ask i j k, c => V i ∧ V j ∧ Runs b V (k (b i j)) c
section
variable {n : Nat} {r : Nat → Int}
structure Ord (n : Nat) (p : Array Nat) : Prop where
 size : p.size = n
 perm : p.toList.Perm (List.range n)
abbrev B (r : Nat → Int) : Nat → Nat → Bool := fun i j => decide (r i < r j)
abbrev V (n : Nat) : Nat → Prop := fun i => i < n
def Up (r : Nat → Int) (p : Array Nat) (m : Nat) : Prop := ∀ i j, i < j → j < m → r (p.getD i 0) < r (p.getD j 0)
def Dn (r : Nat → Int) (p : Array Nat) (m : Nat) : Prop := ∀ i j, i < j → j < m → r (p.getD j 0) < r (p.getD i 0)
variable (hr : ∀ i j, i < n → j < n → r i = r j → i = j)
include hr
end
end TQ
namespace TN
structure G (n : Nat) (r : Nat → Nat → Nat) (E : Nat → Nat → Bool) : Prop where
 lt : ∀ i j, E i j = true → i < n ∧ j < n
 irr : ∀ i, E i i = false
 sym : ∀ i j, E i j = E j i
 inj : ∀ i j k, E i j = true → E i k = true → r i j = r i k → j = k
def Btr (r : Nat → Nat → Nat) (i j k : Nat) : Prop := k = i ∨ r i j < r i k
structure Stb (n : Nat) (r : Nat → Nat → Nat) (E : Nat → Nat → Bool) (nx ls : Nat → Nat) : Prop where
 nlt : ∀ i, i < n → nx i < n
 llt : ∀ i, i < n → ls i < n
 nl : ∀ i, i < n → nx (ls i) = i
 ln : ∀ i, i < n → ls (nx i) = i
 acc : ∀ i, i < n → nx i ≠ i → E i (nx i) = true
 pref : ∀ i, i < n → nx i ≠ ls i → r i (nx i) < r i (ls i)
 stab : ∀ i j, E i j = true → ¬ (Btr r i j (ls i) ∧ Btr r j i (ls j))
def prs (n : Nat) : List (Nat × Nat) := (List.range n).flatMap fun i => (List.range n).map fun j => (i, j)
def cnt (n : Nat) (E : Nat → Nat → Bool) : Nat := (prs n).countP fun p => E p.1 p.2
def iter (f : Nat → Nat) : Nat → Nat → Nat
 | 0, x => x
 | k + 1, x => f (iter f k x)
end TN
namespace TN
section
variable {n : Nat} {r : Nat → Nat → Nat} {E : Nat → Nat → Bool}
def Fav (r : Nat → Nat → Nat) (E : Nat → Nat → Bool) (i j : Nat) : Prop := E i j = true ∧ ∀ z, E i z = true → r i j ≤ r i z
def Lst (r : Nat → Nat → Nat) (E : Nat → Nat → Bool) (i j : Nat) : Prop := E i j = true ∧ ∀ z, E i z = true → r i z ≤ r i j
def Sec (r : Nat → Nat → Nat) (E : Nat → Nat → Bool) (i j : Nat) : Prop := E i j = true ∧ ∃ f, Fav r E i f ∧ j ≠ f ∧ ∀ z, E i z = true → z ≠ f → r i j ≤ r i z
end
end TN
namespace TN
def Ring (nx : Nat → Nat) (ring : List Nat) : Prop := ring ≠ [] ∧ ∀ k, k < ring.length → nx (ring.getD k 0) = ring.getD (if k + 1 = ring.length then 0 else k + 1) 0
end TN
namespace TN
open TM
def cE (ls : Ls) (i j : Nat) : Bool := decide (i < ls.length) && (decide (j < ls.length) && would ls i j)
def cr (ls : Ls) (i j : Nat) : Nat := (lof ls (i : Int)).idxOf (j : Int)
def cast (l : List Nat) : List Int := l.map fun (k : Nat) => (k : Int)
section
variable {ls : Ls} {nx la : Nat → Nat} {rings : List (List Nat)}
end
end TN
namespace TN
open TM
def prOf : List Nat → Prs
 | a :: b :: l => ((a : Int), (b : Int)) :: prOf l
 | _ => []
section
variable {ls : Ls} {nx la : Nat → Nat} {rings : List (List Nat)}
end
def Ahead (ls : Ls) (ps qs : Prs) (i : Nat) : Prop := i < ls.length ∧ ∃ j : Int, mate ps (i : Int) = some j ∧ wr ls i j (mate qs i) = true
end TN
namespace TN
open TM
def pv' (n k : Nat) : Nat := if k = 0 then n - 1 else k - 1
def rpp (ring : List Int) (k : Nat) : Int := rp ring (pv' ring.length k)
def shareAll (ls : Ls) (ring : List Int) : Bool := (List.range ring.length).all fun k => would ls (rp ring k) (ra ring k)
def ratherAll (ls : Ls) (ring : List Int) : Bool := (List.range ring.length).all fun k => wr ls (rp ring k) (ra ring k) (some (rpp ring k))
def goodRing (ls : Ls) (ring : List Int) : Bool := decide (ring.length = 1) || (shareAll ls ring && (decide (ring.length = 2) || ratherAll ls ring))
def lstep (ring : List Int) (f : Int → Option Int) (k : Nat) : Int → Option Int := fun i => if i = ra ring k then (if 1 < ring.length then some (rp ring k) else none) else f i
def lastRF (ring : List Int) (f : Int → Option Int) (k : Nat) : Int → Option Int := (List.range k).foldl (lstep ring) f
def lastF (rings : List (List Int)) : Int → Option Int := rings.foldl (fun f ring => lastRF ring f ring.length) fun _ => none
def brkF (ls : Ls) (hv : Int → Option Int) (i j : Int) : Bool := would ls i j && (wr ls i j (hv i) && wr ls j i (hv j))
def breakers (ls : Ls) (hv : Int → Option Int) : Prs := rows (brkF ls hv) ls.length ls.length
def oddB (ring : List Int) : Bool := decide ((ring.length : Int) = 3) || decide ((ring.length : Int) = 5)
def areGood (ls : Ls) (rings : List (List Int)) : Bool := decide (isort rings.flatten = rng ls.length) && (rings.all (goodRing ls) && decide (breakers ls (lastF rings) = []))
def tellB (ls : Ls) (rings : List (List Int)) : Bool := rings.any oddB && areGood ls rings
end TN
namespace TN
open TM
abbrev Rs := List (List Int)
inductive Ext (ls : Ls) : Rs → Option (List Int) → List Int → Rs → Prop
 | done (c : Rs) : Ext ls c none [] c
 | begin_ {c : Rs} {x : Int} {f : List Int} {R : Rs} (h : Ext ls c (some [x]) f R) : Ext ls c none (x :: f) R
 | close {c : Rs} {r f : List Int} {R : Rs} (g : goodRing ls r = true) (h : Ext ls (c ++ [r]) none f R) : Ext ls c (some r) f R
 | more {c : Rs} {r f : List Int} {o : Int} {R : Rs} (m : o ∈ f) (g : would ls (r.getLastD 0) o = true) (h : Ext ls c (some (r ++ [o])) (f.filter fun x => decide (x ≠ o)) R) : Ext ls c (some r) f R
def Wf (n : Nat) (rings : Rs) : Prop := ∀ ring ∈ rings, ring ≠ [] ∧ ∀ x ∈ ring, 0 ≤ x ∧ x < (n : Int)
inductive Canon (nx : Nat → Nat) : List Nat → List (List Nat) → Prop
 | nil : Canon nx [] []
 | cons {x : Nat} {l o : List Nat} {rs : List (List Nat)} (hr : Ring nx (x :: o)) (hn : (x :: o).Nodup) (hs : ∀ y ∈ x :: o, y ∈ x :: l) (h : Canon nx ((x :: l).filter fun y => decide (¬ y ∈ x :: o)) rs) : Canon nx (x :: l) ((x :: o) :: rs)
end TN
namespace TN
open TM
def ways (ls : Ls) : Nat → List Int → List Prs
 | _, [] => [[]]
 | 0, _ :: _ => []
 | n + 1, x :: others => ways ls n others ++ others.flatMap fun m => if would ls x m = true then (ways ls n (others.filter fun c => decide (c ≠ m))).map fun ps => (x, m) :: ps else []
def wb : Nat → Nat
 | 0 => 1
 | 1 => 1
 | n + 2 => wb (n + 1) + (n + 1) * wb n
def Free (ls : Ls) (free : List Int) : Prop := free.Nodup ∧ ∀ x ∈ free, 0 ≤ x ∧ x < (ls.length : Int)
structure Mt (ls : Ls) (f : Int → Option Int) (free : List Int) : Prop where
 symm : ∀ i j, i ∈ free → f i = some j → f j = some i
 mem : ∀ i j, i ∈ free → f i = some j → j ∈ free
 wd : ∀ i j, i ∈ free → f i = some j → would ls i j = true
 ne : ∀ i j, i ∈ free → f i = some j → i ≠ j
def steadyWays (ls : Ls) : List Prs := (ways ls 6 (rng ls.length)).filter fun ps => decide (breaking ls ps = [])
end TN
namespace TN
open TM
def pb : Nat → Nat
 | 0 => 1
 | 1 => 1
 | n + 2 => max (pb (n + 1)) ((n + 1) * pb n)
end TN
namespace TX
open PySem PySem.Spec PyProof.Rows L2
def flatP (ps : List (Int × Int)) : List Int := ps.flatMap fun p => [p.1, p.2]
def rank (l : List (List (Int × Int))) (i : Nat) : Int := ((l.countP fun q => pLt q (l.getD i []) : Nat) : Int)
end TX
namespace TX
open PySem PySem.Spec PyProof.Rows L2
section
variable {prog : Program} {w : World} {A : Around} {E : Value → Shared → Prop} {s : Shared}
end
section
variable {X : Cx} {pins : List (Addr × Obj)} {σ : L2.St} {H : Hp} {s : Shared} {h' : Heap}
end
def RPL (H : Hp) (v : V) (ps : List (Int × Int)) : Prop := ∃ b, v = .ref b ∧ TK.PL H b ps
section
variable {X : Cx} {pins : List (Addr × Obj)} {σ : L2.St} {H : Hp} {s : Shared}
def rSortP : List V → Hp → VK → Prop := fun xs H Q => ∃ (p : Addr) (vs : List V) (pss : List (List (Int × Int))), xs = [.ref p] ∧ H p = some (.lst vs) ∧ Paired (RPL H) vs pss ∧ pss.Nodup ∧ pss.length < 64 ∧
 ∀ (l : Addr) (vs' : List V) (pss' : List (List (Int × Int))), H l = none → pss'.Perm pss → pss'.Pairwise (fun a b => pLt a b = true) → Paired (RPL H) vs' pss' → Q (.ref l) (upd H l (.lst vs'))
end
end TX
namespace TX
open PySem PySem.Spec PyProof.Rows L2
open PySem.W (kqdP)
section
variable {X : Cx}
end
end TX
namespace TX
open PySem PySem.Spec PyProof.Rows L2
structure RoomN (k : Nat) (A : Around) : Prop where
 dp : A.depth + 3 * k + 5 < recursionLimit
 un : A.units + 16 * k + 200 < cLine
theorem RoomN.of {k : Nat} {A : Around} (r : Room k A) : RoomN k A := ⟨r.dp, r.un⟩
theorem RoomN.deeper {k : Nat} {A : Around} (r : RoomN (k + 1) A) (env : Env) : RoomN k (A.deeper env) :=
 ⟨by have := r.dp; show A.depth + 1 + 3 * k + 5 < _; omega, by have := r.un; show A.units + 3 + 16 * k + 200 < _; omega⟩
theorem RoomN.mark {k : Nat} {A : Around} {v : Option Value} (r : RoomN k A) : RoomN k (A.mark v) := ⟨r.dp, r.un⟩
theorem RoomN.depth {k : Nat} {A : Around} (r : RoomN k A) : A.depth < recursionLimit := by have := r.dp; omega
structure FnN (P : Program) (w : World) (K : PySem.W.Frag) (mg : Str → Option Value) (base : Heap) (k : Nat) (f : Addr) (fd : FuncData) (ps : List Str) (sp : Sp) : Prop where
 len : ∀ vs H Q E, sp vs H Q E → vs.length = ps.length
 run : ∀ (A : Around) (outer : List Env) (s : Shared) (H : Hp) (args : Args) (us : List Value) (vs : List V) (Q : VK) (E : XK), RoomN k A → Env0 P w K mg base A outer s H → BindsTo s fd args (ps.zip us) → Vals vs us → sp vs H Q E →
  codeAny (model P w) A (.call (.ref f) args) (CR CX0 outer P w H s Q E) s
abbrev cxN (P : Program) (w : World) (K : PySem.W.Frag) (mg : Str → Option Value) (base : Heap) (N : List Str) (qual : Str) (scope : Scope) (f : Addr) (cd : Value) (A : Around) (outer : List Env) (s : Shared) (H : Hp) (E : XK) : Cx :=
 { cxOf CX0 P w K mg base N qual scope f cd A outer s H E with calm := false }
section
variable {P : Program} {w : World} {K : PySem.W.Frag} {mg : Str → Option Value} {base : Heap} {N ps : List Str} {qual : Str} {scope : Scope} {f : Addr} {cd : Value} {A : Around} {outer : List Env} {s s1 : Shared} {H H' : Hp} {E : XK} {σ : L2.St}
theorem inv_N (I : Inv (cxOf CX0 P w K mg base N qual scope f cd { A with handled := none } outer s H E) [] σ H' s1) : Inv (cxN P w K mg base N qual scope f cd A outer s H E) [] σ H' s1 :=
 ⟨⟨I.ok.mod, I.ok.kind, I.ok.glob, I.ok.blt, I.ok.above, I.ok.inj, I.ok.has, I.ok.cab, fun z => absurd (show false = true from z) (by decide), I.ok.frames, I.ok.stk, I.ok.exf, I.ok.bs, I.ok.bsz, I.ok.noex, I.ok.exfs, I.ok.funs, I.ok.frf⟩,
  I.os, I.bare, I.base, I.loc, I.cell, I.free, I.freeC, I.pin, I.hok, I.len⟩
theorem env0_N (e : Env0 P w K mg base A outer s H) : Env0 P w K mg base { A with handled := none } outer s H := ⟨e.frames, e.mod, e.bs, e.bsz, e.funs, e.frf, e.hok, e.bare⟩
theorem fnN_of {k : Nat} {name : Str} {params : Arguments} {body : List Stmt} {dV kV doc pm cdv ct oc : Value} {an od : Option Addr}
  {osl : Array (Option Value)} {sp : Sp} (lk : K.lookup f = some ⟨oc, od, .func (PySem.W.fnOf name qual params body scope dV kV doc pm an cdv ct), osl⟩) (hcd : PySem.W.codeIn K cdv qual = true) (S : FnScope N ps scope)
  (len : ∀ vs H Q E, sp vs H Q E → vs.length = ps.length)
  (hbody : ∀ (A : Around) (outer : List Env) (s : Shared) (H : Hp) (vs : List V) (Q : VK) (E : XK), RoomN k (A.deeper (envOfC qual scope s.heap.objs.size f cdv)) → sp vs H Q E →
   ∃ t, PSs (cxN P w K mg base N qual scope f cdv A outer s H E) body t ∧ t { nx := fun _ H' => Q .non H', rt := Q } (start N vs) H) :
  FnN P w K mg base (k + 1) f (PySem.W.fnOf name qual params body scope dV kV doc pm an cdv ct) ps sp := by
 refine ⟨len, fun A outer s H args us vs Q E hr e0 hb r hsp => ?_⟩
 have hl := len _ _ _ _ hsp
 have KX : K.In s.heap := e0.mod.kin.keeps fun b o e => (e0.bs b o e).1
 have lim : s.heap.NoLimit := e0.mod.nolimit.keeps fun b o e => (e0.bs b o e).1
 have hkind : ∀ y ∈ ps.zip us, scope.names.lookup y.1 = some .local ∨ (scope.names.lookup y.1 = some .cell ∧ ((cellsFrom (s.heap.objs.size + 1) scope.names []).lookup y.1).isSome = true) := fun ⟨n, v⟩ hy => by
  rcases S.par n (List.of_mem_zip hy).1 with q | q
  ·exact .inl q
  ·exact .inr ⟨q, PySem.W.cellsFrom_some _ _ _ (.inl q)⟩
 refine codeAny_call_function hr.depth (KX _ _ lk) rfl S.co S.gen rfl (PySem.W.codeRec_of KX hcd) (hb _ _ _ _ ?_)
 refine wpAny_newFunctionEnv_cells S.kind hkind fun env he s1 x => ?_
 subst he
 refine ⟨lim.keeps x.toInCall.keep, codeAny_func ?_⟩
 obtain ⟨t, ht, hq⟩ := hbody A outer s H vs Q E (hr.deeper _) hsp
 have I : Inv (cxN P w K mg base N qual scope f cdv A outer s H E) [] (start N vs) H s1 := inv_N (inv_start S rfl (env0_N e0) hl r x)
 refine wpAny_mono (ht [] s1 (start N vs) H _ I hq) (fun fl s' hs => ?_) fun e s' hs => hs
 have fin : ∀ {σ' : L2.St} {H' : Hp} {v : V} {u : Value}, Inv (cxN P w K mg base N qual scope f cdv A outer s H E) [] σ' H' s' → RelV v u → Q v H' → CE outer P w H s Q u s' :=
  fun {σ' H' v u} J rv q => ⟨v, H', J.os, J.bare, J.base, J.hok, rv, q⟩
 cases fl with
 | ret u =>
  obtain ⟨v, σ', H', J, rv, q⟩ := hs
  exact fin J rv q
 | next =>
  obtain ⟨σ', H', J, q⟩ := hs
  exact fin (v := V.non) (u := Value.none) J rfl q
 | brk =>
  obtain ⟨_, _, _, q⟩ := hs
  exact False.elim q
 | cont =>
  obtain ⟨_, _, _, q⟩ := hs
  exact False.elim q
end
section
variable {X : Cx} {k : Nat} {f C : Addr} {fd : FuncData} {ps : List Str} {sp : Sp} {dvs : List V} {ds : List Value} {E : XK} {x m : Str} {p pos apos : Pos} {e o : Expr} {es : List Expr} {ta : TE} {t : TA}
end
def excO (C e : Addr) (od : Option Addr) (cx : Value) : HO := .ext fun h => ∃ o fs, h.get? e = some o ∧ o.cls = .ref C ∧ o.dict = od ∧ o.data = .fields fs ∧ fs[2]? = some cx
theorem excO_ok {P : Program} {w : World} {H : Hp} {h : Heap} {C e : Addr} {od : Option Addr} {cx : Value} {o : Obj} {fs : Array Value} (ho : h.get? e = some o) (hc : o.cls = .ref C) (hd : o.dict = od) (hf : o.data = .fields fs) (hx : fs[2]? = some cx) : ObjOk P w H h e (excO C e od cx) :=
 ⟨⟨o, fs, ho, hc, hd, hf, hx⟩, ⟨o, ho⟩, fun h1 h2 ⟨u, v, a, b⟩ k => ⟨u, v, k _ a, b⟩⟩
theorem excO_full {P : Program} {w : World} {H : Hp} {h : Heap} {C e : Addr} {od : Option Addr} {cx : Value} (x : HOk P w H h) (q : H e = some (excO C e od cx)) : ∃ o fs, h.get? e = some o ∧ o.cls = .ref C ∧ o.dict = od ∧ o.data = .fields fs ∧ fs[2]? = some cx := (x e _ q).1
theorem excO_look {P : Program} {w : World} {H : Hp} {h : Heap} {C e : Addr} {od : Option Addr} {cx : Value} (x : HOk P w H h) (q : H e = some (excO C e od cx)) : ∃ o, h.get? e = some o ∧ o.cls = .ref C := let ⟨o, _, a, b, _⟩ := excO_full x q; ⟨o, a, b⟩
end TX
namespace PySem.W
open PySem PySem.Spec PySem.Calls PyProof.Rows Builtin Builtin.ObjectAttr Builtin.Getset_descriptor
section
variable {prog : Program} {w : World} {A : Around} {E : Value → Shared → Prop} {s : Shared} {K : Frag} {x D : Addr} {o : Obj} {name : Str} {R : Result → Shared → Prop}
theorem tyx {M : Model} {h : Heap} {o : Obj} (h1 : h.get? x = some o) (h2 : o.cls = .ref D) : Looks M h (typeOf (.ref x)) (.ref D) := h2 ▸ (Looks.ld h1).andThen .now
theorem findx {M : Model} {h : Heap} {a g : Value} (X : K.In h) (ha : findIn K (.ref D) name = some (some a)) (hg : specialIn K a "__get__" = some (some g)) (ht : takesIn K a = some true) : Looks M h (find (.ref x) (.ref D) name) (.bind g a) := by
 have L1 := looks_findIn (M := M) X ha
 have L2 : Looks M h (getOf (some a)) (some g) := looks_specialIn X hg
 have L3 := looks_takesIn (M := M) X ht
 refine L1.andThen (L2.andThen ?_)
 exact (show Looks M h (dataDescriptor? (some a) (some g)) (some (g, a)) from L3.andThen .now).andThen (Looks.tag .now)
theorem classx {tp : Value} (X : K.In s.heap) (h1 : s.heap.get? x = some o) (h2 : o.cls = .ref D) (hm : mroIn K D (.type "object") = some true)
  (h : R (.ok (.ret (.ref D))) s) : codeAny (model prog w) A (.call (.builtin "getset_descriptor.__get__") ⟨[.builtin "object.__class__", .ref x, tp], []⟩) R s := by
 obtain ⟨hh, g, dr, t, os⟩ := s
 have L0 := tyx (M := model prog w) h1 h2
 have L1 := looks_mroIn (M := model prog w) X hm
 refine codeAny_call_builtin KF.slot_gs.plain KF.entry_gs (KF.slot_gs.check _ _ _ _ _ _ _ _ KF.type_class (KF.args_gs _ _ _) ?_)
 unfold Builtin.«getset_descriptor.__get__» descrGet
 rw [dga_obj]
 refine wpAny_bind (wpAny_pure ?_)
 unfold descrGetter descrCheckInstance descrNameAndClass isInstance
 simp only [KF.owner_class]
 repeat lk
 refine ⟨Code.quiet_builtin _ (by decide +kernel), codeAny_builtin KF.entry_class ?_⟩
 unfold Builtin.«object.__class__» shownTypeOf
 repeat lk
 exact h
end
end PySem.W
namespace TX
open PySem PySem.Spec PyProof.Rows L2
section
variable {M : Model} {A : Around} {E : Value → Shared → Prop} {h : Heap} {g : Array GenState} {d : Drawn} {t : Nat} {os : OsState}
variable {nm q nm' q' : Str} {C N B N' : Addr} {bs bm bs' bm' : List Value} {hdct hdct' : Bool} {sn sn' : List Str} {sub sub' : List Value} {ab ab' : Bool} {col col' : Option Bool} {dd dd' : Option Addr} {k0 k1 k2 k3 k5 j0 j1 j2 j3 j5 : Option Value} {newId newId' : String}
theorem exc_matches {e : Addr} {oe : Obj} {Q : Bool → Shared → Prop}
  (hC : h.get? C = some (excClassObj nm q C N bs bm hdct sn sub ab col dd k0 k1 k2 k3 k5 newId)) (hB : h.get? B = some (excClassObj nm' q' B N' bs' bm' hdct' sn' sub' ab' col' dd' j0 j1 j2 j3 j5 newId'))
  (he : h.get? e = some oe) (hcls : oe.cls = .ref C) (hbase : bm'.contains (.type "BaseException") = true) (hsub : (Value.ref C :: bm).contains (.ref B) = true)
  (hq : Q true ⟨h, g, d, t, os⟩) : wpAny M A (excMatches (.ref e) (.ref B)) Q E ⟨h, g, d, t, os⟩ := by
 have hcB : (Value.ref B :: bm').contains (.type "BaseException") = true := by rw [List.contains_cons, hbase, Bool.or_true]
 have f := tc_notTuple
 unfold excMatches
 repeat (first | (with_reducible refine wpAny_loadPart_at he ?_; rw [hcls]) | with_reducible refine wpAny_loadPart_at hB ?_ | (with_reducible refine wpAny_isSubtype_exc hB ?_; rw [hcB]) | (with_reducible refine wpAny_isSubtype_exc hC ?_; rw [hsub]) | wp_step)
 exact hq
end
section
variable {X : Cx} {pins : List (Addr × Obj)} {σ : L2.St} {H : Hp} {s : Shared}
theorem gone_ok {M : Model} {A : Around} {E : Value → Shared → Prop} {x : Str} {pos : Pos} {Q : Unit → Shared → Prop} (I : Inv X pins σ H s) (hk : X.env.scope.names.lookup x = some .local)
  (h : ∀ s', Inv X pins (List.replicate X.N.length none) H s' → Q () s') : wpAny M A (do bindName X.env x .none; unbindBehindTheSuite X.env x pos) Q E s := by
 obtain ⟨m, hn, hl⟩ := id I.loc
 have hcls : (X.env.scope.kind == .class || (X.env.scope.kind == .module && X.env.locals != X.env.globals)) = false := by rw [I.ok.kind]; rfl
 have cne := I.cne
 refine wpAny_nameGoes hk hn hcls fun h' m' hn' hs => ?_
 obtain ⟨oL, _, _, hoL, _⟩ := id hn
 have tracked : HOk X.prog X.w H h' := fun b ob e => by
  refine (I.hok b ob e).stay (fun c w' hc q => (hs.2 c ?_).trans q) (fun _ q => q) fun _ _ q => q
  rintro rfl
  rcases hc with rfl | hc
  ·rw [I.free] at e; cases e
  ·rw [I.free] at hc; cases hc
 refine h _ ⟨I.ok, I.os, I.bare, ⟨fun b o e n hb hx => ?_, fun b o e n hb hx => ?_, I.base.free, fun b o e hx => ?_, I.base.tups, I.base.frzs, I.base.tbls⟩, ⟨_, hn', fun j y v' e1 e2 e3 => ?_⟩, fun y c e => ?_, I.free, I.freeC, fun p hp => ?_, tracked, by simp⟩
 ·exact (hs.2 b (Nat.ne_of_lt (Nat.lt_of_lt_of_le (Heap.lt_size e) I.ok.above))).trans (I.base.keep b o e n hb hx)
 ·obtain ⟨sl, e1⟩ := I.base.slot b o e n hb hx
  exact ⟨sl, (hs.2 b (Nat.ne_of_lt (Nat.lt_of_lt_of_le (Heap.lt_size e) I.ok.above))).trans e1⟩
 ·obtain ⟨o', e1⟩ := I.base.there b o e hx
  exact ⟨o', (hs.2 b (Nat.ne_of_lt (Nat.lt_of_lt_of_le (Heap.lt_size e) I.ok.above))).trans e1⟩
 ·rw [List.getElem?_replicate] at e2
  split at e2 <;> cases e2
 ·obtain ⟨w', z⟩ := I.cell y c e
  exact ⟨w', z.sameBut hs (cne y c e)⟩
 ·obtain ⟨e, n, ne, nf, d⟩ := I.pin p hp
  exact ⟨(hs.2 p.1 ne).trans e, n, ne, nf, d⟩
theorem track {σ0 : L2.St} {H0 : Hp} {s0 : Shared} {e : Addr} {o : HO} (I0 : Inv X pins σ0 H0 s0) (I : Inv X pins σ H s) (hex : X.ex = []) (e0 : s0.heap.get? e = none) (hn : H e = none) (ok : ObjOk X.prog X.w (upd H e o) s.heap e o) : Inv X pins σ (upd H e o) s := by
 have ne1 : ∀ b ob, s0.heap.get? b = some ob → b ≠ e := fun b ob q z => by rw [z, e0] at q; cases q
 have ne0 : ∀ b ob, X.s₀.heap.get? b = some ob → b ≠ e := fun b ob q => by
  obtain ⟨o', z⟩ := I0.base.there b ob q (by rw [hex]; simp)
  exact ne1 b o' z
 have neH : ∀ b u, H b = some u → b ≠ e := fun b u q z => by rw [z, hn] at q; cases q
 obtain ⟨m0, ⟨oL, _, _, hoL, _⟩, _⟩ := id I0.loc
 refine ⟨I.ok, I.os, I.bare, ⟨I.base.keep, I.base.slot, fun b ob q n hx => ?_, I.base.there, fun b xs q => ?_, fun b ob u q => ?_, fun b ps q => ?_⟩, I.loc, I.cell, ?_, fun x c q => ?_, fun p hp => ?_, fun b u q => ?_, I.len⟩
 ·rw [upd_ne (ne0 b ob q)]; exact I.base.free b ob q n hx
 ·have z := I.base.tups b xs q
  rw [upd_ne (neH b _ z)]; exact z
 ·have z := I.base.frzs b ob u q
  rw [upd_ne (neH b _ z)]; exact z
 ·obtain ⟨more, z⟩ := I.base.tbls b ps q
  exact ⟨more, by rw [upd_ne (neH b _ z)]; exact z⟩
 ·rw [upd_ne (ne1 _ _ hoL)]; exact I.free
 ·obtain ⟨v, ⟨oc, hoc, _⟩⟩ := I0.cell x c q
  rw [upd_ne (ne1 _ _ hoc)]; exact I.freeC x c q
 ·obtain ⟨a, b, c⟩ := I.pin p hp
  exact ⟨a, by rw [upd_ne (ne1 _ _ (I0.pin p hp).1)]; exact b, c⟩
 ·by_cases hb : b = e
  ·subst hb; rw [upd_same] at q; cases q; exact ok
  ·rw [upd_ne hb] at q
   exact (I.hok b u q).stay (fun c v _ z => z) (fun c z => by rw [upd_ne (neH c _ z)]; exact z) fun c xs z => by rw [upd_ne (neH c _ z)]; exact z
abbrev cxS (X : Cx) (e : Addr) (xe : Value → Shared → Prop) : Cx := { X with A := X.A.mark (some (.ref e)), calm := false, xe := xe }
theorem inv_S {e : Addr} {xe : Value → Shared → Prop} (I : Inv X pins σ H s) : Inv (cxS X e xe) pins σ H s :=
 ⟨⟨I.ok.mod, I.ok.kind, I.ok.glob, I.ok.blt, I.ok.above, I.ok.inj, I.ok.has, I.ok.cab, fun z => absurd (show false = true from z) (by decide), I.ok.frames, I.ok.stk, I.ok.exf, I.ok.bs, I.ok.bsz, I.ok.noex, I.ok.exfs, I.ok.funs, I.ok.frf⟩,
  I.os, I.bare, I.base, I.loc, I.cell, I.free, I.freeC, I.pin, I.hok, I.len⟩
theorem inv_unS {e : Addr} {xe : Value → Shared → Prop} (ok : X.Ok) (I : Inv (cxS X e xe) pins σ H s) : Inv X pins σ H s :=
 ⟨ok, I.os, I.bare, I.base, I.loc, I.cell, I.free, I.freeC, I.pin, I.hok, I.len⟩
end
section
variable {X : Cx} {C B : Addr} {lo : Bool}
def tTryAs (lo : Bool) (i n : Nat) (C : Addr) (tb : XK → TS) (ts : Addr → TS) : TS := fun D σ H => tb (fun _ od H' => ∀ (ex : Addr) (σ' : L2.St) (cx : Value), H' ex = none → σ'.length = n → CtxOk lo H' cx → ts ex { nx := fun _ _ => False, rt := D.rt } (σ'.set i (some (.ref ex))) (upd H' ex (excO C ex od cx))) D σ H
def belowIn (K : PySem.W.Frag) (C B : Addr) : Bool := (PySem.W.clsIn K C).any fun cd => cd.mro.contains (.ref B)
theorem below_of {K : PySem.W.Frag} {h : Heap} (kin : K.In h) (q : belowIn K C B = true) {nm qn : Str} {Na : Addr} {bs bm : List Value} {hdct : Bool} {sn : List Str} {sub : List Value} {ab : Bool} {col : Option Bool} {dd : Option Addr} {k0 k1 k2 k3 k5 : Option Value} {newId : String}
  (hC : h.get? C = some (excClassObj nm qn C Na bs bm hdct sn sub ab col dd k0 k1 k2 k3 k5 newId)) : (Value.ref C :: bm).contains (.ref B) = true := by
 unfold belowIn at q
 obtain ⟨cd, h1, h2⟩ := PySem.W.any_some q
 unfold PySem.W.clsIn at h1
 split at h1
 ·rename_i c' d' cd' sl' ho
  cases h1
  have z := (kin _ _ ho).symm.trans hC
  unfold excClassObj at z
  cases z
  exact h2
 ·cases h1
theorem ps_tryAs {body : List Stmt} {x y : Str} {b0 : Stmt} {suite : List Stmt} {np p3 pos : Pos} {i : Nat} {tb : XK → TS} {ts : Addr → TS} (qC : PySem.W.ktsIn X.K C "BaseException" = true) (qB : PySem.W.ktsIn X.K B "BaseException" = true) (hsub : belowIn X.K C B = true) (hg : Gl X x) (hm : X.mg x = some (.ref B))
  (hst : X.stack = X.env :: X.outer ∧ X.env.frame = some X.env.locals) (hex : X.ex = []) (hN : X.N.Nodup) (hi : X.N[i]? = some y) (hly : X.env.scope.names.lookup y = some .local)
  (hb : ∀ (pn : List (Addr × Obj)) (E : XK), PSs (cxT lo X C pn E) body (tb E)) (hr : ∀ (e : Addr) (xe : Value → Shared → Prop), PSs (cxS X e xe) (b0 :: suite) (ts e)) (hd : (x == ("__debug__" : Str)) = false := by decide) :
  PS X (.Try body [.ExceptHandler (some (.Name x np)) (some y) (b0 :: suite) p3] [] [] pos) (tTryAs lo i X.N.length C tb ts) := by
 intro pins s σ H D I h
 refine wpAny_Try_except (wpAny_mono (hb (X.pn ++ pins) _ [] s σ H D (inv_pn I _) h) (fun f s1 r => ?_) fun ev s1 r => ?_)
 ·have r' := sp_unpn r
  cases f with
  | next => exact wpAny_execs_nil r'
  | ret v => exact r'
  | brk => exact r'
  | cont => exact r'
 ·obtain ⟨σ1, H0, s0, I0, e, H', od, rfl, hos, hgn, un, hok, ⟨cx, oe, vs, T, oT, tz, g1, g2, g3, g4, g5, g6, g7, g8, g9, g10, g11, g12, g13⟩, hE⟩ := r
  have I0' : Inv X pins σ1 H0 s0 := inv_unpn I0
  have I1 : Inv X pins σ1 H' s1 := Inv.after0 I0' hos un hok hgn
  have hin : ∀ env ∈ X.stack, ∀ b, env.frame = some b → b ∈ [e, T] ++ frs X.stack := fun env he b hb => List.mem_append_right _ (List.mem_filterMap.mpr ⟨env, he, hb⟩)
  have hfr : X.A.frames = some (X.env :: X.outer) := by rw [← hst.1]; exact I1.ok.frames
  have fF := PySem.W.funFrames_hide I1.stack hin
  have tr : TrD s1.heap (PySem.W.hideAll s1.heap ([e, T] ++ frs X.stack)) e (.ref C) cx .none od := ⟨oe, vs, T, oT, tz, g1, g2, g3, g4, PySem.W.hideAll_none _ (by simp), g5, g6, g7, g8⟩
  have again : ∀ h', (PySem.W.hideAll s1.heap ([e, T] ++ frs X.stack)).StaysIn h' → s1.heap.UpToSlots h' → Inv X pins σ1 H' { s1 with heap := h' } := fun h' k u => by
   have kp : Kp (frs X.stack) [e, T] s1.heap h' := Kp.of k (frames_kept I1.stack u)
   have hex : ∀ b ∈ [e, T], H' b = none ∧ s0.heap.get? b = none := fun b hb => by
    rcases List.mem_cons.mp hb with rfl | hb
    ·exact ⟨g9, g11⟩
    ·obtain rfl := List.mem_singleton.mp hb
     exact ⟨g10, g12⟩
   exact Inv.after0 (s' := { s1 with heap := h' }) I0' hos (kp.un un fun b hb => (hex b hb).2) (kp.hok hok (fun b hb => I1.stkFree b hb) fun b hb => (hex b hb).1) hgn
  refine noteOnD hfr (by rw [← hst.1]; exact fF) hst.2 tr (fun b o q => PySem.W.of_hideAll _ q) (PySem.W.hideAll_none _ (by simp)) fun h4 n4 => ?_
  refine setFlightD n4.1 n4.2.1 n4.2.2.1 fun h5 n5 => ?_
  have us := n4.2.2.2.trans n5.2.2.2
  have I5 := again h5 n5.1 us
  obtain ⟨ob, _, _, _, _, hob, ⟨hobc, _⟩, _⟩ := n5.2.2.1
  obtain ⟨nm, q', Na, bs, bm, hdct, sn, sub, ab, col, dd, k0, k1, k2, k3, k5, newId, hC, hbase, hbT⟩ := PySem.W.kts_cls I5.kIn qC
  obtain ⟨nm', q'', Na', bs', bm', hdct', sn', sub', ab', col', dd', j0, j1, j2, j3, j5, newId', hB, hbaseB, hbTB⟩ := PySem.W.kts_cls I5.kIn qB
  refine wpAny_handleBy_cons (codeAny_handlers_test (Calls.Name_function_global I5.ok.kind hg (Calls.loadGlobal_global (by rw [I5.ok.glob]; exact I5.mod.glob.keeps I5.bk) hm ?_) hd)) (by intro z; cases z)
  refine exc_matches hC hB hob hobc hbaseB (below_of I5.kIn hsub hC) (codeAny_handlers_suite_as ?_)
  refine setFlightD n5.1 n5.2.1 n5.2.2.1 fun h6 n6 => ?_
  have I6 := again h6 n6.1 (us.trans n6.2.2.2)
  obtain ⟨ob6, fs6, _, _, _, hob6, ⟨hobc6, hx6, hd6⟩, hf6, _⟩ := n6.2.2.1
  have I7 : Inv X pins σ1 (upd H' e (excO C e od cx)) { s1 with heap := h6 } := track I0' I6 hex g11 g9 (excO_ok hob6 hobc6 hd6 hf6 hx6)
  refine store_ok (i := i) (v := .ref e) I7 hN hi (.inl hly) rfl (fun s8 I8 => ?_) (.inr hly)
  refine wpAny_mono (hr e _ pins s8 _ _ { nx := fun _ _ => False, rt := D.rt } (inv_S I8) (hE e σ1 cx g9 I1.len g13)) (fun fl s9 r => ?_) fun _ _ z => z
  cases fl with
  | ret u =>
   obtain ⟨z, σ9, H9, I9, r9, q9⟩ := r
   exact gone_ok (inv_unS I.ok I9) hly fun s' I' => ⟨z, _, H9, I', r9, q9⟩
  | next => obtain ⟨_, _, _, q⟩ := r; exact False.elim q
  | brk => obtain ⟨_, _, _, q⟩ := r; exact False.elim q
  | cont => obtain ⟨_, _, _, q⟩ := r; exact False.elim q
end
end TX
namespace TX
open PySem PySem.Spec PyProof.Rows L2
section
variable {prog : Program} {w : World} {A : Around} {E : Value → Shared → Prop} {h : Heap} {g : Array GenState} {d : Drawn} {t : Nat} {os : OsState}
variable {nm q : Str} {C N : Addr} {bs bm bmB : List Value} {hdct : Bool} {sn : List Str} {sub : List Value} {ab : Bool} {col : Option Bool} {dd : Option Addr} {k0 k1 k2 k3 k5 : Option Value} {B Bn newId nid initId inN : String} {bmN : List Value}
theorem tcall_initU (Fn : ExcBaseFacts Bn newId inN bmN) (hBn : bmB.contains (.type Bn) = true) (F : ExcBaseFacts B nid initId bmB) (T : OwnTail h bmB bm) {mN : Str → Option Value} {rest : List Value} {fI : Addr} {oI : Obj} {Q : Fin → Shared → Prop}
  (hC : h.get? C = some (excClassObj nm q C N bs bm hdct sn sub ab col dd k0 k1 k2 k3 k5 newId)) (hn : h.Ns N mN) (hi : mN "__init__" = some (.ref fI)) (hfI : h.get? fI = some oI) (hfc : oI.cls = .type "function")
  (hq : ∀ h' e, Heap.MadeExcOf h h' e (.ref C) rest → wpAny (model prog w) A (call (.ref fI) (.ref e :: rest)) (fun r s' => r = .none ∧ Q (.done (.ret (.ref e))) s') E ⟨h', g, d, t, os⟩) (hrest : rest.length ≤ sizeLine := by size_fits) :
  wpAny (model prog w) A (Builtin.«type.__call__» ⟨.ref C :: rest, []⟩) Q E ⟨h, g, d, t, os⟩ := by
 repeat (first | with_reducible refine wpAny_loadPart_at hC ?_ | with_reducible refine wpAny_madeBy_exc hC ?_ | wp_step)
 refine codeAny_call_builtin_code (Code.quiet_builtin _ Fn.quiet) (wpAny_check_new_subU Fn hBn T hC ?_)
 refine codeAny_exc_new_subU Fn hBn F T hC ?_ hrest
 show wpAny _ _ _ _ _ _
 have hC₁ := Heap.get?_push_of_some { cls := .ref C, data := .fields #[.ref h.objs.size, .none, .none, .none, .bool false, .none] }
  (Heap.get?_push_of_some { cls := .type "tuple", data := .seq rest.toArray } hC)
 have hfI₁ := Heap.get?_push_of_some { cls := .ref C, data := .fields #[.ref h.objs.size, .none, .none, .none, .bool false, .none] }
  (Heap.get?_push_of_some { cls := .type "tuple", data := .seq rest.toArray } hfI)
 have hn₁ : ((h.push { cls := .type "tuple", data := .seq rest.toArray }).push { cls := .ref C, data := .fields #[.ref h.objs.size, .none, .none, .none, .bool false, .none] }).Ns N mN :=
  let ⟨o, es, ep, e, r⟩ := hn; ⟨o, es, ep, Heap.get?_push_of_some _ (Heap.get?_push_of_some _ e), r⟩
 have hget : ((h.push { cls := .type "tuple", data := .seq rest.toArray }).push
   { cls := .ref C, data := .fields #[.ref h.objs.size, .none, .none, .none, .bool false, .none] }).get? (h.objs.size + 1) = some
   { cls := .ref C, data := .fields #[.ref h.objs.size, .none, .none, .none, .bool false, .none] } := by heap_get
 have hcC : (Value.ref C :: bm).contains (.ref C) = true := by simp
 have T₁ := T.keeps (h' := (h.push { cls := .type "tuple", data := .seq rest.toArray }).push { cls := .ref C, data := .fields #[.ref h.objs.size, .none, .none, .none, .bool false, .none] })
  fun b o e => Heap.get?_push_of_some _ (Heap.get?_push_of_some _ e)
 unfold isInstance
 repeat (first | with_reducible refine wpAny_loadPart_at hget ?_ | (with_reducible refine wpAny_isSubtype_exc hC₁ ?_; rw [hcC]) | wp_step)
 show wpAny _ _ (typeLookup (.ref C) _) _ _ _
 refine wpAny_typeLookup_tail hC₁ hn₁ T₁ F.mroIs F.init.lookup ?_
 rw [hi]
 refine wpAny_holding (wpAny_bind ?_)
 unfold bindSpecial
 refine wpAny_bind (wpAny_typeOf (T := "function") ⟨_, hfI₁, hfc⟩ ?_)
 rw [if_pos (by decide)]
 refine wpAny_pure (wpAny_bind (wpAny_mono (hq _ (h.objs.size + 1) ⟨fun b o hb => Heap.get?_push_of_some _ (Heap.get?_push_of_some _ hb), Heap.get?_none_of_le (Nat.le_succ _), h.objs.size, hget, Heap.get?_none_of_le (Nat.le_refl _), ?_⟩) (fun r s' hr => ?_) fun _ _ x => x))
 ·exact Heap.get?_push_of_some _ (Heap.get?_push_at rfl rfl)
 ·obtain ⟨rfl, hQ⟩ := hr
  wp_walk
  exact hQ
theorem call_initU (Fn : ExcBaseFacts Bn newId inN bmN) (hBn : bmB.contains (.type Bn) = true) (F : ExcBaseFacts B nid initId bmB) (T : OwnTail h bmB bm) {mN : Str → Option Value} {rest : List Value} {fI : Addr} {oI : Obj} {Q : Value → Shared → Prop}
  (hC : h.get? C = some (excClassObj nm q C N bs bm hdct sn sub ab col dd k0 k1 k2 k3 k5 newId)) (hn : h.Ns N mN) (hi : mN "__init__" = some (.ref fI)) (hfI : h.get? fI = some oI) (hfc : oI.cls = .type "function")
  (hq : ∀ h' e, Heap.MadeExcOf h h' e (.ref C) rest → wpAny (model prog w) (A.under (.builtin "type.__call__" ⟨.ref C :: rest, []⟩)) (call (.ref fI) (.ref e :: rest)) (fun r s' => r = .none ∧ Q (.ref e) s') E ⟨h', g, d, t, os⟩) (hrest : rest.length ≤ sizeLine := by size_fits) :
  wpAny (model prog w) A (call (.ref C) rest) Q E ⟨h, g, d, t, os⟩ := by
 have f1 := tc_lookup
 have f2 := tc_bind (.ref C)
 have hT : (⟨h, g, d, t, os⟩ : Shared).TypeIs (.ref C) "type" := ⟨_, hC, rfl⟩
 refine wpAny_call (codeAny_of_tree ?_)
 show wpAny _ _ (callAny (.ref C) _) _ _ _
 repeat (any_goals (first | assumption | with_reducible refine wpAny_loadPart_at hC ?_ | wp_step))
 refine ⟨rfl, ?_⟩
 refine codeAny_call_builtin_at (Code.quiet_builtin _ (by decide +kernel)) entry_typeCall (wpAny_check_type_call_sub hC (tcall_initU (hrest := hrest) Fn hBn F T hC hn hi hfI hfc fun h' e hm => ?_))
 exact hq h' e hm
end
section
variable {prog : Program} {w : World} {A : Around} {E : Value → Shared → Prop} {s : Shared} {env : Env}
variable {nm q : Str} {C N : Addr} {bs bm bmB : List Value} {hdct : Bool} {sn : List Str} {sub : List Value} {ab : Bool} {col : Option Bool} {dd : Option Addr} {k0 k1 k2 k3 k5 : Option Value} {B Bn newId nid initId inN : String} {bmN : List Value}
theorem raised_init {x : Sem Value} {Q : Flow → Shared → Prop} (hbase : bm.contains (.type "BaseException") = true) (hh : A.handled = none)
  (h : wpAny (model prog w) A x (fun v s₁ => ∃ e t oe, v = .ref e ∧ s₁.heap.get? C = some (excClassObj nm q C N bs bm hdct sn sub ab col dd k0 k1 k2 k3 k5 newId) ∧
   s₁.heap.get? e = some oe ∧ oe.cls = .ref C ∧ oe.data = .fields #[.ref t, .none, .none, .none, .bool false, .none] ∧ E (.ref e) s₁) E s) :
  wpAny (model prog w) A (raiseStmt env (some x) none) Q E s := by
 have hcB : (Value.ref C :: bm).contains (.type "BaseException") = true := by rw [List.contains_cons, hbase, Bool.or_true]
 unfold raiseStmt
 refine wpAny_bind (wpAny_mono h (fun v s₁ h₁ => ?_) fun _ _ x => x)
 obtain ⟨e, t, oe, rfl, hC, he, hcl, hda, hE⟩ := h₁
 obtain ⟨hp, g, d, tk, os⟩ := s₁
 obtain ⟨oc, od, oda, osl⟩ := oe
 dsimp only at hcl hda
 subst hcl; subst hda
 repeat (first | with_reducible refine wpAny_loadPart_at he ?_ | with_reducible refine wpAny_loadPart_at hC ?_ | (with_reducible refine wpAny_isSubtype_exc hC ?_; rw [hcB]) | wp_step)
 exact wpAny_raiseNew_none hh hE
theorem raise_init (Fn : ExcBaseFacts Bn newId inN bmN) (hBn : bmB.contains (.type Bn) = true) (F : ExcBaseFacts B nid initId bmB) {mN : Str → Option Value} {x : Str} {np cpos pos : Pos} {args : List Expr} {fI : Addr} {Q : Flow → Shared → Prop}
  (hbase : bm.contains (.type "BaseException") = true) (hh : A.handled = none) (hplain : (backTo cpos (starEach args env)).any (·.1) = false) (hi : mN "__init__" = some (.ref fI))
  (h : wpAny (model prog w) A (eval (.Name x np) env) (fun f s₁ => f = .ref C ∧ wpAny (model prog w) A (evalArgs (.ref C) true (backTo cpos (starEach args env)) [])
   (fun a s₂ => a.kw = [] ∧ a.pos.length ≤ sizeLine ∧ s₂.heap.get? C = some (excClassObj nm q C N bs bm hdct sn sub ab col dd k0 k1 k2 k3 k5 newId) ∧ s₂.heap.Ns N mN ∧ OwnTail s₂.heap bmB bm ∧ (∃ oI, s₂.heap.get? fI = some oI ∧ oI.cls = .type "function") ∧
    ∀ h' e, Heap.MadeExcOf s₂.heap h' e (.ref C) a.pos → wpAny (model prog w) (A.under (.builtin "type.__call__" ⟨.ref C :: a.pos, []⟩)) (call (.ref fI) (.ref e :: a.pos)) (fun r s₃ => r = .none ∧ ∃ t oe,
     s₃.heap.get? C = some (excClassObj nm q C N bs bm hdct sn sub ab col dd k0 k1 k2 k3 k5 newId) ∧ s₃.heap.get? e = some oe ∧ oe.cls = .ref C ∧ oe.data = .fields #[.ref t, .none, .none, .none, .bool false, .none] ∧ E (.ref e) s₃) E { s₂ with heap := h' }) E s₁) E s) :
  wpAny (model prog w) A (exec (.Raise (some (.Call (.Name x np) args [] cpos)) none pos) env) Q E s := by
 rw [arm_exec_Raise]
 refine wpAny_bind (wpAny_standAt (raised_init (C := C) (nm := nm) (q := q) (N := N) (bs := bs) (bm := bm) (hdct := hdct) (sn := sn) (sub := sub) (ab := ab) (col := col) (dd := dd) (k0 := k0) (k1 := k1) (k2 := k2) (k3 := k3) (k5 := k5) (newId := newId) hbase hh (wpAny_bind (wpAny_mono (wpAny_Call_ofName (wpAny_mono h (fun f s₁ h₁ => ?_) fun _ _ x => x)) (fun v s₃ h₃ => wpAny_bind (wpAny_standAt (wpAny_pure h₃))) fun _ _ x => x))))
 obtain ⟨rfl, h₁⟩ := h₁
 unfold callWith
 refine wpAny_bind (wpAny_holding (wpAny_mono h₁ (fun a s₂ h₂ => wpAny_bind (wpAny_standAt ?_)) fun _ _ x => x))
 obtain ⟨apos, akw⟩ := a
 obtain ⟨hkw, hlen, hC, hn, T, ⟨oI, hI, hIc⟩, h₂⟩ := h₂
 obtain rfl : akw = [] := hkw
 obtain ⟨hp, g, d, tk, os⟩ := s₂
 simp only [hplain]
 refine wpAny_bind (wpAny_keeperOf_exc hC ?_)
 refine wpAny_bind (call_initU (hrest := hlen) Fn hBn F T hC hn hi hI hIc fun h' e hm => wpAny_mono (h₂ h' e hm) (fun r s₃ ⟨h1, t, oe, h2, h3, h4, h5, h6⟩ => ⟨h1, wpAny_bind (wpAny_holding (wpAny_point (wpAny_pure ?_)))⟩) fun _ _ z => z)
 exact ⟨e, t, oe, rfl, h2, h3, h4, h5, h6⟩
end
end TX
namespace PySem.W
open PySem PySem.Spec PySem.Calls PyProof.Rows Builtin Builtin.ObjectAttr Builtin.Getset_descriptor
section
variable {prog : Program} {w : World} {A : Around} {E : Value → Shared → Prop} {h : Heap} {g : Array GenState} {d : Drawn} {t : Nat} {os : OsState} {K : Frag}
variable {nm q : Str} {C N e : Addr} {o : Obj} {bs bm : List Value} {hdct : Bool} {sn : List Str} {sub : List Value} {ab : Bool} {col : Option Bool} {dd : Option Addr} {k0 k1 k2 k3 k5 : Option Value} {newId : String} {name : Str} {v : Value}
abbrev bmV : List Value := [.type "ValueError", .type "Exception", .type "BaseException", .type "object"]
theorem xga_check {M : Model} {nameV : Value} {Q : Unit → Shared → Prop} (hC : h.get? C = some (excClassObj nm q C N bs bm hdct sn sub ab col dd k0 k1 k2 k3 k5 newId)) (hb : bm.contains (.type "BaseException") = true)
  (hx : h.get? e = some o) (hc : o.cls = .ref C) (hq : Q () ⟨h, g, d, t, os⟩) : wpAny M A (checkBuiltinCall "BaseException.__getattribute__" ⟨[.ref e, nameV], []⟩) Q E ⟨h, g, d, t, os⟩ := by
 have hk : builtinKind "BaseException.__getattribute__" = some .slot := by decide +kernel
 have hsplit : splitId "BaseException.__getattribute__" = some ("BaseException", "__getattribute__") := by decide +kernel
 have hcB : (Value.ref C :: bm).contains (.type "BaseException") = true := by rw [List.contains_cons, hb]; simp
 have ha := F.args_bexc_ga (.ref e) nameV
 simp only [checkBuiltinCall, hk, hsplit]
 refine wpAny_bind ?_
 unfold isInstance
 repeat (first | (with_reducible refine wpAny_loadPart_at hx ?_; rw [hc]) | (with_reducible refine wpAny_isSubtype_exc hC ?_; rw [hcB]) | wp_step)
 exact hq
theorem xga_by {tk : Tok} {fill expr : Bool} {Q : Value → Shared → Prop} (X : K.In h) (hC : h.get? C = some (excClassObj nm q C N bs bm hdct sn sub ab col dd k0 k1 k2 k3 k5 newId)) (hb : bm.contains (.type "BaseException") = true)
  (hx : h.get? e = some o) (hc : o.cls = .ref C) (hga : findIn K (.ref C) "__getattribute__" = some (some (.builtin "BaseException.__getattribute__"))) (hk : findIn K (.ref C) "__getattr__" = some none)
  (hq : ∀ A' : Around, wpAny (model prog w) A' (Builtin.«object.__getattribute__» ⟨[.ref e, .str name tk], []⟩) (fun fin s' => match fin with | .done (.ret v) => wpAny (model prog w) A (handedOut v) Q E s' | _ => False) (fun _ _ => False) ⟨h, g, d, t, os⟩) :
  wpAny (model prog w) A (getAttrBy (.ref e) (.str name tk) fill expr) Q E ⟨h, g, d, t, os⟩ := by
 have L1 := looks_findIn (M := model prog w) X hga
 have L2 := looks_findIn (M := model prog w) X hk
 have hx0 : (expr && onTheHeap (Value.builtin "BaseException.__getattribute__")) = false := by cases expr <;> rfl
 have hx2 : (Value.builtin "BaseException.__getattribute__" == Value.builtin "object.__getattribute__") = false := by decide +kernel
 have hx1 : (onTheHeap (Value.ref C) && Value.builtin "BaseException.__getattribute__" == Value.builtin "object.__getattribute__") = false := by rw [hx2]; rfl
 have hcB : (Value.ref C :: bm).contains (.type "BaseException") = true := by rw [List.contains_cons, hb]; simp
 have L0 := tyx (M := model prog w) hx hc
 unfold getAttrBy
 refine wpAny_holding (wpAny_bind (L0.at (wpAny_bind (L1.at ?_))))
 dsimp only
 rw [if_neg (by rw [hx1]; decide)]
 unfold getAttrByItsOwn
 refine wpAny_bind ?_
 show wpAny _ _ (typeLookup (.ref C) "__getattr__") _ _ _
 refine L2.at (wpAny_bind (wpAny_attempt (wpAny_holding ?_)))
 unfold callGetattribute
 rw [if_neg (by rw [hx0]; decide)]
 unfold boundAndCalled
 refine wpAny_bind (wpAny_of_eq (F.excAttr_ValueError.ga.bind (.ref e)) ?_)
 refine wpAny_call (codeAny_call_builtin F.excAttr_ValueError.ga.plain F.entry_bexc_ga (xga_check hC hb hx hc ?_))
 refine wpAny_mono (hq _) (fun fin s' z => ?_) fun _ _ z => z.elim
 rcases fin with (_ | _ | _ | _) | _ <;> first | exact z.elim | exact z
theorem oga_bind {tk : Tok} {a gg : Value} {Q : Fin → Shared → Prop} (X : K.In h) (hx : h.get? e = some o) (hc : o.cls = .ref C) (ha : findIn K (.ref C) name = some (some a)) (hg : specialIn K a "__get__" = some (some gg)) (ht : takesIn K a = some true)
  (hq : wpAny (model prog w) A (call gg [a, .ref e, .ref C]) (fun v s' => Q (.done (.ret v)) s') E ⟨h, g, d, t, os⟩) :
  wpAny (model prog w) A (Builtin.«object.__getattribute__» ⟨[.ref e, .str name tk], []⟩) Q E ⟨h, g, d, t, os⟩ := by
 have L0 := tyx (M := model prog w) hx hc
 have L1 := findx (M := model prog w) (x := e) X ha hg ht
 refine wpAny_bind (wpAny_pure (wpAny_bind (wpAny_pure (wpAny_bind (L0.at (wpAny_bind (L1.at ?_)))))))
 show wpAny _ _ (holding [a] (call gg [a, .ref e, .ref C]) >>= ret) _ _ _
 exact wpAny_bind (wpAny_holding (wpAny_mono hq (fun v s' z => wpAny_pure z) fun _ _ z => z))
theorem oga_own {tk : Tok} {dx : Addr} {mA : Str → Option Value} {Q : Fin → Shared → Prop} (X : K.In h) (hC : h.get? C = some (excClassObj nm q C N bs bm true sn sub ab col dd k0 k1 k2 k3 k5 newId)) (hx : h.get? e = some o) (hc : o.cls = .ref C) (hnc : ∀ c, o.data ≠ .cls c) (ha : findIn K (.ref C) name = some none)
  (hdx : o.dict = some dx) (hns : h.Ns1 dx mA) (hv : mA name = some v) (hq : Q (.done (.ret v)) ⟨h, g, d, t, os⟩) :
  wpAny (model prog w) A (Builtin.«object.__getattribute__» ⟨[.ref e, .str name tk], []⟩) Q E ⟨h, g, d, t, os⟩ := by
 have L0 := tyx (M := model prog w) hx hc
 have L1 := looks_findIn (M := model prog w) X ha
 refine wpAny_bind (wpAny_pure (wpAny_bind (wpAny_pure (wpAny_bind (L0.at (wpAny_bind ?_))))))
 unfold find
 refine wpAny_bind (L1.at (wpAny_bind (wpAny_pure (wpAny_bind (wpAny_pure ?_)))))
 show wpAny _ _ (ownThenClass _ _ _ _) _ _ _
 unfold ownThenClass inOwnDict Builtin.ObjectAttr.ownDict
 repeat (first | (with_reducible refine wpAny_loadPart_at hx ?_; try rw [hc]) | wp_step)
 split
 ·rename_i c hcd
  exact absurd hcd (hnc c)
 unfold instanceDict
 repeat (first | (with_reducible refine wpAny_loadPart_at hx ?_; rw [hc]) | with_reducible refine wpAny_loadPart_at hC ?_ | wp_step)
 rw [hdx]
 repeat (first | (with_reducible refine wpAny_nsGet hns.ns ?_; rw [hv]) | wp_step)
 exact hq
theorem kitx_xc (qB : ktsIn K C "BaseException" = true) (hga : findIn K (.ref C) "__getattribute__" = some (some (.builtin "BaseException.__getattribute__"))) (hk : findIn K (.ref C) "__getattr__" = some none) (hdct : (clsIn K C).isSome = true) (ha : findIn K (.ref C) "__class__" = some (some (.builtin "object.__class__")))
  (hn : specialIn K (.builtin "object.__class__") "__get__" = some (some (.builtin "getset_descriptor.__get__"))) (htk : takesIn K (.builtin "object.__class__") = some true) (hm : mroIn K C (.type "object") = some true) :
  KitX K (.ref e) (.ref C) (fun h => ∃ o, h.get? e = some o ∧ o.cls = .ref C) where
 ty := fun _ _ _ ⟨_, h1, h2⟩ => tyx h1 h2
 it := fun _ _ X _ => by
  obtain ⟨cdD, hcD⟩ := Option.isSome_iff_exists.mp hdct
  unfold clsIn at hcD
  split at hcD
  ·rename_i c' d' cd' sl' ho
   intro A' Q' E' s' k q
   unfold isType loadHead
   exact wpAny_bind (wpAny_loadPart (k _ _ (X _ _ ho)) (wpAny_pure q))
  ·cases hcD
 ne := fun h tp dd its n sl X htp => by
  obtain ⟨cdD, hcD⟩ := Option.isSome_iff_exists.mp hdct
  refine Bool.eq_false_iff.mpr fun q => ?_
  have e : C = tp := Value.ref.inj (beq_iff_eq.mp q)
  subst e
  unfold clsIn at hcD
  split at hcD
  ·rename_i c' d' cd' sl' ho
   have z := (X _ _ ho).symm.trans htp
   cases z
  ·cases hcD
 ca := fun {prog w A E Q s} X ⟨o, h1, h2⟩ k => by
  obtain ⟨hh, g, d, t, os⟩ := s
  obtain ⟨nm, q', Na, bs, bm, hdct, sn, sub, ab, col, dd, k0, k1, k2, k3, k5, newId, hC, hbase, hbT⟩ := kts_cls X qB
  unfold getAttr? getAttrBy?
  refine wpAny_bind (wpAny_mkText (wpAny_bind (wpAny_attempt ?_)))
  refine xga_by X hC hbT h1 h2 hga hk fun A' => oga_bind X h1 h2 ha hn htk (wpAny_call (classx (s := ⟨hh, g, d, t + 1, os⟩) X h1 h2 hm ?_))
  exact handed_on rfl (wpAny_pure k)
end
end PySem.W
namespace PySem.W
open PySem PySem.Spec PySem.Calls PyProof.Rows Builtin Builtin.ObjectAttr
section
variable {prog : Program} {w : World} {A : Around} {E : Value → Shared → Prop} {h : Heap} {g : Array GenState} {d : Drawn} {t : Nat} {os : OsState} {K : Frag}
variable {nm q : Str} {C N e B : Addr} {o : Obj} {bs bm : List Value} {hdct : Bool} {sn : List Str} {sub : List Value} {ab : Bool} {col : Option Bool} {dd : Option Addr} {k0 k1 k2 k3 k5 : Option Value} {newId : String} {name : Str} {v : Value}
theorem base_init {rest : List Value} {Q : Value → Shared → Prop} {t0 : Addr} (T : OwnTail h bmV bm) (hC : h.get? C = some (excClassObj nm q C N bs bm hdct sn sub ab col dd k0 k1 k2 k3 k5 newId))
  (hx : h.get? e = some o) (hc : o.cls = .ref C) (hd : o.data = .fields #[.ref t0, .none, .none, .none, .bool false, .none]) (hrest : rest.length ≤ sizeLine)
  (hq : ∀ h' tp, (∀ b u, b ≠ e → h.get? b = some u → h'.get? b = some u) → h.get? tp = none → h'.get? e = some { o with data := .fields #[.ref tp, .none, .none, .none, .bool false, .none] } → Q .none ⟨h', g, d, t, os⟩) :
  wpAny (model prog w) A (call (.builtin "ValueError.__init__") (.ref e :: rest)) Q E ⟨h, g, d, t, os⟩ := by
 have F := PySem.F.excBase_ValueError
 obtain ⟨oc, od, oda, osl⟩ := o
 dsimp only at hc hd
 subst hc; subst hd
 refine wpAny_call (codeAny_call_builtin F.init.plain F.initEntry (wpAny_check_init_subU F T hC hx rfl ?_))
 wp_walk
 refine hq _ h.objs.size (fun b u hb hu => ?_) (Heap.get?_none_of_le (Nat.le_refl _)) ?_
 ·rw [Heap.get?_update_other _ _ (Ne.symm hb)]
  exact Heap.get?_push_of_some _ hu
 ·rw [Heap.get?_update_self _ (Heap.get?_push_of_some _ hx) rfl]
  rfl
theorem xset_entry {tk : Tok} {Q : Fin → Shared → Prop} (X : K.In h) (hC : h.get? C = some (excClassObj nm q C N bs (.ref B :: bmV) true sn sub ab col dd k0 k1 k2 k3 k5 newId)) (ha : findIn K (.ref C) name = some none)
  (hx : h.get? e = some o) (hc : o.cls = .ref C) (hnc : ∀ c, o.data ≠ .cls c) (hdn : o.dict = none)
  (hq : ∀ h' dx tk', (∀ b u, b ≠ e → h.get? b = some u → h'.get? b = some u) → h.get? dx = none → dx ≠ e → h'.get? e = some { o with dict := some dx } → h'.Ns1 dx (fun y => if y = name then some v else none) → Q (.done (.ret .none)) ⟨h', g, d, tk', os⟩) :
  wpAny (model prog w) A (Builtin.«object.__setattr__» ⟨[.ref e, .str name tk, v], []⟩) Q E ⟨h, g, d, t, os⟩ := by
 have hpass := PySem.F.store_ValueError.passes (.ref e)
 have L1 := looks_findIn (M := model prog w) X ha
 unfold Builtin.«object.__setattr__»
 repeat (first | rw [refuse_eq] | (rw [refuseLoop_ref, refuseLoop_ref, hpass]) | (with_reducible refine wpAny_loadPart_at hx ?_; rw [hc]) | with_reducible refine wpAny_mroOf_exc hC ?_ | with_reducible refine Looks.at L1 ?_ | wp_step)
 rw [hdn, if_neg (by simp [typeHasDict])]
 split
 ·rename_i hcd
  cases hcd
 split
 ·rename_i c hcd
  exact absurd hcd (hnc c)
 ·have hx₁ : (h.push { cls := .type "dict", data := .dict #[] }).get? e = some o := Heap.get?_push_of_some _ hx
  have hxs : e ≠ h.objs.size := Nat.ne_of_lt (Heap.lt_size hx)
  refine wpAny_bind (wpAny_alloc' ?_)
  refine wpAny_bind (wpAny_update' hx₁ ?_)
  refine wpAny_pure ?_
  have hgd : ((h.push { cls := .type "dict", data := .dict #[] }).update e fun o => { cls := o.cls, dict := some h.objs.size, data := o.data, slots := o.slots }).get? h.objs.size
    = some { cls := .type "dict", data := .dict #[] } :=
   (Heap.get?_update_ne _ _ _ _ hxs.symm).trans (Heap.get?_push_at rfl rfl)
  have hnd : ((h.push { cls := .type "dict", data := .dict #[] }).update e fun o => { cls := o.cls, dict := some h.objs.size, data := o.data, slots := o.slots }).Ns h.objs.size (fun _ => none) :=
   ⟨_, #[], _, hgd, rfl, fun e he => absurd he (by simp), fun _ => rfl⟩
  show wpAny _ _ (storeInDict h.objs.size (.str name tk) name v) _ _ _
  unfold storeInDict newKeyGuard
  refine wpAny_bind (wpAny_pure (wpAny_bind (wpAny_nsSet1 (Heap.Ns1.of_empty hnd) fun h' hn' hs => ?_)))
  obtain ⟨oD, esD, epD, hoD, hdD, hcD⟩ := hn'.count (Within.cons name v Within.nil)
  refine wpAny_bind (wpAny_lookBehind hoD (by rw [hdD]; exact pastItsLine_dict (Nat.le_trans hcD (by rw [List.length_cons, List.length_nil, sizeLine_eq]; omega))) ?_)
  wp_walk
  have hx' : h'.get? e = some { cls := o.cls, dict := some h.objs.size, data := o.data, slots := o.slots } := by
   refine (hs.2 e hxs).trans (Heap.get?_update_self _ hx₁ ?_)
   have hfr := (Heap.get?_some_iff.mp hx).2
   obtain ⟨oc, od, odt, osl⟩ := o
   cases odt <;> first | rfl | exact hfr
  exact hq h' h.objs.size _ (fun b u hb hu => (hs.2 b (Nat.ne_of_lt (Heap.lt_size hu))).trans ((Heap.get?_update_ne _ _ _ _ hb).trans (Heap.get?_push_of_some _ hu))) (Heap.get?_none_of_le (Nat.le_refl _)) hxs.symm hx' hn'
theorem xset_attr {Q : Unit → Shared → Prop} (X : K.In h) (hC : h.get? C = some (excClassObj nm q C N bs (.ref B :: bmV) true sn sub ab col dd k0 k1 k2 k3 k5 newId)) (hsa : findIn K (.ref C) "__setattr__" = some (some (.builtin "object.__setattr__"))) (ha : findIn K (.ref C) name = some none)
  (hx : h.get? e = some o) (hc : o.cls = .ref C) (hnc : ∀ c, o.data ≠ .cls c) (hdn : o.dict = none)
  (hq : ∀ h' dx tk', (∀ b u, b ≠ e → h.get? b = some u → h'.get? b = some u) → h.get? dx = none → dx ≠ e → h'.get? e = some { o with dict := some dx } → h'.Ns1 dx (fun y => if y = name then some v else none) → Q () ⟨h', g, d, tk', os⟩) :
  wpAny (model prog w) A (setAttr (.ref e) name v) Q E ⟨h, g, d, t, os⟩ := by
 have SF := PySem.F.store_ValueError
 have f3 := SF.slot.bind (.ref e)
 have L0 := tyx (M := model prog w) hx hc
 have L1 := looks_findIn (M := model prog w) X hsa
 have hcB : (Value.ref C :: .ref B :: bmV).contains (.type "object") = true := by simp
 have chk : ∀ {M : Model} {A : Around} {E : Value → Shared → Prop} {Q : Unit → Shared → Prop} {nameV : Value} {t : Nat}, Q () ⟨h, g, d, t, os⟩ → wpAny M A (checkBuiltinCall "object.__setattr__" ⟨[.ref e, nameV, v], []⟩) Q E ⟨h, g, d, t, os⟩ := fun {M A E Q nameV t} hq => by
  have ha := SF.args (.ref e) nameV v
  simp only [checkBuiltinCall, SF.kind, SF.split]
  refine wpAny_bind ?_
  unfold isInstance
  repeat (first | (with_reducible refine wpAny_loadPart_at hx ?_; rw [hc]) | (with_reducible refine wpAny_isSubtype_exc hC ?_; rw [hcB]) | wp_step)
  exact hq
 unfold setAttr callSpecial? specialOf
 repeat (any_goals (first | assumption | (with_reducible refine wpAny_loadPart_at hx ?_; rw [hc]) | with_reducible refine Looks.at L1 ?_ | wp_step))
 refine codeAny_call_builtin SF.slot.plain SF.entry (chk (xset_entry X hC ha hx hc hnc hdn fun h' dx tk' h1 h2 h3 h4 h5 => ?_))
 repeat (any_goals (first | assumption | wp_step))
 exact hq h' dx tk' h1 h2 h3 h4 h5
end
end PySem.W
namespace TX
open PySem PySem.Spec PyProof.Rows L2
theorem ns_some {K : PySem.W.Frag} {h : Heap} {N : Addr} {mN : Str → Option Value} {n : Str} {v : Value} (X : K.In h) (G : h.Ns N mN) (e : PySem.W.nsIn K N n = some (some v)) : mN n = some v := by
 obtain ⟨o, es, ep, ho, hd, _, hf⟩ := G
 unfold PySem.W.nsIn at e
 split at e
 ·rename_i c d es' n' sl q
  have := X _ _ q
  rw [ho] at this
  cases this
  cases hd
  split at e
  ·rename_i en he
   cases e
   rw [← hf]
   unfold nsFind findBy
   rw [← Array.find?_toList, he]
   rfl
  ·split at e <;> cases e
 ·cases e
def excN (C e : Addr) : HO := .ext fun h => ∃ o tp, h.get? e = some o ∧ o.cls = .ref C ∧ o.dict = none ∧ o.data = .fields #[.ref tp, .none, .none, .none, .bool false, .none]
def excD (C e dx : Addr) : HO := .ext fun h => ∃ o tp, h.get? e = some o ∧ o.cls = .ref C ∧ o.dict = some dx ∧ o.data = .fields #[.ref tp, .none, .none, .none, .bool false, .none]
theorem excN_ok {P : Program} {w : World} {H : Hp} {h : Heap} {C e : Addr} {o : Obj} {tp : Addr} (ho : h.get? e = some o) (hc : o.cls = .ref C) (hd : o.dict = none) (hf : o.data = .fields #[.ref tp, .none, .none, .none, .bool false, .none]) : ObjOk P w H h e (excN C e) :=
 ⟨⟨o, tp, ho, hc, hd, hf⟩, ⟨o, ho⟩, fun h1 h2 ⟨u, t, a, b⟩ k => ⟨u, t, k _ a, b⟩⟩
theorem excD_ok {P : Program} {w : World} {H : Hp} {h : Heap} {C e dx : Addr} {o : Obj} {tp : Addr} (ho : h.get? e = some o) (hc : o.cls = .ref C) (hd : o.dict = some dx) (hf : o.data = .fields #[.ref tp, .none, .none, .none, .bool false, .none]) : ObjOk P w H h e (excD C e dx) :=
 ⟨⟨o, tp, ho, hc, hd, hf⟩, ⟨o, ho⟩, fun h1 h2 ⟨u, t, a, b⟩ k => ⟨u, t, k _ a, b⟩⟩
def hide (H : Hp) (e : Addr) : Hp := fun b => if b = e then none else H b
theorem hide_same {H : Hp} {e : Addr} : hide H e e = none := if_pos rfl
theorem hide_ne {H : Hp} {e b : Addr} (n : b ≠ e) : hide H e b = H b := if_neg n
def excII (K : PySem.W.Frag) (C B fI : Addr) : Bool := match K.lookup C with
 | some ⟨.type "type", _, .cls cd, sl⟩ => (match cd.mro, sl.toList with
  | .ref C' :: bm, [_, _, _, _, some (.builtin n), _] => C' == C && n == "ValueError.__new__" && !cd.hasDel && (bm == .ref B :: PySem.W.bmV) && cd.hasDict && PySem.W.tailIn K PySem.W.bmV bm && PySem.W.nsOkIn K cd.ns && PySem.W.nsIn K cd.ns "__init__" == some (some (.ref fI))
  | _, _ => false)
 | _ => false
theorem exc_objI {K : PySem.W.Frag} {C B fI : Addr} {h : Heap} (kin : K.In h) (q : excII K C B fI = true) :
  ∃ (Na : Addr) (nm qn : Str) (bs : List Value) (sn : List Str) (sub : List Value) (ab : Bool) (col : Option Bool) (dd : Option Addr) (k0 k1 k2 k3 k5 : Option Value) (mN : Str → Option Value),
   h.get? C = some (excClassObj nm qn C Na bs (.ref B :: PySem.W.bmV) true sn sub ab col dd k0 k1 k2 k3 k5 "ValueError.__new__") ∧ h.Ns Na mN ∧ mN "__init__" = some (.ref fI) ∧ OwnTail h PySem.W.bmV (.ref B :: PySem.W.bmV) := by
 unfold excII at q
 split at q
 case h_2 => cases q
 case h_1 dd cl sl look =>
  split at q
  case h_2 => cases q
  case h_1 C2 bm k0 k1 k2 k3 nid k5 mro slots =>
   simp only [Bool.and_eq_true, beq_iff_eq, Bool.not_eq_true'] at q
   obtain ⟨⟨⟨⟨⟨⟨⟨q1, q2⟩, q3⟩, q4⟩, q5⟩, q6⟩, q7⟩, q8⟩ := q
   subst q1; subst q2; subst q4
   have there := kin _ _ look
   have own := PySem.W.tail_of_in kin q6
   have ns : h.Ns cl.ns (h.nsMap cl.ns) := .of_isNs (PySem.W.isNs_of_in kin q7)
   have no := ns_some kin ns q8
   cases cl
   have esl : sl = #[k0, k1, k2, k3, some (.builtin "ValueError.__new__"), k5] := Array.toList_inj.mp slots
   simp only at mro q3 q5 own ns no
   subst esl
   rw [mro, q3, q5] at there
   exact ⟨_, _, _, _, _, _, _, _, dd, k0, k1, k2, k3, k5, _, there, ns, no, own⟩
section
variable {X : Cx} {pins : List (Addr × Obj)} {σ : L2.St} {H : Hp} {s : Shared}
theorem untrack {e : Addr} {φ : Heap → Prop} (I : Inv X pins σ H s) (q : H e = some (.ext φ)) : Inv X pins σ (hide H e) s := by
 have ne : ∀ b u, H b = some u → u ≠ .ext φ → b ≠ e := fun b u h1 h2 z => by rw [z, q] at h1; exact h2 (Option.some.inj h1).symm
 refine ⟨I.ok, I.os, I.bare, ⟨I.base.keep, I.base.slot, fun b ob e1 n hx => ?_, I.base.there, fun b xs e1 => ?_, fun b ob u e1 => ?_, fun b ps e1 => ?_⟩, I.loc, I.cell, ?_, fun x c e1 => ?_, fun p hp => ?_, fun b u e1 => ?_, I.len⟩
 ·unfold hide; split
  ·rfl
  ·exact I.base.free b ob e1 n hx
 ·have z := I.base.tups b xs e1
  rw [hide_ne (ne b _ z (by intro h; cases h))]; exact z
 ·have z := I.base.frzs b ob u e1
  rw [hide_ne (ne b _ z (by intro h; cases h))]; exact z
 ·obtain ⟨more, z⟩ := I.base.tbls b ps e1
  exact ⟨more, by rw [hide_ne (ne b _ z (by intro h; cases h))]; exact z⟩
 ·unfold hide; split
  ·rfl
  ·exact I.free
 ·unfold hide; split
  ·rfl
  ·exact I.freeC x c e1
 ·obtain ⟨a, b, c⟩ := I.pin p hp
  refine ⟨a, ?_, c⟩
  unfold hide; split
  ·rfl
  ·exact b
 ·by_cases hb : b = e
  ·rw [hb, hide_same] at e1; cases e1
  ·rw [hide_ne hb] at e1
   exact (I.hok b u e1).stay (fun c v _ z => z) (fun c z => by rw [hide_ne (ne c _ z (by intro h; cases h))]; exact z) fun c xs z => by rw [hide_ne (ne c _ z (by intro h; cases h))]; exact z
def tSupI (C : Addr) (t : TA) : TE := fun σ H Q => t σ H fun vs H1 => ∃ e ys, vs = .ref e :: ys ∧ ys.length ≤ 100 ∧ H1 e = some (excN C e) ∧ Q .non H1
theorem upd_id {H : Hp} {e : Addr} {o : HO} (h : H e = some o) : upd H e o = H := by
 funext b
 by_cases hb : b = e
 ·rw [hb, upd_same, h]
 ·rw [upd_ne hb]
theorem pe_supI {C B fI : Addr} {x : Str} {np apos pos : Pos} {a : Expr} {es : List Expr} {t : TA} {pl : Sem Bool} (qC : excII X.K C B fI = true) (hg : Gl X x) (hm : X.mg x = some (.ref B)) (hgB : PySem.W.specialIn X.K (.ref B) "__getattribute__" = some (some (.builtin "type.__getattribute__")))
  (hrB : PySem.W.readsIn X.K B (.type "type") = true) (hfB : PySem.W.findCls X.K (.ref B) (.type "type") "__init__" = some (.val (.builtin "ValueError.__init__"))) (ha : PA X (a :: es) t)
  (hd : (x == ("__debug__" : Str)) = false := by decide) (he : starEach (a :: es) X.env = (false, eval a X.env) :: starEach es X.env := by rfl) (hpl : (backTo pos (starEach es X.env)).any (·.1) = false := by rfl)
  (ht : eval (.Call (.Attribute (.Name x np) "__init__" apos) (a :: es) [] pos) X.env = (do
   let ov ← eval (.Name x np) X.env
   standAt apos.atName
   let (f, first) ← holding [ov] (getMethod ov "__init__" pl)
   callWith pos f first (backTo pos (starEach (a :: es) X.env)) (backToKw pos (keywordEach [] X.env))) := by rfl) :
  PE X (.Call (.Attribute (.Name x np) "__init__" apos) (a :: es) [] pos) (tSupI C t) := by
 intro pins s σ H Q I h
 refine PySem.W.methodCall_KW (pl := pl) (ld_glob I hg hm ?_ hd) ht
 refine PySem.W.method_cls I.kIn hgB (PySem.W.cls_value (mc := .type "type") I.kIn hrB hfB rfl ?_)
 have I0 : Inv X pins σ H { s with toks := s.toks + 1 } := I.tok _
 refine PyProof.Rows.callWith_builtin1 (thn (ha pos pins _ σ H _ I0 h) fun us s1 ⟨vs, H1, I1, r1, q1⟩ => ?_) he hpl
 obtain ⟨e, ys, rfl, hl, h1, hq⟩ := q1
 cases r1 with
 | cons ra rb =>
  obtain rfl := (show _ = Value.ref e from ra)
  obtain ⟨Na, nm, qn, bs, sn, sub, ab, col, dd, k0, k1, k2, k3, k5, mN, hC, hN, hi, TL⟩ := exc_objI I1.kIn qC
  obtain ⟨⟨o, tp, ho, hc, hdn, hf⟩, _⟩ := I1.hok e _ h1
  obtain ⟨hp, g, d, tk, os⟩ := s1
  refine PySem.W.base_init TL hC ho hc hf (by rw [← rb.length, sizeLine_eq]; omega) fun h' tp' k1 k2 k3 => ?_
  have I2 := I1.write (x := e) (e := e) (o := excN C e) (h' := h') (t' := tk) (by rw [h1]; exact True.intro) (.inl rfl) k1 ⟨_, k3⟩ (excN_ok k3 hc hdn rfl)
  rw [upd_id h1] at I2
  exact ⟨.non, H1, I2, rfl, hq⟩
def sFldX (C : Addr) (ta tv : TE) (f : Str) : TS := fun D σ H => tv σ H fun y H1 => ta σ H1 fun x H2 => ∃ e, x = .ref e ∧ H2 e = some (excN C e) ∧ ∀ dx, H2 dx = none → dx ≠ e → D.nx σ (upd (upd H2 e (excD C e dx)) dx (.xd [(f, y)]))
theorem ps_fldX {C B fI : Addr} {o value : Expr} {f : Str} {pos pos' : Pos} {ta tv : TE} (qC : excII X.K C B fI = true) (hsa : PySem.W.findIn X.K (.ref C) "__setattr__" = some (some (.builtin "object.__setattr__"))) (hf : PySem.W.findIn X.K (.ref C) f = some none) (hex : X.ex = [])
  (ha : PE X o ta) (hv : PE X value tv) (hs : swapsWith value (some (.Attribute o f pos')) pos.line X.env = pure false) : PS X (.Assign [.Attribute o f pos'] value pos) (sFldX C ta tv f) := by
 intro pins s σ H D I h
 refine plainObj_wpAny_Assign_Attribute (thn (hv pins s σ H _ I h) fun u s1 ⟨y, H1, I1, ry, q⟩ => thn (ha pins s1 σ H1 _ I1 q) fun ov s2 ⟨x, H2, I2, rx, e, ex, h2, q2⟩ => ?_) hs
 subst ex
 obtain rfl : ov = Value.ref e := rx
 obtain ⟨Na, nm, qn, bs, sn, sub, ab, col, dd, k0, k1, k2, k3, k5, mN, hC, hN, hi, TL⟩ := exc_objI I2.kIn qC
 obtain ⟨⟨ob, tp, ho, hc, hdn, hfl⟩, _⟩ := I2.hok e _ h2
 obtain ⟨hp, g, d, tk, os⟩ := s2
 refine PySem.W.xset_attr I2.kIn hC hsa hf ho hc (fun c z => by rw [hfl] at z; cases z) hdn fun h' dx tk' k1 k2 k3 k4 k5 => ?_
 have I3 := I2.write (x := e) (e := e) (o := excD C e dx) (h' := h') (t' := tk') (by rw [h2]; exact True.intro) (.inl rfl) k1 ⟨_, k4⟩ (excD_ok k4 hc rfl hfl)
 have hnx : H2 dx = none := HOk.none I2.hok k2
 have I4 : Inv X pins σ (upd (upd H2 e (excD C e dx)) dx (.xd [(f, y)])) ⟨h', g, d, tk', os⟩ := track I2 I3 hex k2 (by rw [upd_ne k3]; exact hnx) ⟨_, k5, fun z => by
  show RelO (List.lookup z [(f, y)]) (if z = f then some u else none)
  by_cases hz : z = f
  ·subst hz; rw [if_pos rfl]; simp only [List.lookup, beq_self_eq_true]; exact ry
  ·rw [if_neg hz]
   have : (z == f) = false := by simpa using hz
   simp only [List.lookup, this]; exact True.intro⟩
 exact ⟨σ, _, I4, q2 dx hnx k3⟩
end
end TX
namespace TX
open PySem PySem.Spec PyProof.Rows L2
section
variable {P : Program} {w : World} {K : PySem.W.Frag} {mg : Str → Option Value} {base : Heap} {N : List Str} {qual : Str} {scope : Scope} {f : Addr} {cd : Value} {A : Around} {outer : List Env} {s₀ : Shared} {H₀ : Hp} {E : XK} {C : Addr} {lo : Bool}
theorem init_leaves {pins : List (Addr × Obj)} {σ : L2.St} {H : Hp} {s : Shared} {e dx : Addr} (I : Inv (cxb lo C P w K mg base N qual scope f cd A outer s₀ H₀ E) pins σ H s) (q : H e = some (excD C e dx)) (e0 : s₀.heap.get? e = none) (hE : E (.ref C) (some dx) (hide H e)) :
  (cxb lo C P w K mg base N qual scope f cd A outer s₀ H₀ E).xe (.ref e) s := by
 have hin : ∀ env ∈ (cxb lo C P w K mg base N qual scope f cd A outer s₀ H₀ E).stack, ∀ b, env.frame = some b → b ∈ [e] ++ frs (cxb lo C P w K mg base N qual scope f cd A outer s₀ H₀ E).stack := fun env he b hb => List.mem_append_right _ (List.mem_filterMap.mpr ⟨env, he, hb⟩)
 have I' := untrack (φ := _) I q
 obtain ⟨⟨o, tp, ho, hc, hd, hf⟩, _⟩ := I.hok e _ q
 have hex : ∀ b ∈ [e], hide H e b = none ∧ s₀.heap.get? b = none := fun b hb => by
  obtain rfl := List.mem_singleton.mp hb
  exact ⟨hide_same, e0⟩
 have ff := PySem.W.funFrames_hide I.stack hin
 refine leaveFirstD (base := PySem.W.hideAll s.heap ([e] ++ frs (cxb lo C P w K mg base N qual scope f cd A outer s₀ H₀ E).stack)) I.ok.frames ff rfl ho (fun b o q => PySem.W.of_hideAll _ q) (PySem.W.hideAll_none _ (by simp)) hf rfl rfl fun h2 L => ?_
 have tr := L.2.2.1
 rw [hc, hd] at tr
 refine left (ex := [e]) (h1 := s.heap) I' rfl rfl (fun b o q _ => q) L.1 L.2.2.2 hex ?_ hE
 refine fly_of (h := s.heap) (ex := [e]) (l := (cxb lo C P w K mg base N qual scope f cd A outer s₀ H₀ E).stack) rfl ?_ tr (.inl rfl) hide_same hex e0 (fun b q => HOk.none I'.hok q) (there0 I')
 exact ff.of_keeps fun b o q hn => by
  obtain ⟨sl, z⟩ := L.2.2.2 b o q hn
  exact ⟨_, z, rfl⟩
def tRaiseI (E : XK) (C : Addr) (sp : Sp) (ta : TE) : TS := fun _ σ H => ta σ H fun y H1 => ∀ e, H1 e = none → sp [.ref e, y] (upd H1 e (excN C e)) (fun v H2 => v = .non ∧ ∃ dx, H2 e = some (excD C e dx) ∧ E (.ref C) (some dx) (hide H2 e)) fun _ _ _ => False
theorem ps_raiseI {x : Str} {np cpos pos : Pos} {a : Expr} {ta : TE} {k : Nat} {B fI : Addr} {fd : FuncData} {ps : List Str} {sp : Sp} (q : excII K C B fI = true) (hfn : PySem.W.isFn K (.ref fI) = true) (F : FnOk P w K mg base CX0 k fI fd ps sp) (hr : Room (k + 1) (cxb lo C P w K mg base N qual scope f cd A outer s₀ H₀ E).A) (hb : Binds K fd ps [])
  (hg : Gl (cxb lo C P w K mg base N qual scope f cd A outer s₀ H₀ E) x) (hm : mg x = some (.ref C)) (ha : PE (cxb lo C P w K mg base N qual scope f cd A outer s₀ H₀ E) a ta)
  (hd : (x == ("__debug__" : Str)) = false := by decide) (hs : starEach [a] (cxb lo C P w K mg base N qual scope f cd A outer s₀ H₀ E).env = [(false, eval a (cxb lo C P w K mg base N qual scope f cd A outer s₀ H₀ E).env)] := by rfl) :
  PS (cxb lo C P w K mg base N qual scope f cd A outer s₀ H₀ E) (.Raise (some (.Call (.Name x np) [a] [] cpos)) none pos) (tRaiseI E C sp ta) := by
 intro pins s σ H D I h
 obtain ⟨Na, nm, qn, bs, sn, sub, ab, col, dd, k0, k1, k2, k3, k5, mN, hC, hN, hi, TL⟩ := exc_objI I.mod.kin q
 refine raise_init (C := C) (nm := nm) (q := qn) (N := Na) (bs := bs) (bm := .ref B :: PySem.W.bmV) (hdct := true) (sn := sn) (sub := sub) (ab := ab) (col := col) (dd := dd) (k0 := k0) (k1 := k1) (k2 := k2) (k3 := k3) (k5 := k5) (fI := fI) PySem.F.excBase_ValueError (by decide) PySem.F.excBase_ValueError (mN := mN) (by rw [List.contains_cons]; simp) hr.hd (by rw [hs]; rfl) hi (ld_glob I hg hm ⟨rfl, ?_⟩ hd)
 rw [hs]
 refine Calls.evalArgs_plain (Calls.spliced_cons (thn (ha pins s σ H _ I h) fun v s1 ⟨y, H1, I1, r1, q1⟩ => Calls.spliced_nil ?_))
 have hfo : ∃ oI, s1.heap.get? fI = some oI ∧ oI.cls = .type "function" := by
  have z := beq_iff_eq.mp hfn
  obtain ⟨o, ho, hc⟩ := Option.map_eq_some_iff.mp z
  exact ⟨o, I1.kIn _ _ ho, hc⟩
 refine ⟨rfl, (by show 1 ≤ sizeLine; decide), I1.bk _ _ hC, hN.keeps I1.bk, TL.keeps I1.bk, hfo, fun h' e hx => ?_⟩
 have hne : H1 e = none := HOk.none I1.hok hx.new
 obtain ⟨tp, htp, _, _⟩ := hx.there
 have Ik : Inv (cxb lo C P w K mg base N qual scope f cd A outer s₀ H₀ E) pins σ H1 { s1 with heap := h' } := I1.kept (t' := s1.toks) hx.keeps
 have I2 : Inv (cxb lo C P w K mg base N qual scope f cd A outer s₀ H₀ E) pins σ (upd H1 e (excN C e)) { s1 with heap := h' } := track I1 Ik rfl hx.new hne (excN_ok htp rfl rfl rfl)
 have hsp := q1 e hne
 have e0 : s₀.heap.get? e = none := by
  cases z : s₀.heap.get? e with
  | none => rfl
  | some o => obtain ⟨o', z'⟩ := there0 I1 e o z; rw [hx.new] at z'; cases z'
 have r2 : Vals [.ref e, y] [Value.ref e, v] := .cons rfl (.cons r1 .nil)
 have hl : [Value.ref e, v].length = ps.length := by rw [← r2.length]; exact F.len _ _ _ _ hsp
 refine wpAny_call (codeAny_mono (F.run _ _ _ _ ⟨[Value.ref e, v], []⟩ [Value.ref e, v] _ _ _ (hr.make C [v] []) (I2.env0.make C [v] []) (by simpa using hb _ [Value.ref e, v] I2.kIn (by simpa using hl)) r2 hsp) fun r s3 hq => ?_)
 cases r with
 | error e => exact False.elim hq
 | ok fl =>
  cases fl with
  | next => exact False.elim hq
  | brk => exact False.elim hq
  | cont => exact False.elim hq
  | ret u =>
   obtain ⟨z, H3, I3, r3, rfl, dx, h3, hE⟩ := I2.after hq
   obtain rfl := (show u = Value.none from r3)
   obtain ⟨⟨o, tp', ho, hc, hd', hf⟩, _⟩ := I3.hok e _ h3
   exact ⟨rfl, tp', o, I3.bk _ _ hC, ho, hc, hf, init_leaves I3 h3 e0 hE⟩
end
end TX
namespace TX
open PySem PySem.Spec PyProof.Rows L2
structure XC (K : PySem.W.Frag) (C : Addr) : Prop where
 kt : PySem.W.ktsIn K C "BaseException" = true
 ga : PySem.W.findIn K (.ref C) "__getattribute__" = some (some (.builtin "BaseException.__getattribute__"))
 gt : PySem.W.findIn K (.ref C) "__getattr__" = some none
 cl : (PySem.W.clsIn K C).isSome = true
 ca : PySem.W.findIn K (.ref C) "__class__" = some (some (.builtin "object.__class__"))
 hn : PySem.W.specialIn K (.builtin "object.__class__") "__get__" = some (some (.builtin "getset_descriptor.__get__"))
 tk : PySem.W.takesIn K (.builtin "object.__class__") = some true
 mr : PySem.W.mroIn K C (.type "object") = some true
section
variable {X : Cx}
def rIsX (K : PySem.W.Frag) : List V → Hp → VK → Prop := fun xs H Q => ∃ e c C cv b od cx, xs = [.ref e, c] ∧ (∀ u, RelV c u → u = cv) ∧ H e = some (excO C e od cx) ∧ XC K C ∧ PySem.W.kitOne K (.ref C) cv = some b ∧ Q (.bl b) H
theorem call_isX : CallR X (.builtin "isinstance") (rIsX X.K) := by
 intro pins s σ H xs us Q I r h
 obtain ⟨e, c, C, cv, b, od, cx, rfl, hc, he, xc, k, q⟩ := h
 obtain ⟨u, w, rfl, rx, rc⟩ := vals2 r
 rw [hc w rc]
 obtain rfl := (show u = Value.ref e from rx)
 exact PySem.W.kia_one (PySem.W.kitx_xc xc.kt xc.ga xc.gt xc.cl xc.ca xc.hn xc.tk xc.mr) I.kIn (excO_look I.hok he) k (fun z => nomatch z) fun tk => ⟨.bl b, H, I.tok tk, rfl, q⟩
def isB (b : Bool) : Value → Bool
 | .bool a => a == b
 | _ => false
def rCountB (K : PySem.W.Frag) : V → List V → Hp → VK → Prop := fun x vs H Q => ∃ (l : Addr) (bs : List Bool) (b : Bool), x = .ref l ∧ vs = [.bl b] ∧ SqL K H l (bs.map V.bl) ∧ Q (.int (bs.count b : Nat)) H
def rIndexB (K : PySem.W.Frag) : V → List V → Hp → VK → Prop := fun x vs H Q => ∃ (l : Addr) (bs : List Bool) (b : Bool), x = .ref l ∧ vs = [.bl b] ∧ SqL K H l (bs.map V.bl) ∧ b ∈ bs ∧ bs.length ≤ 1000 ∧ Q (.int (bs.idxOf b : Nat)) H
end
end TX
namespace TX
open PySem PySem.Spec PyProof.Rows L2
mutual
inductive ExT (X : Cx) : Expr → TE → Prop where
 | int {i : Int} {k : Nat} {p : Pos} : ExT X (.Constant (.int i) k p) (tC (.int i))
 | str {x : Str} {k : Nat} {p : Pos} : ExT X (.Constant (.str x) k p) (tC (.str x))
 | bl {b : Bool} {k : Nat} {p : Pos} : ExT X (.Constant (.bool b) k p) (tC (.bl b))
 | non {k : Nat} {p : Pos} : ExT X (.Constant .none k p) (tC .non)
 | bin {l r : Expr} {o : Operator} {p : Pos} {te : TE} (h : PE X (.BinOp l o r p) te) : ExT X (.BinOp l o r p) te
 | ls {es : List Expr} {p : Pos} {t : TA} (h : ExA X es t) : ExT X (.List es p) (tLst t)
 | tp {es : List Expr} {c : Nat} {p : Pos} {t : TA} (h : ExA X es t) : ExT X (.Tuple es c p) (tTup t)
inductive ExA (X : Cx) : List Expr → TA → Prop where
 | nil : ExA X [] tNil
 | cons {e : Expr} {es : List Expr} {te : TE} {t : TA} (h : ExT X e te) (r : ExA X es t) : ExA X (e :: es) (tCons te t)
end
theorem ExT.star {X : Cx} {e : Expr} {te : TE} (h : ExT X e te) (es : List Expr) : starEach (e :: es) X.env = (false, eval e X.env) :: starEach es X.env := by
 cases h <;> rfl
mutual
theorem ExT.pe {X : Cx} : ∀ {e : Expr} {te : TE}, ExT X e te → PE X e te
 | _, _, .int => pe_int
 | _, _, .str => pe_str
 | _, _, .bl => pe_bl
 | _, _, .non => pe_non
 | _, _, .bin h => h
 | _, _, .ls h => pe_lst (ExA.pa h)
 | _, _, .tp h => pe_tup (ExA.pa h)
theorem ExA.pa {X : Cx} : ∀ {es : List Expr} {t : TA}, ExA X es t → PA X es t
 | _, _, .nil => pa_nil
 | _, _, .cons h r => pa_cons (ExT.pe h) (ExA.pa r) (h.star _)
end
end TX
namespace TX
open PySem PySem.Spec PyProof.Rows L2
theorem FnN.ok {P : Program} {w : World} {K : PySem.W.Frag} {mg : Str → Option Value} {base : Heap} {k : Nat} {f : Addr} {fd : FuncData} {ps : List Str} {sp : Sp} (F : FnN P w K mg base k f fd ps sp) : FnOk P w K mg base CX0 k f fd ps sp :=
 ⟨F.len, fun A outer s H args us vs Q E hr => F.run A outer s H args us vs Q E (RoomN.of hr)⟩
def PassesS (CX : CXT) (X : Cx) (E : L2.St → XK) : Prop := ∀ (pins : List (Addr × Obj)) (σ : L2.St) (H : Hp) (s : Shared) (e : Value) (s' : Shared), Inv X pins σ H s → CX X.stack H s (E σ) e s' → X.xe e s'
section
variable {X : Cx} {CX : CXT} {k : Nat} {f C : Addr} {fd : FuncData} {ps : List Str} {sp : Sp} {dvs : List V} {ds : List Value} {E : L2.St → XK} {x : Str} {p pos : Pos} {e : Expr} {es : List Expr} {t : TA}
theorem run_makeS {pins : List (Addr × Obj)} {σ : L2.St} {H : Hp} {s : Shared} {Q : VK} {us : List Value} {vs : List V} (M : Mk X.K C f) (F : FnOk X.prog X.w X.K X.mg X.base CX k f fd ps sp) (hr : Room (k + 1) X.A) (hb : Binds X.K fd ps ds) (hd : Vals dvs ds)
  (hx : PassesS CX X E) (I : Inv X pins σ H s) (r : Vals vs us) (h : ∀ x dx, H x = none → H dx = none → dx ≠ x → sp (.ref x :: (vs ++ dvs)) (upd (upd H dx (.own x)) x (.ins C dx [])) (fun v H2 => v = .non ∧ Q (.ref x) H2) (E σ)) :
  wpAny (model X.prog X.w) X.A (call (.ref C) us) (EP X pins σ Q) X.xe s := by
 have hq := h (s.heap.objs.size + 1) s.heap.objs.size (I.hok.fresh (Nat.le_succ _)) (I.hok.fresh (Nat.le_refl _)) (Nat.ne_of_lt (Nat.lt_succ_self _))
 have I2 := Inv.made (C := C) I
 have r2 : Vals (V.ref (s.heap.objs.size + 1) :: (vs ++ dvs)) (Value.ref (s.heap.objs.size + 1) :: (us ++ ds)) := .cons rfl (r.append hd)
 have hl : (Value.ref (s.heap.objs.size + 1) :: us ++ ds).length = ps.length := by
  have e := r2.length
  rw [F.len _ _ _ _ hq] at e
  exact e.symm
 refine wpAny_call (make_map (f := f) I.kIn M.makes M.init (beq_iff_eq.mp M.fn) (codeAny_mono (F.run _ X.stack _ _ ⟨Value.ref (s.heap.objs.size + 1) :: us, []⟩ (Value.ref (s.heap.objs.size + 1) :: (us ++ ds)) _ _ (E σ) (hr.make C us [])
  (I2.env0.make C us []) (hb _ (Value.ref (s.heap.objs.size + 1) :: us) I2.kIn hl) r2 hq) fun r s' hq' => ?_))
 cases r with
 | error e => exact hx pins σ _ _ e s' I2 hq'
 | ok fl =>
  cases fl with
  | ret u =>
   obtain ⟨v, H', I3, rv, ev, q3⟩ := I2.after hq'
   subst ev
   exact ⟨rv, ⟨V.ref (s.heap.objs.size + 1), H', I3, rfl, q3⟩⟩
  | next => exact False.elim hq'
  | brk => exact False.elim hq'
  | cont => exact False.elim hq'
def tMakeS (C : Addr) (sp : Sp) (dvs : List V) (E : L2.St → XK) (t : TA) : TE := fun σ H Q => tMake C sp dvs (E σ) t σ H Q
theorem pe_makeS (M : Mk X.K C f) (F : FnOk X.prog X.w X.K X.mg X.base CX k f fd ps sp) (hr : Room (k + 1) X.A) (hg : Gl X x) (hm : X.mg x = some (.ref C)) (hb : Binds X.K fd ps ds) (hd : Vals dvs ds) (hx : PassesS CX X E)
  (ha : PA X (e :: es) t) (hdb : (x == ("__debug__" : Str)) = false := by decide) (he : starEach (e :: es) X.env = (false, eval e X.env) :: starEach es X.env := by rfl) (hpl : (backTo pos (starEach es X.env)).any (·.1) = false := by rfl) :
  PE X (.Call (.Name x p) (e :: es) [] pos) (tMakeS C sp dvs E t) := by
 intro pins s σ H Q I h
 refine wpAny_Call_Name_kw (ld_glob I hg hm ?_ hdb)
 refine PySem.W.callWith_K (h₀ := X.base) I.ok.mod.kin M.kp (thn (ha pos pins s σ H _ I h) fun us s1 ⟨vs, H1, I1, r, q⟩ => ⟨I1.kIn, ?_⟩) he hpl
 exact run_makeS M F hr hb hd hx I1 r q
end
section
variable {X : Cx} {C : Addr} {lo : Bool}
abbrev cxTS (lo : Bool) (X : Cx) (C : Addr) (pn : List (Addr × Obj)) (E : L2.St → XK) : Cx := { X with pn := pn, xe := fun ev s' => ∃ (σ : L2.St) (H0 : Hp) (s1 : Shared), Inv { X with pn := pn } [] σ H0 s1 ∧ CXb lo X.prog X.w C X.stack H0 s1 (E σ) ev s' }
theorem pass2S {pn : List (Addr × Obj)} {E : L2.St → XK} : PassesS (CXb lo X.prog X.w C) (cxTS lo X C pn E) E := fun pins σ H s e s' I hx => ⟨σ, H, s, inv_drop I, hx⟩
end
section
variable {prog : Program} {w : World} {A : Around} {E : Value → Shared → Prop} {s : Shared} {env : Env}
variable {nm q : Str} {C N : Addr} {bs bm bmB : List Value} {hdct : Bool} {sn : List Str} {sub : List Value} {ab : Bool} {col : Option Bool} {dd : Option Addr} {k0 k1 k2 k3 k5 : Option Value} {B Bn newId nid initId inN : String} {bmN : List Value}
theorem raised_from {x c : Sem Value} {e0 : Addr} {Q : Flow → Shared → Prop} (hbase : bm.contains (.type "BaseException") = true) (hh : A.handled = some (.ref e0)) (hc : ∀ (s' : Shared) (R : Value → Shared → Prop), R .none s' → wpAny (model prog w) A c R E s')
  (h : wpAny (model prog w) A x (fun v s₁ => ∃ e t oe pl, v = .ref e ∧ s₁.heap.get? C = some (excClassObj nm q C N bs bm hdct sn sub ab col dd k0 k1 k2 k3 k5 newId) ∧
   s₁.heap.get? e = some oe ∧ oe.cls = .ref C ∧ oe.data = .fields #[.ref t, .none, .none, .none, .bool false, .none] ∧ Chn e0 pl ∧ (∀ p ∈ pl, s₁.heap.get? p.1 = some p.2 ∧ p.1 ≠ e) ∧
   ∀ h', (∀ b o, b ≠ e → s₁.heap.get? b = some o → h'.get? b = some o) → h'.get? e = some { oe with data := .fields #[.ref t, .none, .ref e0, .none, .bool true, .none] } → E (.ref e) { s₁ with heap := h' }) E s) :
  wpAny (model prog w) A (raiseStmt env (some x) (some c)) Q E s := by
 have hcB : (Value.ref C :: bm).contains (.type "BaseException") = true := by rw [List.contains_cons, hbase, Bool.or_true]
 unfold raiseStmt
 refine wpAny_bind (wpAny_mono h (fun v s₁ h₁ => ?_) fun _ _ x => x)
 obtain ⟨e, t, oe, pl, rfl, hC, he, hcl, hda, ch, hpl, hE⟩ := h₁
 obtain ⟨hp, g, d, tk, os⟩ := s₁
 obtain ⟨oc, od, oda, osl⟩ := oe
 dsimp only at hcl hda
 subst hcl; subst hda
 refine wpAny_bind (wpAny_holding (hc _ _ (wpAny_bind (wpAny_pure ?_))))
 dsimp only
 refine wpAny_bind (wpAny_holding ?_)
 unfold excFromValue
 repeat (first | with_reducible refine wpAny_loadPart_at he ?_ | with_reducible refine wpAny_loadPart_at hC ?_ | (with_reducible refine wpAny_isSubtype_exc hC ?_; rw [hcB]) | wp_step)
 have hCe : e ≠ C := fun z => by
  subst z
  rw [hC] at he
  unfold excClassObj at he
  cases he
 have hC2 : ((hp.update e (Obj.mapFields fun x => x.setIfInBounds 3 Value.none)).update e (Obj.mapFields fun x => x.setIfInBounds 4 (Value.bool true))).get? C = some (excClassObj nm q C N bs bm hdct sn sub ab col dd k0 k1 k2 k3 k5 newId) :=
  (Heap.get?_update_other _ _ hCe).trans ((Heap.get?_update_other _ _ hCe).trans hC)
 have he2 := Heap.get?_update_self (Obj.mapFields fun x => x.setIfInBounds 4 (Value.bool true)) (Heap.get?_update_self (Obj.mapFields fun x => x.setIfInBounds 3 Value.none) he rfl) rfl
 have oth : ∀ b o, b ≠ e → hp.get? b = some o → ((hp.update e (Obj.mapFields fun x => x.setIfInBounds 3 Value.none)).update e (Obj.mapFields fun x => x.setIfInBounds 4 (Value.bool true))).get? b = some o := fun b o n z => (Heap.get?_update_other _ _ (Ne.symm n)).trans ((Heap.get?_update_other _ _ (Ne.symm n)).trans z)
 repeat (first | with_reducible refine wpAny_loadPart_at hC2 ?_ | wp_step)
 refine raiseNew_some hh ch (fun p hp' => ⟨oth _ _ (hpl p hp').2 (hpl p hp').1, (hpl p hp').2⟩) he2 rfl (by simp) ?_
 refine hE _ (fun b o n z => (Heap.get?_update_other _ _ (Ne.symm n)).trans (oth b o n z)) ?_
 exact (Heap.get?_update_self _ he2 rfl).trans rfl
theorem raise_from (Fn : ExcBaseFacts Bn newId inN bmN) (hBn : bmB.contains (.type Bn) = true) (F : ExcBaseFacts B nid initId bmB) {mN : Str → Option Value} {x : Str} {np cpos pos p1 : Pos} {j : Nat} {args : List Expr} {fI e0 : Addr} {Q : Flow → Shared → Prop}
  (hbase : bm.contains (.type "BaseException") = true) (hh : A.handled = some (.ref e0)) (hplain : (backTo cpos (starEach args env)).any (·.1) = false) (hi : mN "__init__" = some (.ref fI))
  (h : wpAny (model prog w) A (eval (.Name x np) env) (fun f s₁ => f = .ref C ∧ wpAny (model prog w) A (evalArgs (.ref C) true (backTo cpos (starEach args env)) [])
   (fun a s₂ => a.kw = [] ∧ a.pos.length ≤ sizeLine ∧ s₂.heap.get? C = some (excClassObj nm q C N bs bm hdct sn sub ab col dd k0 k1 k2 k3 k5 newId) ∧ s₂.heap.Ns N mN ∧ OwnTail s₂.heap bmB bm ∧ (∃ oI, s₂.heap.get? fI = some oI ∧ oI.cls = .type "function") ∧
    ∀ h' e, Heap.MadeExcOf s₂.heap h' e (.ref C) a.pos → wpAny (model prog w) (A.under (.builtin "type.__call__" ⟨.ref C :: a.pos, []⟩)) (call (.ref fI) (.ref e :: a.pos)) (fun r s₃ => r = .none ∧ ∃ t oe pl,
     s₃.heap.get? C = some (excClassObj nm q C N bs bm hdct sn sub ab col dd k0 k1 k2 k3 k5 newId) ∧ s₃.heap.get? e = some oe ∧ oe.cls = .ref C ∧ oe.data = .fields #[.ref t, .none, .none, .none, .bool false, .none] ∧
     Chn e0 pl ∧ (∀ p ∈ pl, s₃.heap.get? p.1 = some p.2 ∧ p.1 ≠ e) ∧
     ∀ h', (∀ b o, b ≠ e → s₃.heap.get? b = some o → h'.get? b = some o) → h'.get? e = some { oe with data := .fields #[.ref t, .none, .ref e0, .none, .bool true, .none] } → E (.ref e) { s₃ with heap := h' }) E { s₂ with heap := h' }) E s₁) E s) :
  wpAny (model prog w) A (exec (.Raise (some (.Call (.Name x np) args [] cpos)) (some (.Constant .none j p1)) pos) env) Q E s := by
 rw [arm_exec_Raise]
 refine wpAny_bind (wpAny_standAt (raised_from (C := C) (nm := nm) (q := q) (N := N) (bs := bs) (bm := bm) (hdct := hdct) (sn := sn) (sub := sub) (ab := ab) (col := col) (dd := dd) (k0 := k0) (k1 := k1) (k2 := k2) (k3 := k3) (k5 := k5) (newId := newId) hbase hh (fun s' R hR => wpAny_bind (wpAny_pure (wpAny_bind (wpAny_standAt (wpAny_pure hR))))) (wpAny_bind (wpAny_mono (wpAny_Call_ofName (wpAny_mono h (fun f s₁ h₁ => ?_) fun _ _ x => x)) (fun v s₃ h₃ => wpAny_bind (wpAny_standAt (wpAny_pure h₃))) fun _ _ x => x))))
 obtain ⟨rfl, h₁⟩ := h₁
 unfold callWith
 refine wpAny_bind (wpAny_holding (wpAny_mono h₁ (fun a s₂ h₂ => wpAny_bind (wpAny_standAt ?_)) fun _ _ x => x))
 obtain ⟨apos, akw⟩ := a
 obtain ⟨hkw, hlen, hC, hn, T, ⟨oI, hI, hIc⟩, h₂⟩ := h₂
 obtain rfl : akw = [] := hkw
 obtain ⟨hp, g, d, tk, os⟩ := s₂
 simp only [hplain]
 refine wpAny_bind (wpAny_keeperOf_exc hC ?_)
 refine wpAny_bind (call_initU (hrest := hlen) Fn hBn F T hC hn hi hI hIc fun h' e hm => wpAny_mono (h₂ h' e hm) (fun r s₃ ⟨h1, t, oe, pl, h2, h3, h4, h5, h6, h7, h8⟩ => ⟨h1, wpAny_bind (wpAny_holding (wpAny_point (wpAny_pure ?_)))⟩) fun _ _ z => z)
 exact ⟨e, t, oe, pl, rfl, h2, h3, h4, h5, h6, h7, h8⟩
end
section
variable {M : Model} {A : Around} {E : Value → Shared → Prop} {s : Shared}
theorem setFlightF {base : Heap} {l : List Env} {e L : Addr} {cls cx fl : Value} {od : Option Addr} {Q : Unit → Shared → Prop} (kb : base.StaysIn s.heap) (ff : s.heap.FunFrames base l) (tr : TrD s.heap base e cls cx fl od)
  (q : ∀ h', NoD base l e cls cx (rawInt L) od s.heap h' → Q () { s with heap := h' }) : wpAny M A (setFlight (.ref e) (some L)) Q E s := by
 obtain ⟨x, fs, T, y, ts, ge, c, dx, a1, nT, Te, gT, dT, a3⟩ := tr
 have z3 : 3 < ts.size := (Array.getElem?_eq_some_iff.mp a3).1
 have oth : ∀ b, b ≠ T → (s.heap.update T (Obj.mapFields (·.setIfInBounds 3 ((some L : Option Addr).elim Value.none fun f => rawInt f)))).get? b = s.heap.get? b := fun b z => Heap.get?_update_other _ _ (Ne.symm z)
 have rcd : ∀ b o, s.heap.get? b = some o → (∀ vs, o.data ≠ .fields vs) → b ≠ T := fun b o z nf y => by
  rw [y, gT] at z; cases z; exact nf ts dT
 unfold setFlight
 refine wpAny_bind (wpAny_field ge dx a1 ?_)
 rw [if_pos (show (Value.ref T != Value.none) = true from by simp)]
 refine wpAny_setField gT dT z3 (q _ ⟨fun b o z => (oth b fun y => by rw [y, nT] at z; cases z).trans (kb b o z), ff.of_keeps fun b o z nf => ⟨o, (oth b (rcd b o z nf)).trans z, rfl⟩, ?_, fun b o z nf => ⟨o.slots, (oth b (rcd b o z nf)).trans z⟩⟩)
 exact ⟨x, fs, T, _, _, (oth e (Ne.symm Te)).trans ge, c, dx, a1, nT, Te, Heap.get?_update_self _ gT (Obj.isFreed_of_fields (Obj.data_mapFields dT _)), Obj.data_mapFields dT _, by simp [z3]⟩
theorem leaveHeldD {base : Heap} {env : Env} {l : List Env} {L e : Addr} {cls cx : Value} {od : Option Addr} {Q : Unit → Shared → Prop} (lf : env.frame = some L) (kb : base.StaysIn s.heap) (ff : s.heap.FunFrames base l) (tr : TrD s.heap base e cls cx (rawInt L) od)
  (q : ∀ h', NoD base l e cls cx .none od s.heap h' → Q () { s with heap := h' }) : wpAny M A (leaving env (.ref e)) Q E s := by
 obtain ⟨x, fs, T, y, ts, ge, c, dx, a1, nT, Te, gT, dT, a3⟩ := id tr
 unfold leaving noteFrame
 simp only [lf]
 refine wpAny_bind (wpAny_bind (wpAny_field ge dx a1 ?_))
 rw [if_pos (show (Value.ref T != Value.none) = true from by simp)]
 refine wpAny_bind (wpAny_field gT dT a3 ?_)
 rw [if_pos (show (rawInt L == rawInt L) = true from by simp)]
 exact wpAny_pure (setFlightD kb ff tr q)
end
theorem RoomN.make {k : Nat} {A : Around} (r : RoomN (k + 1) A) (C : Addr) (us : List Value) (kw : List (Str × Value)) : RoomN k (A.under (.builtin "type.__call__" ⟨.ref C :: us, kw⟩)) :=
 ⟨by have := r.dp; rw [make_depth]; omega, by have := r.un; rw [make_units]; omega⟩
def excF (C e dx c : Addr) : HO := .ext fun h => ∃ o tp, h.get? e = some o ∧ o.cls = .ref C ∧ o.dict = some dx ∧ o.data = .fields #[.ref tp, .none, .ref c, .none, .bool true, .none]
theorem excF_ok {P : Program} {w : World} {H : Hp} {h : Heap} {C e dx c : Addr} {o : Obj} {tp : Addr} (ho : h.get? e = some o) (hc : o.cls = .ref C) (hd : o.dict = some dx) (hf : o.data = .fields #[.ref tp, .none, .ref c, .none, .bool true, .none]) : ObjOk P w H h e (excF C e dx c) :=
 ⟨⟨o, tp, ho, hc, hd, hf⟩, ⟨o, ho⟩, fun h1 h2 ⟨u, t, a, b⟩ k => ⟨u, t, k _ a, b⟩⟩
theorem ctxO_ok {P : Program} {w : World} {H : Hp} {h : Heap} {c : Addr} {o : Obj} {fs : Array Value} (ho : h.get? c = some o) (hd : o.data = .fields fs) (hf : fs[2]? = some .none) : ObjOk P w H h c (ctxO c) :=
 ⟨⟨o, fs, ho, hd, hf⟩, ⟨o, ho⟩, fun h1 h2 ⟨u, t, a, b⟩ k => ⟨u, t, k _ a, b⟩⟩
theorem hide_upd {H : Hp} {e : Addr} {o : HO} : hide (upd H e o) e = hide H e := by
 funext b
 unfold hide
 split
 ·rfl
 ·rename_i n; rw [upd_ne n]
section
variable {P : Program} {w : World} {K : PySem.W.Frag} {mg : Str → Option Value} {base : Heap} {N : List Str} {qual : Str} {scope : Scope} {f : Addr} {cd : Value} {A : Around} {outer : List Env} {s₀ : Shared} {H₀ : Hp} {E : XK} {C : Addr}
theorem from_leaves {pins : List (Addr × Obj)} {σ : L2.St} {H : Hp} {s : Shared} {e dx c : Addr} {v : Option Value} (I : Inv (cxb true C P w K mg base N qual scope f cd A outer s₀ H₀ E) pins σ H s) (q : H e = some (excF C e dx c)) (qc : H c = some (ctxO c)) (hne : c ≠ e) (e0 : s₀.heap.get? e = none) (hE : E (.ref C) (some dx) (hide H e)) :
  notedBy (model P w) ((cxb true C P w K mg base N qual scope f cd A outer s₀ H₀ E).A.mark v) (cxb true C P w K mg base N qual scope f cd A outer s₀ H₀ E).env (fun x s2 => cameBackBy (model P w) (cxb true C P w K mg base N qual scope f cd A outer s₀ H₀ E).A (cxb true C P w K mg base N qual scope f cd A outer s₀ H₀ E).env (cxb true C P w K mg base N qual scope f cd A outer s₀ H₀ E).xe x s2) (.ref e) s := by
 have hin : ∀ env ∈ (cxb true C P w K mg base N qual scope f cd A outer s₀ H₀ E).stack, ∀ b, env.frame = some b → b ∈ [e] ++ frs (cxb true C P w K mg base N qual scope f cd A outer s₀ H₀ E).stack := fun env he b hb => List.mem_append_right _ (List.mem_filterMap.mpr ⟨env, he, hb⟩)
 have I' := untrack (φ := _) I q
 obtain ⟨⟨o, tp, ho, hc, hd, hf⟩, _⟩ := I.hok e _ q
 have hex : ∀ b ∈ [e], hide H e b = none ∧ s₀.heap.get? b = none := fun b hb => by
  obtain rfl := List.mem_singleton.mp hb
  exact ⟨hide_same, e0⟩
 have ff := PySem.W.funFrames_hide I.stack hin
 refine noteFirstD (base := PySem.W.hideAll s.heap ([e] ++ frs (cxb true C P w K mg base N qual scope f cd A outer s₀ H₀ E).stack)) I.ok.frames ff rfl ho (fun b o q => PySem.W.of_hideAll _ q) (PySem.W.hideAll_none _ (by simp)) hf rfl rfl fun h1 L1 => ?_
 obtain ⟨x1, f1, T1, _, _, g1, _, d1, a1, _⟩ := id L1.2.2.1
 refine wpAny_bind (wpAny_field (s := { s with heap := h1 }) g1 d1 a1 ?_)
 rw [if_neg (by simp)]
 refine setFlightF (s := { s with heap := h1 }) L1.1 L1.2.1 L1.2.2.1 fun h2 L2 => ?_
 refine leaveHeldD (s := { s with heap := h2 }) rfl L2.1 L2.2.1 L2.2.2.1 fun h3 L3 => ?_
 have L := noD_trans L1 (noD_trans L2 L3)
 have tr := L.2.2.1
 rw [hc, hd] at tr
 refine left (ex := [e]) (h1 := s.heap) I' rfl rfl (fun b o q _ => q) L.1 L.2.2.2 hex ?_ hE
 refine fly_of (h := s.heap) (ex := [e]) (l := (cxb true C P w K mg base N qual scope f cd A outer s₀ H₀ E).stack) rfl ?_ tr (.inr ⟨rfl, c, rfl, by rw [hide_ne hne]; exact qc⟩) hide_same hex e0 (fun b q => HOk.none I'.hok q) (there0 I')
 exact ff.of_keeps fun b o q hn => by
  obtain ⟨sl, z⟩ := L.2.2.2 b o q hn
  exact ⟨_, z, rfl⟩
def tTryR (E : XK) (C : Addr) (sp : Sp) (tb : (L2.St → XK) → TS) (ta : TE) : TS := fun D σ H => tb (fun σ' _ _ H' => ∀ c, H' c = none → ta σ' (upd H' c (ctxO c)) fun y H1 => H1 c = some (ctxO c) ∧ ∀ e, H1 e = none →
 sp [.ref e, y] (upd H1 e (excN C e)) (fun v H2 => v = .non ∧ ∃ dx, H2 c = some (ctxO c) ∧ H2 e = some (excD C e dx) ∧ E (.ref C) (some dx) (hide H2 e)) fun _ _ _ => False) D σ H
theorem ps_tryR {body : List Stmt} {x y : Str} {np np2 cpos p1 p2 p3 pos : Pos} {j : Nat} {a : Expr} {tb : (L2.St → XK) → TS} {ta : TE} {bmB : List Value} {newId : String} {B0 B fI : Addr} {k : Nat} {fd : FuncData} {ps : List Str} {sp : Sp}
  (q0 : PySem.W.excIn K B0 bmB newId = true) (hb0 : bmB.contains (.type "BaseException") = true) (hg0 : Gl (cxb true C P w K mg base N qual scope f cd A outer s₀ H₀ E) x) (hm0 : mg x = some (.ref B0))
  (qC : excII K C B fI = true) (hfn : PySem.W.isFn K (.ref fI) = true) (F : FnN P w K mg base k fI fd ps sp) (hr : RoomN (k + 1) (cxb true C P w K mg base N qual scope f cd A outer s₀ H₀ E).A) (hb : Binds K fd ps [])
  (hg : Gl (cxb true C P w K mg base N qual scope f cd A outer s₀ H₀ E) y) (hm : mg y = some (.ref C))
  (hbody : ∀ (pn : List (Addr × Obj)) (E' : L2.St → XK), PSs (cxTS false (cxb true C P w K mg base N qual scope f cd A outer s₀ H₀ E) B0 pn E') body (tb E'))
  (ha : ∀ (e : Addr) (xe : Value → Shared → Prop), PE (cxS (cxb true C P w K mg base N qual scope f cd A outer s₀ H₀ E) e xe) a ta)
  (hd0 : (x == ("__debug__" : Str)) = false := by decide) (hd : (y == ("__debug__" : Str)) = false := by decide) (hs : starEach [a] (cxb true C P w K mg base N qual scope f cd A outer s₀ H₀ E).env = [(false, eval a (cxb true C P w K mg base N qual scope f cd A outer s₀ H₀ E).env)] := by rfl) :
  PS (cxb true C P w K mg base N qual scope f cd A outer s₀ H₀ E) (.Try body [.ExceptHandler (some (.Name x np)) none [.Raise (some (.Call (.Name y np2) [a] [] cpos)) (some (.Constant .none j p1)) p2] p3] [] [] pos) (tTryR E C sp tb ta) := by
 intro pins s σ H D I h
 refine wpAny_Try_except (wpAny_mono (hbody ((cxb true C P w K mg base N qual scope f cd A outer s₀ H₀ E).pn ++ pins) _ [] s σ H D (inv_pn I _) h) (fun f s1 r => ?_) fun ev s1 r => ?_)
 ·have r' := sp_unpn r
  cases f with
  | next => exact wpAny_execs_nil r'
  | ret v => exact r'
  | brk => exact r'
  | cont => exact r'
 ·obtain ⟨σ1, H0, s0, I0, e, H', od, rfl, hos, hgn, un, hok, ⟨cx, oe, vs, T, oT, tz, g1, g2, g3, g4, g5, g6, g7, g8, g9, g10, g11, g12, g13⟩, hE⟩ := r
  have hcx : cx = .none := g13.elim id fun z => absurd z.1 (by decide)
  subst hcx
  have I0' : Inv (cxb true C P w K mg base N qual scope f cd A outer s₀ H₀ E) pins σ1 H0 s0 := inv_unpn I0
  have I1 : Inv (cxb true C P w K mg base N qual scope f cd A outer s₀ H₀ E) pins σ1 H' s1 := Inv.after0 I0' hos un hok hgn
  have hin : ∀ env ∈ (cxb true C P w K mg base N qual scope f cd A outer s₀ H₀ E).stack, ∀ b, env.frame = some b → b ∈ [e, T] ++ frs (cxb true C P w K mg base N qual scope f cd A outer s₀ H₀ E).stack := fun env he b hb => List.mem_append_right _ (List.mem_filterMap.mpr ⟨env, he, hb⟩)
  have fF := PySem.W.funFrames_hide I1.stack hin
  have tr : TrD s1.heap (PySem.W.hideAll s1.heap ([e, T] ++ frs (cxb true C P w K mg base N qual scope f cd A outer s₀ H₀ E).stack)) e (.ref B0) .none .none od := ⟨oe, vs, T, oT, tz, g1, g2, g3, g4, PySem.W.hideAll_none _ (by simp), g5, g6, g7, g8⟩
  have hex : ∀ b ∈ [e, T], H' b = none ∧ s0.heap.get? b = none := fun b hb => by
   rcases List.mem_cons.mp hb with rfl | hb
   ·exact ⟨g9, g11⟩
   ·obtain rfl := List.mem_singleton.mp hb
    exact ⟨g10, g12⟩
  have again : ∀ h', (PySem.W.hideAll s1.heap ([e, T] ++ frs (cxb true C P w K mg base N qual scope f cd A outer s₀ H₀ E).stack)).StaysIn h' → s1.heap.UpToSlots h' → Inv (cxb true C P w K mg base N qual scope f cd A outer s₀ H₀ E) pins σ1 H' { s1 with heap := h' } := fun h' k u => by
   have kp : Kp (frs (cxb true C P w K mg base N qual scope f cd A outer s₀ H₀ E).stack) [e, T] s1.heap h' := Kp.of k (frames_kept I1.stack u)
   exact Inv.after0 (s' := { s1 with heap := h' }) I0' hos (kp.un un fun b hb => (hex b hb).2) (kp.hok hok (fun b hb => I1.stkFree b hb) fun b hb => (hex b hb).1) hgn
  refine noteOnD I1.ok.frames fF rfl tr (fun b o q => PySem.W.of_hideAll _ q) (PySem.W.hideAll_none _ (by simp)) fun h4 n4 => ?_
  refine setFlightD n4.1 n4.2.1 n4.2.2.1 fun h5 n5 => ?_
  have us := n4.2.2.2.trans n5.2.2.2
  have I5 := again h5 n5.1 us
  obtain ⟨ob, _, _, _, _, hob, ⟨hobc, _⟩, _⟩ := n5.2.2.1
  obtain ⟨bm0, Na0, nm0, qn0, bs0, hdct0, sn0, sub0, ab0, col0, dd0, j0, j1, j2, j3, j5, mN0, hC0, hN0, hni0, TL0⟩ := exc_obj I5.mod.kin q0
  refine wpAny_handleBy_cons (codeAny_handlers_test (Calls.Name_function_global I5.ok.kind hg0 (Calls.loadGlobal_global (by rw [I5.ok.glob]; exact I5.mod.glob.keeps I5.bk) hm0 ?_) hd0)) (by intro z; cases z)
  refine wpAny_excMatches_sub_self (I5.bk _ _ hC0) hob hobc (TL0.hasType hb0) (codeAny_handlers_suite ?_)
  refine setFlightD n5.1 n5.2.1 n5.2.2.1 fun h6 n6 => ?_
  have I6 := again h6 n6.1 (us.trans n6.2.2.2)
  obtain ⟨ob6, fs6, _, _, _, hob6, ⟨hobc6, hx6, hd6⟩, hf6, _⟩ := n6.2.2.1
  have I7 : Inv (cxb true C P w K mg base N qual scope f cd A outer s₀ H₀ E) pins σ1 (upd H' e (ctxO e)) { s1 with heap := h6 } := track I0' I6 rfl g11 g9 (ctxO_ok hob6 hf6 hx6)
  refine wpAny_execs_cons ?_
  have hEe := hE e g9
  obtain ⟨Na, nm, qn, bs, sn, sub, ab, col, dd, k0, k1, k2, k3, k5, mN, hC, hN, hi, TL⟩ := exc_objI I7.mod.kin qC
  refine raise_from (C := C) (nm := nm) (q := qn) (N := Na) (bs := bs) (bm := .ref B :: PySem.W.bmV) (hdct := true) (sn := sn) (sub := sub) (ab := ab) (col := col) (dd := dd) (k0 := k0) (k1 := k1) (k2 := k2) (k3 := k3) (k5 := k5) (fI := fI) (e0 := e) PySem.F.excBase_ValueError (by decide) PySem.F.excBase_ValueError (mN := mN) (by rw [List.contains_cons]; simp) rfl (by rw [hs]; rfl) hi ?_
  have I8 : Inv (cxS (cxb true C P w K mg base N qual scope f cd A outer s₀ H₀ E) e (notedBy (model P w) ((cxb true C P w K mg base N qual scope f cd A outer s₀ H₀ E).A.mark (some (.ref e))) (cxb true C P w K mg base N qual scope f cd A outer s₀ H₀ E).env (fun x s2 => cameBackBy (model P w) (cxb true C P w K mg base N qual scope f cd A outer s₀ H₀ E).A (cxb true C P w K mg base N qual scope f cd A outer s₀ H₀ E).env (cxb true C P w K mg base N qual scope f cd A outer s₀ H₀ E).xe x s2))) pins σ1 (upd H' e (ctxO e)) { s1 with heap := h6 } := inv_S I7
  refine ld_glob I8 hg hm ⟨rfl, ?_⟩ hd
  rw [hs]
  refine Calls.evalArgs_plain (Calls.spliced_cons (thn (ha e _ pins _ σ1 _ _ I8 hEe) fun v s9 ⟨z, H9, I9, r9, hc9, q9⟩ => Calls.spliced_nil ?_))
  have hfo : ∃ oI, s9.heap.get? fI = some oI ∧ oI.cls = .type "function" := by
   have z := beq_iff_eq.mp hfn
   obtain ⟨o, ho, hc⟩ := Option.map_eq_some_iff.mp z
   exact ⟨o, I9.kIn _ _ ho, hc⟩
  refine ⟨rfl, (by show 1 ≤ sizeLine; decide), I9.bk _ _ hC, hN.keeps I9.bk, TL.keeps I9.bk, hfo, fun h' ex hx => ?_⟩
  have hne : H9 ex = none := HOk.none I9.hok hx.new
  obtain ⟨tp, htp, _, _⟩ := hx.there
  have Ik := I9.kept (h' := h') (t' := s9.toks) hx.keeps
  have I10 := track I9 Ik rfl hx.new hne (excN_ok htp rfl rfl rfl)
  have hsp := q9 ex hne
  have r2 : Vals [.ref ex, z] [Value.ref ex, v] := .cons rfl (.cons r9 .nil)
  have hl : [Value.ref ex, v].length = ps.length := by rw [← r2.length]; exact F.len _ _ _ _ hsp
  refine wpAny_call (codeAny_mono (F.run _ _ _ _ ⟨[Value.ref ex, v], []⟩ [Value.ref ex, v] _ _ _ (hr.mark.make C [v] []) (I10.env0.make C [v] []) (by simpa using hb _ [Value.ref ex, v] I10.kIn (by simpa using hl)) r2 hsp) fun r s3 hq => ?_)
  cases r with
  | error e => exact False.elim hq
  | ok fl =>
   cases fl with
   | next => exact False.elim hq
   | brk => exact False.elim hq
   | cont => exact False.elim hq
   | ret u =>
    obtain ⟨zz, H3, I3, r3, rfl, dx, hc3, h3, hEE⟩ := I10.after hq
    obtain rfl := (show u = Value.none from r3)
    obtain ⟨⟨o, tp', ho, hcl, hd', hf⟩, _⟩ := I3.hok ex _ h3
    obtain ⟨⟨oc, fc, hoc, hdc, hfc⟩, _⟩ := I3.hok e _ hc3
    have nex : e ≠ ex := ne_of_none hc9 hne
    refine ⟨rfl, tp', o, [(e, oc)], I3.bk _ _ hC, ho, hcl, hf, .inl ⟨oc, fc, rfl, hdc, hfc⟩, fun p hp => by rw [List.mem_singleton.mp hp]; exact ⟨hoc, nex⟩, fun h9 kk he9 => ?_⟩
    have I4 := I3.write (x := ex) (e := ex) (o := excF C ex dx e) (h' := h9) (t' := s3.toks) (by rw [h3]; exact True.intro) (.inl rfl) kk ⟨_, he9⟩ (excF_ok he9 hcl hd' rfl)
    have e0 : s₀.heap.get? ex = none := by
     cases z : s₀.heap.get? ex with
     | none => rfl
     | some o => obtain ⟨o', z'⟩ := there0 (inv_unS I.ok I9) ex o z; rw [hx.new] at z'; cases z'
    exact from_leaves (inv_unS I.ok I4) upd_same (by rw [upd_ne nex]; exact hc3) nex e0 (by rw [hide_upd]; exact hEE)
end
end TX
namespace TX
open PySem PySem.Spec PyProof.Rows L2
def CtxAt (H : Hp) (e : Addr) (cx : Value) : Prop := cx = .none ∨ ∃ c, cx = .ref c ∧ c ≠ e ∧ H c = some (ctxO c)
theorem CtxOk.at {lo : Bool} {H : Hp} {e : Addr} {cx : Value} {o : HO} (x : CtxOk lo H cx) (he : H e = none) : CtxAt (upd H e o) e cx := by
 rcases x with h | ⟨_, c, h, hc⟩
 ·exact .inl h
 ·exact .inr ⟨c, h, ne_of_none hc he, by rw [upd_ne (ne_of_none hc he)]; exact hc⟩
section
variable {X : Cx}
def rAnyH (K : PySem.W.Frag) (e : Addr) : List V → Hp → VK → Prop := fun xs H Q => ∃ (p : Addr) (bs : List Bool) (C : Addr) (od : Option Addr) (cx : Value), xs = [.ref p] ∧ SqL K H p (bs.map V.bl) ∧ H e = some (excO C e od cx) ∧ CtxAt H e cx ∧ Q (.bl (bs.any id)) H
theorem call_anyH {e : Addr} {xe : Value → Shared → Prop} : CallR (cxS X e xe) (.builtin "any") (rAnyH X.K e) := by
 intro pins s σ H xs us Q I r h
 obtain ⟨p, bs, C, od, cx, rfl, hq, he, hcx, q⟩ := h
 obtain ⟨u, rfl, rx⟩ := vals1 r
 cases rx
 obtain ⟨its, r', pl, hz⟩ := I.list hq
 have hlt : p < s.heap.objs.size := by obtain ⟨o, e, _⟩ := pl.isList; exact Heap.lt_size e
 have hl := r'.length
 rw [List.length_map] at hl
 obtain ⟨oe, fe, ge, _, _, de, xe'⟩ := excO_full I.hok he
 obtain ⟨ch, hch, hmem⟩ : ∃ ch, Chn e ch ∧ ∀ x ∈ ch, s.heap.get? x.1 = some x.2 := by
  rcases hcx with rfl | ⟨c, rfl, nc, hc⟩
  ·exact ⟨[(e, oe)], .inl ⟨oe, fe, rfl, de, xe'⟩, fun x hx => by rw [List.mem_singleton.mp hx]; exact ge⟩
  ·obtain ⟨⟨u, gs, g1, g2, g3⟩, _⟩ := I.hok c _ hc
   refine ⟨[(e, oe), (c, u)], .inr ⟨oe, fe, c, u, gs, rfl, de, xe', nc, g2, g3⟩, fun x hx => ?_⟩
   rcases List.mem_cons.mp hx with rfl | hx
   ·exact ge
   ·rw [List.mem_singleton.mp hx]; exact g1
 refine call_any_walk (wpAny_pyIter_list pl.isList ?_)
 refine ⟨s.heap.objs.size, _, [s.heap.objs.size], _, _, _, fun i => bs.getD i false, rfl, walks_listH (A := (cxS X e xe).A.in1) s.heap.objs.size p e ch rfl hch (fun x hx => Nat.ne_of_lt (Heap.lt_size (hmem x hx))) (Nat.ne_of_lt hlt) its.toArray,
  ⟨⟨_, Heap.get?_push_size _ rfl, rfl, rfl⟩, pl.isList.push _, fun x hx => Heap.get?_push_of_some _ (hmem x hx)⟩, truth_bools r', fun h' tk hk => ?_⟩
 have e2 : (List.range its.toArray.size).any (fun i => bs.getD i false) = bs.any id := by
  rw [List.size_toArray, ← hl]; exact any_range bs
 rw [e2]
 exact ⟨.bl _, H, I.kept (t' := tk) fun b o eb => hk b o (by simpa using Nat.ne_of_lt (Heap.lt_size eb)) (Heap.get?_push_of_some _ eb), rfl, q⟩
theorem call_isXS {e : Addr} {xe : Value → Shared → Prop} : CallR (cxS X e xe) (.builtin "isinstance") (rIsX X.K) := call_isX
theorem call_lenX {e : Addr} {xe : Value → Shared → Prop} : CallR (cxS X e xe) (.builtin "len") (rLen X.K) := call_lenS
def tFldX (C : Addr) (ta : TE) (f : Str) : TE := fun σ H Q => ta σ H fun x H1 => ∃ e dx cx fs v, x = .ref e ∧ H1 e = some (excO C e (some dx) cx) ∧ H1 dx = some (.xd fs) ∧ fs.lookup f = some v ∧ Q v H1
theorem pe_fldX {C B fI : Addr} {o : Expr} {f : Str} {pos : Pos} {ta : TE} (qC : excII X.K C B fI = true) (xc : XC X.K C) (hf : PySem.W.findIn X.K (.ref C) f = some none) (he : PE X o ta) (hb : attributeBase o f X.env (eval o X.env) = eval o X.env) :
  PE X (.Attribute o f pos) (tFldX C ta f) := by
 intro pins s σ H Q I h
 refine attr_of hb (thn (he pins s σ H _ I h) fun u s1 ⟨x, H1, I1, rx, e, dx, cx, fs, v, ex, h1, h2, h3, q⟩ => ?_)
 subst ex
 obtain rfl : u = Value.ref e := rx
 obtain ⟨ob, fe, ho, hc, hd, hda, _⟩ := excO_full I1.hok h1
 obtain ⟨mA, hns, hrel⟩ := I1.hok dx _ h2
 have hrf := hrel f
 rw [h3] at hrf
 cases hm : mA f with
 | none => rw [hm] at hrf; exact hrf.elim
 | some u' =>
  rw [hm] at hrf
  obtain ⟨Na, nm, qn, bs, sn, sub, ab, col, dd, k0, k1, k2, k3, k5, mN, hC, hN, hi, TL⟩ := exc_objI I1.kIn qC
  have I2 : Inv X pins σ H1 { s1 with toks := s1.toks + 1 } := I1.tok _
  obtain ⟨hp, g, d, tk, os⟩ := s1
  unfold getAttr
  refine wpAny_bind (wpAny_mkText ?_)
  refine PySem.W.xga_by I1.kIn hC (by rw [List.contains_cons]; simp) ho hc xc.ga xc.gt fun A' => PySem.W.oga_own I1.kIn hC ho hc (fun c z => by rw [hda] at z; cases z) hf hd hns hm ?_
  exact PySem.W.handed_on (handed_of hrf) ⟨v, H1, I2, hrf, q⟩
end
end TX
namespace TX
open PySem PySem.Spec PyProof.Rows L2 TS
open PySem.Builtin PySem.Builtin.Str
section
variable {X : Cx}
def rSlS : V → Option Int → Option Int → Hp → VK → Prop := fun x lo hi H Q => ∃ z, x = .str z ∧ z.length ≤ sizeLine ∧ Q (.str (Txt.slice z lo hi)) H
theorem sl_str : SlR X rSlS := by
 intro pins s σ H x v vl vu lo hi sl Q I rx hs pl pu h
 obtain ⟨z, rfl, hz, q⟩ := h
 obtain ⟨t, rfl⟩ := rx
 refine ⟨"str", _, F.slot_str_getitem.lookup, typeIs_str _ _ _, ?_⟩
 have fin : ∀ (t' : Tok) (k : Nat), EP X pins σ Q (.str (Txt.slice z lo hi) t') { s with toks := k } := fun t' k => ⟨.str _, H, I.tok k, ⟨t', rfl⟩, q⟩
 cases pl with
 | none =>
  cases pu with
  | none => exact wpAny_getItem_str_slice (l := none) (u := none) (st := none) hs rfl (post_val_or_str ⟨Nat.le_trans (Txt.slice_le z _ _) hz, fin⟩)
  | int j uj => exact wpAny_getItem_str_slice (l := none) (u := some (j, uj)) (st := none) hs rfl (post_val_or_str ⟨Nat.le_trans (Txt.slice_le z _ _) hz, fin⟩)
 | int i ui =>
  cases pu with
  | none => exact wpAny_getItem_str_slice (l := some (i, ui)) (u := none) (st := none) hs rfl (post_val_or_str ⟨Nat.le_trans (Txt.slice_le z _ _) hz, fin⟩)
  | int j uj => exact wpAny_getItem_str_slice (l := some (i, ui)) (u := some (j, uj)) (st := none) hs rfl (post_val_or_str ⟨Nat.le_trans (Txt.slice_le z _ _) hz, fin⟩)
theorem fold_size (z : Array Nat) : ∀ (n : Nat) (a : Array Nat), ((List.replicate n z).foldl (· ++ ·) a).size = a.size + z.size * n
 | 0, a => by simp
 | n + 1, a => by
  rw [List.replicate_succ, List.foldl_cons, fold_size z n, Array.size_append, Nat.mul_succ]
  omega
def rMulS : R2 := fun x y H Q => ∃ (z : Str) (n : Int), x = .str z ∧ y = .int n ∧ 2 ≤ n ∧ n < 10000 ∧ 1 ≤ z.length ∧ z.length ≤ 10 ∧ ∀ r : Str, r.length = z.length * n.toNat → Q (.str r) H
theorem op_mulS : OpR X (binaryOp .Mult) rMulS := by
 intro pins s σ H x y v u Q I rx ry h
 obtain ⟨z, n, rfl, rfl, h2, h3, h4, h5, q⟩ := h
 obtain ⟨t, rfl⟩ := rx
 obtain ⟨t', rfl⟩ := ry
 have e1 : (n == 1 || z.length == 0) = false := by
  rw [show (n == 1) = false by simp; omega, show (z.length == 0) = false by simp; omega]; rfl
 have hm : z.length * n.toNat ≤ 10 * 10000 := Nat.mul_le_mul h5 (by omega)
 refine P.mul_str (by rw [decide_eq_false (by omega), decide_eq_false (by omega)]; rfl) (fun _ _ => ?_) (fun _ _ => ?_) ?_
 ·have : (10000 : Int) ≤ (2 ^ 63 - 1) / n := (Int.le_ediv_iff_mul_le (by omega)).mpr (by omega)
  omega
 ·unfold tooLong
  exact decide_eq_false (fun z => absurd (Nat.le_trans hm (show 10 * 10000 ≤ sizeLine by decide)) (by omega))
 ·rw [if_neg (by omega), if_neg (by rw [e1]; decide)]
  have hl : (⟨(List.replicate n.toNat z.cps).foldl (· ++ ·) #[]⟩ : Str).length = z.length * n.toNat := by
   show ((List.replicate n.toNat z.cps).foldl (· ++ ·) #[]).size = _
   rw [fold_size]
   simp [Str.length]
  exact ⟨by rw [hl]; exact Nat.le_trans hm (by decide), ⟨.str _, H, I.tok _, ⟨_, rfl⟩, q _ hl⟩⟩
theorem call_maxL (hc : X.calm = true) : CallR X (.builtin "max") (fun xs H Q => ∃ (p : Addr) (ns : List Int), xs = [.ref p] ∧ SqL X.K H p (ns.map V.int) ∧ 0 < ns.length ∧ ∀ m : Int, m ∈ ns → (∀ a ∈ ns, a ≤ m) → Q (.int m) H) := by
 intro pins s σ H xs us Q I r h
 obtain ⟨p, ns, rfl, hq, hne, q⟩ := h
 obtain ⟨u, rfl, rx⟩ := vals1 r
 cases rx
 obtain ⟨its, r', pl, hz'⟩ := I.list hq
 have hi := intsAre_of r'
 have hl := pl.isList
 obtain ⟨ys, e⟩ := hi.allInts.items
 have hns : ns = ys.toList.map (·.1) := by rw [← hi.numsOf, ← nums_intItems, ← e]
 have hsz : 0 < ys.size := by
  have h3 := hne; rw [hns, List.length_map, Array.length_toList] at h3; exact h3
 rw [e] at hl
 refine max_intList (I.ok.hd hc) hl hsz fun v h' tk hv hk => ?_
 obtain ⟨t, rfl⟩ := intItems_at hv
 obtain ⟨h1, h2⟩ := argBest_gt (numAt ys) (ys.size - 1)
 refine ⟨.int _, H, I.kept (t' := tk) hk, ⟨t, rfl⟩, q _ ?_ fun a ha => ?_⟩
 ·rw [hns, numAt_eq]; exact getD_mem (by rw [List.length_map, Array.length_toList]; omega)
 ·rw [hns] at ha
  obtain ⟨j, hj, rfl⟩ := mem_getD ha
  rw [List.length_map, Array.length_toList] at hj
  rw [← numAt_eq]; exact h2 j (by omega)
def Its (lo st : Int) (n : Nat) : It := ⟨fun i _ => i < n, fun i H x H' => H' = H ∧ x = .int (lo + i * st), fun i _ => n ≤ i⟩
theorem turn_step {P : Program} {w : World} {K : PySem.W.Frag} {tg : Expr} (it : Addr) (lo st : Int) (n : Nat) : Turn P w K tg (Its lo st n) [it] it (fun i h => IsRangeIter h it (lo + (i : Nat) * st) ((n : Int) - (i : Nat)) st) where
 mem := by simp
 obj := fun i h z b hb => by
  obtain rfl : b = it := by simpa using hb
  exact ⟨_, z, fun v y => by
   have y' : Data.fields _ = Data.cell v := y
   cases y'⟩
 keep := fun i h h' z k => k it (by simp) _ z
 item := by
  intro X hP hw hK hc i pins s σ H E I hf z hg
  subst hP hw hK
  obtain ⟨f0, f1, f2, f3, f4, f5⟩ := hf it (by simp)
  refine (Walks.range (prog := X.prog) (w := X.w) (I.ok.hd hc) it lo st n).item i s _ _ hg z fun v h' tk hv z' kk => ?_
  obtain ⟨t, rfl⟩ := hv
  exact ⟨_, rfl, go_of (s := { s with heap := h', toks := tk }) (n := "range_iterator") z' rfl rfl (by decide) ⟨.int (lo + i * st), H, I.turned (fun b o hb e => kk b o (by simpa using hb) e) f0 f1 f3 f4 f5, ⟨t, rfl⟩, ⟨rfl, rfl⟩, z', fun b hb => (hf b hb).1⟩⟩
 done := by
  intro X hP hw hK hc i pins s σ H E I hf z hg
  subst hP hw hK
  obtain ⟨f0, f1, f2, f3, f4, f5⟩ := hf it (by simp)
  exact wpAny_pyNext_range_end (I.ok.hd hc) z (by have : n ≤ i := hg; omega) fun h' eb => ⟨rfl, I.turned (t' := s.toks) (fun b o hb e => eb b o hb e) f0 f1 f3 f4 f5⟩
 self := fun _ _ _ _ _ z h => wpAny_pyIter_rangeiter z h
theorem size_two (i j : Int) : Builtin.Range.rangeSize i j 2 = ((((j - i + 1) / 2).toNat : Nat) : Int) := by
 unfold Builtin.Range.rangeSize
 rw [if_pos (by decide)]
 split <;> omega
theorem small_two {i j : Int} (h1 : 0 ≤ i) (h2 : i < 2 ^ 40) (h3 : 0 ≤ j) (h4 : j < 2 ^ 40) : Builtin.Range.small i j 2 = true := by
 unfold Builtin.Range.small
 rw [size_two]
 simp only [Builtin.Range.rangeFitsLong, Bool.and_eq_true, Bool.or_eq_true, decide_eq_true_eq, beq_iff_eq, show (2 : Int) > 0 by decide, if_true]
 omega
variable {tg : Expr}
def iRng3 (ta : TA) : TI := fun σ H R => ta σ H fun vs H1 => ∃ i j : Int, vs = [.int i, .int j, .int 2] ∧ (0 ≤ i ∧ i < 2 ^ 40 ∧ 0 ≤ j ∧ j < 2 ^ 40) ∧ R (Its i 2 ((j - i + 1) / 2).toNat) H1
theorem step_it {pins : List (Addr × Obj)} {σ : L2.St} {H : Hp} {s : Shared} {R : It → Hp → Prop} {E : Value → Shared → Prop} {lo hi : Int} {t u v : Tok} {tk : Nat} (I : Inv X pins σ H s) (h1 : 0 ≤ lo) (h2 : lo < 2 ^ 40) (h3 : 0 ≤ hi) (h4 : hi < 2 ^ 40)
  (q : R (Its lo 2 ((hi - lo + 1) / 2).toNat) H) : wpAny (model X.prog X.w) X.A (pyIter (.ref s.heap.objs.size)) (PIE X pins σ tg R) E { s with heap := s.heap.push { cls := .type "range", data := .fields #[.int lo t, .int hi u, .int 2 v] }, toks := tk } := by
 refine wpAny_pyIter_range (IsRange.new ..) (small_two h1 h2 h3 h4) ?_
 have I1 : Inv X pins σ H { s with heap := s.heap.push { cls := .type "range", data := .fields #[.int lo t, .int hi u, .int 2 v] }, toks := tk } := I.kept fun b o e => Heap.get?_push_of_some _ e
 refine ⟨(s.heap.push { cls := .type "range", data := .fields #[.int lo t, .int hi u, .int 2 v] }).objs.size, [(s.heap.push { cls := .type "range", data := .fields #[.int lo t, .int hi u, .int 2 v] }).objs.size], _, _, H, rfl,
  I1.kept (t' := tk) fun b o e => Heap.get?_push_of_some _ e, turn_step _ lo 2 ((hi - lo + 1) / 2).toNat, ?_, fun b hb => ?_, q⟩
 ·have e1 : lo + ((0 : Nat) : Int) * 2 = lo := by simp
  have e2 : ((((hi - lo + 1) / 2).toNat : Nat) : Int) - ((0 : Nat) : Int) = Builtin.Range.rangeSize lo hi 2 := by rw [size_two]; omega
  show IsRangeIter _ _ (lo + ((0 : Nat) : Int) * 2) (((((hi - lo + 1) / 2).toNat : Nat) : Int) - ((0 : Nat) : Int)) 2
  rw [e1, e2]
  exact Heap.get?_push_size _ rfl
 ·obtain rfl : b = (s.heap.push { cls := .type "range", data := .fields #[.int lo t, .int hi u, .int 2 v] }).objs.size := by simpa using hb
  exact I1.fpOk (Nat.le_refl _) (I1.hok.fresh (Nat.le_refl _))
theorem pi_range3 {a b c : Expr} {ta : TA} {p pos : Pos} (hg : Gl X "range") (hm : X.mg "range" = none) (ha : PA X [a, b, c] ta) (hs : starEach [a, b, c] X.env = (false, eval a X.env) :: starEach [b, c] X.env := by rfl) (hs2 : (backTo pos (starEach [b, c] X.env)).any (·.1) = false := by rfl) :
  PI X tg (.Call (.Name "range" p) [a, b, c] [] pos) (iRng3 ta) := by
 intro pins s σ H R I h
 refine Call_ (ld_blt I hg hm boot_range (PyProof.Rows.callWith_type1 (thn (ha pos pins s σ H _ I h) fun us s1 ⟨vs, H1, I1, r1, q1⟩ => ?_) hs hs2))
 obtain ⟨i, j, e, ⟨q1, q2, q3, q4⟩, q⟩ := q1
 subst e
 cases r1 with
 | cons r rr =>
  cases rr with
  | cons r' rr =>
   cases rr with
   | cons r2 rr =>
    cases rr
    obtain ⟨t, rfl⟩ := r
    obtain ⟨t', rfl⟩ := r'
    obtain ⟨t2, rfl⟩ := r2
    exact call_range_3 (by decide) (step_it I1 q1 q2 q3 q4 q) (.inl (PyProof.noPylong_small (by omega)))
theorem for_step {lo : Int} {n : Nat} {g : TG} {tb : TS} {D : Ends} {σ : L2.St} {H : Hp} (Pv : Nat → L2.St → Hp → Prop) (h0 : Pv 0 σ H)
  (hs : ∀ i σ H, i < n → Pv i σ H → g (.int (lo + i * 2)) σ H fun σ2 H2 => tb { D with nx := Pv (i + 1), ct := Pv (i + 1), bk := D.nx } σ2 H2) (hd : ∀ σ H, Pv n σ H → D.nx σ H) :
  ∃ W : Nat → Nat → L2.St → Hp → Prop, (∃ m, W 0 m σ H) ∧ ∀ i m σ H, W i m σ H →
   ((Its lo 2 n).stop i H ∧ D.nx σ H) ∨ ((Its lo 2 n).go i H ∧ ∃ N : L2.St → Hp → Prop, (∀ σ' H', N σ' H' → ∃ m', m' < m ∧ W (i + 1) m' σ' H') ∧ ∀ x H', (Its lo 2 n).yld i H x H' → g x σ H' fun σ2 H2 => tb { D with nx := N, ct := N, bk := D.nx } σ2 H2) := by
 refine ⟨fun i m σ H => m = n - i ∧ i ≤ n ∧ Pv i σ H, ⟨n, by simp, Nat.zero_le _, h0⟩, ?_⟩
 rintro i m σ H ⟨rfl, hi, p⟩
 by_cases hlt : i < n
 ·refine .inr ⟨hlt, Pv (i + 1), fun σ' H' p' => ⟨n - (i + 1), by omega, rfl, hlt, p'⟩, fun x H' y => ?_⟩
  obtain ⟨rfl, rfl⟩ := y
  exact hs i σ _ hlt p
 ·have e : i = n := by omega
  subst e
  exact .inl ⟨Nat.le_refl _, hd σ H p⟩
end
end TX
namespace TT
open PySem TM TS
abbrev sg (x : Str) : List Nat := x.cps.toList
structure Okl (i : Nat) (l : List Int) : Prop where
 six : i < 6
 fig : Figs l
 nd : l.Nodup
 own : (i : Int) ∉ l
def step (i b : Nat) (acc : List Int) : Bool := decide (48 ≤ b ∧ b ≤ 53) && !decide ((b : Int) - 48 ∈ acc ++ [(i : Int)])
def figs (i : Nat) : List Nat → List Int → Option (List Int)
 | [], acc => some acc
 | [_], _ => none
 | a :: b :: r, acc => if decide (a = 32) && step i b acc then figs i r (acc ++ [(b : Int) - 48]) else none
def rowL (i : Nat) : List Nat → Option (List Int)
 | a :: b :: r => if i < 6 ∧ a = 48 + i ∧ b = 58 then figs i r [] else none
 | _ => none
def tail (l : List Int) : List Nat := l.flatMap fun x => [32, 48 + x.toNat]
def signs (i : Nat) (l : List Int) : List Nat := [48 + i, 58] ++ tail l
theorem tail_cons (x : Int) (l : List Int) : tail (x :: l) = 32 :: (48 + x.toNat) :: tail l := rfl
theorem step_iff {i b : Nat} {acc : List Int} : step i b acc = true ↔ (48 ≤ b ∧ b ≤ 53) ∧ (b : Int) - 48 ∉ acc ∧ (b : Int) - 48 ≠ i := by
 unfold step
 rw [Bool.and_eq_true, decide_eq_true_eq, Bool.not_eq_true', decide_eq_false_iff_not, List.mem_append, List.mem_singleton]
 constructor
 ·intro ⟨h1, h2⟩; exact ⟨h1, fun z => h2 (.inl z), fun z => h2 (.inr z)⟩
 ·intro ⟨h1, h2, h3⟩; exact ⟨h1, fun z => z.elim h2 h3⟩
theorem figs_some {i : Nat} : ∀ {r : List Nat} {acc m : List Int}, figs i r acc = some m → ∃ l, m = acc ++ l ∧ r = tail l ∧ Figs l ∧ (acc.Nodup → (acc ++ l).Nodup) ∧ ((i : Int) ∉ l)
 | [], acc, m, h => by
  obtain rfl := Option.some.inj h
  exact ⟨[], (List.append_nil _).symm, rfl, fun _ z => by simp at z, fun z => by simpa using z, by simp⟩
 | [_], _, _, h => nomatch h
 | a :: b :: r, acc, m, h => by
  unfold figs at h
  split at h
  case isFalse => cases h
  case isTrue hc =>
   rw [Bool.and_eq_true, decide_eq_true_eq, step_iff] at hc
   obtain ⟨rfl, hb, hn, hi⟩ := hc
   obtain ⟨l, rfl, rfl, hf, hd, ho⟩ := figs_some h
   refine ⟨((b : Int) - 48) :: l, by simp, ?_, fun x hx => ?_, fun hac => ?_, fun z => ?_⟩
   ·rw [tail_cons]
    have : 48 + ((b : Int) - 48).toNat = b := by omega
    rw [this]
   ·rcases List.mem_cons.mp hx with rfl | hx
    ·omega
    ·exact hf x hx
   ·have := hd (List.nodup_append.mpr ⟨hac, by simp, fun x hx y hy => by rw [List.mem_singleton.mp hy]; exact fun z => hn (z ▸ hx)⟩)
    simpa using this
   ·rcases List.mem_cons.mp z with z | z
    ·exact hi z.symm
    ·exact ho z
theorem figs_of {i : Nat} : ∀ {l acc : List Int}, Figs l → (acc ++ l).Nodup → (i : Int) ∉ l → figs i (tail l) acc = some (acc ++ l)
 | [], acc, _, _, _ => by simp [tail, figs]
 | x :: l, acc, hf, hn, hi => by
  have hx := hf x List.mem_cons_self
  have e : ((48 + x.toNat : Nat) : Int) - 48 = x := by omega
  have hs : step i (48 + x.toNat) acc = true := by
   rw [step_iff, e]
   refine ⟨by omega, fun z => ?_, fun z => hi (z ▸ List.mem_cons_self)⟩
   exact (List.nodup_append.mp hn).2.2 x z x List.mem_cons_self rfl
  rw [tail_cons]
  unfold figs
  rw [hs, e, if_pos (by decide), figs_of (acc := acc ++ [x]) (fun y hy => hf y (List.mem_cons_of_mem _ hy)) (by simpa using hn) fun z => hi (List.mem_cons_of_mem _ z)]
  simp
theorem rowL_iff {i : Nat} {r : List Nat} {l : List Int} : rowL i r = some l ↔ Okl i l ∧ r = signs i l := by
 constructor
 ·intro h
  match r, h with
  | a :: b :: r, h =>
   have h2 : (if i < 6 ∧ a = 48 + i ∧ b = 58 then figs i r [] else none) = some l := h
   split at h2
   case isFalse => cases h2
   case isTrue hc =>
    obtain ⟨h6, rfl, rfl⟩ := hc
    obtain ⟨m, e, rfl, hf, hd, ho⟩ := figs_some h2
    rw [List.nil_append] at e
    subst e
    exact ⟨⟨h6, hf, by simpa using hd List.nodup_nil, ho⟩, rfl⟩
 ·rintro ⟨ok, rfl⟩
  show (if i < 6 ∧ 48 + i = 48 + i ∧ (58 : Nat) = 58 then figs i (tail l) [] else none) = some l
  rw [if_pos ⟨ok.six, rfl, rfl⟩]
  exact figs_of ok.fig (by simpa using ok.nd) ok.own
theorem join_tail : ∀ {l : List Int}, Figs l → sg (Str.join Str.empty (l.map fun x => blank ++ dg x)) = tail l
 | [], _ => rfl
 | x :: l, hf => by
  have hx := hf x List.mem_cons_self
  rw [List.map_cons, join_empty_cons, sg, Str.cps_append, Array.toList_append, Str.cps_append, Array.toList_append, blank_eq, dg_list hx.1 hx.2]
  have := join_tail (l := l) fun y hy => hf y (List.mem_cons_of_mem _ hy)
  rw [blank_eq] at this
  rw [show (Str.join Str.empty (l.map fun x => (⟨#[32]⟩ : Str) ++ dg x)).cps.toList = tail l from this]
  rfl
theorem signs_row {i : Nat} {l : List Int} (h : i < 6) (hf : Figs l) : sg (rowS (i : Int) l) = signs i l := by
 rw [rowS_eq, sg, Str.cps_append, Array.toList_append, hd_list (by omega) (by omega), show (Str.join Str.empty (l.map fun x => blank ++ dg x)).cps.toList = tail l from join_tail hf]
 show [48 + ((i : Int)).toNat, 58] ++ tail l = _
 rw [Int.toNat_natCast]
 rfl
theorem sg_inj {x y : Str} (h : sg x = sg y) : x = y := Str.ext' (Array.toList_inj.mp h)
theorem row_iff {i : Nat} {x : Str} {l : List Int} : rowL i (sg x) = some l ↔ Okl i l ∧ x = rowS (i : Int) l := by
 rw [rowL_iff]
 constructor
 ·rintro ⟨ok, e⟩; exact ⟨ok, sg_inj (e.trans (signs_row ok.six ok.fig).symm)⟩
 ·rintro ⟨ok, e⟩; exact ⟨ok, by rw [e]; exact signs_row ok.six ok.fig⟩
theorem parts_iff {i : Nat} {x : Str} {l : List Int} (ok : Okl i l) : Txt.split x blank = parts (i : Int) l ↔ rowL i (sg x) = some l := by
 have h6 := ok.six
 rw [row_iff]
 constructor
 ·intro h
  refine ⟨ok, ?_⟩
  have := StrLaws.join_split x blank
  rw [h] at this
  exact this.symm
 ·rintro ⟨_, rfl⟩
  exact row_split (by omega) (by omega) ok.fig
def rowAt (rs : List Str) (k : Nat) : Option (List Int) := rowL k (sg (rs.getD k Str.empty))
def lsOf (rs : List Str) (k : Nat) : Ls := (List.range k).map fun j => (rowAt rs j).getD []
def AllTo (rs : List Str) (k : Nat) : Prop := ∀ j, j < k → (rowAt rs j).isSome = true
theorem lsOf_succ (rs : List Str) (k : Nat) : lsOf rs (k + 1) = lsOf rs k ++ [(rowAt rs k).getD []] := by
 unfold lsOf
 rw [List.range_succ, List.map_append]
 rfl
theorem lsOf_length (rs : List Str) (k : Nat) : (lsOf rs k).length = k := by simp [lsOf]
theorem lsOf_at {rs : List Str} {k j : Nat} (h : j < k) : (lsOf rs k)[j]? = some ((rowAt rs j).getD []) := by
 unfold lsOf
 rw [List.getElem?_map, List.getElem?_range h]
 rfl
theorem AllTo.succ {rs : List Str} {k : Nat} (h : AllTo rs k) (x : (rowAt rs k).isSome = true) : AllTo rs (k + 1) := fun j hj => by
 by_cases e : j = k
 ·rw [e]; exact x
 ·exact h j (by omega)
theorem AllTo.okl {rs : List Str} {k j : Nat} (h : AllTo rs k) (hj : j < k) : Okl j ((rowAt rs j).getD []) ∧ rs.getD j Str.empty = rowS (j : Int) ((rowAt rs j).getD []) := by
 obtain ⟨l, e⟩ := Option.isSome_iff_exists.mp (h j hj)
 have := row_iff.mp e
 rw [e]
 exact this
theorem AllTo.six {rs : List Str} {k : Nat} (h : AllTo rs k) : k ≤ 6 := by
 rcases Nat.lt_or_ge 6 k with z | z
 ·have := (h.okl (j := 6) z).1.six; omega
 ·exact z
inductive Due (rs : List Str) : Int → Prop where
 | row {k : Nat} (h : k < rs.length) (a : AllTo rs k) (n : rowAt rs k = none) : Due rs (k + 1)
 | many (a : AllTo rs rs.length) (x : ∃ l ∈ lsOf rs rs.length, ∃ z ∈ l, (rs.length : Int) ≤ z) : Due rs (rs.length + 1)
 | good (a : AllTo rs rs.length) (x : ∀ l ∈ lsOf rs rs.length, ∀ z ∈ l, z < (rs.length : Int)) : Due rs 0
theorem due_row {rs : List Str} {k m : Nat} (a : AllTo rs k) (b : AllTo rs m) (n : rowAt rs k = none) (n' : rowAt rs m = none) : k = m := by
 rcases Nat.lt_trichotomy k m with h | h | h
 ·have := b k h; rw [n] at this; cases this
 ·exact h
 ·have := a m h; rw [n'] at this; cases this
theorem due_one {rs : List Str} {x y : Int} (a : Due rs x) (b : Due rs y) : x = y := by
 cases a with
 | row h a n =>
  cases b with
  | row h' a' n' => rw [due_row a a' n n']
  | many a' _ => have := a' _ h; rw [n] at this; cases this
  | good a' _ => have := a' _ h; rw [n] at this; cases this
 | many a e =>
  cases b with
  | row h' a' n' => have := a _ h'; rw [n'] at this; cases this
  | many _ _ => rfl
  | good _ e' =>
   obtain ⟨l, hl, z, hz, q⟩ := e
   have := e' l hl z hz
   omega
 | good a e =>
  cases b with
  | row h' a' n' => have := a _ h'; rw [n'] at this; cases this
  | good _ _ => rfl
  | many _ e' =>
   obtain ⟨l, hl, z, hz, q⟩ := e'
   have := e l hl z hz
   omega
theorem due_valid {rs : List Str} (h1 : 1 ≤ rs.length) (a : AllTo rs rs.length) (x : ∀ l ∈ lsOf rs rs.length, ∀ z ∈ l, z < (rs.length : Int)) : Valid (lsOf rs rs.length) := by
 have hl := lsOf_length rs rs.length
 refine ⟨by omega, by have := a.six; omega, fun i l e => ?_⟩
 have hi : i < rs.length := by have := (List.getElem?_eq_some_iff.mp e).1; omega
 rw [lsOf_at hi] at e
 obtain rfl := Option.some.inj e
 have ok := (a.okl hi).1
 refine ⟨fun z hz => ⟨(ok.fig z hz).1, ?_, fun q => ok.own (q ▸ hz)⟩, ok.nd⟩
 rw [hl]
 exact x _ (List.mem_of_getElem? (lsOf_at hi)) z hz
theorem rows_eq {rs : List Str} (a : AllTo rs rs.length) : rs = rowsS (lsOf rs rs.length) rs.length := by
 refine List.ext_getElem? fun i => ?_
 unfold rowsS
 rw [List.getElem?_map]
 by_cases h : i < rs.length
 ·rw [List.getElem?_range h, Option.map_some]
  have := (a.okl h).2
  rw [show (lsOf rs rs.length).getD i [] = (rowAt rs i).getD [] by rw [List.getD_eq_getElem?_getD, lsOf_at h]; rfl, ← this, List.getD_eq_getElem?_getD, List.getElem?_eq_getElem h]
  rfl
 ·rw [List.getElem?_eq_none (by omega), List.getElem?_eq_none (by simpa using h)]
  rfl
theorem text_eq {x : Str} (a : AllTo (Txt.split x feed) (Txt.split x feed).length) : x = textS (lsOf (Txt.split x feed) (Txt.split x feed).length) := by
 have h := StrLaws.join_split x feed
 have e := rows_eq a
 unfold textS
 rw [lsOf_length, ← e, h]
theorem split_pos (x y : Str) : 1 ≤ (Txt.split x y).length := by
 have := split_ne x y
 cases h : Txt.split x y with
 | nil => exact absurd h this
 | cons _ _ => simp
theorem jl_length (c : Nat) : ∀ ps : List (List Nat), ps.length ≤ (jl [c] ps).length + 1
 | [] => by simp
 | [x] => by simp
 | x :: y :: r => by
  have := jl_length c (y :: r)
  show (x :: y :: r).length ≤ (x ++ [c] ++ jl [c] (y :: r)).length + 1
  simp only [List.length_cons, List.length_append, List.length_nil] at this ⊢
  omega
theorem jl_part (c : Nat) : ∀ {ps : List (List Nat)} {p : List Nat}, p ∈ ps → p.length ≤ (jl [c] ps).length
 | [x], p, h => by rw [List.mem_singleton.mp h]; exact Nat.le_refl _
 | x :: y :: r, p, h => by
  show p.length ≤ (x ++ [c] ++ jl [c] (y :: r)).length
  rw [List.length_append, List.length_append]
  rcases List.mem_cons.mp h with rfl | h
  ·omega
  ·have := jl_part c h; omega
theorem split_jl (x : Str) (c : Nat) : jl [c] ((Txt.split x ⟨#[c]⟩).map sg) = sg x := by
 have := congrArg (fun y : Str => y.cps.toList) (StrLaws.join_split x ⟨#[c]⟩)
 simp only [join_list] at this
 exact this
theorem split_len (x : Str) (c : Nat) : (Txt.split x ⟨#[c]⟩).length ≤ x.length + 1 := by
 have := jl_length c ((Txt.split x ⟨#[c]⟩).map sg)
 rw [split_jl, List.length_map] at this
 simpa [Str.length] using this
theorem split_part {x p : Str} {c : Nat} (h : p ∈ Txt.split x ⟨#[c]⟩) : p.length ≤ x.length := by
 have := jl_part c (List.mem_map.mpr ⟨p, h, rfl⟩ : sg p ∈ (Txt.split x ⟨#[c]⟩).map sg)
 rw [split_jl] at this
 simpa [Str.length] using this
end TT
namespace TT
open PySem TM TS PySem.Builtin PySem.Builtin.Str
theorem figs_odd {i : Nat} : ∀ {r : List Nat} {acc : List Int}, r.length % 2 = 1 → figs i r acc = none
 | [], _, h => by simp at h
 | [_], _, _ => rfl
 | a :: b :: r, acc, h => by
  unfold figs
  split
  ·exact figs_odd (by simp only [List.length_cons] at h; omega)
  ·rfl
theorem rowL_odd {i : Nat} {r : List Nat} (h : r.length % 2 = 1) : rowL i r = none := by
 match r, h with
 | [_], _ => rfl
 | a :: b :: r, h =>
  show (if i < 6 ∧ a = 48 + i ∧ b = 58 then figs i r [] else none) = none
  rw [figs_odd (by simp only [List.length_cons] at h; omega)]
  split <;> rfl
theorem rowL_six {i : Nat} {r : List Nat} (h : 6 ≤ i) : rowL i r = none := by
 cases e : rowL i r with
 | none => rfl
 | some l => have := (rowL_iff.mp e).1.six; omega
theorem rowL_head {i : Nat} {r : List Nat} (h : r.take 2 ≠ [48 + i, 58]) : rowL i r = none := by
 cases e : rowL i r with
 | none => rfl
 | some l =>
  have := (rowL_iff.mp e).2
  exact absurd (by rw [this]; rfl) h
theorem rowL_figs {i : Nat} {r : List Nat} (h6 : i < 6) (h : r.take 2 = [48 + i, 58]) : rowL i r = figs i (r.drop 2) [] := by
 match r, h with
 | a :: b :: r, h =>
  have h : [a, b] = [48 + i, 58] := h
  injection h with h1 h
  injection h with h2 _
  subst h1; subst h2
  show (if i < 6 ∧ 48 + i = 48 + i ∧ (58 : Nat) = 58 then figs i r [] else none) = _
  rw [if_pos ⟨h6, rfl, rfl⟩]
  rfl
theorem none_zero (u : Option Int) (n : Nat) : strSliceIndices none u 1 n = strSliceIndices (some 0) u 1 n := by
 have e : max (0 : Int) (min (0 : Int) (n : Int)) = 0 := by omega
 unfold strSliceIndices sliceRange
 simp only [show ¬ ((0 : Int) < 0) by decide, if_false, e, show ((1 : Int) > 0) = True from by simp, if_true]
theorem idx2 (n : Nat) : strSliceIndices none (some 2) 1 n = List.range (min 2 n) := by
 match n with
 | 0 => decide
 | 1 => decide
 | n + 2 =>
  rw [none_zero]
  have := StrLaws.strSliceIndices_plain (a := 0) (b := 2) (len := n + 2) (by decide) (by omega)
  rw [show min 2 (n + 2) = 2 by omega]
  exact this.trans (by simp)
theorem slice2 (x : Str) : sg (Txt.slice x none (some 2)) = (sg x).take 2 := by
 have hp := StrLaws.picks x.cps.toList (min 2 x.length) 0 (by rw [Array.length_toList]; show 0 + min 2 x.length ≤ x.length; omega)
 have hz : (sg x).length = x.length := Array.length_toList
 unfold Txt.slice
 rw [idx2]
 split
 ·rename_i h
  have h2 : min 2 x.length = x.length := by simpa using h
  rw [List.take_of_length_le (by omega)]
 ·show (List.filterMap (x.cps[·]?) (List.range (min 2 x.length))) = _
  have e : (List.range (min 2 x.length)).filterMap (x.cps[·]?) = (x.cps.toList.drop 0).take (min 2 x.length) := by
   rw [← hp]
   simp
  rw [e, List.drop_zero]
  show (sg x).take (min 2 x.length) = _
  by_cases h : 2 ≤ x.length
  ·rw [show min 2 x.length = 2 by omega]
  ·rw [List.take_of_length_le (by omega), List.take_of_length_le (by omega)]
theorem sign_at {x : Str} {k : Nat} (h : k < x.length) : x.cps.toList[k]? = some ((sg x).getD k 0) := by
 have hz : (sg x).length = x.length := Array.length_toList
 have hk : k < (sg x).length := by omega
 rw [List.getD_eq_getElem?_getD]
 show (sg x)[k]? = _
 rw [List.getElem?_eq_getElem hk]
 rfl
theorem drop_two {r : List Nat} {k : Nat} (h : k + 1 < r.length) : r.drop k = r.getD k 0 :: r.getD (k + 1) 0 :: r.drop (k + 2) := by
 rw [List.drop_eq_getElem_cons (by omega), List.drop_eq_getElem_cons h]
 simp [List.getD, List.getElem?_eq_getElem h, List.getElem?_eq_getElem (show k < r.length by omega)]
end TT
namespace Tp
open PySem PySem.Spec PyProof.Rows L2 TX TM TK TS
seal PySem.Sem.wp
def top (i : Nat) : Stmt := PySem.Challenge.pw_tentpairs_k06_texts_misread.main.body.getD i (.Pass ⟨0, 0, 0, 0⟩)
abbrev s_BadText___init__ : Stmt := inClass (top 7) 0
abbrev s_is_camper : Stmt := top 10
abbrev s_check_wishes : Stmt := top 11
abbrev s_check_lists : Stmt := top 12
abbrev s_Camp___init__ : Stmt := inClass (top 13) 0
abbrev s_written_row : Stmt := top 15
abbrev s_written : Stmt := top 16
abbrev s_is_row : Stmt := top 17
abbrev s_read : Stmt := top 18
abbrev s_law_cell_at : Stmt := top 20
abbrev s_law_draw : Stmt := top 21
abbrev s_law_lists : Stmt := top 22
abbrev s_law_refused : Stmt := top 30
abbrev s_law_row_in : Stmt := top 31
abbrev s_law_due : Stmt := top 32
abbrev s_law_right : Stmt := top 33
abbrev s_law_other : Stmt := top 34
abbrev s_law : Stmt := top 35
theorem sc_BadText___init__ : FnScope ["self", "row"] ["self", "row"] (defScope s_BadText___init__) := ⟨rfl, rfl, rfl, by decide +kernel, rfl, by decide +kernel, by decide +kernel⟩
theorem sc_is_camper : FnScope ["value", "size"] ["value", "size"] (defScope s_is_camper) := ⟨rfl, rfl, rfl, by decide +kernel, rfl, by decide +kernel, by decide +kernel⟩
theorem sc_check_wishes : FnScope ["camper", "wishes", "size", "seen", "other"] ["camper", "wishes", "size"] (defScope s_check_wishes) := ⟨rfl, rfl, rfl, by decide +kernel, rfl, by decide +kernel, by decide +kernel⟩
theorem sc_check_lists : FnScope ["lists", "camper", "wishes"] ["lists"] (defScope s_check_lists) := ⟨rfl, rfl, rfl, by decide +kernel, rfl, by decide +kernel, by decide +kernel⟩
theorem sc_Camp___init__ : FnScope ["self", "lists"] ["self", "lists"] (defScope s_Camp___init__) := ⟨rfl, rfl, rfl, by decide +kernel, rfl, by decide +kernel, by decide +kernel⟩
theorem sc_written_row : FnScope ["camper", "wishes"] ["camper", "wishes"] (defScope s_written_row) := ⟨rfl, rfl, rfl, by decide +kernel, rfl, by decide +kernel, by decide +kernel⟩
theorem sc_written : FnScope ["camp"] ["camp"] (defScope s_written) := ⟨rfl, rfl, rfl, by decide +kernel, rfl, by decide +kernel, by decide +kernel⟩
theorem sc_is_row : FnScope ["parts", "place", "figures", "seen", "part"] ["parts", "place"] (defScope s_is_row) := ⟨rfl, rfl, rfl, by decide +kernel, rfl, by decide +kernel, by decide +kernel⟩
theorem sc_read : FnScope ["text", "lists", "place", "row", "parts"] ["text"] (defScope s_read) := ⟨rfl, rfl, rfl, by decide +kernel, rfl, by decide +kernel, by decide +kernel⟩
theorem sc_law_cell_at : FnScope ["_law_script", "_law_k"] ["_law_script", "_law_k"] (defScope s_law_cell_at) := ⟨rfl, rfl, rfl, by decide +kernel, rfl, by decide +kernel, by decide +kernel⟩
theorem sc_law_draw : FnScope ["_law_cell", "_law_k", "_law_many", "_law_primes", "_law_blend"] ["_law_cell", "_law_k", "_law_many"] (defScope s_law_draw) := ⟨rfl, rfl, rfl, by decide +kernel, rfl, by decide +kernel, by decide +kernel⟩
theorem sc_law_lists : FnScope ["_law_script", "_law_first", "_law_cell", "_law_other_here", "_law_many", "_law_kind", "_law_lists_here", "_law_camper", "_law_left", "_law_told", "_law_ring", "_law_first_two", "_law_shift", "_law_turned"] ["_law_script", "_law_first"] (defScope s_law_lists) := ⟨rfl, rfl, rfl, by decide +kernel, rfl, by decide +kernel, by decide +kernel⟩
theorem sc_law_refused : FnScope ["_law_text", "error", "_law_others"] ["_law_text"] (defScope s_law_refused) := ⟨rfl, rfl, rfl, by decide +kernel, rfl, by decide +kernel, by decide +kernel⟩
theorem sc_law_row_in : FnScope ["_law_row", "_law_camper", "_law_found", "_law_k"] ["_law_row", "_law_camper"] (defScope s_law_row_in) := ⟨rfl, rfl, rfl, by decide +kernel, rfl, by decide +kernel, by decide +kernel⟩
theorem sc_law_due : FnScope ["_law_text", "_law_rows", "_law_greatest", "_law_camper", "_law_found"] ["_law_text"] (defScope s_law_due) := ⟨rfl, rfl, rfl, by decide +kernel, rfl, by decide +kernel, by decide +kernel⟩
theorem sc_law_right : FnScope ["_law_text", "_law_due_here"] ["_law_text"] (defScope s_law_right) := ⟨rfl, rfl, rfl, by decide +kernel, rfl, by decide +kernel, by decide +kernel⟩
theorem sc_law_other : FnScope ["_law_text", "_law_cell", "_law_k", "_law_at", "_law_sign", "_law_way"] ["_law_text", "_law_cell", "_law_k"] (defScope s_law_other) := ⟨rfl, rfl, rfl, by decide +kernel, rfl, by decide +kernel, by decide +kernel⟩
theorem sc_law : FnScope ["_law_script", "_law_text", "_law_cell", "_law_few", "_law_other_here"] ["_law_script"] (defScope s_law) := ⟨rfl, rfl, rfl, by decide +kernel, rfl, by decide +kernel, by decide +kernel⟩
structure Adr where
 C : Addr
 X_BadCamp : Addr
 X_CampError : Addr
 X_BadPairs : Addr
 X_NoCamper : Addr
 X_NoneSteady : Addr
 X_BadText : Addr
 BadText___init__ : Addr
 fd_BadText___init__ : FuncData
 is_camper : Addr
 fd_is_camper : FuncData
 check_wishes : Addr
 fd_check_wishes : FuncData
 check_lists : Addr
 fd_check_lists : FuncData
 Camp___init__ : Addr
 fd_Camp___init__ : FuncData
 written_row : Addr
 fd_written_row : FuncData
 written : Addr
 fd_written : FuncData
 is_row : Addr
 fd_is_row : FuncData
 read : Addr
 fd_read : FuncData
 law_cell_at : Addr
 fd_law_cell_at : FuncData
 law_draw : Addr
 fd_law_draw : FuncData
 law_lists : Addr
 fd_law_lists : FuncData
 law_refused : Addr
 fd_law_refused : FuncData
 law_row_in : Addr
 fd_law_row_in : FuncData
 law_due : Addr
 fd_law_due : FuncData
 law_right : Addr
 fd_law_right : FuncData
 law_other : Addr
 fd_law_other : FuncData
 law : Addr
 fd_law : FuncData
 tM : Tok
structure Txt (K : PySem.W.Frag) (mg : Str → Option Value) (t : Adr) : Prop where
 cl : Cls K t.C
 n_size : NoAttr K t.C "size"
 n_wishes : NoAttr K t.C "wishes"
 mk_Camp : Mk K t.C t.Camp___init__
 mg_Camp : mg "Camp" = some (.ref t.C)
 mg_M : mg "MOST_CAMPERS" = some (.int 6 t.tM)
 b_len : mg "len" = none
 b_list : mg "list" = none
 b_isinstance : mg "isinstance" = none
 b_range : mg "range" = none
 b_enumerate : mg "enumerate" = none
 b_min : mg "min" = none
 b_max : mg "max" = none
 b_any : mg "any" = none
 b_int : mg "int" = none
 b_bool : mg "bool" = none
 b_str : mg "str" = none
 b_ValueError : mg "ValueError" = none
 mg_BadCamp : mg "BadCamp" = some (.ref t.X_BadCamp)
 x_BadCamp : PySem.W.excIn K t.X_BadCamp [.type "ValueError", .type "Exception", .type "BaseException", .type "object"] "ValueError.__new__" = true
 mg_CampError : mg "CampError" = some (.ref t.X_CampError)
 mg_BadPairs : mg "BadPairs" = some (.ref t.X_BadPairs)
 mg_NoCamper : mg "NoCamper" = some (.ref t.X_NoCamper)
 mg_NoneSteady : mg "NoneSteady" = some (.ref t.X_NoneSteady)
 mg_BadText : mg "BadText" = some (.ref t.X_BadText)
 kt_CampError : PySem.W.ktsIn K t.X_CampError "BaseException" = true
 sp_CampError : PySem.W.specialIn K (.ref t.X_CampError) "__getattribute__" = some (some (.builtin "type.__getattribute__"))
 rd_CampError : PySem.W.readsIn K t.X_CampError (.type "type") = true
 fc_CampError : PySem.W.findCls K (.ref t.X_CampError) (.type "type") "__init__" = some (.val (.builtin "ValueError.__init__"))
 xc_BadText : TX.XC K t.X_BadText
 be_BadText : TX.belowIn K t.X_BadText t.X_CampError = true
 kx_BadText_BadCamp : PySem.W.kitOne K (.ref t.X_BadText) (.ref t.X_BadCamp) = some false
 kx_BadText_BadPairs : PySem.W.kitOne K (.ref t.X_BadText) (.ref t.X_BadPairs) = some false
 kx_BadText_NoCamper : PySem.W.kitOne K (.ref t.X_BadText) (.ref t.X_NoCamper) = some false
 kx_BadText_NoneSteady : PySem.W.kitOne K (.ref t.X_BadText) (.ref t.X_NoneSteady) = some false
 kx_BadText_BadText : PySem.W.kitOne K (.ref t.X_BadText) (.ref t.X_BadText) = some true
 kv_BadText : PySem.W.kitOne K (.ref t.X_BadText) (.type "ValueError") = some true
 ii_BadText : TX.excII K t.X_BadText t.X_CampError t.BadText___init__ = true
 fn_BadText : PySem.W.isFn K (.ref t.BadText___init__) = true
 sa_BadText : PySem.W.findIn K (.ref t.X_BadText) "__setattr__" = some (some (.builtin "object.__setattr__"))
 nx_row : PySem.W.findIn K (.ref t.X_BadText) "row" = some none
 BadText___init__ : TK.MeP K t.X_BadText "__init__" "BadText.__init__" s_BadText___init__ ["self", "row"] t.BadText___init__ t.fd_BadText___init__
 is_camper : TK.FnP K mg "is_camper" "is_camper" s_is_camper ["value", "size"] t.is_camper t.fd_is_camper
 check_wishes : TK.FnP K mg "check_wishes" "check_wishes" s_check_wishes ["camper", "wishes", "size"] t.check_wishes t.fd_check_wishes
 check_lists : TK.FnP K mg "check_lists" "check_lists" s_check_lists ["lists"] t.check_lists t.fd_check_lists
 Camp___init__ : TK.MeP K t.C "__init__" "Camp.__init__" s_Camp___init__ ["self", "lists"] t.Camp___init__ t.fd_Camp___init__
 written_row : TK.FnP K mg "written_row" "written_row" s_written_row ["camper", "wishes"] t.written_row t.fd_written_row
 written : TK.FnP K mg "written" "written" s_written ["camp"] t.written t.fd_written
 is_row : TK.FnP K mg "is_row" "is_row" s_is_row ["parts", "place"] t.is_row t.fd_is_row
 read : TK.FnP K mg "read" "read" s_read ["text"] t.read t.fd_read
 law_cell_at : TK.FnP K mg "_law_cell_at" "_law_cell_at" s_law_cell_at ["_law_script", "_law_k"] t.law_cell_at t.fd_law_cell_at
 law_draw : TK.FnP K mg "_law_draw" "_law_draw" s_law_draw ["_law_cell", "_law_k", "_law_many"] t.law_draw t.fd_law_draw
 law_lists : TK.FnP K mg "_law_lists" "_law_lists" s_law_lists ["_law_script", "_law_first"] t.law_lists t.fd_law_lists
 law_refused : TK.FnP K mg "_law_refused" "_law_refused" s_law_refused ["_law_text"] t.law_refused t.fd_law_refused
 law_row_in : TK.FnP K mg "_law_row_in" "_law_row_in" s_law_row_in ["_law_row", "_law_camper"] t.law_row_in t.fd_law_row_in
 law_due : TK.FnP K mg "_law_due" "_law_due" s_law_due ["_law_text"] t.law_due t.fd_law_due
 law_right : TK.FnP K mg "_law_right" "_law_right" s_law_right ["_law_text"] t.law_right t.fd_law_right
 law_other : TK.FnP K mg "_law_other" "_law_other" s_law_other ["_law_text", "_law_cell", "_law_k"] t.law_other t.fd_law_other
 law : TK.FnP K mg "law" "law" s_law ["_law_script"] t.law t.fd_law
end Tp
namespace Tp
open PySem PySem.Spec PyProof.Rows L2 TX TM TK TS
seal PySem.Sem.wp
section
variable {P : Program} {w : World} {K : PySem.W.Frag} {mg : Str → Option Value} {base : Heap} {t : Adr}
theorem dec_V (i j : Int) : decide (V.int i = V.int j) = decide (i = j) := by
 by_cases e : i = j
 ·subst e; simp
 ·rw [decide_eq_false e, decide_eq_false (fun z => e (by injection z))]
theorem ixN_of {n : Nat} {i : Int} (h0 : 0 ≤ i) (h1 : i < n) : ixN n i = some i.toNat := by
 unfold ixN
 rw [if_pos h0, if_pos h1]
theorem seqIx {z : Int} {n : Nat} (h0 : 0 ≤ z) (h1 : z < n) : seqIndex? z n = some z.toNat := (ixN_seq (ixN_of h0 h1)).1
theorem ok_nilD : PySem.W.kqdOk 9 (.list []) = true := by simp [PySem.W.kqdOk]
end
theorem dZ_nil {l : List Int} : dZ l = .list [] ↔ l = [] := by
 constructor
 ·intro h
  unfold dZ at h
  injection h with h
  simpa using h
 ·rintro rfl; rfl
section
variable {P : Program} {w : World} {K : PySem.W.Frag} {mg : Str → Option Value} {base : Heap} {t : Adr}
theorem iteNot {A B : Prop} {b : Bool} (h : b = true) (q : B) : if (!b) = true then A else B := by subst h; exact q
theorem iteNotF {A B : Prop} {b : Bool} (h : b = false) (q : A) : if (!b) = true then A else B := by subst h; exact q
theorem iteFalse {A B : Prop} {b : Bool} (h : b = false) (q : B) : if b = true then A else B := by subst h; exact q
theorem iteTrue {A B : Prop} {b : Bool} (h : b = true) (q : A) : if b = true then A else B := by subst h; exact q
def spIsCamper : Sp := fun vs H Q _ => ∃ v n : Int, vs = [.int v, .int n] ∧ Q (.bl (decide (0 ≤ v) && decide (v < n))) H
theorem ok_is_camper (T : Txt K mg t) : FnOk P w K mg base CX0 1 t.is_camper t.fd_is_camper ["value", "size"] spIsCamper := by
 have S := sc_is_camper
 refine T.is_camper.fn.ok S (fun vs H Q E h => ?_) (fun cdv A outer s H vs Q E hr h => ?_)
 ·obtain ⟨v, n, rfl, _⟩ := h; rfl
 ·obtain ⟨v, n, rfl, q⟩ := h
  refine ⟨_, (pss_cons (ps_if (pw_or (pt_val (pe_callB TX.call_isinst (by rfl) T.b_isinstance TK.boot_isinstance (pa_cons (pv 0) (pa_cons (pe_bltn (v := .ty "bool") (by rfl) T.b_bool TK.boot_bool (by rfl)) pa_nil)))) (pw_or1 (pt_not (pt_val (pe_callB TX.call_isinst (by rfl) T.b_isinstance TK.boot_isinstance (pa_cons (pv 0) (pa_cons (pe_bltn (v := .ty "int") (by rfl) T.b_int TK.boot_int (by rfl)) pa_nil))))))).pt (pss_one (ps_ret pe_bl)) pss_nil)
   (pss_one (ps_ret (pe_chain op_le op_lt pe_int (pv 0) (pv 1))))), ?_⟩
  refine ⟨_, rfl, _, _, _, _, _, rfl, ty_only, .int _, kit_int_bool, _, rfl, iteF ?_⟩
  refine ⟨_, rfl, _, _, _, _, _, rfl, ty_only, .int _, kit_int_int, _, rfl, iteF ?_⟩
  refine ⟨_, rfl, _, _, rfl, rfl, _, rfl, iteB (fun e => ⟨_, rfl, _, _, rfl, rfl, ?_⟩) (fun e => ?_)⟩
  ·rw [e, Bool.true_and] at q; exact q
  ·rw [e, Bool.false_and] at q; exact q
def spCheckWishes : Sp := fun vs H Q _ => ∃ (c : Int) (a : Addr) (ns : List Int) (n : Nat), vs = [.int c, .ref a, .int n] ∧ H a = some (.lst (ns.map V.int)) ∧ OkAt n c ns ∧ ns.length ≤ 100 ∧ ∀ H', Same H H' → Q .non H'
theorem int_at {ns : List Int} {i : Nat} {x : V} (h : (ns.map V.int)[i]? = some x) : ∃ z, ns[i]? = some z ∧ x = .int z := by
 rw [List.getElem?_map] at h
 cases e : ns[i]? with
 | none => rw [e] at h; cases h
 | some z => rw [e] at h; exact ⟨z, rfl, (Option.some.inj h).symm⟩
theorem not_mem_take {ns : List Int} (hn : ns.Nodup) {i : Nat} {z : Int} (e : ns[i]? = some z) : ¬ z ∈ ns.take i := by
 intro h
 obtain ⟨j, hj⟩ := List.mem_iff_getElem?.mp h
 rw [List.getElem?_take] at hj
 split at hj
 ·rename_i hji
  obtain ⟨h1, e1⟩ := List.getElem?_eq_some_iff.mp e
  obtain ⟨h2, e2⟩ := List.getElem?_eq_some_iff.mp hj
  have := (List.getElem_inj hn).mp (e2.trans e1.symm)
  omega
 ·cases hj
theorem ok_check_wishes (T : Txt K mg t) : FnOk P w K mg base CX0 2 t.check_wishes t.fd_check_wishes ["camper", "wishes", "size"] spCheckWishes := by
 have S := sc_check_wishes
 have G_is_camper := ok_is_camper (P := P) (w := w) (base := base) T
 refine T.check_wishes.fn.ok S (fun vs H Q E h => ?_) (fun cdv A outer s H vs Q E hr h => ?_)
 ·obtain ⟨c, a, ns, n, rfl, _⟩ := h; rfl
 ·obtain ⟨c, a, ns, n, rfl, ha, ok, hlen, q⟩ := h
  have hu := hu_of hr
  refine ⟨_, (pss_cons (ps_if (pt_not (pt_val (pe_callB TX.call_isinst (by rfl) T.b_isinstance TK.boot_isinstance (pa_cons (pv 1) (pa_cons (pe_bltn (v := .ty "list") (by rfl) T.b_list TK.boot_list (by rfl)) pa_nil))))) (pss_one ps_never) pss_nil)
   (pss_cons (ps_set (i := 3) S.nd rfl (by first | exact Or.inl rfl | exact Or.inr rfl) (pe_disp (pps_cons (pv 0) pe_bl pps_nil) rfl rfl (by simp) (by decide)))
   (pss_one (ps_for PassesOwn.never rfl (pi_list (pv 1)) (pg_name (i := 4) S.nd rfl (by first | exact Or.inl rfl | exact Or.inr rfl)) (pss_cons (ps_if (pt_not (pt_val (pe_call (k := 1) G_is_camper hr (by rfl) T.is_camper.mg T.is_camper.fn.kp T.is_camper.b .nil pass0 (pa_cons (pv 4) (pa_cons (pv 2) pa_nil))))) (pss_one ps_never) pss_nil)
   (pss_cons (ps_if (pt_cmp (pc_din hu (pv 4) (pv 3))) (pss_one ps_never) pss_nil)
   (pss_one (ps_dput hu (pv 3) (pv 4) pe_bl rfl)))))))), ?_⟩
  refine ⟨_, rfl, _, _, _, _, _, rfl, ty_only, .lst ha, kit_list_list, _, rfl, iteF ?_⟩
  intro p hp
  refine ⟨_, rfl, upd_same, [(Sum.inl c, .bl true)], rfl, (by show 1 ≤ 15; decide), ?_⟩
  rw [upd_upd]
  have s1 : Same H (upd H p (.dK (mergeK [] [(Sum.inl c, .bl true)]))) := TX.Same.upd (Same.refl H) hp
  refine ⟨_, rfl, a, rfl, ⟨_, SqL.of (s1 _ _ ha)⟩, for_list (K := K) (a := a) (xs := ns.map V.int) (fun i σ H2 => ∃ (kvs : List (Key × V)) (v : Option V), σ = [some (.int c), some (.ref a), some (.int n), some (.ref p), v] ∧ Same H H2 ∧
   H2 p = some (.dK kvs) ∧ kvs.length ≤ i + 1 ∧ ∀ x : Int, (valV kvs (Sum.inl x)).isSome = true ↔ x = c ∨ x ∈ ns.take i)
   ⟨_, none, rfl, s1, upd_same, (by show 1 ≤ 0 + 1; decide), fun x => ?_⟩ (fun i σ H2 _ ⟨_, _, _, s2, _⟩ => SqL.of (s2 _ _ ha)) ?_ ?_⟩
  ·show (valV (putK [] (Sum.inl c) (.bl true)) (Sum.inl x)).isSome = true ↔ _
   rw [valV_put]
   by_cases e : (Sum.inl x : Key) = Sum.inl c
   ·rw [if_pos e]; injection e with e; simp [e]
   ·rw [if_neg e]
    have : x ≠ c := fun z => e (by rw [z])
    simp [valV_nil, this]
  ·rintro i y σ H2 hi ⟨kvs, v, rfl, s2, hd, hl, hk⟩
   obtain ⟨z, hz, rfl⟩ := int_at hi
   have hzm := List.mem_of_getElem? hz
   obtain ⟨z1, z2, z3⟩ := ok.1 z hzm
   refine ⟨_, rfl, _, rfl, z, _, rfl, _, rfl, iteNot (by rw [Bool.and_eq_true]; exact ⟨decide_eq_true z1, decide_eq_true z2⟩) ?_⟩
   have hno : valV kvs (Sum.inl z) = none := by
    cases e : valV kvs (Sum.inl z : Key) with
    | none => rfl
    | some u =>
     have := (hk z).mp (by rw [e]; rfl)
     rcases this with h | h
     ·exact absurd h z3
     ·exact absurd h (not_mem_take ok.2 hz)
   refine ⟨_, rfl, _, rfl, p, _, rfl, DGet.k (k := Sum.inl z) hd, _, rfl, iteFalse (by rw [hno]; rfl) ?_⟩
   have hil : i < ns.length := (List.getElem?_eq_some_iff.mp hz).1
   refine ⟨_, rfl, _, rfl, p, _, rfl, DPut.k (k := Sum.inl z) hd (small1000 (by omega)), ?_⟩
   have hHp : H p = none := hp
   refine ⟨_, _, rfl, TX.Same.upd s2 hHp, upd_same, ?_, fun x => ?_⟩
   ·have := length_putK kvs (Sum.inl z : Key) (V.bl true)
    omega
   ·rw [valV_put]
    have et : ns.take (i + 1) = ns.take i ++ [z] := by rw [List.take_add_one, hz]; rfl
    rw [et]
    by_cases e : (Sum.inl x : Key) = Sum.inl z
    ·rw [if_pos e]; injection e with e; simp [e]
    ·rw [if_neg e, hk x]
     have : x ≠ z := fun q => e (by rw [q])
     simp [this]
  ·rintro σ H2 ⟨kvs, v, rfl, s2, _⟩
   exact q H2 s2
end
section
variable {P : Program} {w : World} {K : PySem.W.Frag} {mg : Str → Option Value} {base : Heap} {t : Adr}
def spCheckLists : Sp := fun vs H Q _ => ∃ (a : Addr) (ls : Ls), vs = [.ref a] ∧ LL H a ls ∧ Valid ls ∧ ∀ H', Same H H' → Q .non H'
theorem ok_check_lists (T : Txt K mg t) : FnOk P w K mg base CX0 3 t.check_lists t.fd_check_lists ["lists"] spCheckLists := by
 have S := sc_check_lists
 have G_check_wishes := ok_check_wishes (P := P) (w := w) (base := base) T
 have h_MOST_CAMPERS := T.mg_M
 refine T.check_lists.fn.ok S (fun vs H Q E h => ?_) (fun cdv A outer s H vs Q E hr h => ?_)
 ·obtain ⟨a, ls, rfl, _⟩ := h; rfl
 ·obtain ⟨a, ls, rfl, hL, hV, q⟩ := h
  obtain ⟨xs, ha, r⟩ := id hL
  have hl := r.length
  have v1 := hV.pos
  have v2 := hV.le
  refine ⟨_, (pss_cons (ps_if (pt_not (pt_val (pe_callB TX.call_isinst (by rfl) T.b_isinstance TK.boot_isinstance (pa_cons (pv 0) (pa_cons (pe_bltn (v := .ty "list") (by rfl) T.b_list TK.boot_list (by rfl)) pa_nil))))) (pss_one ps_never) pss_nil)
   (pss_cons (ps_if (pt_not (pt_chain op_le op_le pe_int (pe_callB call_len_seq (by rfl) T.b_len TK.boot_len (pa_cons (pv 0) pa_nil)) (pe_glob (v := .int 6) (by rfl) h_MOST_CAMPERS (by first | exact ⟨_, rfl⟩ | rfl)))) (pss_one ps_never) pss_nil)
   (pss_one (ps_for PassesOwn.never rfl (TX.pi_enum rfl T.b_enumerate (pa_cons (pv 0) pa_nil)) (pg_tup rfl (pgs_cons (pg_name (i := 1) S.nd rfl (by first | exact Or.inl rfl | exact Or.inr rfl)) (pgs_cons (pg_name (i := 2) S.nd rfl (by first | exact Or.inl rfl | exact Or.inr rfl)) pgs_nil))) (pss_one (ps_expr (pe_call (k := 2) G_check_wishes hr (by rfl) T.check_wishes.mg T.check_wishes.fn.kp T.check_wishes.b .nil pass0 (pa_cons (pv 1) (pa_cons (pv 2) (pa_cons (pe_callB call_len_seq (by rfl) T.b_len TK.boot_len (pa_cons (pv 0) pa_nil)) pa_nil)))))))))), ?_⟩
  refine ⟨_, rfl, _, _, _, _, _, rfl, ty_only, .lst ha, kit_list_list, _, rfl, iteF ?_⟩
  refine ⟨_, rfl, a, _, rfl, .inl (SqL.of ha), _, _, rfl, rfl, _, rfl, iteTrue (decide_eq_true (by omega)) ?_⟩
  refine ⟨_, _, rfl, rfl, _, rfl, iteNot (decide_eq_true (by omega)) ?_⟩
  refine ⟨_, rfl, a, rfl, ⟨_, SqL.of ha⟩, for_enum (K := K) (a := a) (xs := xs) (fun i σ H2 => ∃ v u, σ = [some (.ref a), v, u] ∧ Same H H2) ⟨none, none, rfl, Same.refl H⟩ (fun i σ H2 _ ⟨_, _, _, s2⟩ => SqL.of (s2 _ _ ha)) ?_ ?_⟩
  ·rintro i x σ H2 p hi ⟨v, u, rfl, s2⟩ hp
   obtain ⟨l, hl2, b, rfl, hb⟩ := Paired.at1 r hi
   have s3 : Same H (upd H2 p (.tup [.int (i : Nat), .ref b])) := TX.Same.upd s2 (s2.free hp)
   refine ⟨p, _, rfl, SqT.of upd_same, rfl, _, _, rfl, _, _, rfl, rfl, ?_⟩
   have okl := hV.mem i l hl2
   refine ⟨_, rfl, _, rfl, _, rfl, a, _, rfl, .inl (SqL.of (s3 _ _ ha)), i, b, l, ls.length, ?_, s3 _ _ hb, okl, ?_, fun H3 s4 => ?_⟩
   ·show [V.int _, V.ref b, V.int _] ++ [] = _
    rw [hl]; rfl
   ·have := nodup_len (n := ls.length) (i := i) okl
    omega
   ·exact ⟨_, _, rfl, s3.trans s4⟩
  ·rintro σ H2 ⟨v, u, rfl, s2⟩
   exact q H2 s2
def flds (n : Int) (a : Addr) : List (Str × V) := putF "wishes" (.ref a) (putF "size" (.int n) [])
theorem flds_wishes (n : Int) (a : Addr) : (flds n a).lookup ("wishes" : Str) = some (.ref a) := by
 unfold flds
 rw [lookup_putF, if_pos rfl]
def CampAt (C : Addr) (H : Hp) (p : Addr) (ls : Ls) : Prop := ∃ dx a, H p = some (.ins C dx (flds ls.length a)) ∧ LL H a ls
def NewLL (H H' : Hp) (p : Addr) (ls : Ls) : Prop := H p = none ∧ Same H H' ∧ ∃ xs, H' p = some (.lst xs) ∧ Paired (fun v l => ∃ b, v = V.ref b ∧ H b = none ∧ H' b = some (.lst (l.map V.int))) xs ls
theorem yes_if {A B : Hp → Prop} {σ : L2.St} {H : Hp} (h : A H) : tYes σ H (fun b H3 => if b = true then A H3 else B H3) := iteT (B := B H) h
theorem copies_word {H : Hp} {a : Addr} {ls : Ls} {xs : List V} {Q : VK} (ha : H a = some (.lst xs)) (r : Paired (RI H) xs ls) (hz : ls.length ≤ 100) (q : ∀ p H', NewLL H H' p ls → Q (.ref p) H') :
  ∃ W : Nat → Nat → List V → Hp → Prop, (∃ m, W 0 m [] H) ∧ ∀ i m ys H1, W i m ys H1 →
   ((Itl K a).stop i H1 ∧ ∀ p, H1 p = none → Q (.ref p) (upd H1 p (.lst ys))) ∨
   ((Itl K a).go i H1 ∧ ys.length < sizeLine ∧ ∀ x H', (Itl K a).yld i H1 x H' → gName 0 x [none] H' fun σ2 H2 => Kps [none] σ2 ∧ tYes σ2 H2 fun b H3 =>
    if b = true then tCB (TX.rListOf K) (tCons (tVar 0) tNil) σ2 H3 fun y H4 => ∃ m', m' < m ∧ W (i + 1) m' (ys ++ [y]) H4 else ∃ m', m' < m ∧ W (i + 1) m' ys H3) := by
 have hl := r.length
 refine ⟨fun i m ys H1 => m = xs.length - i ∧ i ≤ xs.length ∧ Same H H1 ∧ Paired (fun v l => ∃ b, v = V.ref b ∧ H b = none ∧ H1 b = some (.lst (l.map V.int))) ys (ls.take i), ⟨_, rfl, Nat.zero_le _, Same.refl H, by rw [List.take_zero]; exact .nil⟩, ?_⟩
 rintro i m ys H1 ⟨rfl, hi, s1, ry⟩
 have hyl := ry.length
 by_cases hlt : i < xs.length
 ·refine .inr ⟨⟨xs, xs[i], SqL.of (s1 _ _ ha), by simp [hlt]⟩, ?_, fun x H' y => ?_⟩
  ·rw [hyl, List.length_take]
   exact small1000 (by omega)
  ·obtain ⟨rfl, y⟩ := y
   have hx := y xs (SqL.of (s1 _ _ ha))
   obtain ⟨l, hl2, b, rfl, hb⟩ := Paired.at1 r hx
   refine ⟨Kps.own, ?_⟩
   refine yes_if ⟨_, rfl, b, _, rfl, .inl (SqL.of (s1 _ _ hb)), fun c hc => ⟨xs.length - (i + 1), by omega, rfl, hlt, TX.Same.upd s1 (s1.free hc), ?_⟩⟩
   rw [List.take_add_one, hl2]
   refine Paired.app (Paired.impl (fun v l' ⟨d, e, h1, h2⟩ => ⟨d, e, h1, upd_old h2 hc⟩) ry) (.cons ⟨c, rfl, s1.free hc, upd_same⟩ .nil)
 ·have e : i = xs.length := by omega
  subst e
  refine .inl ⟨⟨xs, SqL.of (s1 _ _ ha), Nat.le_refl _⟩, fun p hp => q p _ ⟨s1.free hp, TX.Same.upd s1 (s1.free hp), ys, upd_same, ?_⟩⟩
  rw [List.take_of_length_le (by omega)] at ry
  exact Paired.impl (fun v l ⟨b, e, h1, h2⟩ => ⟨b, e, h1, upd_old h2 hp⟩) ry
theorem copies {H : Hp} {σ : L2.St} {tl : TE} {a : Addr} {ls : Ls} {xs : List V} {Q : VK} (ha : H a = some (.lst xs)) (r : Paired (RI H) xs ls) (hz : ls.length ≤ 100) (htl : ∀ R : VK, R (.ref a) H → tl σ H R) (q : ∀ p H', NewLL H H' p ls → Q (.ref p) H') :
  tComp [none] (iList K tl) (gName 0) tYes (tCB (TX.rListOf K) (tCons (tVar 0) tNil)) σ H Q :=
 htl _ ⟨a, rfl, ⟨_, SqL.of ha⟩, copies_word ha r hz q⟩
def spInit (C : Addr) : Sp := fun vs H Q _ => ∃ (p dx a : Addr) (ls : Ls), vs = [.ref p, .ref a] ∧ H p = some (.ins C dx []) ∧ LL H a ls ∧ Valid ls ∧
 ∀ H' wa xs, (∀ b o, H b = some o → b ≠ p → H' b = some o) → H wa = none → H' p = some (.ins C dx (flds ls.length wa)) → H' wa = some (.lst xs) → Paired (fun v l => ∃ b, v = V.ref b ∧ H b = none ∧ H' b = some (.lst (l.map V.int))) xs ls → Q .non H'
theorem ok_init (T : Txt K mg t) : FnOk P w K mg base CX0 4 t.Camp___init__ t.fd_Camp___init__ ["self", "lists"] (spInit t.C) := by
 have S := sc_Camp___init__
 have G_check_lists := ok_check_lists (P := P) (w := w) (base := base) T
 refine T.Camp___init__.fn.ok S (fun vs H Q E h => ?_) (fun cdv A outer s H vs Q E hr h => ?_)
 ·obtain ⟨p, dx, a, ls, rfl, _⟩ := h; rfl
 ·obtain ⟨p, dx, a, ls, rfl, hp, hL, hV, q⟩ := h
  refine ⟨_, (pss_cons (ps_expr (pe_call (k := 3) G_check_lists hr (by rfl) T.check_lists.mg T.check_lists.fn.kp T.check_lists.b .nil pass0 (pa_cons (pv 1) pa_nil)))
   (pss_cons (ps_fld (pv 0) (pe_callB call_len_seq (by rfl) T.b_len TK.boot_len (pa_cons (pv 1) pa_nil)) rfl)
   (pss_one (ps_fld (pv 0) (TX.pe_comp (te := tCB (TX.rListOf K) (tCons (tVar 0) tNil)) ["wishes"] [none] rfl (pi_list (pv 1)) (fun _ _ _ _ _ => (pg_name (i := 0) (show (["wishes"] : List Str).Nodup by decide +kernel) rfl (by first | exact Or.inl rfl | exact Or.inr rfl))) (fun _ _ _ _ _ => TX.pts_nil) (fun _ _ _ _ _ => (pe_callTy TX.call_listOf (by rfl) T.b_list TK.boot_list (pa_cons (pv 0) pa_nil))) rfl (by decide +kernel) (by decide +kernel) (No := ["self", "lists"]) (sc := defScope s_Camp___init__) rfl rfl (by decide +kernel) rfl (by decide +kernel)) rfl)))), ?_⟩
  refine ⟨_, rfl, a, ls, rfl, hL, hV, fun H1 s1 => ?_⟩
  have hL1 := Of.same mI hL s1
  obtain ⟨xs, ha, r⟩ := id hL1
  have npa : a ≠ p := ne_of ha (s1 _ _ hp) (by intro z; cases z)
  refine ⟨_, rfl, a, xs, rfl, .inl (SqL.of ha), ?_⟩
  refine ⟨_, rfl, p, t.C, dx, [], rfl, s1 _ _ hp, T.cl, T.n_size, (by show 0 < 1000; decide), ?_⟩
  have hlen := r.length
  rw [hlen]
  have key : ∀ b o, H1 b = some o → b ≠ p → upd H1 p (.ins t.C dx (putF "size" (.int ls.length) [])) b = some o := fun b o e n => upd_oth e n
  have r2 : Paired (RI (upd H1 p (.ins t.C dx (putF "size" (.int ls.length) [])))) xs ls := Paired.impl (fun v l ⟨b, e, h⟩ => ⟨b, e, key _ _ h (ne_of h (s1 _ _ hp) (by intro z; cases z))⟩) r
  have hz : ls.length ≤ 100 := Nat.le_trans hV.le (by decide)
  dsimp only
  refine sFld_of ?_
  refine copies (K := K) (tl := tVar 1) (key _ _ ha npa) r2 hz (fun R z => by exact ⟨_, rfl, z⟩) fun wa H2 N => ?_
  have hp2 : H2 p = some (.ins t.C dx (putF "size" (.int ls.length) [])) := N.2.1 _ _ upd_same
  refine ⟨_, rfl, p, t.C, dx, _, rfl, hp2, T.cl, T.n_wishes, (by show 1 < 1000; decide), ?_⟩
  have free : ∀ c, upd H1 p (.ins t.C dx (putF "size" (.int ls.length) [])) c = none → c ≠ p ∧ H c = none := fun c hc => by
   have n : c ≠ p := fun e => by rw [e, upd_same] at hc; cases hc
   rw [upd_ne n] at hc
   exact ⟨n, s1.free hc⟩
  obtain ⟨nwa, _, xs2, hwa, rx⟩ := id N
  refine q _ wa xs2 (fun b o e n => upd_oth (N.2.1 _ _ (upd_oth (s1 _ _ e) n)) n) (free _ nwa).2 upd_same (upd_oth hwa (free _ nwa).1) (Paired.impl (fun v l ⟨b, e, h1, h2⟩ => ⟨b, e, (free _ h1).2, upd_oth h2 (free _ h1).1⟩) rx)
end
section
variable {P : Program} {w : World} {K : PySem.W.Frag} {mg : Str → Option Value} {base : Heap} {t : Adr}
def spCell (K : PySem.W.Frag) : Sp := fun vs H Q _ => ∃ (a : Addr) (ns : List Int) (k : Int), vs = [.ref a, .int k] ∧ SqL K H a (ns.map V.int) ∧ 0 ≤ k ∧ ∀ z : Int, Q (.int z) H
theorem ok_cell (T : Txt K mg t) : FnOk P w K mg base CX0 1 t.law_cell_at t.fd_law_cell_at ["_law_script", "_law_k"] (spCell K) := by
 have S := sc_law_cell_at
 refine T.law_cell_at.fn.ok S (fun vs H Q E h => ?_) (fun cdv A outer s H vs Q E hr h => ?_)
 ·obtain ⟨a, ns, k, rfl, _⟩ := h; rfl
 ·obtain ⟨a, ns, k, rfl, ha, hk, q⟩ := h
  refine ⟨_, (pss_cons (ps_if (pt_cmpR op_lt (pv 1) (pe_callB call_len_seq (by rfl) T.b_len TK.boot_len (pa_cons (pv 0) pa_nil)) (nomark _)) (pss_one (ps_ret (pe_ix ix_list (pv 0) (pv 1) (fun _ _ => rfl)))) pss_nil)
   (pss_one (ps_ret pe_int))), ?_⟩
  refine ⟨_, rfl, _, rfl, a, _, rfl, .inl ha, _, _, rfl, rfl, _, rfl, iteB (fun e => ?_) (fun e => q 0)⟩
  have hlt : k < ((ns.map V.int).length : Int) := of_decide_eq_true e
  rw [List.length_map] at hlt
  have hi : k.toNat < ns.length := by omega
  exact ⟨_, rfl, _, rfl, a, _, k, .int ns[k.toNat], rfl, rfl, ha, atI_of hk (by simp [hi]), q _⟩
def spDraw : Sp := fun vs H Q _ => ∃ c k m : Int, vs = [.int c, .int k, .int m] ∧ 0 < m ∧ ∀ (z : Int) (H' : Hp), 0 ≤ z → z < m → Same H H' → Q (.int z) H'
theorem prime_at (i : Int) (h0 : 0 ≤ i) (h1 : i < 8) : ∃ z : Int, 0 < z ∧ atI ([.int 1000003, .int 1000033, .int 1000037, .int 1000039, .int 1000081, .int 1000099, .int 1000117, .int 1000121] : List V) i = some (.int z) := by
 have : i = 0 ∨ i = 1 ∨ i = 2 ∨ i = 3 ∨ i = 4 ∨ i = 5 ∨ i = 6 ∨ i = 7 := by omega
 rcases this with rfl | rfl | rfl | rfl | rfl | rfl | rfl | rfl
 ·exact ⟨1000003, by decide, rfl⟩
 ·exact ⟨1000033, by decide, rfl⟩
 ·exact ⟨1000037, by decide, rfl⟩
 ·exact ⟨1000039, by decide, rfl⟩
 ·exact ⟨1000081, by decide, rfl⟩
 ·exact ⟨1000099, by decide, rfl⟩
 ·exact ⟨1000117, by decide, rfl⟩
 ·exact ⟨1000121, by decide, rfl⟩
set_option maxHeartbeats 4000000 in
theorem ok_draw (T : Txt K mg t) : FnOk P w K mg base CX0 1 t.law_draw t.fd_law_draw ["_law_cell", "_law_k", "_law_many"] spDraw := by
 have S := sc_law_draw
 refine T.law_draw.fn.ok S (fun vs H Q E h => ?_) (fun cdv A outer s H vs Q E hr h => ?_)
 ·obtain ⟨c, k, m, rfl, _⟩ := h; rfl
 ·obtain ⟨c, k, m, rfl, hm, q⟩ := h
  refine ⟨_, (pss_cons (ps_set (i := 3) S.nd rfl (by first | exact Or.inl rfl | exact Or.inr rfl) (pe_tup (pa_cons pe_int (pa_cons pe_int (pa_cons pe_int (pa_cons pe_int (pa_cons pe_int (pa_cons pe_int (pa_cons pe_int (pa_cons pe_int pa_nil))))))))))
   (pss_cons (ps_set (i := 4) S.nd rfl (by first | exact Or.inl rfl | exact Or.inr rfl) (pe_op op_add (pe_op op_add (pe_op op_mul (pv 0) pe_int) (pe_op op_mul (pv 1) pe_int)) (pe_op op_mul (pe_op op_mod (pe_op op_fdiv (pv 0) pe_int) pe_int) pe_int)))
   (pss_one (ps_ret (pe_op op_mod (pe_op op_mod (pv 4) (pe_ix ix_tup (pv 3) (pe_op op_mod (pv 1) pe_int) (fun _ _ => rfl))) (pv 2)))))), ?_⟩
  refine ⟨(by show 8 ≤ sizeLine; decide), fun p hp => ?_⟩
  refine ⟨_, rfl, _, _, rfl, rfl, .inr ⟨by omega, by omega⟩, ?_⟩
  refine ⟨_, rfl, _, _, rfl, rfl, .inr ⟨by omega, by omega⟩, ?_⟩
  refine ⟨_, _, rfl, rfl, ?_⟩
  refine ⟨_, rfl, _, _, rfl, rfl, ⟨by decide, by decide⟩, ?_⟩
  refine ⟨_, _, rfl, rfl, (by show (0 : Int) < 1000003; decide), ?_⟩
  refine ⟨_, _, rfl, rfl, .inr ⟨by omega, by omega⟩, ?_⟩
  refine ⟨_, _, rfl, rfl, ?_⟩
  obtain ⟨z, hz, ez⟩ := prime_at (k % 8) (Int.emod_nonneg _ (by decide)) (Int.emod_lt_of_pos _ (by decide))
  refine ⟨_, rfl, _, rfl, _, rfl, _, _, rfl, rfl, (by show (0 : Int) < 8; decide), ?_⟩
  refine ⟨p, _, _, _, rfl, rfl, SqT.of upd_same, ez, ?_⟩
  refine ⟨_, _, rfl, rfl, hz, ?_⟩
  refine ⟨_, rfl, _, _, rfl, rfl, hm, ?_⟩
  exact q _ _ (Int.emod_nonneg _ (by omega)) (Int.emod_lt_of_pos _ hm) (TX.Same.upd (Same.refl H) hp)
end
section
variable {P : Program} {w : World} {K : PySem.W.Frag} {mg : Str → Option Value} {base : Heap} {t : Adr}
theorem rng_succ (n : Nat) : rng (n + 1) = rng n ++ [(n : Int)] := by
 unfold rng
 rw [List.range_succ, List.map_append]
 rfl
theorem others {H : Hp} {σ : L2.St} {ta : TA} {ixs : List (Option Nat)} {n : Nat} {c : Int} {Q : VK} (hn : n ≤ 100) (hσ : subSt σ ixs = [none, some (.int c)]) (hta : ∀ R : List V → Hp → Prop, R [.int n] H → ta σ H R)
  (q : ∀ p, H p = none → Q (.ref p) (upd H p (.lst (((rng n).filter fun x => decide (x ≠ c)).map V.int)))) :
  tComp ixs (iRng1 ta) (gName 0) (tTest (tOp rNe (tVar 0) (tVar 1))) (tVar 0) σ H Q := by
 refine hta _ ⟨(n : Int), rfl, by omega, by omega, fun i m ys H1 => m = n - i ∧ i ≤ n ∧ ys = ((rng i).filter fun x => decide (x ≠ c)).map V.int ∧ H1 = H, ⟨_, rfl, Nat.zero_le _, rfl, rfl⟩, ?_⟩
 rintro i m ys H1 ⟨rfl, hi, rfl, rfl⟩
 by_cases hlt : i < n
 ·refine .inr ⟨hlt, small1000 ?_, fun x H' y => ?_⟩
  ·rw [List.length_map]
   refine Nat.le_trans (List.length_filter_le _ _) ?_
   rw [rng_length]
   omega
  ·obtain ⟨rfl, rfl⟩ := y
   rw [hσ]
   refine ⟨Kps.own, _, rfl, _, rfl, rfl, _, rfl, ?_⟩
   rw [dec_V]
   have e : ((rng (i + 1)).filter fun x => decide (x ≠ c)).map V.int = ((rng i).filter fun x => decide (x ≠ c)).map V.int ++ (if decide ((i : Int) ≠ c) = true then [V.int (i : Int)] else []) := by
    rw [rng_succ, List.filter_append, List.map_append, List.filter_cons, List.filter_nil]
    split <;> rfl
   have e0 : (0 : Int) + (i : Int) = (i : Int) := by omega
   rw [e0]
   refine iteB (fun h => ?_) (fun h => ?_)
   ·refine ⟨_, rfl, n - (i + 1), by omega, rfl, hlt, ?_, rfl⟩
    rw [e, if_pos (by simpa using h)]
   ·refine ⟨n - (i + 1), by omega, rfl, hlt, ?_, rfl⟩
    rw [e, if_neg (by simpa using h), List.append_nil]
 ·have e : i = n := by omega
  subst e
  exact .inl ⟨Nat.le_refl _, q⟩
theorem without_ {H : Hp} {σ : L2.St} {tl : TE} {ixs : List (Option Nat)} {p r : Addr} {l f : List Int} {Q : VK} (hn : l.length ≤ 100) (hσ : subSt σ ixs = [none, some (.ref r)]) (hp : H p = some (.lst (l.map V.int))) (hr : H r = some (.lst (f.map V.int)))
  (htl : ∀ R : VK, R (.ref p) H → tl σ H R) (q : ∀ c, H c = none → Q (.ref c) (upd H c (.lst ((l.filter fun x => decide (¬ x ∈ f)).map V.int)))) :
  tComp ixs (iList K tl) (gName 0) (tTest (tOp (rIn K true) (tVar 0) (tVar 1))) (tVar 0) σ H Q := by
 refine htl _ ⟨p, rfl, ⟨_, SqL.of hp⟩, fun i m ys H1 => m = l.length - i ∧ i ≤ l.length ∧ ys = ((l.take i).filter fun x => decide (¬ x ∈ f)).map V.int ∧ H1 = H, ⟨_, rfl, Nat.zero_le _, by rw [List.take_zero]; rfl, rfl⟩, ?_⟩
 rintro i m ys H1 ⟨rfl, hi, rfl, rfl⟩
 by_cases hlt : i < l.length
 ·refine .inr ⟨⟨_, .int l[i], SqL.of hp, by simp [hlt]⟩, small1000 ?_, fun x H' y => ?_⟩
  ·rw [List.length_map]
   refine Nat.le_trans (List.length_filter_le _ _) ?_
   rw [List.length_take]
   omega
  ·obtain ⟨rfl, y⟩ := y
   obtain ⟨z, hz, rfl⟩ := int_at (y _ (SqL.of hp))
   rw [hσ]
   refine ⟨Kps.own, _, rfl, _, rfl, r, _, rfl, .inl (SqL.of hr), rfl, flat_ints _, _, rfl, ?_⟩
   show if (!inV (.int z) (f.map V.int)) = true then _ else _
   rw [inV_ints]
   have e : ((l.take (i + 1)).filter fun x => decide (¬ x ∈ f)).map V.int = ((l.take i).filter fun x => decide (¬ x ∈ f)).map V.int ++ (if decide (¬ z ∈ f) = true then [V.int z] else []) := by
    rw [List.take_add_one, hz, Option.toList_some, List.filter_append, List.map_append, List.filter_cons, List.filter_nil]
    split <;> rfl
   refine iteB (fun h => ?_) (fun h => ?_)
   ·refine ⟨_, rfl, l.length - (i + 1), by omega, rfl, hlt, ?_, rfl⟩
    rw [e, if_pos (by simpa using h)]
   ·refine ⟨l.length - (i + 1), by omega, rfl, hlt, ?_, rfl⟩
    rw [e, if_neg (by simpa using h), List.append_nil]
 ·have e : i = l.length := by omega
  subst e
  rw [List.take_length]
  exact .inl ⟨⟨_, SqL.of hp, by simp⟩, q⟩
theorem empties {H : Hp} {σ : L2.St} {tl : TE} {p : Addr} {xs : List V} {Q : VK} (hn : xs.length ≤ 100) (hp : H p = some (.lst xs)) (htl : ∀ R : VK, R (.ref p) H → tl σ H R)
  (q : ∀ c H', H c = none → Same H H' → LL H' c (List.replicate xs.length []) → Q (.ref c) H') :
  tComp [none] (iList K tl) (gName 0) tYes (tLst tNil) σ H Q := by
 refine htl _ ⟨p, rfl, ⟨_, SqL.of hp⟩, fun i m ys H1 => m = xs.length - i ∧ i ≤ xs.length ∧ Same H H1 ∧ Paired (RI H1) ys (List.replicate i []), ⟨_, rfl, Nat.zero_le _, Same.refl H, .nil⟩, ?_⟩
 rintro i m ys H1 ⟨rfl, hi, s1, r⟩
 have hl := r.length
 rw [List.length_replicate] at hl
 by_cases hlt : i < xs.length
 ·refine .inr ⟨⟨_, xs[i], SqL.of (s1 _ _ hp), by simp [hlt]⟩, small1000 (by omega), fun x H' y => ?_⟩
  obtain ⟨rfl, y⟩ := y
  refine ⟨Kps.own, ?_⟩
  refine yes_if ⟨Nat.zero_le _, fun c hc => ⟨xs.length - (i + 1), by omega, rfl, hlt, TX.Same.upd s1 (s1.free hc), ?_⟩⟩
  rw [List.replicate_succ']
  exact Paired.app (Paired.impl (fun v d ⟨b, e, hb⟩ => ⟨b, e, upd_old hb hc⟩) r) (.cons ⟨c, rfl, upd_same⟩ .nil)
 ·have e : i = xs.length := by omega
  subst e
  refine .inl ⟨⟨_, SqL.of (s1 _ _ hp), Nat.le_refl _⟩, fun c hc => q c _ (s1.free hc) (TX.Same.upd s1 (s1.free hc)) ⟨ys, upd_same, Paired.impl (fun v d ⟨b, e, hb⟩ => ⟨b, e, upd_old hb hc⟩) r⟩⟩
theorem shifted {H : Hp} {σ : L2.St} {tl : TE} {ixs : List (Option Nat)} {p : Addr} {l : List Int} {m s : Int} {Q : VK} (hm : 0 < m) (hn : l.length ≤ 100) (hσ : subSt σ ixs = [none, some (.int m), some (.int s)]) (hp : H p = some (.lst (l.map V.int)))
  (htl : ∀ R : VK, R (.ref p) H → tl σ H R) (q : ∀ c, H c = none → Q (.ref c) (upd H c (.lst ((l.map fun x => (x + s) % m).map V.int)))) :
  tComp ixs (iList K tl) (gName 0) tYes (tOp (rI (fun _ j => 0 < j) fun i j => .int (i % j)) (tOp (rI0 fun i j => .int (i + j)) (tVar 0) (tVar 2)) (tVar 1)) σ H Q := by
 refine htl _ ⟨p, rfl, ⟨_, SqL.of hp⟩, fun i m' ys H1 => m' = l.length - i ∧ i ≤ l.length ∧ ys = ((l.take i).map fun x => (x + s) % m).map V.int ∧ H1 = H, ⟨_, rfl, Nat.zero_le _, by rw [List.take_zero]; rfl, rfl⟩, ?_⟩
 rintro i m' ys H1 ⟨rfl, hi, rfl, rfl⟩
 by_cases hlt : i < l.length
 ·refine .inr ⟨⟨_, .int l[i], SqL.of hp, by simp [hlt]⟩, small1000 (by simp; omega), fun x H' y => ?_⟩
  obtain ⟨rfl, y⟩ := y
  obtain ⟨z, hz, rfl⟩ := int_at (y _ (SqL.of hp))
  rw [hσ]
  refine ⟨Kps.own, ?_⟩
  refine yes_if ⟨_, rfl, _, rfl, _, _, rfl, rfl, _, rfl, _, _, rfl, rfl, hm, l.length - (i + 1), by omega, rfl, hlt, ?_, rfl⟩
  rw [List.take_add_one, hz, Option.toList_some, List.map_append, List.map_append]
  rfl
 ·have e : i = l.length := by omega
  subst e
  rw [List.take_length]
  exact .inl ⟨⟨_, SqL.of hp, by simp⟩, q⟩
end
section
variable {P : Program} {w : World} {K : PySem.W.Frag} {mg : Str → Option Value} {base : Heap} {t : Adr}
theorem many_at (i : Int) (h0 : 0 ≤ i) (h1 : i < 8) : ∃ z : Int, (1 ≤ z ∧ z ≤ 4) ∧ atI ([.int 4, .int 3, .int 4, .int 2, .int 4, .int 3, .int 4, .int 1] : List V) i = some (.int z) := by
 have : i = 0 ∨ i = 1 ∨ i = 2 ∨ i = 3 ∨ i = 4 ∨ i = 5 ∨ i = 6 ∨ i = 7 := by omega
 rcases this with rfl | rfl | rfl | rfl | rfl | rfl | rfl | rfl
 ·exact ⟨4, by decide, rfl⟩
 ·exact ⟨3, by decide, rfl⟩
 ·exact ⟨4, by decide, rfl⟩
 ·exact ⟨2, by decide, rfl⟩
 ·exact ⟨4, by decide, rfl⟩
 ·exact ⟨3, by decide, rfl⟩
 ·exact ⟨4, by decide, rfl⟩
 ·exact ⟨1, by decide, rfl⟩
theorem ring_at (i : Int) (h0 : 0 ≤ i) (h1 : i < 4) : ∃ z : Int, (3 ≤ z ∧ z ≤ 5) ∧ atI ([.int 3, .int 5, .int 3, .int 4] : List V) i = some (.int z) := by
 have : i = 0 ∨ i = 1 ∨ i = 2 ∨ i = 3 := by omega
 rcases this with rfl | rfl | rfl | rfl
 ·exact ⟨3, by decide, rfl⟩
 ·exact ⟨5, by decide, rfl⟩
 ·exact ⟨3, by decide, rfl⟩
 ·exact ⟨4, by decide, rfl⟩
def LPv (H : Hp) (a : Addr) (k z1 z2 m kd : Int) (L : Addr) (i : Nat) (σ : L2.St) (H2 : Hp) : Prop := ∃ v7 v8 v9 v10 v11 lsd, σ = [some (.ref a), some (.int k), some (.int z1), some (.int z2), some (.int m), some (.int kd), some (.ref L), v7, v8, v9, v10, v11, none, none] ∧
 Same H H2 ∧ LL H2 L lsd ∧ lsd.length = i ∧ AllOk m.toNat lsd
def LM1 (Q : VK) (H : Hp) (a : Addr) (k : Int) : TS := fun D σ H1 => D.rt = Q ∧ ∃ z1 z2 m : Int, σ = [some (.ref a), some (.int k), some (.int z1), some (.int z2), some (.int m), none, none, none, none, none, none, none, none, none] ∧ (1 ≤ m ∧ m ≤ 6) ∧ Same H H1
def LM2 (H : Hp) (a : Addr) (k : Int) : TS := fun D σ H2 => ∃ (z1 z2 m kd : Int) (L : Addr) (i : Nat) (c : Int) (lsd : Ls) (v8 : Option V) (p : Addr) (l : List Int) (v10 v11 : Option V),
 σ = [some (.ref a), some (.int k), some (.int z1), some (.int z2), some (.int m), some (.int kd), some (.ref L), some (.int c), v8, some (.ref p), v10, v11, none, none] ∧ c = (i : Int) ∧ (1 ≤ m ∧ m ≤ 6) ∧ (i : Int) < m ∧ H L = none ∧ H p = none ∧ p ≠ L ∧
 Same H H2 ∧ LL H2 L lsd ∧ lsd.length = i ∧ AllOk m.toNat lsd ∧ H2 p = some (.lst (l.map V.int)) ∧ OkAt m.toNat i l ∧ ∀ σ' H', LPv H a k z1 z2 m kd L (i + 1) σ' H' → D.nx σ' H'
def LM4 (Q : VK) (H : Hp) (a : Addr) (k : Int) : TS := fun D σ H2 => D.rt = Q ∧ ∃ (z1 z2 m kd : Int) (L : Addr) (v7 v8 v9 v10 v11 : Option V) (ls : Ls), σ = [some (.ref a), some (.int k), some (.int z1), some (.int z2), some (.int m), some (.int kd), some (.ref L), v7, v8, v9, v10, v11, none, none] ∧
 Same H H2 ∧ H L = none ∧ LL H2 L ls ∧ Valid ls ∧ m = ls.length
def spLLists (K : PySem.W.Frag) : Sp := fun vs H Q _ => ∃ (a : Addr) (ns : List Int) (k : Int), vs = [.ref a, .int k] ∧ SqL K H a (ns.map V.int) ∧ 0 ≤ k ∧ ∀ p H' ls, H p = none → Same H H' → LL H' p ls → Valid ls → Q (.ref p) H'
theorem LL.apart {H : Hp} {L b : Addr} {xs : List V} {l : List Int} (hL : H L = some (.lst xs)) (hm : V.ref b ∈ xs) (hb : H b = some (.lst (l.map V.int))) : b ≠ L := by
 intro z
 rw [z, hL] at hb
 have e : xs = l.map V.int := by injection hb with hb; injection hb
 rw [e, List.mem_map] at hm
 obtain ⟨_, _, h⟩ := hm
 cases h
theorem LL.put {H : Hp} {L : Addr} {xs : List V} {ls : Ls} (hL : H L = some (.lst xs)) (r : Paired (RI H) xs ls) (o : HO) : Paired (RI (upd H L o)) xs ls := by
 have gen : ∀ (ys : List V) (ms : Ls), Paired (RI H) ys ms → (∀ v, v ∈ ys → v ∈ xs) → Paired (RI (upd H L o)) ys ms := by
  intro ys ms hh
  induction hh with
  | nil => intro _; exact .nil
  | cons hd tl ih =>
   intro hn
   obtain ⟨b, rfl, hb⟩ := hd
   exact .cons ⟨b, rfl, upd_oth hb (LL.apart hL (hn _ List.mem_cons_self) hb)⟩ (ih fun c hc => hn c (List.mem_cons_of_mem _ hc))
 exact gen _ _ r fun v h => h
theorem LL.push {H : Hp} {L p : Addr} {xs : List V} {ls : Ls} {l : List Int} (hL : H L = some (.lst xs)) (r : Paired (RI H) xs ls) (hp : H p = some (.lst (l.map V.int))) (hne : p ≠ L) :
  LL (upd H L (.lst (xs ++ [.ref p]))) L (ls ++ [l]) := ⟨_, upd_same, Paired.app (LL.put hL r _) (.cons ⟨p, rfl, upd_oth hp hne⟩ .nil)⟩
theorem LL.setAt {H : Hp} {L p : Addr} {xs : List V} {ls : Ls} {l : List Int} (hL : H L = some (.lst xs)) (r : Paired (RI H) xs ls) (hp : H p = some (.lst (l.map V.int))) (hne : p ≠ L) (j : Nat) :
  LL (upd H L (.lst (xs.set j (.ref p)))) L (ls.set j l) := ⟨_, upd_same, Paired.setAt ⟨p, rfl, upd_oth hp hne⟩ j (LL.put hL r _)⟩
theorem cut_pre {l : List Int} {z : Int} (h : 0 ≤ z) : cutV (l.map V.int) none (some z) = (l.take z.toNat).map V.int := by
 unfold cutV
 have e1 : HT.sIx (l.map V.int).length 0 none = 0 := rfl
 have e2 : HT.sIx (l.map V.int).length (l.map V.int).length (some z) = min z.toNat (l.map V.int).length := by
  show (if z < 0 then _ else _) = _
  rw [if_neg (by omega)]
 rw [e1, e2, List.drop_zero, Nat.sub_zero, List.map_take]
 rw [← List.take_take]
 rw [List.take_of_length_le (Nat.le_refl (l.map V.int).length)]
theorem er_map : ∀ (l : List Int) (k : Nat), (l.map V.int).eraseIdx k = (l.eraseIdx k).map V.int
 | [], _ => rfl
 | _ :: _, 0 => rfl
 | x :: l, k + 1 => by
  show V.int x :: (l.map V.int).eraseIdx k = V.int x :: (l.eraseIdx k).map V.int
  rw [er_map l k]
set_option maxHeartbeats 4000000 in
theorem ok_llists (T : Txt K mg t) : FnOk P w K mg base CX0 2 t.law_lists t.fd_law_lists ["_law_script", "_law_first"] (spLLists K) := by
 have S := sc_law_lists
 have G_law_cell_at := ok_cell (P := P) (w := w) (base := base) T
 have G_law_draw := ok_draw (P := P) (w := w) (base := base) T
 refine T.law_lists.fn.ok S (fun vs H Q E h => ?_) (fun cdv A outer s H vs Q E hr h => ?_)
 ·obtain ⟨a, ns, k, rfl, _⟩ := h; rfl
 ·obtain ⟨a, ns, k, rfl, hS, hk, fin⟩ := h
  have hu64 := hr.units
  obtain ⟨M1, eM1⟩ : ∃ M : TS, M = LM1 Q H a k := ⟨_, rfl⟩
  obtain ⟨M2, eM2⟩ : ∃ M : TS, M = LM2 H a k := ⟨_, rfl⟩
  obtain ⟨M4, eM4⟩ : ∃ M : TS, M = LM4 Q H a k := ⟨_, rfl⟩
  refine ⟨_, (pss_cons (ps_set (i := 2) S.nd rfl (by first | exact Or.inl rfl | exact Or.inr rfl) (pe_call (k := 1) G_law_cell_at hr (by rfl) T.law_cell_at.mg T.law_cell_at.fn.kp T.law_cell_at.b .nil pass0 (pa_cons (pv 0) (pa_cons (pv 1) pa_nil))))
   (pss_cons (ps_set (i := 3) S.nd rfl (by first | exact Or.inl rfl | exact Or.inr rfl) (pe_call (k := 1) G_law_cell_at hr (by rfl) T.law_cell_at.mg T.law_cell_at.fn.kp T.law_cell_at.b .nil pass0 (pa_cons (pv 0) (pa_cons (pe_op op_add (pv 1) pe_int) pa_nil))))
   (pss_cons (ps_set (i := 4) S.nd rfl (by first | exact Or.inl rfl | exact Or.inr rfl) (pe_ix ix_tup (pe_tup (pa_cons pe_int (pa_cons pe_int (pa_cons pe_int (pa_cons pe_int (pa_cons pe_int (pa_cons pe_int (pa_cons pe_int (pa_cons pe_int pa_nil))))))))) (pe_op op_mod (pv 2) pe_int) (fun _ _ => rfl)))
   (pss_cons (ps_if (pt_cmpR op_eq (pe_op op_mod (pe_op op_fdiv (pv 2) pe_int) pe_int) pe_int (nomark _)) (pss_one (ps_set (i := 4) S.nd rfl (by first | exact Or.inl rfl | exact Or.inr rfl) (pe_op op_add pe_int (pe_op op_fdiv (pe_op op_mod (pe_op op_fdiv (pv 2) pe_int) pe_int) pe_int)))) pss_nil)
   (TX.cut (M := M1) (pss_cons (ps_set (i := 5) S.nd rfl (by first | exact Or.inl rfl | exact Or.inr rfl) (pe_op op_mod (pe_op op_fdiv (pv 2) pe_int) pe_int))
   (pss_cons (ps_set (i := 6) S.nd rfl (by first | exact Or.inl rfl | exact Or.inr rfl) (pe_lst pa_nil))
   (pss_cons (ps_for PassesOwn.never rfl (pi_range1 rfl T.b_range (pa_cons (pv 4) pa_nil)) (pg_name (i := 7) S.nd rfl (by first | exact Or.inl rfl | exact Or.inr rfl)) (pss_cons (TX.ps_setC ["_law_one", "_law_camper"] [none, some 7] S.nd (j := 8) rfl (by first | exact Or.inl rfl | exact Or.inr rfl) rfl (pi_range1 rfl T.b_range (pa_cons (pv 4) pa_nil)) (fun _ _ _ _ _ => (pg_name (i := 0) (show (["_law_one", "_law_camper"] : List Str).Nodup by decide +kernel) rfl (by first | exact Or.inl rfl | exact Or.inr rfl))) (fun _ _ _ _ _ => (TX.pts_one (pt_cmpR op_ne (pv 0) (pv 1) (nomark _)))) (fun _ _ _ _ _ => (pv 0)) rfl (by decide +kernel) (by decide +kernel) (No := ["_law_script", "_law_first", "_law_cell", "_law_other_here", "_law_many", "_law_kind", "_law_lists_here", "_law_camper", "_law_left", "_law_told", "_law_ring", "_law_first_two", "_law_shift", "_law_turned"]) (sc := defScope s_law_lists) rfl rfl (by decide +kernel) rfl (by decide +kernel))
   (pss_cons (ps_set (i := 9) S.nd rfl (by first | exact Or.inl rfl | exact Or.inr rfl) (pe_lst pa_nil))
   (pss_cons (ps_while PassesOwn.never (pt_cmpR (TX.op_neD hu64) (pv 8) (pe_lst pa_nil) (nomark _)) (pss_one (ps_expr (pe_bm PySem.F.plainAttrs_list PySem.F.slot_list_append PySem.F.type_list_append mt_append (pv 9) (pa_cons (pe_bm PySem.F.plainAttrs_list PySem.F.slot_list_pop PySem.F.type_list_pop mt_popAt (pv 8) (pa_cons (pe_call (k := 1) G_law_draw hr (by rfl) T.law_draw.mg T.law_draw.fn.kp T.law_draw.b .nil pass0 (pa_cons (pe_op op_add (pe_op op_fdiv (pv 3) pe_int) (pe_op op_mul pe_int (pv 7))) (pa_cons (pe_callB call_len_seq (by rfl) T.b_len TK.boot_len (pa_cons (pv 8) pa_nil)) (pa_cons (pe_callB call_len_seq (by rfl) T.b_len TK.boot_len (pa_cons (pv 8) pa_nil)) pa_nil)))) pa_nil)) pa_nil)))))
   (TX.cut (M := M2) (pss_cons (ps_if (pt_cmpR op_eq (pv 5) pe_int (nomark _)) (pss_one (ps_set (i := 9) S.nd rfl (by first | exact Or.inl rfl | exact Or.inr rfl) (pe_slice sl_list (pv 9) po_none (po_some (pe_call (k := 1) G_law_draw hr (by rfl) T.law_draw.mg T.law_draw.fn.kp T.law_draw.b .nil pass0 (pa_cons (pe_op op_add (pv 3) (pe_op op_mul pe_int (pv 7))) (pa_cons pe_int (pa_cons (pv 4) pa_nil)))))))) pss_nil)
   (TX.cut (M := M2) (pss_cons (ps_if (pw_and (pt_cmpR op_eq (pv 5) pe_int (nomark _)) (pw_and1 (pt_cmpR op_gt (pv 4) pe_int (nomark _)))).pt (pss_cons (ps_set (i := 10) S.nd rfl (by first | exact Or.inl rfl | exact Or.inr rfl) (pe_callB (call_min2 rfl) (by rfl) T.b_min TK.boot_min (pa_cons (pv 4) (pa_cons (pe_ix ix_tup (pe_tup (pa_cons pe_int (pa_cons pe_int (pa_cons pe_int (pa_cons pe_int pa_nil))))) (pe_op op_mod (pe_op op_fdiv (pv 2) pe_int) pe_int) (fun _ _ => rfl)) pa_nil))))
   (pss_one (ps_if (pt_cmpR op_lt (pv 7) (pv 10) (nomark _)) (pss_cons (ps_set (i := 11) S.nd rfl (by first | exact Or.inl rfl | exact Or.inr rfl) (pe_lst (pa_cons (pe_op op_mod (pe_op op_add (pv 7) pe_int) (pv 10)) (pa_cons (pe_op op_mod (pe_op op_sub (pe_op op_add (pv 7) (pv 10)) pe_int) (pv 10)) pa_nil))))
   (pss_one (ps_set (i := 9) S.nd rfl (by first | exact Or.inl rfl | exact Or.inr rfl) (pe_op op_cat (pv 11) (TX.pe_comp (tc := tTest (tOp (rIn K true) (tVar 0) (tVar 1))) ["_law_one", "_law_first_two"] [none, some 11] rfl (pi_list (pv 9)) (fun _ _ _ _ _ => (pg_name (i := 0) (show (["_law_one", "_law_first_two"] : List Str).Nodup by decide +kernel) rfl (by first | exact Or.inl rfl | exact Or.inr rfl))) (fun _ _ _ _ _ => (TX.pts_one (pt_cmpR op_notIn_seq (pv 0) (pv 1) (by with_unfolding_all rfl)))) (fun _ _ _ _ _ => (pv 0)) rfl (by decide +kernel) (by decide +kernel) (No := ["_law_script", "_law_first", "_law_cell", "_law_other_here", "_law_many", "_law_kind", "_law_lists_here", "_law_camper", "_law_left", "_law_told", "_law_ring", "_law_first_two", "_law_shift", "_law_turned"]) (sc := defScope s_law_lists) rfl rfl (by decide +kernel) rfl (by decide +kernel)))))) pss_nil))) pss_nil)
   (TX.cut (M := M2) (pss_one (ps_expr (pe_bm PySem.F.plainAttrs_list PySem.F.slot_list_append PySem.F.type_list_append mt_append (pv 6) (pa_cons (pv 9) pa_nil)))) ?c3)) ?c2)) ?c0)))))
   (TX.cut (M := M4) (pss_cons (ps_if (pt_cmpR op_ne (pv 5) pe_int (nomark _)) (pss_one (ps_ret (pv 6))) pss_nil)
   (pss_cons (ps_set (i := 12) S.nd rfl (by first | exact Or.inl rfl | exact Or.inr rfl) (pe_op op_mod (pe_op op_fdiv (pv 2) pe_int) (pv 4)))
   (pss_cons (TX.ps_setC ["_law_told"] [none] S.nd (j := 13) rfl (by first | exact Or.inl rfl | exact Or.inr rfl) rfl (pi_list (pv 6)) (fun _ _ _ _ _ => (pg_name (i := 0) (show (["_law_told"] : List Str).Nodup by decide +kernel) rfl (by first | exact Or.inl rfl | exact Or.inr rfl))) (fun _ _ _ _ _ => TX.pts_nil) (fun _ _ _ _ _ => (pe_lst pa_nil)) rfl (by decide +kernel) (by decide +kernel) (No := ["_law_script", "_law_first", "_law_cell", "_law_other_here", "_law_many", "_law_kind", "_law_lists_here", "_law_camper", "_law_left", "_law_told", "_law_ring", "_law_first_two", "_law_shift", "_law_turned"]) (sc := defScope s_law_lists) rfl rfl (by decide +kernel) rfl (by decide +kernel))
   (pss_cons (ps_for PassesOwn.never rfl (pi_range1 rfl T.b_range (pa_cons (pv 4) pa_nil)) (pg_name (i := 7) S.nd rfl (by first | exact Or.inl rfl | exact Or.inr rfl)) (pss_one (ps_asg (TX.pe_comp ["_law_one", "_law_many", "_law_shift"] [none, some 4, some 12] rfl (pi_list (pe_ix ix_list (pv 6) (pv 7) (fun _ _ => rfl))) (fun _ _ _ _ _ => (pg_name (i := 0) (show (["_law_one", "_law_many", "_law_shift"] : List Str).Nodup by decide +kernel) rfl (by first | exact Or.inl rfl | exact Or.inr rfl))) (fun _ _ _ _ _ => TX.pts_nil) (fun _ _ _ _ _ => (pe_op op_mod (pe_op op_add (pv 0) (pv 2)) (pv 1))) rfl (by decide +kernel) (by decide +kernel) (No := ["_law_script", "_law_first", "_law_cell", "_law_other_here", "_law_many", "_law_kind", "_law_lists_here", "_law_camper", "_law_left", "_law_told", "_law_ring", "_law_first_two", "_law_shift", "_law_turned"]) (sc := defScope s_law_lists) rfl rfl (by decide +kernel) rfl (by decide +kernel)) (pg_sub (pv 13) (pe_op op_mod (pe_op op_add (pv 7) (pv 12)) (pv 4)) set_list))))
   (pss_one (ps_ret (pv 13))))))) ?c4)))) ?c1))))), ?_⟩
  case c0 =>
   subst eM2
   rintro D σ H2 ⟨z1, z2, m, kd, L, i, c, lsd, v8, p, l, v10, v11, rfl, hci, hm, him, hLn, hpn, npL, s2, hLL, hil, hok, hp, ok, nx⟩
   refine ⟨_, rfl, rfl, _, rfl, iteB (fun _ => ?_) (fun _ => ?_)⟩
   ·refine ⟨_, rfl, _, rfl, _, rfl, _, _, rfl, rfl, .inl ⟨by omega, by omega⟩, _, _, rfl, rfl, _, rfl, _, _, m, rfl, by omega, fun z H3 z0 z1' s3 => ?_⟩
    refine ⟨_, rfl, p, _, rfl, SqL.of (s3 _ _ hp), fun p' hp' => ?_⟩
    rw [cut_pre z0]
    have s4 := s2.trans s3
    obtain ⟨xs, hLx, _⟩ := id hLL
    exact ⟨z1, z2, m, kd, L, i, c, lsd, v8, p', l.take z.toNat, v10, v11, rfl, hci, hm, him, hLn, s4.free hp', (ne_of_none (s3 _ _ hLx) hp').symm, TX.Same.upd s4 (s4.free hp'), Of.same mI hLL (TX.Same.upd s3 (s3.free hp')), hil, hok, upd_same, ok.take _, nx⟩
   ·exact ⟨z1, z2, m, kd, L, i, c, lsd, v8, p, l, v10, v11, rfl, hci, hm, him, hLn, hpn, npL, s2, hLL, hil, hok, hp, ok, nx⟩
  case c2 =>
   subst eM2
   rintro D σ H2 ⟨z1, z2, m, kd, L, i, c, lsd, v8, p, l, v10, v11, rfl, hci, hm, him, hLn, hpn, npL, s2, hLL, hil, hok, hp, ok, nx⟩
   have stay : ∀ v10 v11, LM2 H a k D [some (.ref a), some (.int k), some (.int z1), some (.int z2), some (.int m), some (.int kd), some (.ref L), some (.int c), v8, some (.ref p), v10, v11, none, none] H2 := fun v10 v11 =>
    ⟨z1, z2, m, kd, L, i, c, lsd, v8, p, l, v10, v11, rfl, hci, hm, him, hLn, hpn, npL, s2, hLL, hil, hok, hp, ok, nx⟩
   refine ⟨_, rfl, rfl, _, rfl, iteB (fun _ => ?_) (fun _ => iteF (stay _ _))⟩
   refine ⟨_, rfl, _, _, rfl, rfl, _, rfl, iteB (fun e => ?_) (fun _ => stay _ _)⟩
   have hm2 : 2 < m := of_decide_eq_true e
   obtain ⟨z, hz, ez⟩ := ring_at (z1 / 32 % 4) (Int.emod_nonneg _ (by decide)) (Int.emod_lt_of_pos _ (by decide))
   refine ⟨_, rfl, (by show 4 ≤ sizeLine; decide), fun tp htp => ?_⟩
   refine ⟨_, rfl, _, _, rfl, rfl, ⟨by decide, by decide⟩, ?_⟩
   refine ⟨_, _, rfl, rfl, (by show (0 : Int) < 4; decide), ?_⟩
   refine ⟨tp, _, _, _, rfl, rfl, SqT.of upd_same, ez, _, _, rfl, ?_⟩
   have hr3 : 3 ≤ (if z < m then z else m) ∧ (if z < m then z else m) ≤ m := by split <;> omega
   generalize (if z < m then z else m) = r at hr3
   have s3 : Same H2 (upd H2 tp (.tup [.int 3, .int 5, .int 3, .int 4])) := TX.Same.upd (Same.refl _) htp
   have hp3 := s3 _ _ hp
   have hLL3 := Of.same mI hLL s3
   have s23 := s2.trans s3
   generalize upd H2 tp (.tup [.int 3, .int 5, .int 3, .int 4]) = H3 at s3 hp3 hLL3 s23
   obtain ⟨xs, hLx, _⟩ := id hLL3
   refine ⟨_, rfl, _, rfl, _, _, rfl, rfl, _, rfl, iteB (fun e2 => ?_) (fun _ => ?_)⟩
   ·have hcr : c < r := of_decide_eq_true e2
    refine ⟨_, rfl, _, _, rfl, rfl, _, rfl, _, _, rfl, rfl, (by omega), ?_⟩
    refine ⟨_, rfl, _, rfl, _, _, rfl, rfl, _, _, rfl, rfl, _, rfl, _, _, rfl, rfl, (by omega), (by show 2 ≤ sizeLine; decide), fun ft hft => ?_⟩
    have s4 : Same H3 (upd H3 ft (.lst [.int ((c + 1) % r), .int ((c + r - 1) % r)])) := TX.Same.upd (Same.refl _) hft
    have hft4 : upd H3 ft (.lst [.int ((c + 1) % r), .int ((c + r - 1) % r)]) ft = some (.lst ([(c + 1) % r, (c + r - 1) % r].map V.int)) := upd_same
    refine ⟨_, rfl, ?_⟩
    dsimp only
    have hl := nodup_len ok
    refine without_ (K := K) (p := p) (r := ft) (l := l) (f := [(c + 1) % r, (c + r - 1) % r]) (by omega) rfl (s4 _ _ hp3) hft4 (fun R z => ⟨_, rfl, z⟩) fun b hb => ?_
    have s5 := s4.trans (TX.Same.upd (o := .lst ((l.filter fun x => decide (¬ x ∈ [(c + 1) % r, (c + r - 1) % r])).map V.int)) (Same.refl _) hb)
    refine ⟨ft, b, _, _, rfl, rfl, upd_old hft4 hb, upd_same, ?_, fun q hq => ?_⟩
    ·rw [List.length_map, List.length_map]
     have := List.length_filter_le (fun x => decide (¬ x ∈ [(c + 1) % r, (c + r - 1) % r])) l
     have e3 : [(c + 1) % r, (c + r - 1) % r].length = 2 := rfl
     have e4 : (1000 : Nat) ≤ sizeLine := by decide
     omega
    ·rw [← List.map_append]
     have s6 := s5.trans (TX.Same.upd (o := .lst (([(c + 1) % r, (c + r - 1) % r] ++ l.filter fun x => decide (¬ x ∈ [(c + 1) % r, (c + r - 1) % r])).map V.int)) (Same.refl _) hq)
     have hqH : H q = none := (s23.trans s5).free hq
     refine ⟨z1, z2, m, kd, L, i, c, lsd, v8, q, _, _, _, rfl, hci, hm, him, hLn, hqH, (ne_of_none (s5 _ _ hLx) hq).symm, s23.trans s6, Of.same mI hLL3 s6, hil, hok, upd_same, ?_, nx⟩
     rw [← hci] at ok ⊢
     exact ok.ring (by omega) hcr hr3.1 (by omega)
   ·exact ⟨z1, z2, m, kd, L, i, c, lsd, v8, p, l, _, v11, rfl, hci, hm, him, hLn, hpn, npL, s23, hLL3, hil, hok, hp3, ok, nx⟩
  case c3 =>
   subst eM2
   rintro D σ H2 ⟨z1, z2, m, kd, L, i, c, lsd, v8, p, l, v10, v11, rfl, hci, hm, him, hLn, hpn, npL, s2, hLL, hil, hok, hp, ok, nx⟩
   obtain ⟨xs, hLx, r⟩ := id hLL
   have hxl := r.length
   refine ⟨_, rfl, .inl ⟨rfl, _, SqL.of hLx⟩, _, rfl, L, xs, _, rfl, rfl, hLx, small1000 (by omega), nx _ _ ?_⟩
   refine ⟨_, _, _, _, _, lsd ++ [l], rfl, TX.Same.upd s2 hLn, LL.push hLx r hp npL, by rw [List.length_append, hil]; rfl, ?_⟩
   exact hok.snoc (by rw [hil]; exact ok)
  case c4 =>
   subst eM4
   rintro D σ H2 ⟨hD, z1, z2, m, kd, L, v7, v8, v9, v10, v11, ls, rfl, s2, hLn, hLL, hV, hm⟩
   have hl6 := hV.le
   have hl1 := hV.pos
   refine ⟨_, rfl, rfl, _, rfl, iteB (fun _ => ⟨_, rfl, ?_⟩) (fun _ => ?_)⟩
   ·rw [hD]; exact fin L H2 ls hLn s2 hLL hV
   ·refine ⟨_, rfl, _, _, rfl, rfl, ⟨by decide, by decide⟩, _, rfl, _, _, rfl, rfl, (by omega), ?_⟩
    obtain ⟨xs, hLx, r⟩ := id hLL
    have hxl := r.length
    dsimp only
    refine tSetC_of ?_
    refine empties (K := K) (by omega) hLx (fun R z => ⟨_, rfl, z⟩) fun tt H3 htt s3 hT => ?_
    rw [hxl] at hT
    have s23 := s2.trans s3
    have htH := s2.free htt
    refine ⟨_, rfl, m, rfl, by omega, by omega, ?_⟩
    refine for_range (lo := 0) (n := m.toNat) (fun i σ H4 => ∃ v7 lsT, σ = [some (.ref a), some (.int k), some (.int z1), some (.int z2), some (.int m), some (.int kd), some (.ref L), v7, v8, v9, v10, v11, some (.int (z1 / 128 % m)), some (.ref tt)] ∧ Same H2 H4 ∧ LL H4 tt lsT ∧ lsT.length = ls.length ∧ AllOk ls.length lsT)
     ⟨v7, _, rfl, s3, hT, by rw [List.length_replicate], allOk_rep _ _⟩ ?_ ?_
    ·rintro i σ H4 hi ⟨v7, lsT, rfl, s4, hT4, htl, htok⟩
     have hLL4 := Of.same mI hLL s4
     have hi6 : (i : Int) < ls.length := by omega
     obtain ⟨xs4, b, hL4, hb, hb'⟩ := LL.at hLL4 (show 0 ≤ (0 : Int) + (i : Int) by omega) (by omega)
     have okb := lof_ok hV (show 0 ≤ (0 : Int) + (i : Int) by omega) (by omega)
     have hlb := nodup_len okb
     refine gName_of ?_
     dsimp only
     refine tAsg_of ?_
     refine shifted (K := K) (p := b) (l := lof ls (0 + (i : Int))) (m := m) (s := (z1 / 128 % m)) (by omega) (by omega) rfl hb' (fun R z => ⟨_, rfl, _, rfl, L, _, _, _, rfl, rfl, SqL.of hL4, hb, z⟩) fun c hc => ?_
     obtain ⟨xt, hTx, rt⟩ := id (Of.same mI hT4 (TX.Same.upd (o := .lst (((lof ls (0 + (i : Int))).map fun x => (x + (z1 / 128 % m)) % m).map V.int)) (Same.refl H4) hc))
     have hxtl := rt.length
     have b1 : 0 ≤ (0 + (i : Int) + (z1 / 128 % m)) % m := Int.emod_nonneg _ (by omega)
     have b2 : (0 + (i : Int) + (z1 / 128 % m)) % m < m := Int.emod_lt_of_pos _ (by omega)
     refine ⟨_, rfl, _, rfl, _, rfl, _, _, rfl, rfl, _, rfl, _, _, rfl, rfl, (by omega), tt, xt, _, _, rfl, rfl, hTx, ixN_of b1 (by omega), ?_⟩
     have nct : c ≠ tt := fun z => by rw [← z] at hTx; rw [upd_same] at hTx; obtain ⟨x4, h4, _⟩ := hT4; rw [← z] at h4; rw [hc] at h4; cases h4
     have nLt : L ≠ tt := fun z => by rw [← z] at htt; rw [hLx] at htt; cases htt
     have s5 : Same H4 (upd H4 c (.lst (((lof ls (0 + (i : Int))).map fun x => (x + (z1 / 128 % m)) % m).map V.int))) := TX.Same.upd (Same.refl _) hc
     refine ⟨_, lsT.set ((0 + (i : Int) + (z1 / 128 % m)) % m).toNat ((lof ls (0 + (i : Int))).map fun x => (x + (z1 / 128 % m)) % m), rfl, TX.Same.upd (s4.trans s5) htt, LL.setAt hTx rt upd_same nct _, by rw [List.length_set]; exact htl, ?_⟩
     refine htok.set ?_
     have := okb.shift (s := (z1 / 128 % m)) (show 0 ≤ (0 : Int) + (i : Int) by omega) (by omega)
     rw [show ((((0 + (i : Int) + (z1 / 128 % m)) % m).toNat : Nat) : Int) = (0 + (i : Int) + (z1 / 128 % m)) % (ls.length : Int) by rw [← hm]; omega]
     rw [← hm] at this ⊢
     exact this
    ·rintro σ H4 ⟨v7, lsT, rfl, s4, hT4, htl, htok⟩
     refine ⟨_, rfl, ?_⟩
     rw [hD]
     refine fin tt H4 lsT htH (s2.trans s4) hT4 ?_
     exact AllOk.valid (by rw [htl]; exact htok) (by omega) (by omega)
  case c1 =>
   subst eM1
   rintro D σ H1 ⟨hD, z1, z2, m, rfl, hm, s1⟩
   refine ⟨_, rfl, _, _, rfl, rfl, ⟨by decide, by decide⟩, _, _, rfl, rfl, (by show (0 : Int) < 4; decide), ?_⟩
   refine ⟨Nat.zero_le _, fun L hL => ?_⟩
   have hLn : H L = none := s1.free hL
   refine ⟨_, rfl, m, rfl, by omega, by omega, ?_⟩
   refine for_range (lo := 0) (n := m.toNat) (LPv H a k z1 z2 m (z1 / 8 % 4) L) ⟨none, none, none, none, none, [], rfl, TX.Same.upd s1 hLn, ⟨[], upd_same, .nil⟩, rfl, allOk_nil _⟩ ?_ ?_
   ·rintro i σ H2 hi ⟨v7, v8, v9, v10, v11, lsd, rfl, s2, hLL, hil, hok⟩
    have him : (i : Int) < m := by omega
    have e0 : (0 : Int) + (i : Int) = (i : Int) := by omega
    obtain ⟨xs, hLx, r⟩ := id hLL
    refine gName_of ?_
    rw [e0]
    dsimp only
    refine tSeq_of ?_
    refine tSetC_of ?_
    refine others (n := m.toNat) (c := (i : Int)) (by omega) rfl (fun R z => ⟨_, rfl, by rw [show ((m.toNat : Nat) : Int) = m by omega] at z; exact z⟩) fun q hq => ?_
    have ok0 := others_ok m.toNat (i : Int)
    generalize hl0 : (rng m.toNat).filter (fun x => decide (x ≠ (i : Int))) = l0 at ok0
    have hl00 := nodup_len ok0
    refine ⟨Nat.zero_le _, fun p hp => ?_⟩
    have hpq : p ≠ q := fun z => by rw [z, upd_same] at hp; cases hp
    have hp2 : H2 p = none := by rw [upd_ne hpq] at hp; exact hp
    have s3 : Same H2 (upd (upd H2 q (.lst (l0.map V.int))) p (.lst [])) := TX.Same.upd (TX.Same.upd (Same.refl _) hq) hp2
    refine ⟨fun n σ H3 => ∃ told left, σ = [some (.ref a), some (.int k), some (.int z1), some (.int z2), some (.int m), some (.int (z1 / 8 % 4)), some (.ref L), some (.int (i : Int)), some (.ref q), some (.ref p), v10, v11, none, none] ∧ Same H2 H3 ∧ H3 q = some (.lst (left.map V.int)) ∧ H3 p = some (.lst (told.map V.int)) ∧ OkAt m.toNat i (told ++ left) ∧ n = left.length,
     ⟨_, [], l0, rfl, s3, upd_oth upd_same hpq.symm, upd_same, ok0, rfl⟩, ?_⟩
    rintro n σ H3 ⟨told, left, rfl, s3, hq3, hp3, ok, rfl⟩
    have hlen := nodup_len ok
    rw [List.length_append] at hlen
    refine ⟨_, rfl, Nat.zero_le _, fun e he => ?_⟩
    have s4 : Same H3 (upd H3 e (.lst [])) := TX.Same.upd (Same.refl _) he
    refine ⟨_, _, dd_ints (s4 _ _ hq3), dd_nil upd_same, ok_dZ _ 8, ok_nilD, fun w => ⟨_, rfl, iteF ?_⟩, fun w => ⟨_, rfl, iteT ?_⟩⟩
    ·have : left = [] := dZ_nil.mp w
     subst this
     rw [List.append_nil] at ok
     subst eM2
     exact ⟨z1, z2, m, _, L, i, _, lsd, _, p, told, v10, v11, rfl, rfl, hm, him, hLn, s2.free hp2, (ne_of_none hLx hp2).symm, s2.trans (s3.trans s4), Of.same mI hLL (s3.trans s4), hil, hok, s4 _ _ hp3, ok, fun _ _ z => z⟩
    ·have hpos : 0 < left.length := by
      cases hq : left with
      | nil => exact absurd (dZ_nil.mpr hq) w
      | cons x r => simp
     refine ⟨fun σ' H' => ∃ m', m' < left.length ∧ ∃ told left, σ' = [some (.ref a), some (.int k), some (.int z1), some (.int z2), some (.int m), some (.int (z1 / 8 % 4)), some (.ref L), some (.int (i : Int)), some (.ref q), some (.ref p), v10, v11, none, none] ∧ Same H2 H' ∧ H' q = some (.lst (left.map V.int)) ∧ H' p = some (.lst (told.map V.int)) ∧ OkAt m.toNat i (told ++ left) ∧ m' = left.length, fun _ _ z => z, ?_⟩
     have hq4 := s4 _ _ hq3
     refine ⟨_, rfl, .inl ⟨rfl, _, SqL.of (s4 _ _ hp3)⟩, _, rfl, .inl ⟨rfl, _, SqL.of hq4⟩, ?_⟩
     refine ⟨_, rfl, _, _, rfl, rfl, ⟨by decide, by decide⟩, _, rfl, _, _, rfl, rfl, .inl ⟨by omega, by omega⟩, _, _, rfl, rfl, ?_⟩
     refine ⟨_, rfl, q, _, rfl, .inl (SqL.of hq4), _, rfl, q, _, rfl, .inl (SqL.of hq4), _, _, _, rfl, by rw [List.length_map]; omega, fun z H5 z0 z1' s5 => ?_⟩
     rw [List.length_map] at z1'
     have hzl : z.toNat < left.length := by omega
     have hq5 := s5 _ _ hq4
     refine ⟨q, _, z, z.toNat, .int left[z.toNat], rfl, rfl, hq5, by omega, by omega, seqIx z0 (by rw [List.length_map]; omega), by simp [hzl], ?_⟩
     have hp6 : upd H5 q (.lst ((left.map V.int).eraseIdx z.toNat)) p = some (.lst (told.map V.int)) := upd_oth (s5 _ _ (s4 _ _ hp3)) hpq
     refine ⟨p, _, _, rfl, rfl, hp6, small1000 (by rw [List.length_map]; omega), ?_⟩
     have ez : left[z.toNat]? = some left[z.toNat] := by simp [hzl]
     have ee : (left.map V.int).eraseIdx z.toNat = (left.eraseIdx z.toNat).map V.int := er_map _ _
     refine ⟨(left.eraseIdx z.toNat).length, by rw [List.length_eraseIdx, if_pos hzl]; omega, told ++ [left[z.toNat]], left.eraseIdx z.toNat, rfl, TX.Same.upd (TX.Same.upd ((s3.trans s4).trans s5) hq) hp2, ?_, ?_, ok.pop ez, rfl⟩
     ·rw [upd_ne hpq.symm, upd_same, ee]
     ·rw [upd_same, List.map_append]; rfl
   ·rintro σ H2 ⟨v7, v8, v9, v10, v11, lsd, rfl, s2, hLL, hil, hok⟩
    subst eM4
    refine ⟨hD, z1, z2, m, _, L, v7, v8, v9, v10, v11, lsd, rfl, s2, hLn, hLL, ?_, by omega⟩
    exact AllOk.valid (by rw [hil]; exact hok) (by omega) (by omega)
  ·refine ⟨_, rfl, _, rfl, a, ns, k, rfl, hS, hk, fun z1 => ?_⟩
   refine ⟨_, rfl, _, rfl, _, _, rfl, rfl, a, ns, _, rfl, hS, by omega, fun z2 => ?_⟩
   obtain ⟨m, hm, em⟩ := many_at (z1 % 8) (Int.emod_nonneg _ (by decide)) (Int.emod_lt_of_pos _ (by decide))
   refine ⟨(by show 8 ≤ sizeLine; decide), fun p hp => ?_⟩
   refine ⟨_, rfl, _, _, rfl, rfl, (by show (0 : Int) < 8; decide), ?_⟩
   refine ⟨p, _, _, _, rfl, rfl, SqT.of upd_same, em, ?_⟩
   have s1 : Same H (upd H p (.tup [.int 4, .int 3, .int 4, .int 2, .int 4, .int 3, .int 4, .int 1])) := TX.Same.upd (Same.refl H) hp
   refine ⟨_, rfl, _, _, rfl, rfl, ⟨by decide, by decide⟩, _, _, rfl, rfl, (by show (0 : Int) < 8; decide), rfl, _, rfl, ?_⟩
   refine iteB (fun _ => ?_) (fun _ => ?_)
   ·refine ⟨_, rfl, _, _, rfl, rfl, ⟨by decide, by decide⟩, _, _, rfl, rfl, (by show (0 : Int) < 4; decide), _, _, rfl, rfl, ⟨by decide, by decide⟩, _, _, rfl, rfl, ?_⟩
    subst eM1
    refine ⟨rfl, z1, z2, _, rfl, ?_, s1⟩
    have h1 : 0 ≤ z1 / 2048 % 4 := Int.emod_nonneg _ (by decide)
    have h2 : z1 / 2048 % 4 < 4 := Int.emod_lt_of_pos _ (by decide)
    omega
   ·subst eM1
    exact ⟨rfl, z1, z2, m, rfl, by omega, s1⟩
end
end Tp
namespace Tp
open PySem PySem.Spec PyProof.Rows L2 TX TM TK TS
seal PySem.Sem.wp
section
variable {P : Program} {w : World} {K : PySem.W.Frag} {mg : Str → Option Value} {base : Heap} {t : Adr}
theorem mapped {α : Type} {H H1 : Hp} {σ : L2.St} {tl te : TE} {p : Addr} {l : List α} {f g : α → V} {Q : VK} (hn : l.length ≤ 100) (hp : SqL K H1 p (l.map f)) (htl : ∀ R : VK, R (.ref p) H1 → tl σ H R)
  (hte : ∀ a ∈ l, ∀ R : VK, R (g a) H1 → te [some (f a)] H1 R) (q : ∀ c, H1 c = none → Q (.ref c) (upd H1 c (.lst (l.map g)))) :
  tComp [none] (iList K tl) (gName 0) tYes te σ H Q := by
 refine htl _ ⟨p, rfl, ⟨_, hp⟩, fun i m ys H2 => m = l.length - i ∧ i ≤ l.length ∧ ys = (l.take i).map g ∧ H2 = H1, ⟨_, rfl, Nat.zero_le _, by rw [List.take_zero]; rfl, rfl⟩, ?_⟩
 rintro i m ys H2 ⟨rfl, hi, rfl, rfl⟩
 by_cases hlt : i < l.length
 ·refine .inr ⟨⟨_, f l[i], hp, by simp [hlt]⟩, small1000 (by simp; omega), fun x H' y => ?_⟩
  obtain ⟨rfl, y⟩ := y
  have hx := y _ hp
  rw [List.getElem?_map, List.getElem?_eq_getElem hlt] at hx
  obtain rfl : f l[i] = x := Option.some.inj hx
  refine ⟨Kps.own, ?_⟩
  refine yes_if (hte _ (List.getElem_mem hlt) _ ⟨l.length - (i + 1), by omega, rfl, hlt, ?_, rfl⟩)
  rw [List.take_add_one, List.getElem?_eq_getElem hlt, List.map_append]
  rfl
 ·have e : i = l.length := by omega
  subst e
  rw [List.take_length]
  exact .inl ⟨⟨_, hp, by simp⟩, q⟩
theorem mappedS {α : Type} {H : Hp} {σ : L2.St} {tl te : TE} {l : List α} {f g : α → V} {Q : VK} (G : Addr → Hp → Prop) (hn : l.length ≤ 100) (hG : ∀ p H1, G p H1 → SqL K H1 p (l.map f)) (htl : ∀ R : VK, (∀ p H1, G p H1 → R (.ref p) H1) → tl σ H R)
  (hte : ∀ H1, ∀ a ∈ l, ∀ R : VK, R (g a) H1 → te [some (f a)] H1 R) (q : ∀ p H1 c, G p H1 → H1 c = none → Q (.ref c) (upd H1 c (.lst (l.map g)))) :
  tComp [none] (iList K tl) (gName 0) tYes te σ H Q :=
 htl _ fun p H1 hg => mapped (K := K) (H := H1) (H1 := H1) (σ := σ) (tl := fun _ H R => R (.ref p) H) hn (hG p H1 hg) (fun R z => z) (hte H1) fun c hc => q p H1 c hg hc
theorem mappedR {H : Hp} {σ : L2.St} {ta : TA} {te : TE} {n : Nat} {g : Int → V} {Q : VK} (hn : n ≤ 100) (hta : ∀ R : List V → Hp → Prop, R [.int n] H → ta σ H R)
  (hte : ∀ z : Int, 0 ≤ z → z < n → ∀ R : VK, R (g z) H → te [some (.int z)] H R) (q : ∀ c, H c = none → Q (.ref c) (upd H c (.lst ((rng n).map g)))) :
  tComp [none] (iRng1 ta) (gName 0) tYes te σ H Q := by
 refine hta _ ⟨(n : Int), rfl, by omega, by omega, fun i m ys H1 => m = n - i ∧ i ≤ n ∧ ys = (rng i).map g ∧ H1 = H, ⟨_, rfl, Nat.zero_le _, rfl, rfl⟩, ?_⟩
 rintro i m ys H1 ⟨rfl, hi, rfl, rfl⟩
 by_cases hlt : i < n
 ·refine .inr ⟨hlt, small1000 (by simp [rng_length]; omega), fun x H' y => ?_⟩
  obtain ⟨rfl, rfl⟩ := y
  refine ⟨Kps.own, ?_⟩
  refine yes_if (hte _ (by omega) (by omega) _ ⟨n - (i + 1), by omega, rfl, hlt, ?_, rfl⟩)
  rw [rng_succ, List.map_append, show (0 : Int) + (i : Int) = (i : Int) by omega]
  rfl
 ·have e : i = n := by omega
  subst e
  exact .inl ⟨Nat.le_refl _, q⟩
theorem tNext_of {D : Ends} {σ : L2.St} {H : Hp} (h : D.nx σ H) : tNext D σ H := h
theorem make_camp {C : Addr} {H : Hp} {a : Addr} {ls : Ls} {Q : VK} {E : XK} (hL : LL H a ls) (hV : Valid ls) (fin : ∀ x H', H x = none → Same H H' → CampAt C H' x ls → Q (.ref x) H') :
  ∀ x dx, H x = none → H dx = none → dx ≠ x → spInit C [.ref x, .ref a] (upd (upd H dx (.own x)) x (.ins C dx [])) (fun v H2 => v = .non ∧ Q (.ref x) H2) E := by
 intro x dx hx hdx ne
 have hmk : ∀ c o, H c = some o → upd (upd H dx (.own x)) x (.ins C dx []) c = some o := fun c o e => upd_old (upd_old e hdx) (by rw [upd_ne ne.symm]; exact hx)
 refine ⟨x, dx, a, ls, rfl, upd_same, Of.same mI hL hmk, hV, fun H3 wa ws k3 hwa hx3 hwa3 rw3 => ⟨rfl, ?_⟩⟩
 have s3 : Same H H3 := fun c o e => k3 c o (hmk c o e) (ne_of_none e hx)
 exact fin x H3 hx s3 ⟨dx, wa, hx3, ws, hwa3, Paired.impl (fun v l ⟨b, e, _, h⟩ => ⟨b, e, h⟩) rw3⟩
theorem tOp_of {r : R2} {ta tb : TE} {σ : L2.St} {H : Hp} {Q : VK} (h : ta σ H fun x H1 => tb σ H1 fun y H2 => r x y H2 Q) : tOp r ta tb σ H Q := h
theorem tCall_of {sp : Sp} {dvs : List V} {E : XK} {ta : TA} {σ : L2.St} {H : Hp} {Q : VK} (h : ta σ H fun vs H1 => sp (vs ++ dvs) H1 Q E) : tCall sp dvs E ta σ H Q := h
theorem cut1 (x : V) (r : List V) : cutV (x :: r) (some 1) none = r := by
 unfold cutV
 have e : HT.sIx (x :: r).length 0 (some 1) = 1 := by
  show HT.sIx _ 0 (some ((1 : Nat) : Int)) = 1
  rw [HT.sIx_nat, List.length_cons]
  omega
 rw [e, HT.sIx_none]
 show r.take ((x :: r).length - 1) = r
 rw [List.length_cons, Nat.add_sub_cancel, List.take_length]
theorem flat_strs (l : List Str) : (l.map V.str).all flatV = true := by
 rw [List.all_map, List.all_eq_true]
 intro x _
 rfl
theorem inV_strs (x : Str) (l : List Str) : inV (.str x) (l.map V.str) = decide (x ∈ l) := by
 unfold inV
 rw [List.any_map]
 induction l with
 | nil => rfl
 | cons y l ih =>
  rw [List.any_cons, ih]
  show ((y == x) || decide (x ∈ l)) = _
  by_cases h : y = x
  ·subst h; simp
  ·rw [show (y == x) = false by simpa using h, Bool.false_or]
   by_cases h2 : x ∈ l
   ·simp [h2]
   ·have : ¬ x ∈ y :: l := by simp [h2]; exact fun z => h z.symm
    rw [decide_eq_false h2, decide_eq_false this]
theorem kit_str_str : PySem.W.kitOne K (.type "str") (.type "str") = some true := by rfl
theorem ne_strs (x : Str) : (!decide (V.str x = V.str x)) = false := by simp
theorem sz {n : Nat} (h : n ≤ 1000) : n ≤ sizeLine := Nat.le_of_lt (small1000 h)
theorem colon_len : (":" : Str).length = 1 := by decide +kernel
theorem blank_len : (" " : Str).length = 1 := by decide +kernel
def spRow : Sp := fun vs H Q _ => ∃ (i : Int) (b : Addr) (l : List Int), vs = [.int i, .ref b] ∧ H b = some (.lst (l.map V.int)) ∧ (0 ≤ i ∧ i < 6) ∧ Figs l ∧ l.length ≤ 6 ∧ ∀ H', Same H H' → Q (.str (rowS i l)) H'
theorem ok_written_row (T : Txt K mg t) : FnOk P w K mg base CX0 1 t.written_row t.fd_written_row ["camper", "wishes"] spRow := by
 have S := sc_written_row
 refine T.written_row.fn.ok S (fun vs H Q E h => ?_) (fun cdv A outer s H vs Q E hr h => ?_)
 ·obtain ⟨i, b, l, rfl, _⟩ := h; rfl
 ·obtain ⟨i, b, l, rfl, hb, hi, hf, hl, fin⟩ := h
  have hdl := dg_len hi.1 hi.2
  refine ⟨_, (pss_one (ps_ret (pe_op op_add_str (TX.pe_join2 (TX.pe_fmt (pv 0)) pe_str) (pe_bm PySem.F.plainAttrs_str PySem.F.slot_str_join PySem.F.type_str_join TX.mt_join pe_str (pa_cons (TX.pe_comp ["other"] [none] rfl (pi_list (pv 1)) (fun _ _ _ _ _ => (pg_name (i := 0) (show (["other"] : List Str).Nodup by decide +kernel) rfl (by first | exact Or.inl rfl | exact Or.inr rfl))) (fun _ _ _ _ _ => TX.pts_nil) (fun _ _ _ _ _ => (TX.pe_join2 pe_str (TX.pe_fmt (pv 0)))) rfl (by decide +kernel) (by decide +kernel) (No := ["camper", "wishes"]) (sc := defScope s_written_row) rfl rfl (by decide +kernel) rfl (by decide +kernel)) pa_nil))))), ?_⟩
  refine ⟨_, rfl, i, rfl, ⟨by omega, by omega⟩, _, rfl, sz (by omega), _, rfl, sz (by rw [colon_len]; omega), ?_⟩
  refine ⟨rfl, ?_⟩
  refine tCons_of ?_
  refine mapped (K := K) (tl := tVar 1) (l := l) (f := V.int) (g := fun x => .str (blank ++ dg x)) (by omega) (SqL.of hb) (fun R z => by exact ⟨_, rfl, z⟩) (fun x hx R z => ?_) fun c hc => ?_
  ·have h1 := dg_len (hf x hx).1 (hf x hx).2
   refine ⟨_, rfl, sz (by rw [blank_len]; decide), _, rfl, x, rfl, ⟨by have := hf x hx; omega, by have := hf x hx; omega⟩, _, rfl, sz (by rw [blank_len]; omega), z⟩
  ·have hB : ∀ y ∈ l.map (fun x => blank ++ dg x), y.length ≤ 2 := fun y hy => by
    obtain ⟨x, hx, rfl⟩ := List.mem_map.mp hy
    rw [Str.length_append, dg_len (hf x hx).1 (hf x hx).2]
    decide +kernel
   refine ⟨_, c, l.map (fun x => blank ++ dg x), rfl, rfl, SqL.of (by rw [List.map_map]; exact upd_same), join_ok (B := 2) hB (by rw [List.length_map]; show _ + _ * 0 ≤ _; omega), ?_⟩
   have e := rowS_eq i l
   have hlen := TS.row_len hi.1 hi.2 hf
   rw [e] at hlen
   refine ⟨_, _, rfl, rfl, sz ?_, ?_⟩
   ·have hlen : ((dg i ++ (":" : Str)) ++ Str.join Str.empty (l.map fun x => blank ++ dg x)).length ≤ 3 * (l.length + 1) := hlen
    rw [Str.length_append] at hlen
    show (dg i ++ (":" : Str)).length + (Str.join Str.empty (l.map fun x => blank ++ dg x)).length ≤ 1000
    omega
   ·rw [e] at fin
    exact fin _ (TX.Same.upd (Same.refl H) hc)
def spWritten (C : Addr) : Sp := fun vs H Q _ => ∃ (p : Addr) (ls : Ls), vs = [.ref p] ∧ CampAt C H p ls ∧ Valid ls ∧ ∀ H', Same H H' → Q (.str (textS ls)) H'
theorem ok_written (T : Txt K mg t) : FnOk P w K mg base CX0 2 t.written t.fd_written ["camp"] (spWritten t.C) := by
 have S := sc_written
 have G_written_row := ok_written_row (P := P) (w := w) (base := base) T
 refine T.written.fn.ok S (fun vs H Q E h => ?_) (fun cdv A outer s H vs Q E hr h => ?_)
 ·obtain ⟨p, ls, rfl, _⟩ := h; rfl
 ·obtain ⟨p, ls, rfl, ⟨dx, a, hp, hL⟩, hV, fin⟩ := h
  obtain ⟨xs, ha, r⟩ := id hL
  have hxl := r.length
  have h6 := hV.le
  refine ⟨_, (pss_one (ps_ret (pe_bm PySem.F.plainAttrs_str PySem.F.slot_str_join PySem.F.type_str_join TX.mt_join pe_str (pa_cons (TX.pe_comp (g := gTup K 2 (gCons (gName 0) (gCons (gName 1) gNil))) ["camper", "wishes"] [none, none] rfl (TX.pi_enum rfl T.b_enumerate (pa_cons (pe_fld (pv 0) rfl) pa_nil)) (fun _ _ _ _ _ => (pg_tup rfl (pgs_cons (pg_name (i := 0) (show (["camper", "wishes"] : List Str).Nodup by decide +kernel) rfl (by first | exact Or.inl rfl | exact Or.inr rfl)) (pgs_cons (pg_name (i := 1) (show (["camper", "wishes"] : List Str).Nodup by decide +kernel) rfl (by first | exact Or.inl rfl | exact Or.inr rfl)) pgs_nil)))) (fun _ _ _ _ _ => TX.pts_nil) (fun _ _ _ _ _ => (pe_call (k := 1) G_written_row hr (by rfl) T.written_row.mg T.written_row.fn.kp T.written_row.b .nil pass0 (pa_cons (pv 0) (pa_cons (pv 1) pa_nil)))) rfl (by decide +kernel) (by decide +kernel) (No := ["camp"]) (sc := defScope s_written) rfl rfl (by decide +kernel) rfl (by decide +kernel)) pa_nil)))), ?_⟩
  refine ⟨rfl, ?_⟩
  refine tCons_of ?_
  refine ⟨_, rfl, p, t.C, dx, _, _, rfl, hp, T.cl, T.n_wishes, flds_wishes _ _, a, rfl, ⟨_, SqL.of ha⟩, fun i m ys H2 => m = xs.length - i ∧ i ≤ xs.length ∧ ys = (rowsS ls i).map V.str ∧ Same H H2, ⟨_, rfl, Nat.zero_le _, rfl, Same.refl H⟩, ?_⟩
  rintro i m ys H2 ⟨rfl, hi, rfl, s2⟩
  by_cases hlt : i < xs.length
  ·refine .inr ⟨⟨_, xs[i], SqL.of (s2 _ _ ha), by simp [hlt]⟩, small1000 (by rw [List.length_map, rowsS_length]; omega), fun x H' y => ?_⟩
   obtain ⟨b, v, hb, rfl, rfl, hv⟩ := y
   have hv := hv _ (SqL.of (s2 _ _ ha))
   obtain ⟨l, hl, c, rfl, hc⟩ := Paired.at1 r hv
   have s3 : Same H (upd H2 b (.tup [.int (i : Nat), .ref c])) := TX.Same.upd s2 (s2.free hb)
   have el : ls.getD i [] = l := by rw [List.getD_eq_getElem?_getD, hl]; rfl
   refine ⟨b, _, rfl, SqT.of upd_same, rfl, _, _, rfl, _, _, rfl, rfl, Kps.own2, ?_⟩
   have hF := valid_figs hV (i := i) (by omega)
   have hZ := valid_len hV (i := i) (by omega)
   rw [el] at hF hZ
   refine yes_if ⟨_, rfl, _, rfl, (i : Int), c, l, rfl, s3 _ _ hc, ⟨by omega, by omega⟩, hF, hZ, fun H4 s4 => ⟨xs.length - (i + 1), by omega, rfl, hlt, ?_, s3.trans s4⟩⟩
   rw [rowsS_succ, el, List.map_append]
   rfl
  ·have e : i = ls.length := by omega
   subst e
   refine .inl ⟨⟨xs, SqL.of (s2 _ _ ha), by omega⟩, fun c hc => ?_⟩
   exact ⟨_, c, _, rfl, rfl, SqL.of upd_same, join_ok (B := 21) (TS.rows_len hV (Nat.le_refl _)) (by rw [rowsS_length, show ("\n" : Str).length = 1 by decide +kernel]; omega), fin _ (TX.Same.upd s2 (s2.free hc))⟩
def spIsRow : Sp := fun vs H Q _ => ∃ (a : Addr) (i : Int) (l : List Int) (n : Nat), vs = [.ref a, .int i] ∧ H a = some (.lst ((parts i l).map V.str)) ∧ (0 ≤ i ∧ i < n) ∧ n ≤ 6 ∧ OkAt n i l ∧ ∀ H', Same H H' → Q (.bl true) H'
theorem ok_is_row (T : Txt K mg t) : FnOk P w K mg base CX0 1 t.is_row t.fd_is_row ["parts", "place"] spIsRow := by
 have S := sc_is_row
 have h_MOST_CAMPERS := T.mg_M
 refine T.is_row.fn.ok S (fun vs H Q E h => ?_) (fun cdv A outer s H vs Q E hr h => ?_)
 ·obtain ⟨a, i, l, n, rfl, _⟩ := h; rfl
 ·obtain ⟨a, i, l, n, rfl, ha, hi, hn, ok, fin⟩ := h
  have hu := hu_of hr
  have hll := nodup_len ok
  have hdl := dg_len hi.1 (by omega)
  have fig : ∀ x ∈ l, 0 ≤ x ∧ x < 6 := fun x hx => by have := ok.1 x hx; omega
  refine ⟨_, (pss_cons (ps_if (pw_or (pt_cmpR op_ge (pv 1) (pe_glob (v := .int 6) (by rfl) h_MOST_CAMPERS (by first | exact ⟨_, rfl⟩ | rfl)) (nomark _)) (pw_or1 (pt_cmpR op_ne (pe_ix ix_list (pv 0) pe_int (fun _ _ => rfl)) (TX.pe_join2 (TX.pe_fmt (pv 1)) pe_str) (nomark _)))).pt (pss_one (ps_ret pe_bl)) pss_nil)
   (pss_cons (TX.ps_setC ["camper"] [none] S.nd (j := 2) rfl (by first | exact Or.inl rfl | exact Or.inr rfl) rfl (pi_range1 rfl T.b_range (pa_cons (pe_glob (v := .int 6) (by rfl) h_MOST_CAMPERS (by first | exact ⟨_, rfl⟩ | rfl)) pa_nil)) (fun _ _ _ _ _ => (pg_name (i := 0) (show (["camper"] : List Str).Nodup by decide +kernel) rfl (by first | exact Or.inl rfl | exact Or.inr rfl))) (fun _ _ _ _ _ => TX.pts_nil) (fun _ _ _ _ _ => (pe_callTy TX.call_str (by rfl) T.b_str TK.boot_str (pa_cons (pv 0) pa_nil))) rfl (by decide +kernel) (by decide +kernel) (No := ["parts", "place", "figures", "seen", "part"]) (sc := defScope s_is_row) rfl rfl (by decide +kernel) rfl (by decide +kernel))
   (pss_cons (ps_set (i := 3) S.nd rfl (by first | exact Or.inl rfl | exact Or.inr rfl) (pe_disp (pps_cons (pe_callTy TX.call_str (by rfl) T.b_str TK.boot_str (pa_cons (pv 1) pa_nil)) pe_bl pps_nil) rfl rfl (by simp) (by decide)))
   (pss_cons (ps_for PassesOwn.never rfl (pi_list (pe_slice sl_list (pv 0) (po_some pe_int) po_none)) (pg_name (i := 4) S.nd rfl (by first | exact Or.inl rfl | exact Or.inr rfl)) (pss_cons (ps_if (pw_or (pt_cmp (pc_din hu (pv 4) (pv 3))) (pw_or1 (pt_cmpR op_notIn_seq (pv 4) (pv 2) (by with_unfolding_all rfl)))).pt (pss_one (ps_ret pe_bl)) pss_nil)
   (pss_one (ps_dput hu (pv 3) (pv 4) pe_bl rfl))))
   (pss_one (ps_ret pe_bl)))))), ?_⟩
  refine ⟨_, rfl, _, _, rfl, rfl, _, rfl, iteFalse (decide_eq_false (by omega)) ?_⟩
  refine ⟨_, rfl, a, _, 0, .str (hd i), rfl, rfl, SqL.of ha, atI_of (by decide) rfl, _, rfl, i, rfl, ⟨by omega, by omega⟩, _, rfl, sz (by omega), _, rfl, sz (by rw [colon_len]; omega), rfl, _, rfl, iteFalse (ne_strs _) ?_⟩
  refine tNext_of ?_
  dsimp only
  refine tSeq_of ?_
  refine tSetC_of ?_
  refine mappedR (n := 6) (g := fun z => .str (dg z)) (by decide) (fun R z => by exact z) (fun z h0 h1 R q => ⟨_, rfl, z, rfl, ⟨by omega, by omega⟩, q⟩) fun f hf => ?_
  have s1 : Same H (upd H f (.lst ((rng 6).map fun z => .str (dg z)))) := TX.Same.upd (Same.refl H) hf
  have hf1 : upd H f (.lst ((rng 6).map fun z => V.str (dg z))) f = some (.lst (((rng 6).map dg).map V.str)) := by rw [upd_same, List.map_map]; rfl
  generalize upd H f (.lst ((rng 6).map fun z => V.str (dg z))) = H1 at s1 hf1
  intro d hd
  refine ⟨_, rfl, i, rfl, ⟨by omega, by omega⟩, upd_same, [(Sum.inr (dg i), .bl true)], rfl, (by show 1 ≤ 15; decide), ?_⟩
  rw [upd_upd]
  have s2 : Same H1 (upd H1 d (.dK (mergeK [] [(Sum.inr (dg i), .bl true)]))) := TX.Same.upd (Same.refl _) hd
  refine ⟨_, rfl, 1, rfl, a, _, rfl, SqL.of (s2 _ _ (s1 _ _ ha)), fun sp hsp => ?_⟩
  have ec : cutV ((parts i l).map V.str) (some 1) none = (l.map dg).map V.str := cut1 _ _
  rw [ec]
  have hd2 := upd_old (o := .lst ((l.map dg).map V.str)) (upd_same (H := H1) (a := d) (o := .dK (mergeK [] [(Sum.inr (dg i), .bl true)]))) hsp
  have nds : d ≠ sp := ne_of_none upd_same hsp
  refine ⟨sp, rfl, ⟨_, SqL.of upd_same⟩, for_list (K := K) (a := sp) (xs := (l.map dg).map V.str) (fun k σ H2 => ∃ (kvs : List (Key × V)) (v : Option V), σ = [some (.ref a), some (.int i), some (.ref f), some (.ref d), v] ∧ Same H1 H2 ∧
   H2 sp = some (.lst ((l.map dg).map V.str)) ∧ H2 d = some (.dK kvs) ∧ kvs.length ≤ k + 1 ∧ ∀ x : Int, 0 ≤ x → x < 6 → ((valV kvs (Sum.inr (dg x))).isSome = true ↔ x = i ∨ x ∈ l.take k))
   ⟨_, none, rfl, TX.Same.upd s2 (s2.free hsp), upd_same, hd2, (by show 1 ≤ 0 + 1; decide), fun x h0 h1 => ?_⟩ (fun k σ H2 _ ⟨_, _, _, _, h, _⟩ => SqL.of h) ?_ ?_⟩
  ·show (valV (putK [] (Sum.inr (dg i)) (.bl true)) (Sum.inr (dg x))).isSome = true ↔ _
   rw [valV_put]
   by_cases e : x = i
   ·rw [if_pos (by rw [e])]; simp [e]
   ·rw [if_neg (fun z => e (dg_inj ⟨h0, h1⟩ ⟨hi.1, by omega⟩ (by injection z)))]
    simp [valV_nil, e]
  ·rintro k y σ H2 hk ⟨kvs, v, rfl, s3, hs2, hd3, hl3, hk3⟩
   rw [List.map_map, List.getElem?_map] at hk
   cases hz : l[k]? with
   | none => rw [hz] at hk; cases hk
   | some z =>
    rw [hz] at hk
    obtain rfl : V.str (dg z) = y := Option.some.inj hk
    have hzm := List.mem_of_getElem? hz
    obtain ⟨z1, z2, z3⟩ := ok.1 z hzm
    have zf := fig z hzm
    have hno : valV kvs (Sum.inr (dg z)) = none := by
     cases e : valV kvs (Sum.inr (dg z) : Key) with
     | none => rfl
     | some u =>
      have := (hk3 z zf.1 zf.2).mp (by rw [e]; rfl)
      rcases this with h | h
      ·exact absurd h z3
      ·exact absurd h (not_mem_take ok.2 hz)
    refine ⟨_, rfl, _, rfl, d, _, rfl, DGet.k (k := Sum.inr (dg z)) hd3, _, rfl, iteFalse (by rw [hno]; rfl) ?_⟩
    have hin : dg z ∈ (rng 6).map dg := List.mem_map.mpr ⟨z, by unfold rng; exact List.mem_map.mpr ⟨z.toNat, List.mem_range.mpr (by omega), by omega⟩, rfl⟩
    refine ⟨_, rfl, _, rfl, f, _, rfl, .inl (SqL.of (s3 _ _ hf1)), rfl, flat_strs _, _, rfl, iteFalse (by show (!inV (.str (dg z)) (((rng 6).map dg).map V.str)) = false; rw [inV_strs, decide_eq_true hin]; rfl) ?_⟩
    have hil : k < l.length := (List.getElem?_eq_some_iff.mp hz).1
    refine ⟨_, rfl, _, rfl, d, _, rfl, DPut.k (k := Sum.inr (dg z)) hd3 (small1000 (by omega)), ?_⟩
    refine ⟨_, _, rfl, TX.Same.upd s3 hd, upd_oth hs2 nds.symm, upd_same, ?_, fun x h0 h1 => ?_⟩
    ·have := length_putK kvs (Sum.inr (dg z) : Key) (V.bl true)
     omega
    ·rw [valV_put]
     have et : l.take (k + 1) = l.take k ++ [z] := by rw [List.take_add_one, hz]; rfl
     rw [et]
     by_cases e : x = z
     ·rw [if_pos (by rw [e])]; simp [e]
     ·rw [if_neg (fun q => e (dg_inj ⟨h0, h1⟩ zf (by injection q))), hk3 x h0 h1]
      simp [e]
  ·rintro σ H2 ⟨kvs, v, rfl, s3, _⟩
   exact fin H2 (s1.trans s3)
def spRead (C : Addr) : Sp := fun vs H Q _ => ∃ ls : Ls, vs = [.str (textS ls)] ∧ Valid ls ∧ ∀ p H', Same H H' → CampAt C H' p ls → Q (.ref p) H'
theorem ok_read (T : Txt K mg t) : FnOk P w K mg base CX0 6 t.read t.fd_read ["text"] (spRead t.C) := by
 have S := sc_read
 have G_is_row := ok_is_row (P := P) (w := w) (base := base) T
 have G_Camp := ok_init (P := P) (w := w) (base := base) T
 refine T.read.fn.ok S (fun vs H Q E h => ?_) (fun cdv A outer s H vs Q E hr h => ?_)
 ·obtain ⟨ls, rfl, _⟩ := h; rfl
 ·obtain ⟨ls, rfl, hV, fin⟩ := h
  have h6 := hV.le
  have hsp := text_split hV
  refine ⟨_, (pss_cons (ps_if (pt_not (pt_val (pe_callB TX.call_isinst (by rfl) T.b_isinstance TK.boot_isinstance (pa_cons (pv 0) (pa_cons (pe_bltn (v := .ty "str") (by rfl) T.b_str TK.boot_str (by rfl)) pa_nil))))) (pss_one ps_never) pss_nil)
   (pss_cons (ps_set (i := 1) S.nd rfl (by first | exact Or.inl rfl | exact Or.inr rfl) (pe_lst pa_nil))
   (pss_cons (ps_for PassesOwn.never rfl (TX.pi_enum rfl T.b_enumerate (pa_cons (pe_bm PySem.F.plainAttrs_str PySem.F.slot_str_split PySem.F.type_str_split TX.mt_split (pv 0) (pa_cons pe_str pa_nil)) pa_nil)) (pg_tup rfl (pgs_cons (pg_name (i := 2) S.nd rfl (by first | exact Or.inl rfl | exact Or.inr rfl)) (pgs_cons (pg_name (i := 3) S.nd rfl (by first | exact Or.inl rfl | exact Or.inr rfl)) pgs_nil))) (pss_cons (ps_set (i := 4) S.nd rfl (by first | exact Or.inl rfl | exact Or.inr rfl) (pe_bm PySem.F.plainAttrs_str PySem.F.slot_str_split PySem.F.type_str_split TX.mt_split (pv 3) (pa_cons pe_str pa_nil)))
   (pss_cons (ps_if (pt_not (pt_val (pe_call (k := 5) (G_is_row.mono (by decide)) hr (by rfl) T.is_row.mg T.is_row.fn.kp T.is_row.b .nil pass0 (pa_cons (pv 4) (pa_cons (pv 2) pa_nil))))) (pss_one ps_never) pss_nil)
   (pss_one (ps_expr (pe_bm PySem.F.plainAttrs_list PySem.F.slot_list_append PySem.F.type_list_append mt_append (pv 1) (pa_cons (TX.pe_comp ["part"] [none] rfl (pi_list (pe_slice sl_list (pv 4) (po_some pe_int) po_none)) (fun _ _ _ _ _ => (pg_name (i := 0) (show (["part"] : List Str).Nodup by decide +kernel) rfl (by first | exact Or.inl rfl | exact Or.inr rfl))) (fun _ _ _ _ _ => TX.pts_nil) (fun _ _ _ _ _ => (pe_callTy TX.call_intS (by rfl) T.b_int TK.boot_int (pa_cons (pv 0) pa_nil))) rfl (by decide +kernel) (by decide +kernel) (No := ["text", "lists", "place", "row", "parts"]) (sc := defScope s_read) rfl rfl (by decide +kernel) rfl (by decide +kernel)) pa_nil)))))))
   (pss_one (TX.ps_tryN (pss_one (ps_ret (pe_make (k := 4) T.mk_Camp G_Camp hr (by rfl) T.mg_Camp T.Camp___init__.b .nil pass0 (pa_cons (pv 1) pa_nil))))))))), ?_⟩
  refine ⟨_, rfl, _, _, _, _, _, rfl, ty_only, .str _, kit_str_str, _, rfl, iteF ?_⟩
  refine ⟨Nat.zero_le _, fun f hf => ?_⟩
  have s1 : Same H (upd H f (.lst [])) := TX.Same.upd (Same.refl H) hf
  refine ⟨_, rfl, rfl, textS ls, feed, rfl, rfl, by decide +kernel, sz (by have := text_len hV; omega), sz (by rw [hsp, rowsS_length]; omega), fun rl hrl => ?_⟩
  rw [hsp]
  have nfr : f ≠ rl := ne_of_none upd_same hrl
  refine ⟨rl, rfl, ⟨_, SqL.of upd_same⟩, for_enum (K := K) (a := rl) (xs := (rowsS ls ls.length).map V.str) (fun k σ H2 => ∃ v2 v3 v4, σ = [some (.str (textS ls)), some (.ref f), v2, v3, v4] ∧ Same H H2 ∧ H2 rl = some (.lst ((rowsS ls ls.length).map V.str)) ∧ LL H2 f (ls.take k))
   ⟨none, none, none, rfl, TX.Same.upd s1 (s1.free hrl), upd_same, by rw [List.take_zero]; exact ⟨[], upd_old upd_same hrl, .nil⟩⟩ (fun k σ H2 _ ⟨_, _, _, _, _, h, _⟩ => SqL.of h) ?_ ?_⟩
  ·rintro k y σ H2 tp hk ⟨v2, v3, v4, rfl, s2, hr2, hF2⟩ htp
   have hkl : k < ls.length := by
    have := (List.getElem?_eq_some_iff.mp hk).1
    rw [List.length_map, rowsS_length] at this
    exact this
   have hy : y = .str (rowS (k : Int) (ls.getD k [])) := by
    unfold rowsS at hk
    rw [List.map_map, List.getElem?_map, List.getElem?_range hkl] at hk
    exact (Option.some.inj hk).symm
   subst hy
   have okl : OkAt ls.length (k : Int) (ls.getD k []) := hV.mem k _ (by rw [List.getD_eq_getElem?_getD, List.getElem?_eq_getElem hkl]; rfl)
   have hF := valid_figs hV hkl
   have hZ := valid_len hV hkl
   have elk : ls[k]? = some (ls.getD k []) := by rw [List.getD_eq_getElem?_getD, List.getElem?_eq_getElem hkl]; rfl
   generalize ls.getD k [] = l at okl hF hZ elk
   have s3 : Same H2 (upd H2 tp (.tup [.int (k : Nat), .str (rowS (k : Int) l)])) := TX.Same.upd (Same.refl _) htp
   refine ⟨tp, _, rfl, SqT.of upd_same, rfl, _, _, rfl, _, _, rfl, rfl, ?_⟩
   have hps := row_split (i := (k : Int)) (by omega) (by omega) hF
   have hrl2 := TS.row_len (i := (k : Int)) (by omega) (by omega) hF
   refine ⟨_, rfl, rfl, rowS (k : Int) l, blank, rfl, rfl, by decide +kernel, sz (by omega), sz (by rw [hps]; simp [parts]; omega), fun pl hpl => ?_⟩
   rw [hps]
   generalize upd H2 tp (.tup [.int (k : Nat), .str (rowS (k : Int) l)]) = H3 at s3 hpl
   have s4 : Same H3 (upd H3 pl (.lst ((parts (k : Int) l).map V.str))) := TX.Same.upd (Same.refl _) hpl
   refine ⟨_, rfl, _, rfl, pl, (k : Int), l, ls.length, rfl, upd_same, ⟨by omega, by omega⟩, h6, okl, fun H5 s5 => ⟨_, rfl, iteF ?_⟩⟩
   have hp5 := s5 _ _ (upd_same (H := H3) (a := pl) (o := .lst ((parts (k : Int) l).map V.str)))
   have s25 : Same H2 H5 := s3.trans (s4.trans s5)
   have hF5 := Of.same mI hF2 s25
   obtain ⟨fs, hf5, rf5⟩ := id hF5
   have hfl := rf5.length
   rw [List.length_take] at hfl
   refine ⟨_, rfl, .inl ⟨rfl, _, SqL.of hf5⟩, ?_⟩
   refine tCons_of ?_
   have ec : cutV ((parts (k : Int) l).map V.str) (some 1) none = l.map fun x => V.str (dg x) := (cut1 _ _).trans (by rw [List.map_map]; rfl)
   refine mappedS (K := K) (l := l) (f := fun x => .str (dg x)) (g := V.int) (fun cp H1 => H5 cp = none ∧ H1 = upd H5 cp (.lst (l.map fun x => .str (dg x)))) (by omega) (fun cp H1 ⟨_, e⟩ => by subst e; exact SqL.of upd_same) (fun R z => ⟨_, rfl, 1, rfl, pl, _, rfl, SqL.of hp5, fun cp hcp => by rw [ec]; exact z cp _ ⟨hcp, rfl⟩⟩)
    (fun H1 x hx R z => ⟨_, rfl, x, rfl, ⟨by have := hF x hx; omega, by have := hF x hx; omega⟩, z⟩) ?_
   rintro cp H6 c ⟨hcp, rfl⟩ hc
   have s6 : Same H5 (upd H5 cp (.lst (l.map fun x => .str (dg x)))) := TX.Same.upd (Same.refl _) hcp
   generalize upd H5 cp (.lst (l.map fun x => V.str (dg x))) = H6 at s6 hc
   have s7 : Same H6 (upd H6 c (.lst (l.map V.int))) := TX.Same.upd (Same.refl _) hc
   have hf7 := s7 _ _ (s6 _ _ hf5)
   refine ⟨f, fs, _, rfl, rfl, hf7, small1000 (by omega), _, _, _, rfl, TX.Same.upd ((s2.trans s25).trans (s6.trans s7)) hf, upd_oth (s7 _ _ (s6 _ _ (s25 _ _ hr2))) nfr.symm, ?_⟩
   rw [List.take_add_one, elk]
   exact LL.push hf7 (Paired.impl (fun v d => mI _ _ v d (s6.trans s7)) rf5) upd_same (ne_of_none (s6 _ _ hf5) hc).symm
  ·rintro σ H2 ⟨v2, v3, v4, rfl, s2, hr2, hF2⟩
   rw [List.length_map, rowsS_length, List.take_length] at hF2
   refine ⟨_, rfl, ?_⟩
   exact make_camp hF2 hV fun x H' hx s3 hC => fin x H' (s2.trans s3) hC
end
section
variable {P : Program} {w : World} {K : PySem.W.Frag} {mg : Str → Option Value} {base : Heap} {t : Adr}
def okP (i : Int) (ps : List Str) : Prop := ∃ (n : Nat) (l : List Int), i = (n : Int) ∧ TT.Okl n l ∧ ps = parts i l
theorem figs_len {l : List Int} (hf : Figs l) (hn : l.Nodup) : l.length ≤ 6 := by
 have := nodup_len (n := 6) (i := 6) (l := l) ⟨fun x hx => by have := hf x hx; omega, hn⟩
 omega
theorem fig_mem {y : Str} (h : y ∈ (rng 6).map dg) : ∃ z : Int, (0 ≤ z ∧ z < 6) ∧ y = dg z := by
 obtain ⟨z, hz, rfl⟩ := List.mem_map.mp h
 unfold rng at hz
 obtain ⟨k, hk, rfl⟩ := List.mem_map.mp hz
 have := List.mem_range.mp hk
 exact ⟨_, by omega, rfl⟩
theorem mem_fig {z : Int} (h : 0 ≤ z ∧ z < 6) : dg z ∈ (rng 6).map dg := List.mem_map.mpr ⟨z, by unfold rng; exact List.mem_map.mpr ⟨z.toNat, List.mem_range.mpr (by omega), by omega⟩, rfl⟩
def spIsRowX : Sp := fun vs H Q _ => ∃ (a : Addr) (i : Int) (p0 : Str) (ps : List Str), vs = [.ref a, .int i] ∧ H a = some (.lst ((p0 :: ps).map V.str)) ∧ (0 ≤ i ∧ i ≤ 6) ∧ ∀ (b : Bool) H', Same H H' → (b = true ↔ okP i (p0 :: ps)) → Q (.bl b) H'
theorem ok_is_rowX (T : Txt K mg t) : FnOk P w K mg base CX0 1 t.is_row t.fd_is_row ["parts", "place"] spIsRowX := by
 have S := sc_is_row
 have h_MOST_CAMPERS := T.mg_M
 refine T.is_row.fn.ok S (fun vs H Q E h => ?_) (fun cdv A outer s H vs Q E hr h => ?_)
 ·obtain ⟨a, i, p0, ps, rfl, _⟩ := h; rfl
 ·obtain ⟨a, i, p0, ps, rfl, ha, hi, fin⟩ := h
  have hu := hu_of hr
  refine ⟨_, (pss_cons (ps_if (pw_or (pt_cmpR op_ge (pv 1) (pe_glob (v := .int 6) (by rfl) h_MOST_CAMPERS (by first | exact ⟨_, rfl⟩ | rfl)) (nomark _)) (pw_or1 (pt_cmpR op_ne (pe_ix ix_list (pv 0) pe_int (fun _ _ => rfl)) (TX.pe_join2 (TX.pe_fmt (pv 1)) pe_str) (nomark _)))).pt (pss_one (ps_ret pe_bl)) pss_nil)
   (pss_cons (TX.ps_setC ["camper"] [none] S.nd (j := 2) rfl (by first | exact Or.inl rfl | exact Or.inr rfl) rfl (pi_range1 rfl T.b_range (pa_cons (pe_glob (v := .int 6) (by rfl) h_MOST_CAMPERS (by first | exact ⟨_, rfl⟩ | rfl)) pa_nil)) (fun _ _ _ _ _ => (pg_name (i := 0) (show (["camper"] : List Str).Nodup by decide +kernel) rfl (by first | exact Or.inl rfl | exact Or.inr rfl))) (fun _ _ _ _ _ => TX.pts_nil) (fun _ _ _ _ _ => (pe_callTy TX.call_str (by rfl) T.b_str TK.boot_str (pa_cons (pv 0) pa_nil))) rfl (by decide +kernel) (by decide +kernel) (No := ["parts", "place", "figures", "seen", "part"]) (sc := defScope s_is_row) rfl rfl (by decide +kernel) rfl (by decide +kernel))
   (pss_cons (ps_set (i := 3) S.nd rfl (by first | exact Or.inl rfl | exact Or.inr rfl) (pe_disp (pps_cons (pe_callTy TX.call_str (by rfl) T.b_str TK.boot_str (pa_cons (pv 1) pa_nil)) pe_bl pps_nil) rfl rfl (by simp) (by decide)))
   (pss_cons (ps_for PassesOwn.never rfl (pi_list (pe_slice sl_list (pv 0) (po_some pe_int) po_none)) (pg_name (i := 4) S.nd rfl (by first | exact Or.inl rfl | exact Or.inr rfl)) (pss_cons (ps_if (pw_or (pt_cmp (pc_din hu (pv 4) (pv 3))) (pw_or1 (pt_cmpR op_notIn_seq (pv 4) (pv 2) (by with_unfolding_all rfl)))).pt (pss_one (ps_ret pe_bl)) pss_nil)
   (pss_one (ps_dput hu (pv 3) (pv 4) pe_bl rfl))))
   (pss_one (ps_ret pe_bl)))))), ?_⟩
  refine ⟨_, rfl, _, _, rfl, rfl, _, rfl, ?_⟩
  by_cases h6 : i = 6
  ·refine iteTrue (decide_eq_true (by omega)) (iteT (fin false H (Same.refl H) ⟨fun z => (nomatch z), fun ⟨n, l, e, ok, _⟩ => ?_⟩))
   have := ok.six; omega
  refine iteFalse (decide_eq_false (by omega)) ?_
  have hdl := dg_len (i := i) hi.1 (by omega)
  refine ⟨_, rfl, a, _, 0, .str p0, rfl, rfl, SqL.of ha, atI_of (by decide) rfl, _, rfl, i, rfl, ⟨by omega, by omega⟩, _, rfl, sz (by omega), _, rfl, sz (by rw [colon_len]; omega), rfl, _, rfl, ?_⟩
  by_cases hp0 : p0 = hd i
  case neg =>
   refine iteTrue (by show (!decide (V.str p0 = V.str (hd i))) = true; rw [decide_eq_false (fun z => hp0 (by injection z))]; rfl) (fin false H (Same.refl H) ⟨fun z => (nomatch z), fun ⟨n, l, e, ok, q⟩ => ?_⟩)
   exact absurd (List.cons.inj q).1 hp0
  subst hp0
  refine iteFalse (ne_strs _) ?_
  refine tNext_of ?_
  dsimp only
  refine tSeq_of ?_
  refine tSetC_of ?_
  refine mappedR (n := 6) (g := fun z => .str (dg z)) (by decide) (fun R z => by exact z) (fun z h0 h1 R q => ⟨_, rfl, z, rfl, ⟨by omega, by omega⟩, q⟩) fun f hf => ?_
  have s1 : Same H (upd H f (.lst ((rng 6).map fun z => .str (dg z)))) := TX.Same.upd (Same.refl H) hf
  have hf1 : upd H f (.lst ((rng 6).map fun z => V.str (dg z))) f = some (.lst (((rng 6).map dg).map V.str)) := by rw [upd_same, List.map_map]; rfl
  generalize upd H f (.lst ((rng 6).map fun z => V.str (dg z))) = H1 at s1 hf1
  intro d hd
  refine ⟨_, rfl, i, rfl, ⟨by omega, by omega⟩, upd_same, [(Sum.inr (dg i), .bl true)], rfl, (by show 1 ≤ 15; decide), ?_⟩
  rw [upd_upd]
  have s2 : Same H1 (upd H1 d (.dK (mergeK [] [(Sum.inr (dg i), .bl true)]))) := TX.Same.upd (Same.refl _) hd
  refine ⟨_, rfl, 1, rfl, a, _, rfl, SqL.of (s2 _ _ (s1 _ _ ha)), fun sp hsp => ?_⟩
  have ec : cutV ((TS.hd i :: ps).map V.str) (some 1) none = ps.map V.str := cut1 _ _
  rw [ec]
  have hd2 := upd_old (o := .lst (ps.map V.str)) (upd_same (H := H1) (a := d) (o := .dK (mergeK [] [(Sum.inr (dg i), .bl true)]))) hsp
  have nds : d ≠ sp := ne_of_none upd_same hsp
  have no : ∀ {k : Nat} {y : Str} {l : List Int}, ps[k]? = some y → ps.take k = l.map dg → Figs l → (y = dg i ∨ y ∈ l.map dg ∨ y ∉ (rng 6).map dg) → ¬ okP i (TS.hd i :: ps) := fun {k y l} hk ht hf hy ⟨n, m, e, ok, q⟩ => by
   have q2 : ps = m.map dg := (List.cons.inj q).2
   rw [q2, List.getElem?_map] at hk
   cases hz : m[k]? with
   | none => rw [hz] at hk; cases hk
   | some z =>
    rw [hz] at hk
    obtain rfl : dg z = y := Option.some.inj hk
    have hzm := List.mem_of_getElem? hz
    have zf := ok.fig z hzm
    rcases hy with h | h | h
    ·have := dg_inj zf ⟨hi.1, by omega⟩ h
     exact ok.own (by rw [← e, ← this]; exact hzm)
    ·obtain ⟨x, hx, ex⟩ := List.mem_map.mp h
     have := dg_inj (hf x hx) zf ex
     subst this
     rw [q2, ← List.map_take] at ht
     have ht2 : (m.take k).map dg = l.map dg := ht
     have hxm : dg x ∈ (m.take k).map dg := by rw [ht2]; exact h
     obtain ⟨y, hy, ey⟩ := List.mem_map.mp hxm
     have := dg_inj (ok.fig y (List.mem_of_mem_take hy)) zf ey
     subst this
     exact not_mem_take ok.nd hz hy
    ·exact h (mem_fig zf)
  refine ⟨sp, rfl, ⟨_, SqL.of upd_same⟩, for_list (K := K) (a := sp) (xs := ps.map V.str) (fun k σ H2 => ∃ (kvs : List (Key × V)) (v : Option V) (l : List Int), σ = [some (.ref a), some (.int i), some (.ref f), some (.ref d), v] ∧ Same H1 H2 ∧
   H2 sp = some (.lst (ps.map V.str)) ∧ H2 d = some (.dK kvs) ∧ kvs.length ≤ l.length + 1 ∧ (∀ y : Str, (valV kvs (Sum.inr y)).isSome = true ↔ y = dg i ∨ y ∈ l.map dg) ∧ ps.take k = l.map dg ∧ Figs l ∧ l.Nodup ∧ i ∉ l)
   ⟨_, none, [], rfl, TX.Same.upd s2 (s2.free hsp), upd_same, hd2, (by show 1 ≤ 0 + 1; decide), fun y => ?_, by rw [List.take_zero]; rfl, fun _ z => (nomatch z), List.nodup_nil, fun z => (nomatch z)⟩ (fun k σ H2 _ ⟨_, _, _, _, _, h, _⟩ => SqL.of h) ?_ ?_⟩
  ·show (valV (putK [] (Sum.inr (dg i)) (.bl true)) (Sum.inr y)).isSome = true ↔ _
   rw [valV_put]
   by_cases e : y = dg i
   ·rw [if_pos (by rw [e])]; simp [e]
   ·rw [if_neg (fun z => e (by injection z))]
    simp [valV_nil, e]
  ·rintro k yv σ H2 hk ⟨kvs, v, l, rfl, s3, hs2, hd3, hl3, hk3, ht, hF, hN, hI⟩
   rw [List.getElem?_map] at hk
   cases hz : ps[k]? with
   | none => rw [hz] at hk; cases hk
   | some y =>
    rw [hz] at hk
    obtain rfl : V.str y = yv := Option.some.inj hk
    refine ⟨_, rfl, _, rfl, d, _, rfl, DGet.k (k := Sum.inr y) hd3, _, rfl, ?_⟩
    cases hv : valV kvs (Sum.inr y : Key) with
    | some u =>
     have hy := (hk3 y).mp (by rw [hv]; rfl)
     exact iteT (iteT (fin false H2 (s1.trans s3) ⟨fun z => (nomatch z), fun z => absurd z (no hz ht hF (hy.elim .inl fun q => .inr (.inl q)))⟩))
    | none =>
    have hno : y ≠ dg i ∧ y ∉ l.map dg := by
     refine ⟨fun e => ?_, fun e => ?_⟩
     ·have := (hk3 y).mpr (.inl e); rw [hv] at this; cases this
     ·have := (hk3 y).mpr (.inr e); rw [hv] at this; cases this
    refine iteFalse rfl ?_
    refine ⟨_, rfl, _, rfl, f, _, rfl, .inl (SqL.of (s3 _ _ hf1)), rfl, flat_strs _, _, rfl, ?_⟩
    by_cases hin : y ∈ (rng 6).map dg
    case neg => exact iteTrue (by show (!inV (.str y) (((rng 6).map dg).map V.str)) = true; rw [inV_strs, decide_eq_false hin]; rfl) (fin false H2 (s1.trans s3) ⟨fun z => (nomatch z), fun z => absurd z (no hz ht hF (.inr (.inr hin)))⟩)
    refine iteFalse (by show (!inV (.str y) (((rng 6).map dg).map V.str)) = false; rw [inV_strs, decide_eq_true hin]; rfl) ?_
    obtain ⟨z, zf, rfl⟩ := fig_mem hin
    have hll := figs_len hF hN
    have hzl : z ∉ l := fun q => hno.2 (List.mem_map.mpr ⟨z, q, rfl⟩)
    have hF2 : Figs (l ++ [z]) := fun x hx => (List.mem_append.mp hx).elim (hF x) fun q => by rw [List.mem_singleton.mp q]; exact zf
    refine ⟨_, rfl, _, rfl, d, _, rfl, DPut.k (k := Sum.inr (dg z)) hd3 (small1000 (by omega)), ?_⟩
    refine ⟨_, _, l ++ [z], rfl, TX.Same.upd s3 hd, upd_oth hs2 nds.symm, upd_same, ?_, fun x => ?_, ?_, hF2, ?_, ?_⟩
    ·have := length_putK kvs (Sum.inr (dg z) : Key) (V.bl true)
     rw [List.length_append, List.length_singleton]
     omega
    ·rw [valV_put]
     by_cases e : x = dg z
     ·rw [if_pos (by rw [e])]; simp [e]
     ·rw [if_neg (fun q => e (by injection q)), hk3 x, List.map_append, List.mem_append]
      simp [e]
    ·rw [List.take_add_one, hz, ht, List.map_append]; rfl
    ·rw [List.nodup_append]
     exact ⟨hN, by simp, fun x hx y hy => by rw [List.mem_singleton.mp hy]; exact fun q => hzl (q ▸ hx)⟩
    ·intro q
     rcases List.mem_append.mp q with q | q
     ·exact hI q
     ·exact hno.1 (by rw [List.mem_singleton.mp q])
  ·rintro σ H2 ⟨kvs, v, l, rfl, s3, _, _, _, _, ht, hF, hN, hI⟩
   rw [List.length_map, List.take_length] at ht
   refine fin true H2 (s1.trans s3) ⟨fun _ => ⟨i.toNat, l, by omega, ⟨by omega, hF, hN, ?_⟩, by rw [ht]; rfl⟩, fun _ => rfl⟩
   rw [show ((i.toNat : Nat) : Int) = i by omega]
   exact hI
theorem okP_iff {k : Nat} {x : Str} : okP (k : Int) (Txt.split x blank) ↔ (TT.rowL k (TT.sg x)).isSome = true := by
 constructor
 ·rintro ⟨n, l, e, ok, q⟩
  obtain rfl : k = n := by omega
  rw [(TT.parts_iff ok).mp q]; rfl
 ·intro h
  obtain ⟨l, e⟩ := Option.isSome_iff_exists.mp h
  have ok := (TT.row_iff.mp e).1
  exact ⟨k, l, rfl, ok, (TT.parts_iff ok).mpr e⟩
end
end Tp
namespace Tp
open PySem PySem.Spec PyProof.Rows L2 TX TM TK TS
seal PySem.Sem.wp
theorem _root_.TK.boot_max : bootBuiltins "max" = some (.builtin "max") := by decide +kernel
section
variable {P : Program} {w : World} {K : PySem.W.Frag} {mg : Str → Option Value} {base : Heap} {t : Adr}
theorem dg_one {b : Nat} (h : 48 ≤ b ∧ b ≤ 53) : (⟨#[b]⟩ : Str) = dg ((b : Int) - 48) := by
 rw [dg_eq (by omega) (by omega)]
 have : 48 + ((b : Int) - 48).toNat = b := by omega
 rw [this]
theorem six_mem {b : Nat} : b ∈ ("012345" : Str).cps.toList ↔ 48 ≤ b ∧ b ≤ 53 := by
 rw [show ("012345" : Str).cps.toList = [48, 49, 50, 51, 52, 53] by decide +kernel]
 simp
 omega
theorem hd_eq (i : Int) : dg i ++ (":" : Str) = hd i := rfl
theorem ints_snoc (l : List Int) (x : Int) : l.map V.int ++ [V.int x] = (l ++ [x]).map V.int := by simp
def spRowIn : Sp := fun vs H Q _ => ∃ (r : Str) (n : Nat), vs = [.str r, .int (n : Int)] ∧ n ≤ 6 ∧ r.length ≤ 5000 ∧ (TT.rowL n (TT.sg r) = none → ∀ H', Same H H' → Q .non H') ∧ ∀ l, TT.rowL n (TT.sg r) = some l → ∀ p H', Same H H' → H' p = some (.lst (l.map V.int)) → Q (.ref p) H'
set_option maxHeartbeats 1000000 in
theorem ok_row_in (T : Txt K mg t) : FnOk P w K mg base CX0 1 t.law_row_in t.fd_law_row_in ["_law_row", "_law_camper"] spRowIn := by
 have S := sc_law_row_in
 refine T.law_row_in.fn.ok S (fun vs H Q E h => ?_) (fun cdv A outer s H vs Q E hr h => ?_)
 ·obtain ⟨r, n, rfl, _⟩ := h; rfl
 ·obtain ⟨r, n, rfl, hn, hz, bad, good⟩ := h
  have hzs : r.length ≤ sizeLine := Nat.le_trans hz (by decide)
  have hsl : (TT.sg r).length = r.length := Array.length_toList
  refine ⟨_, (pss_cons (ps_if (pw_or (pt_cmpR op_ne (pe_slice TX.sl_str (pv 0) po_none (po_some pe_int)) (pe_op op_add_str (pe_callTy TX.call_str (by rfl) T.b_str TK.boot_str (pa_cons (pv 1) pa_nil)) pe_str) (nomark _)) (pw_or (pt_cmpR op_eq (pe_op op_mod (pe_callB call_len_str (by rfl) T.b_len TK.boot_len (pa_cons (pv 0) pa_nil)) pe_int) pe_int (nomark _)) (pw_or1 (pt_cmpR op_gt (pv 1) pe_int (nomark _))))).pt (pss_one (ps_ret pe_non)) pss_nil)
   (pss_cons (ps_set (i := 2) S.nd rfl (by first | exact Or.inl rfl | exact Or.inr rfl) (pe_lst pa_nil))
   (pss_cons (ps_for PassesOwn.never rfl (pi_range3 rfl T.b_range (pa_cons pe_int (pa_cons (pe_callB call_len_str (by rfl) T.b_len TK.boot_len (pa_cons (pv 0) pa_nil)) (pa_cons pe_int pa_nil)))) (pg_name (i := 3) S.nd rfl (by first | exact Or.inl rfl | exact Or.inr rfl)) (pss_cons (ps_if (pw_or (pt_cmpR op_ne (pe_ix ix_str (pv 0) (pv 3) (fun _ _ => rfl)) pe_str (nomark _)) (pw_or (pt_cmpR op_notIn_str (pe_ix ix_str (pv 0) (pe_op op_add (pv 3) pe_int) (fun _ _ => rfl)) pe_str (by with_unfolding_all rfl)) (pw_or1 (pt_cmpR op_in_seq (pe_callTy TX.call_intS (by rfl) T.b_int TK.boot_int (pa_cons (pe_ix ix_str (pv 0) (pe_op op_add (pv 3) pe_int) (fun _ _ => rfl)) pa_nil)) (pe_op op_cat (pv 2) (pe_lst (pa_cons (pv 1) pa_nil))) (by with_unfolding_all rfl))))).pt (pss_one (ps_ret pe_non)) pss_nil)
   (pss_one (ps_expr (pe_bm PySem.F.plainAttrs_list PySem.F.slot_list_append PySem.F.type_list_append mt_append (pv 2) (pa_cons (pe_callTy TX.call_intS (by rfl) T.b_int TK.boot_int (pa_cons (pe_ix ix_str (pv 0) (pe_op op_add (pv 3) pe_int) (fun _ _ => rfl)) pa_nil)) pa_nil))))))
   (pss_one (ps_ret (pv 2)))))), ?_⟩
  have hdl : (dg (n : Int)).length ≤ 10 := by
   by_cases h6 : n = 6
   ·subst h6; decide +kernel
   ·rw [dg_len (by omega) (by omega)]; decide
  refine ⟨_, rfl, 2, rfl, r, rfl, hzs, _, rfl, (n : Int), rfl, ⟨by omega, by omega⟩, _, _, rfl, rfl, sz (by rw [colon_len]; omega), rfl, _, rfl, ?_⟩
  by_cases hh : Txt.slice r none (some 2) = dg (n : Int) ++ (":" : Str)
  case neg =>
   refine iteTrue (by rw [decide_eq_false (fun z => hh (by injection z))]; rfl) (iteT (bad ?_ H (Same.refl H)))
   by_cases h6 : n = 6
   ·exact TT.rowL_six (by omega)
   ·refine TT.rowL_head fun z => hh (TT.sg_inj ?_)
    rw [TT.slice2, z, hd_eq]
    exact (hd_list (i := (n : Int)) (by omega) (by omega)).symm
  refine iteFalse (by rw [hh]; simp) ?_
  refine ⟨_, rfl, r, rfl, hzs, _, _, rfl, rfl, (by show (0 : Int) < 2; decide), rfl, _, rfl, ?_⟩
  by_cases ho : r.length % 2 = 1
  ·refine iteTrue (by rw [dec_V]; exact decide_eq_true (by omega)) (iteT (bad (TT.rowL_odd (by omega)) H (Same.refl H)))
  refine iteFalse (by rw [dec_V]; exact decide_eq_false (by omega)) ?_
  refine ⟨_, rfl, _, _, rfl, rfl, _, rfl, ?_⟩
  by_cases h6 : n = 6
  ·exact iteTrue (decide_eq_true (by omega)) (bad (TT.rowL_six (by omega)) H (Same.refl H))
  refine iteFalse (decide_eq_false (by omega)) ?_
  have hrow : TT.rowL n (TT.sg r) = TT.figs n ((TT.sg r).drop 2) [] := by
   refine TT.rowL_figs (by omega) ?_
   rw [← TT.slice2, hh, hd_eq]
   exact hd_list (i := (n : Int)) (by omega) (by omega)
  refine ⟨Nat.zero_le _, fun f hf => ?_⟩
  have s1 : Same H (upd H f (.lst [])) := TX.Same.upd (Same.refl H) hf
  refine ⟨_, rfl, r, rfl, hzs, 2, (r.length : Int), rfl, ⟨by decide, by decide, by omega, by omega⟩, for_step (lo := 2) (fun j σ H2 => ∃ (v : Option V) (acc : List Int), σ = [some (.str r), some (.int (n : Int)), some (.ref f), v] ∧ Same H H2 ∧
   H2 f = some (.lst (acc.map V.int)) ∧ acc.length = j ∧ TT.rowL n (TT.sg r) = TT.figs n ((TT.sg r).drop (2 + 2 * j)) acc) ⟨none, [], rfl, s1, upd_same, rfl, hrow⟩ ?_ ?_⟩
  ·rintro j σ H2 hj ⟨v, acc, rfl, s2, hf2, hal, he⟩
   have hj2 : 2 + 2 * j + 1 < r.length := by omega
   have k0 : (2 : Int) + (j : Int) * 2 = ((2 + 2 * j : Nat) : Int) := by omega
   rw [TT.drop_two (by omega)] at he
   have a0 := TT.sign_at (x := r) (k := 2 + 2 * j) (by omega)
   have a1 := TT.sign_at (x := r) (k := 2 + 2 * j + 1) (by omega)
   generalize hc0 : (TT.sg r).getD (2 + 2 * j) 0 = c0 at he a0
   generalize hc1 : (TT.sg r).getD (2 + 2 * j + 1) 0 = c1 at he a1
   rw [k0]
   have e1 : ((2 + 2 * j : Nat) : Int) + 1 = ((2 + 2 * j + 1 : Nat) : Int) := by omega
   have ba : (decide (c0 = 32) && TT.step n c1 acc) = false → TT.rowL n (TT.sg r) = none := fun z => by
    rw [he]; unfold TT.figs; rw [if_neg (by rw [z]; decide)]
   refine ⟨_, rfl, _, rfl, r, _, c0, rfl, rfl, hzs, atI_nat a0, rfl, _, rfl, ?_⟩
   by_cases h0 : c0 = 32
   case neg =>
    refine iteTrue ?_ (iteT (bad (ba (by rw [decide_eq_false h0]; rfl)) H2 s2))
    rw [decide_eq_false (fun z => h0 ?_)]; rfl
    injection z with z
    have z2 := congrArg (fun x : Str => x.cps.toList) z
    rw [show (" " : Str) = ⟨#[32]⟩ by decide +kernel] at z2
    simpa using z2
   subst h0
   refine iteFalse (by rw [show (" " : Str) = ⟨#[32]⟩ by decide +kernel]; simp) ?_
   refine ⟨_, rfl, _, rfl, _, _, rfl, rfl, r, _, c1, rfl, rfl, hzs, by rw [e1]; exact atI_nat a1, _, _, rfl, rfl, _, rfl, ?_⟩
   have hin := StrLaws.found_one ("012345" : Str) c1
   by_cases h1 : 48 ≤ c1 ∧ c1 ≤ 53
   case neg =>
    refine iteTrue ?_ (iteT (bad (ba (by unfold TT.step; rw [decide_eq_false h1]; rfl)) H2 s2))
    rw [hin, decide_eq_false (fun z => h1 (six_mem.mp z))]; rfl
   refine iteFalse (by rw [hin, decide_eq_true (six_mem.mpr h1)]; rfl) ?_
   refine ⟨_, rfl, _, rfl, _, _, rfl, rfl, r, _, c1, rfl, rfl, hzs, by rw [e1]; exact atI_nat a1, (c1 : Int) - 48, by rw [dg_one h1], ⟨by omega, by omega⟩, _, rfl, _, rfl, (by show 1 ≤ sizeLine; decide), fun q hq => ?_⟩
   have s3 : Same H2 (upd H2 q (.lst [.int (n : Int)])) := TX.Same.upd (Same.refl _) hq
   refine ⟨f, q, _, _, rfl, rfl, s3 _ _ hf2, upd_same, Nat.le_trans (show (acc.map V.int).length + 1 ≤ 5000 by rw [List.length_map]; omega) (by decide), fun c hc => ?_⟩
   have s4 : Same H2 (upd (upd H2 q (.lst [.int (n : Int)])) c (.lst (acc.map V.int ++ [.int (n : Int)]))) := TX.Same.upd s3 (s3.free hc)
   refine ⟨c, _, rfl, .inl (SqL.of upd_same), rfl, by rw [ints_snoc]; exact flat_ints _, _, rfl, ?_⟩
   have ei : (if false = true then !inV (V.int ((c1 : Int) - 48)) (acc.map V.int ++ [V.int (n : Int)]) else inV (V.int ((c1 : Int) - 48)) (acc.map V.int ++ [V.int (n : Int)])) = decide ((c1 : Int) - 48 ∈ acc ++ [(n : Int)]) := by
    rw [if_neg (by decide), ints_snoc, inV_ints]
   by_cases h2 : (c1 : Int) - 48 ∈ acc ++ [(n : Int)]
   ·refine iteTrue (by rw [ei]; exact decide_eq_true h2) (bad (ba (by unfold TT.step; rw [decide_eq_true h2]; simp)) _ (s2.trans s4))
   refine iteFalse (by rw [ei]; exact decide_eq_false h2) ?_
   have hst : TT.step n c1 acc = true := by unfold TT.step; rw [decide_eq_true h1, decide_eq_false h2]; rfl
   have he2 : TT.rowL n (TT.sg r) = TT.figs n ((TT.sg r).drop (2 + 2 * (j + 1))) (acc ++ [(c1 : Int) - 48]) := by
    rw [he, show 2 + 2 * (j + 1) = 2 + 2 * j + 2 by omega]
    conv => lhs; unfold TT.figs
    rw [hst, if_pos (by decide)]
   have hf4 := s4 _ _ hf2
   refine ⟨_, rfl, .inl ⟨rfl, _, SqL.of hf4⟩, _, rfl, _, rfl, _, _, rfl, rfl, r, _, c1, rfl, rfl, hzs, by rw [e1]; exact atI_nat a1, (c1 : Int) - 48, by rw [dg_one h1], ⟨by omega, by omega⟩, f, _, _, rfl, rfl, hf4, Nat.lt_of_le_of_lt (show (acc.map V.int).length ≤ 5000 by rw [List.length_map]; omega) (by decide), _, acc ++ [(c1 : Int) - 48], rfl, TX.Same.upd (s2.trans s4) hf, by rw [upd_same, ints_snoc], by rw [List.length_append, hal]; rfl, he2⟩
  ·rintro σ H2 ⟨v, acc, rfl, s2, hf2, hal, he⟩
   have e9 : (TT.sg r).drop (2 + 2 * ((((r.length : Int) - 2 + 1) / 2).toNat)) = [] := List.drop_of_length_le (by omega)
   rw [e9] at he
   exact ⟨_, rfl, good acc he f H2 s2 hf2⟩
end
section
variable {P : Program} {w : World} {K : PySem.W.Frag} {mg : Str → Option Value} {base : Heap} {t : Adr}
theorem feed_one : (feed : Str) = ⟨#[10]⟩ := feed_eq
theorem strs_at {rs : List Str} {k : Nat} (h : k < rs.length) : atI (rs.map V.str) (k : Int) = some (.str (rs.getD k Str.empty)) := by
 refine atI_nat ?_
 rw [List.getElem?_map, List.getD_eq_getElem?_getD, List.getElem?_eq_getElem h]
 rfl
theorem getD_mem' {rs : List Str} {k : Nat} (h : k < rs.length) : rs.getD k Str.empty ∈ rs := by
 rw [List.getD_eq_getElem?_getD, List.getElem?_eq_getElem h]
 exact List.getElem_mem h
def spDue : Sp := fun vs H Q _ => ∃ z : Str, vs = [.str z] ∧ z.length ≤ 5000 ∧ ∀ d H', Same H H' → TT.Due (Txt.split z feed) d → Q (.int d) H'
set_option maxHeartbeats 1000000 in
theorem ok_due (T : Txt K mg t) : FnOk P w K mg base CX0 2 t.law_due t.fd_law_due ["_law_text"] spDue := by
 have S := sc_law_due
 have G_law_row_in := ok_row_in (P := P) (w := w) (base := base) T
 refine T.law_due.fn.ok S (fun vs H Q E h => ?_) (fun cdv A outer s H vs Q E hr h => ?_)
 ·obtain ⟨z, rfl, _⟩ := h; rfl
 ·obtain ⟨z, rfl, hz, fin⟩ := h
  have hzs : z.length ≤ sizeLine := Nat.le_trans hz (by decide)
  have hn : (Txt.split z feed).length ≤ z.length + 1 := by rw [feed_one]; exact TT.split_len z 10
  have hp : ∀ x ∈ Txt.split z feed, x.length ≤ 5000 := fun x hx => by
   rw [feed_one] at hx
   exact Nat.le_trans (TT.split_part hx) hz
  refine ⟨_, (pss_cons (ps_set (i := 1) S.nd rfl (by first | exact Or.inl rfl | exact Or.inr rfl) (pe_bm PySem.F.plainAttrs_str PySem.F.slot_str_split PySem.F.type_str_split TX.mt_split (pv 0) (pa_cons pe_str pa_nil)))
   (pss_cons (ps_set (i := 2) S.nd rfl (by first | exact Or.inl rfl | exact Or.inr rfl) (pe_un un_neg pe_int))
   (pss_cons (ps_for PassesOwn.never rfl (pi_range1 rfl T.b_range (pa_cons (pe_callB call_len_seq (by rfl) T.b_len TK.boot_len (pa_cons (pv 1) pa_nil)) pa_nil)) (pg_name (i := 3) S.nd rfl (by first | exact Or.inl rfl | exact Or.inr rfl)) (pss_cons (ps_set (i := 4) S.nd rfl (by first | exact Or.inl rfl | exact Or.inr rfl) (pe_call (k := 1) G_law_row_in hr (by rfl) T.law_row_in.mg T.law_row_in.fn.kp T.law_row_in.b .nil pass0 (pa_cons (pe_ix ix_list (pv 1) (pv 3) (fun _ _ => rfl)) (pa_cons (pv 3) pa_nil))))
   (pss_cons (ps_if (pt_cmp (pc_isN (pv 4))) (pss_one (ps_ret (pe_op op_add (pv 3) pe_int))) pss_nil)
   (pss_one (ps_set (i := 2) S.nd rfl (by first | exact Or.inl rfl | exact Or.inr rfl) (pe_callB (TX.call_maxL rfl) (by rfl) T.b_max TK.boot_max (pa_cons (pe_op op_cat (pe_lst (pa_cons (pv 2) pa_nil)) (pv 4)) pa_nil)))))))
   (pss_one (ps_ret (pe_ifExp (pt_cmpR op_ge (pv 2) (pe_callB call_len_seq (by rfl) T.b_len TK.boot_len (pa_cons (pv 1) pa_nil)) (nomark _)) (pe_op op_add (pe_callB call_len_seq (by rfl) T.b_len TK.boot_len (pa_cons (pv 1) pa_nil)) pe_int) pe_int)))))), ?_⟩
  refine ⟨_, rfl, rfl, z, feed, rfl, rfl, by decide +kernel, hzs, Nat.le_trans hn (Nat.le_trans (Nat.succ_le_succ hz) (by decide)), fun rl hrl => ?_⟩
  generalize Txt.split z feed = rs at fin hn hp
  have s1 : Same H (upd H rl (.lst (rs.map V.str))) := TX.Same.upd (Same.refl H) hrl
  refine ⟨1, rfl, ?_⟩
  refine ⟨_, rfl, rl, _, rfl, .inl (SqL.of upd_same), _, rfl, by omega, by rw [List.length_map]; omega, ?_⟩
  rw [List.length_map, show ((rs.length : Int)).toNat = rs.length by omega]
  refine for_range (lo := 0) (n := rs.length) (fun k σ H2 => ∃ (v3 v4 : Option V) (g : Int), σ = [some (.str z), some (.ref rl), some (.int g), v3, v4] ∧ Same H H2 ∧ H2 rl = some (.lst (rs.map V.str)) ∧ TT.AllTo rs k ∧
   (∀ l ∈ TT.lsOf rs k, ∀ x ∈ l, x ≤ g) ∧ (g = -1 ∨ ∃ l ∈ TT.lsOf rs k, g ∈ l)) ⟨none, none, -1, rfl, s1, upd_same, fun j hj => absurd hj (Nat.not_lt_zero _), fun l hl => (nomatch hl), .inl rfl⟩ ?_ ?_
  ·rintro k σ H2 hk ⟨v3, v4, g, rfl, s2, hr2, ha, hmx, hg⟩
   rw [show (0 : Int) + (k : Int) = (k : Int) by omega]
   refine ⟨_, rfl, _, rfl, rl, _, (k : Int), _, rfl, rfl, SqL.of hr2, strs_at hk, _, rfl, rs.getD k Str.empty, k, rfl, ha.six, hp _ (getD_mem' hk), fun hno H3 s3 => ?_, fun l hl p H3 s3 hp3 => ?_⟩
   ·refine ⟨_, rfl, _, rfl, iteTrue (decide_eq_true rfl) ⟨_, rfl, _, _, rfl, rfl, ?_⟩⟩
    exact fin _ H3 (s2.trans s3) (.row hk ha hno)
   ·refine ⟨_, rfl, _, rfl, iteFalse (decide_eq_false (by intro q; cases q)) ?_⟩
    have ok := (TT.row_iff.mp hl).1
    have hll := figs_len ok.fig ok.nd
    refine ⟨_, rfl, (by show 1 ≤ sizeLine; decide), fun q hq => ?_⟩
    have s4 : Same H3 (upd H3 q (.lst [.int g])) := TX.Same.upd (Same.refl _) hq
    refine ⟨_, rfl, q, p, _, _, rfl, rfl, upd_same, s4 _ _ hp3, sz (by rw [List.length_map]; show 1 + l.length ≤ 1000; omega), fun c hc => ?_⟩
    have s5 := TX.Same.upd (o := .lst ([.int g] ++ l.map V.int)) s4 (s4.free hc)
    refine ⟨c, g :: l, rfl, SqL.of upd_same, by simp, fun m hm hall => ?_⟩
    have ha2 : TT.AllTo rs (k + 1) := ha.succ (by unfold TT.rowAt; rw [hl]; rfl)
    have el : (TT.rowAt rs k).getD [] = l := by unfold TT.rowAt; rw [hl]; rfl
    refine ⟨_, _, m, rfl, s2.trans (s3.trans s5), s5 _ _ (s3 _ _ hr2), ha2, fun l2 hl2 x hx => ?_, ?_⟩
    ·rw [TT.lsOf_succ, el] at hl2
     rcases List.mem_append.mp hl2 with h | h
     ·exact Int.le_trans (hmx l2 h x hx) (hall g List.mem_cons_self)
     ·rw [List.mem_singleton.mp h] at hx
      exact hall x (List.mem_cons_of_mem _ hx)
    ·rw [TT.lsOf_succ, el]
     rcases List.mem_cons.mp hm with rfl | hm
     ·rcases hg with h | ⟨l2, h1, h2⟩
      ·exact .inl h
      ·exact .inr ⟨l2, List.mem_append_left _ h1, h2⟩
     ·exact .inr ⟨l, List.mem_append_right _ (List.mem_singleton.mpr rfl), hm⟩
  ·rintro σ H2 ⟨v3, v4, g, rfl, s2, hr2, ha, hmx, hg⟩
   refine ⟨_, rfl, _, rfl, rl, _, rfl, .inl (SqL.of hr2), _, _, rfl, rfl, _, rfl, iteB (fun e => ?_) (fun e => ?_)⟩
   ·have e : ((rs.map V.str).length : Int) ≤ g := of_decide_eq_true e
    rw [List.length_map] at e
    refine ⟨_, rfl, rl, _, rfl, .inl (SqL.of hr2), _, _, rfl, rfl, ?_⟩
    rw [List.length_map]
    refine fin _ H2 s2 (.many ha ?_)
    rcases hg with h | ⟨l, h1, h2⟩
    ·omega
    ·exact ⟨l, h1, g, h2, e⟩
   ·have e : ¬ ((rs.map V.str).length : Int) ≤ g := of_decide_eq_false e
    rw [List.length_map] at e
    refine fin 0 H2 s2 (.good ha fun l hl x hx => ?_)
    have := hmx l hl x hx
    omega
end
end Tp
namespace Tp
open PySem PySem.Spec PyProof.Rows L2 TX TM TK TS
seal PySem.Sem.wp
section
variable {P : Program} {w : World} {K : PySem.W.Frag} {mg : Str → Option Value} {base : Heap} {t : Adr}
theorem fun_ok1 {C : Addr} {x qual : Str} {st : Stmt} {f : Addr} {fd : FuncData} {N ps : List Str} {k : Nat} {sp : Sp} (F : Fun K x qual st f fd) (S : FnScope N ps (defScope st)) (len : ∀ vs H Q E, sp vs H Q E → vs.length = ps.length)
  (hbody : ∀ (cdv : Value) (A : Around) (outer : List Env) (s : Shared) (H : Hp) (vs : List V) (Q : VK) (E : XK), Room k (A.deeper (envOfC qual (defScope st) s.heap.objs.size f cdv)) → sp vs H Q E →
   ∃ t, PSs (TX.cx1 C P w K mg base N qual (defScope st) f cdv A outer s H E) (defBody st) t ∧ t { nx := fun _ H' => Q .non H', rt := Q } (start N vs) H) : FnOk P w K mg base (TX.CX1 P w C) (k + 1) f fd ps sp := by
 obtain ⟨oc, od, kV, doc, pm, an, cdv, ct, osl, rfl, lk, hcd⟩ := F.ex
 exact fn_of lk hcd S len fun A outer s H vs Q E hr hsp => hbody cdv A outer s H vs Q E hr hsp
theorem kit_bool_bool : PySem.W.kitOne K (.type "bool") (.type "bool") = some true := by rfl
theorem kit_str_bool : PySem.W.kitOne K (.type "str") (.type "bool") = some false := by rfl
theorem kit_str_int : PySem.W.kitOne K (.type "str") (.type "int") = some false := by rfl
theorem kit_non_bool : PySem.W.kitOne K (.type "NoneType") (.type "bool") = some false := by rfl
theorem kit_non_int : PySem.W.kitOne K (.type "NoneType") (.type "int") = some false := by rfl
inductive Sc : V → Prop where
 | non : Sc .non
 | bl (b : Bool) : Sc (.bl b)
 | int (i : Int) : Sc (.int i)
 | str (x : Str) : Sc (.str x)
def isCmp (v : V) (n : Int) : Bool := match v with | .int i => decide (0 ≤ i) && decide (i < n) | _ => false
def spCamperV : Sp := fun vs H Q _ => ∃ (v : V) (n : Int), vs = [v, .int n] ∧ Sc v ∧ Q (.bl (isCmp v n)) H
theorem ok_camperV (T : Txt K mg t) : FnOk P w K mg base CX0 1 t.is_camper t.fd_is_camper ["value", "size"] spCamperV := by
 have S := sc_is_camper
 refine T.is_camper.fn.ok S (fun vs H Q E h => ?_) (fun cdv A outer s H vs Q E hr h => ?_)
 ·obtain ⟨v, n, rfl, _⟩ := h; rfl
 ·obtain ⟨v, n, rfl, hs, q⟩ := h
  refine ⟨_, (pss_cons (ps_if (pw_or (pt_val (pe_callB TX.call_isinst (by rfl) T.b_isinstance TK.boot_isinstance (pa_cons (pv 0) (pa_cons (pe_bltn (v := .ty "bool") (by rfl) T.b_bool TK.boot_bool (by rfl)) pa_nil)))) (pw_or1 (pt_not (pt_val (pe_callB TX.call_isinst (by rfl) T.b_isinstance TK.boot_isinstance (pa_cons (pv 0) (pa_cons (pe_bltn (v := .ty "int") (by rfl) T.b_int TK.boot_int (by rfl)) pa_nil))))))).pt (pss_one (ps_ret pe_bl)) pss_nil)
   (pss_one (ps_ret (pe_chain op_le op_lt pe_int (pv 0) (pv 1))))), ?_⟩
  cases hs with
  | int v =>
   refine ⟨_, rfl, _, _, _, _, _, rfl, ty_only, .int _, kit_int_bool, _, rfl, iteF ?_⟩
   refine ⟨_, rfl, _, _, _, _, _, rfl, ty_only, .int _, kit_int_int, _, rfl, iteF ?_⟩
   refine ⟨_, rfl, _, _, rfl, rfl, _, rfl, iteB (fun e => ⟨_, rfl, _, _, rfl, rfl, ?_⟩) (fun e => ?_)⟩
   ·have q' : Q (.bl (decide (0 ≤ v) && decide (v < n))) H := q
    rw [e, Bool.true_and] at q'; exact q'
   ·have q' : Q (.bl (decide (0 ≤ v) && decide (v < n))) H := q
    rw [e, Bool.false_and] at q'; exact q'
  | bl b => exact ⟨_, rfl, _, _, _, _, _, rfl, ty_only, .bl _, kit_bool_bool, _, rfl, iteT (iteT q)⟩
  | str x =>
   refine ⟨_, rfl, _, _, _, _, _, rfl, ty_only, .str _, kit_str_bool, _, rfl, iteF ?_⟩
   exact ⟨_, rfl, _, _, _, _, _, rfl, ty_only, .str _, kit_str_int, _, rfl, iteT q⟩
  | non =>
   refine ⟨_, rfl, _, _, _, _, _, rfl, ty_only, .non, kit_non_bool, _, rfl, iteF ?_⟩
   exact ⟨_, rfl, _, _, _, _, _, rfl, ty_only, .non, kit_non_int, _, rfl, iteT q⟩
def NotL (K : PySem.W.Frag) (H : Hp) (v : V) : Prop := ∃ ty, TyOf K H v ty ∧ PySem.W.kitOne K ty (.type "list") = some false
def NotT (K : PySem.W.Frag) (H : Hp) (v : V) : Prop := ∃ ty, TyOf K H v ty ∧ PySem.W.kitOne K ty (.type "tuple") = some false
theorem TyOf.same {H H' : Hp} {v : V} {ty : Value} (h : TyOf K H v ty) (e : Same H H') : TyOf K H' v ty := by
 cases h with
 | non => exact .non
 | bl x => exact .bl x
 | int i => exact .int i
 | str x => exact .str x
 | flt x => exact .flt x
 | lst q => exact .lst (e _ _ q)
 | frz q => exact .frz (e _ _ q)
 | tup q => exact .tup (e _ _ q)
 | dK q => exact .dK (e _ _ q)
 | dT q => exact .dT (e _ _ q)
 | ins q a b c d f => exact .ins (e _ _ q) a b c d f
theorem NotL.same {H H' : Hp} {v : V} (h : NotL K H v) (e : Same H H') : NotL K H' v := let ⟨ty, a, b⟩ := h; ⟨ty, TyOf.same a e, b⟩
def OkW (c n : Int) (ys : List V) : Prop := ∀ (i : Nat) (y : V), ys[i]? = some y → isCmp y n = true ∧ y ≠ .int c ∧ y ∉ ys.take i
theorem cmp_int {y : V} {n : Int} (h : isCmp y n = true) : ∃ z, y = .int z := by
 cases y with
 | int z => exact ⟨z, rfl⟩
 | _ => cases h
def xpWishes (K : PySem.W.Frag) (X : Addr) : Sp := fun vs H Q E => ∃ (c n : Int) (x : V), vs = [.int c, x, .int n] ∧
 ((∃ a ys, x = .ref a ∧ H a = some (.lst ys) ∧ (∀ y ∈ ys, Sc y) ∧ ys.length ≤ 100 ∧ (OkW c n ys → ∀ H', Same H H' → Q .non H') ∧ (¬ OkW c n ys → ∀ H', Same H H' → E (.ref X) none H')) ∨ (NotL K H x ∧ ∀ H', Same H H' → E (.ref X) none H'))
theorem xk_wishes (T : Txt K mg t) : FnOk P w K mg base (TX.CX1 P w t.X_BadCamp) 2 t.check_wishes t.fd_check_wishes ["camper", "wishes", "size"] (xpWishes K t.X_BadCamp) := by
 have S := sc_check_wishes
 have G_is_camper := ok_camperV (P := P) (w := w) (base := base) T
 refine fun_ok1 T.check_wishes.fn S (fun vs H Q E h => ?_) (fun cdv A outer s H vs Q E hr h => ?_)
 ·obtain ⟨c, n, x, rfl, _⟩ := h; rfl
 ·obtain ⟨c, n, x, rfl, h⟩ := h
  have hu := hu_of hr
  refine ⟨_, (pss_cons (ps_if (pt_not (pt_val (pe_callB TX.call_isinst (by rfl) T.b_isinstance TK.boot_isinstance (pa_cons (pv 1) (pa_cons (pe_bltn (v := .ty "list") (by rfl) T.b_list TK.boot_list (by rfl)) pa_nil))))) (pss_one (TX.ps_raise (C := t.X_BadCamp) PySem.F.excBase_ValueError (by decide) PySem.F.excBase_ValueError T.x_BadCamp rfl T.mg_BadCamp pe_str hr.hd)) pss_nil)
   (pss_cons (ps_set (i := 3) S.nd rfl (by first | exact Or.inl rfl | exact Or.inr rfl) (pe_disp (pps_cons (pv 0) pe_bl pps_nil) rfl rfl (by simp) (by decide)))
   (pss_one (ps_for PassesOwn.leaving rfl (pi_list (pv 1)) (pg_name (i := 4) S.nd rfl (by first | exact Or.inl rfl | exact Or.inr rfl)) (pss_cons (ps_if (pt_not (pt_val (pe_call (k := 1) G_is_camper hr (by rfl) T.is_camper.mg T.is_camper.fn.kp T.is_camper.b .nil pass0 (pa_cons (pv 4) (pa_cons (pv 2) pa_nil))))) (pss_one (TX.ps_raise (C := t.X_BadCamp) PySem.F.excBase_ValueError (by decide) PySem.F.excBase_ValueError T.x_BadCamp rfl T.mg_BadCamp pe_str hr.hd)) pss_nil)
   (pss_cons (ps_if (pt_cmp (pc_din hu (pv 4) (pv 3))) (pss_one (TX.ps_raise (C := t.X_BadCamp) PySem.F.excBase_ValueError (by decide) PySem.F.excBase_ValueError T.x_BadCamp rfl T.mg_BadCamp pe_str hr.hd)) pss_nil)
   (pss_one (ps_dput hu (pv 3) (pv 4) pe_bl rfl)))))))), ?_⟩
  rcases h with ⟨a, ys, rfl, ha, hsc, hlen, fin, bad⟩ | ⟨⟨ty, hty, hk⟩, bad⟩
  ·refine ⟨_, rfl, _, _, _, _, _, rfl, ty_only, .lst ha, kit_list_list, _, rfl, iteF ?_⟩
   intro p hp
   refine ⟨_, rfl, upd_same, [(Sum.inl c, .bl true)], rfl, (by show 1 ≤ 15; decide), ?_⟩
   rw [upd_upd]
   have s1 : Same H (upd H p (.dK (mergeK [] [(Sum.inl c, .bl true)]))) := TX.Same.upd (Same.refl H) hp
   refine ⟨_, rfl, a, rfl, ⟨_, SqL.of (s1 _ _ ha)⟩, for_list (K := K) (a := a) (xs := ys) (fun i σ H2 => ∃ (kvs : List (Key × V)) (v : Option V), σ = [some (.int c), some (.ref a), some (.int n), some (.ref p), v] ∧ Same H H2 ∧
    H2 p = some (.dK kvs) ∧ kvs.length ≤ i + 1 ∧ (∀ x : Int, (valV kvs (Sum.inl x)).isSome = true ↔ x = c ∨ V.int x ∈ ys.take i) ∧ ∀ (j : Nat) (y : V), j < i → ys[j]? = some y → isCmp y n = true ∧ y ≠ .int c ∧ y ∉ ys.take j)
    ⟨_, none, rfl, s1, upd_same, (by show 1 ≤ 0 + 1; decide), fun x => ?_, fun j y hj => absurd hj (Nat.not_lt_zero _)⟩ (fun i σ H2 _ ⟨_, _, _, s2, _⟩ => SqL.of (s2 _ _ ha)) ?_ ?_⟩
   ·show (valV (putK [] (Sum.inl c) (.bl true)) (Sum.inl x)).isSome = true ↔ _
    rw [valV_put]
    by_cases e : (Sum.inl x : Key) = Sum.inl c
    ·rw [if_pos e]; injection e with e; simp [e]
    ·rw [if_neg e]
     have : x ≠ c := fun z => e (by rw [z])
     simp [valV_nil, this]
   ·rintro i y σ H2 hi ⟨kvs, v, rfl, s2, hd, hl, hk, hok⟩
    have hbad : ¬ (isCmp y n = true ∧ y ≠ .int c ∧ y ∉ ys.take i) → E (.ref t.X_BadCamp) none H2 := fun z => bad (fun o => z (o i y hi)) H2 s2
    refine ⟨_, rfl, _, rfl, y, _, rfl, hsc y (List.mem_of_getElem? hi), _, rfl, ?_⟩
    cases hc : isCmp y n with
    | false => exact iteT (hbad fun z => by rw [hc] at z; cases z.1)
    | true =>
    refine iteF ?_
    obtain ⟨z, rfl⟩ := cmp_int hc
    refine ⟨_, rfl, _, rfl, p, _, rfl, DGet.k (k := Sum.inl z) hd, _, rfl, ?_⟩
    cases hv : (valV kvs (Sum.inl z)) with
    | some u =>
     have := (hk z).mp (by rw [hv]; rfl)
     refine iteT (hbad fun q => ?_)
     rcases this with h | h
     ·exact q.2.1 (by rw [h])
     ·exact q.2.2 h
    | none =>
    have hno : z ≠ c ∧ V.int z ∉ ys.take i := by
     refine ⟨fun e => ?_, fun e => ?_⟩
     ·have := (hk z).mpr (.inl e); rw [hv] at this; cases this
     ·have := (hk z).mpr (.inr e); rw [hv] at this; cases this
    refine iteF ?_
    have hil : i < ys.length := (List.getElem?_eq_some_iff.mp hi).1
    refine ⟨_, rfl, _, rfl, p, _, rfl, DPut.k (k := Sum.inl z) hd (small1000 (by omega)), ?_⟩
    refine ⟨_, _, rfl, TX.Same.upd s2 hp, upd_same, ?_, fun x => ?_, fun j y hj hy => ?_⟩
    ·have := length_putK kvs (Sum.inl z : Key) (V.bl true)
     omega
    ·rw [valV_put]
     have et : ys.take (i + 1) = ys.take i ++ [.int z] := by rw [List.take_add_one, hi]; rfl
     rw [et]
     by_cases e : (Sum.inl x : Key) = Sum.inl z
     ·rw [if_pos e]; injection e with e; simp [e]
     ·rw [if_neg e, hk x]
      have : x ≠ z := fun q => e (by rw [q])
      simp [this]
    ·by_cases e : j = i
     ·subst e
      rw [hi] at hy; cases hy
      exact ⟨hc, fun q => hno.1 (by injection q), hno.2⟩
     ·exact hok j y (by omega) hy
   ·rintro σ H2 ⟨kvs, v, rfl, s2, _, _, _, hok⟩
    exact fin (fun i y hi => hok i y (List.getElem?_eq_some_iff.mp hi).1 hi) H2 s2
  ·exact ⟨_, rfl, _, _, _, _, _, rfl, ty_only, hty, hk, _, rfl, iteT (bad H (Same.refl H))⟩
end
section
variable {P : Program} {w : World} {K : PySem.W.Frag} {mg : Str → Option Value} {base : Heap} {t : Adr}
def LsK (H : Hp) (x : V) (ys : List V) : Prop := ∃ b, x = .ref b ∧ H b = some (.lst ys) ∧ (∀ y ∈ ys, Sc y) ∧ ys.length ≤ 100
def BadX (K : PySem.W.Frag) (H : Hp) (n : Int) (i : Nat) (x : V) : Prop := NotL K H x ∨ ∃ ys, LsK H x ys ∧ ¬ OkW i n ys
def BadC (K : PySem.W.Frag) (H : Hp) (v : V) : Prop := NotL K H v ∨ ∃ a xs, v = .ref a ∧ H a = some (.lst xs) ∧ xs.length ≤ 100 ∧ (∀ x ∈ xs, NotL K H x ∨ ∃ ys, LsK H x ys) ∧ (xs.length = 0 ∨ 6 < xs.length ∨ ∃ i x, xs[i]? = some x ∧ BadX K H xs.length i x)
theorem LsK.same {H H' : Hp} {x : V} {ys : List V} (h : LsK H x ys) (e : Same H H') : LsK H' x ys := let ⟨b, h1, h2, h3⟩ := h; ⟨b, h1, e _ _ h2, h3⟩
theorem BadX.same {H H' : Hp} {n : Int} {i : Nat} {x : V} (h : BadX K H n i x) (e : Same H H') : BadX K H' n i x := h.elim (fun z => .inl (z.same e)) fun ⟨ys, a, b⟩ => .inr ⟨ys, a.same e, b⟩
theorem BadC.same {H H' : Hp} {v : V} (h : BadC K H v) (e : Same H H') : BadC K H' v := by
 rcases h with h | ⟨a, xs, h1, h2, h3, h4, h5⟩
 ·exact .inl (h.same e)
 ·refine .inr ⟨a, xs, h1, e _ _ h2, h3, fun x hx => (h4 x hx).elim (fun z => .inl (z.same e)) fun ⟨ys, z⟩ => .inr ⟨ys, z.same e⟩, ?_⟩
  rcases h5 with h5 | h5 | ⟨i, x, hx, h5⟩
  ·exact .inl h5
  ·exact .inr (.inl h5)
  ·exact .inr (.inr ⟨i, x, hx, h5.same e⟩)
theorem NotL.nol {H : Hp} {x : V} {ys : List V} (h : NotL K H x) (l : LsK H x ys) : False := by
 obtain ⟨ty, hty, hk⟩ := h
 obtain ⟨b, rfl, hb, _⟩ := l
 cases hty with
 | lst q => rw [kit_list_list] at hk; cases hk
 | frz q => rw [kit_list_list] at hk; cases hk
 | tup q => rw [hb] at q; cases q
 | dK q => rw [hb] at q; cases q
 | dT q => rw [hb] at q; cases q
 | ins q => rw [hb] at q; cases q
theorem LsK.uniq {H : Hp} {x : V} {ys zs : List V} (a : LsK H x ys) (b : LsK H x zs) : ys = zs := by
 obtain ⟨p, rfl, h1, _⟩ := a
 obtain ⟨q, e, h2, _⟩ := b
 cases e
 rw [h1] at h2; cases h2; rfl
def xpLists (K : PySem.W.Frag) (X : Addr) : Sp := fun vs H _ E => ∃ v, vs = [v] ∧ BadC K H v ∧ ∀ H', Same H H' → E (.ref X) none H'
theorem xk_lists (T : Txt K mg t) : FnOk P w K mg base (TX.CX1 P w t.X_BadCamp) 3 t.check_lists t.fd_check_lists ["lists"] (xpLists K t.X_BadCamp) := by
 have S := sc_check_lists
 have X_check_wishes := xk_wishes (P := P) (w := w) (base := base) T
 have h_MOST_CAMPERS := T.mg_M
 refine fun_ok1 T.check_lists.fn S (fun vs H Q E h => ?_) (fun cdv A outer s H vs Q E hr h => ?_)
 ·obtain ⟨v, rfl, _⟩ := h; rfl
 ·obtain ⟨v, rfl, h, bad⟩ := h
  refine ⟨_, (pss_cons (ps_if (pt_not (pt_val (pe_callB TX.call_isinst (by rfl) T.b_isinstance TK.boot_isinstance (pa_cons (pv 0) (pa_cons (pe_bltn (v := .ty "list") (by rfl) T.b_list TK.boot_list (by rfl)) pa_nil))))) (pss_one (TX.ps_raise (C := t.X_BadCamp) PySem.F.excBase_ValueError (by decide) PySem.F.excBase_ValueError T.x_BadCamp rfl T.mg_BadCamp pe_str hr.hd)) pss_nil)
   (pss_cons (ps_if (pt_not (pt_chain op_le op_le pe_int (pe_callB call_len_seq (by rfl) T.b_len TK.boot_len (pa_cons (pv 0) pa_nil)) (pe_glob (v := .int 6) (by rfl) h_MOST_CAMPERS (by first | exact ⟨_, rfl⟩ | rfl)))) (pss_one (TX.ps_raise (C := t.X_BadCamp) PySem.F.excBase_ValueError (by decide) PySem.F.excBase_ValueError T.x_BadCamp rfl T.mg_BadCamp pe_str hr.hd)) pss_nil)
   (pss_one (ps_for PassesOwn.leaving rfl (TX.pi_enum rfl T.b_enumerate (pa_cons (pv 0) pa_nil)) (pg_tup rfl (pgs_cons (pg_name (i := 1) S.nd rfl (by first | exact Or.inl rfl | exact Or.inr rfl)) (pgs_cons (pg_name (i := 2) S.nd rfl (by first | exact Or.inl rfl | exact Or.inr rfl)) pgs_nil))) (pss_one (ps_expr (pe_call (k := 2) X_check_wishes hr (by rfl) T.check_wishes.mg T.check_wishes.fn.kp T.check_wishes.b .nil TX.passes1 (pa_cons (pv 1) (pa_cons (pv 2) (pa_cons (pe_callB call_len_seq (by rfl) T.b_len TK.boot_len (pa_cons (pv 0) pa_nil)) pa_nil)))))))))), ?_⟩
  rcases h with ⟨ty, hty, hk⟩ | ⟨a, xs, rfl, ha, hlen, hall, hbad⟩
  ·exact ⟨_, rfl, _, _, _, _, _, rfl, ty_only, hty, hk, _, rfl, iteT (bad H (Same.refl H))⟩
  refine ⟨_, rfl, _, _, _, _, _, rfl, ty_only, .lst ha, kit_list_list, _, rfl, iteF ?_⟩
  refine ⟨_, rfl, a, _, rfl, .inl (SqL.of ha), _, _, rfl, rfl, _, rfl, ?_⟩
  by_cases h0 : xs.length = 0
  ·exact iteFalse (decide_eq_false (by omega)) ⟨_, rfl, iteT (bad H (Same.refl H))⟩
  refine iteTrue (decide_eq_true (by omega)) ?_
  refine ⟨_, _, rfl, rfl, _, rfl, ?_⟩
  by_cases h6 : 6 < xs.length
  ·exact iteNotF (decide_eq_false (by omega)) (bad H (Same.refl H))
  refine iteNot (decide_eq_true (by omega)) ?_
  refine ⟨_, rfl, a, rfl, ⟨_, SqL.of ha⟩, for_enum (K := K) (a := a) (xs := xs) (fun i σ H2 => ∃ v u, σ = [some (.ref a), v, u] ∧ Same H H2 ∧ ∀ (j : Nat) x, j < i → xs[j]? = some x → ¬ BadX K H xs.length j x) ⟨none, none, rfl, Same.refl H, fun j x hj => absurd hj (Nat.not_lt_zero _)⟩ (fun i σ H2 _ ⟨_, _, _, s2, _⟩ => SqL.of (s2 _ _ ha)) ?_ ?_⟩
  ·rintro i x σ H2 p hi ⟨v, u, rfl, s2, hok⟩ hp
   have s3 : Same H (upd H2 p (.tup [.int (i : Nat), x])) := TX.Same.upd s2 (s2.free hp)
   refine ⟨p, _, rfl, SqT.of upd_same, rfl, _, _, rfl, _, _, rfl, rfl, ?_⟩
   refine ⟨_, rfl, _, rfl, _, rfl, a, _, rfl, .inl (SqL.of (s3 _ _ ha)), (i : Nat), xs.length, x, rfl, ?_⟩
   rcases hall x (List.mem_of_getElem? hi) with hn | ⟨ys, b, rfl, hb, hsc, hl⟩
   ·exact .inr ⟨hn.same s3, fun H4 s4 => bad H4 (s3.trans s4)⟩
   ·refine .inl ⟨b, ys, rfl, s3 _ _ hb, hsc, hl, fun o H4 s4 => ?_, fun _ H4 s4 => bad H4 (s3.trans s4)⟩
    refine ⟨_, _, rfl, s3.trans s4, fun j x hj hx => ?_⟩
    by_cases e : j = i
    ·subst e
     rw [hi] at hx; cases hx
     rintro (z | ⟨zs, z, no⟩)
     ·exact z.nol ⟨b, rfl, hb, hsc, hl⟩
     ·have := z.uniq ⟨b, rfl, hb, hsc, hl⟩
      subst this
      exact no o
    ·exact hok j x (by omega) hx
  ·rintro σ H2 ⟨v, u, rfl, s2, hok⟩
   rcases hbad with h | h | ⟨i, x, hx, h⟩
   ·exact absurd h h0
   ·exact absurd h h6
   ·exact absurd h (hok i x (List.getElem?_eq_some_iff.mp hx).1 hx)
def xpInit (K : PySem.W.Frag) (C X : Addr) : Sp := fun vs H _ E => ∃ (p dx : Addr) (v : V), vs = [.ref p, v] ∧ H p = some (.ins C dx []) ∧ BadC K H v ∧ ∀ H', Same H H' → E (.ref X) none H'
theorem xk_init (T : Txt K mg t) : FnOk P w K mg base (TX.CX1 P w t.X_BadCamp) 4 t.Camp___init__ t.fd_Camp___init__ ["self", "lists"] (xpInit K t.C t.X_BadCamp) := by
 have S := sc_Camp___init__
 have X_check_lists := xk_lists (P := P) (w := w) (base := base) T
 refine fun_ok1 T.Camp___init__.fn S (fun vs H Q E h => ?_) (fun cdv A outer s H vs Q E hr h => ?_)
 ·obtain ⟨p, dx, v, rfl, _⟩ := h; rfl
 ·obtain ⟨p, dx, v, rfl, hp, hB, bad⟩ := h
  refine ⟨_, (pss_cons (ps_expr (pe_call (k := 3) X_check_lists hr (by rfl) T.check_lists.mg T.check_lists.fn.kp T.check_lists.b .nil TX.passes1 (pa_cons (pv 1) pa_nil)))
   (pss_cons (ps_fld (pv 0) (pe_callB call_len_seq (by rfl) T.b_len TK.boot_len (pa_cons (pv 1) pa_nil)) rfl)
   (pss_one (ps_fld (pv 0) (TX.pe_comp (te := tCB (TX.rListOf K) (tCons (tVar 0) tNil)) ["wishes"] [none] rfl (pi_list (pv 1)) (fun _ _ _ _ _ => (pg_name (i := 0) (show (["wishes"] : List Str).Nodup by decide +kernel) rfl (by first | exact Or.inl rfl | exact Or.inr rfl))) (fun _ _ _ _ _ => TX.pts_nil) (fun _ _ _ _ _ => (pe_callTy TX.call_listOf (by rfl) T.b_list TK.boot_list (pa_cons (pv 0) pa_nil))) rfl (by decide +kernel) (by decide +kernel) (No := ["self", "lists"]) (sc := defScope s_Camp___init__) rfl rfl (by decide +kernel) rfl (by decide +kernel)) rfl)))), ?_⟩
  exact ⟨_, rfl, v, rfl, hB, bad⟩
end
section
variable {P : Program} {w : World} {K : PySem.W.Frag} {mg : Str → Option Value} {base : Heap} {t : Adr}
theorem fun_okN {x qual : Str} {st : Stmt} {f : Addr} {fd : FuncData} {N ps : List Str} {k : Nat} {sp : Sp} (F : Fun K x qual st f fd) (S : FnScope N ps (defScope st)) (len : ∀ vs H Q E, sp vs H Q E → vs.length = ps.length)
  (hbody : ∀ (cdv : Value) (A : Around) (outer : List Env) (s : Shared) (H : Hp) (vs : List V) (Q : VK) (E : XK), TX.RoomN k (A.deeper (envOfC qual (defScope st) s.heap.objs.size f cdv)) → sp vs H Q E →
   ∃ t, PSs (TX.cxN P w K mg base N qual (defScope st) f cdv A outer s H E) (defBody st) t ∧ t { nx := fun _ H' => Q .non H', rt := Q } (start N vs) H) : TX.FnN P w K mg base (k + 1) f fd ps sp := by
 obtain ⟨oc, od, kV, doc, pm, an, cdv, ct, osl, rfl, lk, hcd⟩ := F.ex
 exact TX.fnN_of lk hcd S len fun A outer s H vs Q E hr hsp => hbody cdv A outer s H vs Q E hr hsp
theorem fun_okb {lo : Bool} {C : Addr} {x qual : Str} {st : Stmt} {f : Addr} {fd : FuncData} {N ps : List Str} {k : Nat} {sp : Sp} (F : Fun K x qual st f fd) (S : FnScope N ps (defScope st)) (len : ∀ vs H Q E, sp vs H Q E → vs.length = ps.length)
  (hbody : ∀ (cdv : Value) (A : Around) (outer : List Env) (s : Shared) (H : Hp) (vs : List V) (Q : VK) (E : XK), Room k (A.deeper (envOfC qual (defScope st) s.heap.objs.size f cdv)) → sp vs H Q E →
   ∃ t, PSs (TX.cxb lo C P w K mg base N qual (defScope st) f cdv A outer s H E) (defBody st) t ∧ t { nx := fun _ H' => Q .non H', rt := Q } (start N vs) H) : FnOk P w K mg base (TX.CXb lo P w C) (k + 1) f fd ps sp := by
 obtain ⟨oc, od, kV, doc, pm, an, cdv, ct, osl, rfl, lk, hcd⟩ := F.ex
 exact fn_of lk hcd S len fun A outer s H vs Q E hr hsp => hbody cdv A outer s H vs Q E hr hsp
theorem sFldX_of {C : Addr} {ta tv : TE} {f : Str} {D : Ends} {σ : L2.St} {H : Hp} (h : tv σ H fun y H1 => ta σ H1 fun x H2 => ∃ e, x = .ref e ∧ H2 e = some (TX.excN C e) ∧ ∀ dx, H2 dx = none → dx ≠ e → D.nx σ (upd (upd H2 e (TX.excD C e dx)) dx (.xd [(f, y)]))) : TX.sFldX C ta tv f D σ H := h
def spBT (C : Addr) : Sp := fun vs H Q _ => ∃ (e : Addr) (v : V), vs = [.ref e, v] ∧ H e = some (TX.excN C e) ∧ ∀ H' dx, (∀ b o, H b = some o → b ≠ e → H' b = some o) → dx ≠ e → H' e = some (TX.excD C e dx) → H' dx = some (.xd [("row", v)]) → Q .non H'
theorem ok_btN (T : Txt K mg t) : TX.FnN P w K mg base 1 t.BadText___init__ t.fd_BadText___init__ ["self", "row"] (spBT t.X_BadText) := by
 have S := sc_BadText___init__
 refine fun_okN T.BadText___init__.fn S (fun vs H Q E h => ?_) (fun cdv A outer s H vs Q E hr h => ?_)
 ·obtain ⟨e, v, rfl, _⟩ := h; rfl
 ·obtain ⟨e, v, rfl, he, fin⟩ := h
  refine ⟨_, (pss_cons (ps_expr (TX.pe_supI T.ii_BadText (by rfl) T.mg_CampError T.sp_CampError T.rd_CampError T.fc_CampError (pa_cons (pv 0) (pa_cons pe_str pa_nil))))
   (pss_one (TX.ps_fldX T.ii_BadText T.sa_BadText T.nx_row rfl (pv 0) (pv 1) rfl))), ?_⟩
  refine ⟨_, rfl, e, _, rfl, (by show 1 ≤ 100; decide), he, ?_⟩
  dsimp only
  refine sFldX_of ⟨_, rfl, _, rfl, e, rfl, he, fun dx hdx hne => ?_⟩
  refine fin _ dx (fun b o hb nb => ?_) hne ?_ upd_same
  ·rw [upd_ne (ne_of_none hb hdx), upd_ne nb]
   exact hb
  ·rw [upd_ne (Ne.symm hne), upd_same]
inductive RdBad (K : PySem.W.Frag) (H : Hp) : V → Int → Prop where
 | no {v : V} {ty : Value} (h : TyOf K H v ty) (k : PySem.W.kitOne K ty (.type "str") = some false) : RdBad K H v 1
 | txt {z : Str} {d : Int} (hz : z.length ≤ 5000) (h : TT.Due (Txt.split z feed) d) (n : d ≠ 0) : RdBad K H (.str z) d
def xpRead (K : PySem.W.Frag) (X : Addr) : Sp := fun vs H _ E => ∃ (v : V) (d : Int), vs = [v] ∧ RdBad K H v d ∧ ∀ dx H', Same H H' → H' dx = some (.xd [("row", .int d)]) → E (.ref X) (some dx) H'
theorem raise_bt {C e : Addr} {d : Int} {H H1 : Hp} {E : XK} {X : XK} (bad : ∀ dx H', Same H H' → H' dx = some (.xd [("row", .int d)]) → E (.ref C) (some dx) H') (s1 : Same H H1) (he : H1 e = none) :
  spBT C [.ref e, .int d] (upd H1 e (TX.excN C e)) (fun v H2 => v = .non ∧ ∃ dx, H2 e = some (TX.excD C e dx) ∧ E (.ref C) (some dx) (TX.hide H2 e)) X := by
 refine ⟨e, .int d, rfl, upd_same, fun H2 dx hk hne he2 hx2 => ⟨rfl, dx, he2, bad dx _ (fun b o hb => ?_) (by rw [TX.hide_ne hne]; exact hx2)⟩⟩
 have h1 := s1 b o hb
 have nb : b ≠ e := ne_of_none h1 he
 rw [TX.hide_ne nb]
 exact hk b o (by rw [upd_ne nb]; exact h1) nb
theorem raise_btC {C e c : Addr} {d : Int} {H H1 : Hp} {E : XK} {X : XK} (bad : ∀ dx H', Same H H' → H' dx = some (.xd [("row", .int d)]) → E (.ref C) (some dx) H') (s1 : Same H H1) (hc : H1 c = some (TX.ctxO c)) (he : H1 e = none) :
  spBT C [.ref e, .int d] (upd H1 e (TX.excN C e)) (fun v H2 => v = .non ∧ ∃ dx, H2 c = some (TX.ctxO c) ∧ H2 e = some (TX.excD C e dx) ∧ E (.ref C) (some dx) (TX.hide H2 e)) X := by
 refine ⟨e, .int d, rfl, upd_same, fun H2 dx hk hne he2 hx2 => ⟨rfl, dx, ?_, he2, bad dx _ (fun b o hb => ?_) (by rw [TX.hide_ne hne]; exact hx2)⟩⟩
 ·have nc : c ≠ e := ne_of_none hc he
  exact hk c _ (by rw [upd_ne nc]; exact hc) nc
 ·have h1 := s1 b o hb
  have nb : b ≠ e := ne_of_none h1 he
  rw [TX.hide_ne nb]
  exact hk b o (by rw [upd_ne nb]; exact h1) nb
theorem bad_lists {H : Hp} {f : Addr} {rs : List Str} (hF : LL H f (TT.lsOf rs rs.length)) (ha : TT.AllTo rs rs.length) (x : ∃ l ∈ TT.lsOf rs rs.length, ∃ z ∈ l, (rs.length : Int) ≤ z) : BadC K H (.ref f) := by
 obtain ⟨xs, hf, r⟩ := hF
 have hl := r.length
 rw [TT.lsOf_length] at hl
 have h6 := ha.six
 have each : ∀ (i : Nat) v, xs[i]? = some v → ∃ l, (TT.lsOf rs rs.length)[i]? = some l ∧ LsK H v (l.map V.int) := fun i v hv => by
  obtain ⟨l, e, b, rfl, hb⟩ := Paired.at1 r hv
  have hi : i < rs.length := by have := (List.getElem?_eq_some_iff.mp e).1; rw [TT.lsOf_length] at this; exact this
  rw [TT.lsOf_at hi] at e
  obtain rfl := Option.some.inj e
  have ok := (ha.okl hi).1
  refine ⟨_, TT.lsOf_at hi, b, rfl, hb, fun y hy => ?_, by rw [List.length_map]; have := figs_len ok.fig ok.nd; omega⟩
  obtain ⟨z, _, rfl⟩ := List.mem_map.mp hy
  exact .int z
 refine .inr ⟨f, xs, rfl, hf, by omega, fun v hv => ?_, .inr (.inr ?_)⟩
 ·obtain ⟨i, hi⟩ := List.mem_iff_getElem?.mp hv
  obtain ⟨l, _, h⟩ := each i v hi
  exact .inr ⟨_, h⟩
 ·obtain ⟨l, hm, z, hz, hge⟩ := x
  obtain ⟨i, hi⟩ := List.mem_iff_getElem?.mp hm
  obtain ⟨v, hv, _⟩ := Paired.at2 r hi
  obtain ⟨l2, e2, h⟩ := each i v hv
  rw [hi] at e2
  obtain rfl := Option.some.inj e2
  refine ⟨i, v, hv, .inr ⟨_, h, fun o => ?_⟩⟩
  obtain ⟨j, hj⟩ := List.mem_iff_getElem?.mp hz
  have := (o j (.int z) (by rw [List.getElem?_map, hj]; rfl)).1
  have w : (decide (0 ≤ z) && decide (z < (xs.length : Int))) = true := this
  rw [Bool.and_eq_true, decide_eq_true_eq, decide_eq_true_eq] at w
  omega
set_option maxHeartbeats 1000000 in
theorem x6_read (T : Txt K mg t) : FnOk P w K mg base (TX.CXb true P w t.X_BadText) 6 t.read t.fd_read ["text"] (xpRead K t.X_BadText) := by
 have S := sc_read
 have G_is_row := ok_is_rowX (P := P) (w := w) (base := base) T
 have G_btN := ok_btN (P := P) (w := w) (base := base) T
 have G_bt := G_btN.ok
 have X_init := xk_init (P := P) (w := w) (base := base) T
 refine fun_okb T.read.fn S (fun vs H Q E h => ?_) (fun cdv A outer s H vs Q E hr h => ?_)
 ·obtain ⟨v, d, rfl, _⟩ := h; rfl
 ·obtain ⟨v, d, rfl, hB, bad⟩ := h
  refine ⟨_, (pss_cons (ps_if (pt_not (pt_val (pe_callB TX.call_isinst (by rfl) T.b_isinstance TK.boot_isinstance (pa_cons (pv 0) (pa_cons (pe_bltn (v := .ty "str") (by rfl) T.b_str TK.boot_str (by rfl)) pa_nil))))) (pss_one (TX.ps_raiseI (k := 4) T.ii_BadText T.fn_BadText (G_bt.mono (by decide)) hr T.BadText___init__.b rfl T.mg_BadText pe_int)) pss_nil)
   (pss_cons (ps_set (i := 1) S.nd rfl (by first | exact Or.inl rfl | exact Or.inr rfl) (pe_lst pa_nil))
   (pss_cons (ps_for PassesOwn.leaving rfl (TX.pi_enum rfl T.b_enumerate (pa_cons (pe_bm PySem.F.plainAttrs_str PySem.F.slot_str_split PySem.F.type_str_split TX.mt_split (pv 0) (pa_cons pe_str pa_nil)) pa_nil)) (pg_tup rfl (pgs_cons (pg_name (i := 2) S.nd rfl (by first | exact Or.inl rfl | exact Or.inr rfl)) (pgs_cons (pg_name (i := 3) S.nd rfl (by first | exact Or.inl rfl | exact Or.inr rfl)) pgs_nil))) (pss_cons (ps_set (i := 4) S.nd rfl (by first | exact Or.inl rfl | exact Or.inr rfl) (pe_bm PySem.F.plainAttrs_str PySem.F.slot_str_split PySem.F.type_str_split TX.mt_split (pv 3) (pa_cons pe_str pa_nil)))
   (pss_cons (ps_if (pt_not (pt_val (pe_call (k := 5) (G_is_row.mono (by decide)) hr (by rfl) T.is_row.mg T.is_row.fn.kp T.is_row.b .nil pass0 (pa_cons (pv 4) (pa_cons (pv 2) pa_nil))))) (pss_one (TX.ps_raiseI (k := 4) T.ii_BadText T.fn_BadText (G_bt.mono (by decide)) hr T.BadText___init__.b rfl T.mg_BadText (pe_op op_add (pv 2) pe_int))) pss_nil)
   (pss_one (ps_expr (pe_bm PySem.F.plainAttrs_list PySem.F.slot_list_append PySem.F.type_list_append mt_append (pv 1) (pa_cons (TX.pe_comp ["part"] [none] rfl (pi_list (pe_slice sl_list (pv 4) (po_some pe_int) po_none)) (fun _ _ _ _ _ => (pg_name (i := 0) (show (["part"] : List Str).Nodup by decide +kernel) rfl (by first | exact Or.inl rfl | exact Or.inr rfl))) (fun _ _ _ _ _ => TX.pts_nil) (fun _ _ _ _ _ => (pe_callTy TX.call_intS (by rfl) T.b_int TK.boot_int (pa_cons (pv 0) pa_nil))) rfl (by decide +kernel) (by decide +kernel) (No := ["text", "lists", "place", "row", "parts"]) (sc := defScope s_read) rfl rfl (by decide +kernel) rfl (by decide +kernel)) pa_nil)))))))
   (pss_one (TX.ps_tryR (k := 1) T.x_BadCamp (by decide) (by rfl) T.mg_BadCamp T.ii_BadText T.fn_BadText G_btN (TX.RoomN.of (hr.mono (by decide))) T.BadText___init__.b (by rfl) T.mg_BadText (fun pn E2 => (pss_one (ps_ret (TX.pe_makeS (k := 4) T.mk_Camp X_init hr (by rfl) T.mg_Camp T.Camp___init__.b .nil TX.pass2S (pa_cons (pv 1) pa_nil))))) (fun e xe => (pe_op op_add (pe_callB TX.call_lenX (by rfl) T.b_len TK.boot_len (pa_cons (pv 1) pa_nil)) pe_int))))))), ?_⟩
  cases hB with
  | no hty hk => exact ⟨_, rfl, _, _, _, _, _, rfl, ty_only, hty, hk, _, rfl, iteT fun e he => raise_bt bad (Same.refl H) he⟩
  | @txt z d hz hD hn0 =>
  have hzs : z.length ≤ sizeLine := Nat.le_trans hz (by decide)
  have hn : (Txt.split z feed).length ≤ z.length + 1 := by rw [feed_one]; exact TT.split_len z 10
  have hp : ∀ x ∈ Txt.split z feed, x.length ≤ 5000 := fun x hx => by
   rw [feed_one] at hx
   exact Nat.le_trans (TT.split_part hx) hz
  refine ⟨_, rfl, _, _, _, _, _, rfl, ty_only, .str _, kit_str_str, _, rfl, iteF ?_⟩
  refine ⟨Nat.zero_le _, fun f hf => ?_⟩
  have s1 : Same H (upd H f (.lst [])) := TX.Same.upd (Same.refl H) hf
  refine ⟨_, rfl, rfl, z, feed, rfl, rfl, by decide +kernel, hzs, Nat.le_trans hn (Nat.le_trans (Nat.succ_le_succ hz) (by decide)), fun rl hrl => ?_⟩
  generalize Txt.split z feed = rs at hD hn hp hrl
  have nfr : f ≠ rl := ne_of_none upd_same hrl
  refine ⟨rl, rfl, ⟨_, SqL.of upd_same⟩, for_enum (K := K) (a := rl) (xs := rs.map V.str) (fun k σ H2 => ∃ v2 v3 v4, σ = [some (.str z), some (.ref f), v2, v3, v4] ∧ Same H H2 ∧ H2 rl = some (.lst (rs.map V.str)) ∧ LL H2 f (TT.lsOf rs k) ∧ TT.AllTo rs k)
   ⟨none, none, none, rfl, TX.Same.upd s1 (s1.free hrl), upd_same, ⟨[], upd_old upd_same hrl, .nil⟩, fun j hj => absurd hj (Nat.not_lt_zero _)⟩ (fun k σ H2 _ ⟨_, _, _, _, _, h, _⟩ => SqL.of h) ?_ ?_⟩
  ·rintro k y σ H2 tp hk ⟨v2, v3, v4, rfl, s2, hr2, hF2, ha⟩ htp
   have hkl : k < rs.length := by
    have := (List.getElem?_eq_some_iff.mp hk).1
    rw [List.length_map] at this
    exact this
   have h6 := ha.six
   have hy : y = .str (rs.getD k Str.empty) := by
    rw [List.getElem?_map, List.getElem?_eq_getElem hkl] at hk
    rw [List.getD_eq_getElem?_getD, List.getElem?_eq_getElem hkl]
    exact (Option.some.inj hk).symm
   subst hy
   have hrl5 := hp _ (getD_mem' hkl)
   have hrow : TT.rowAt rs k = TT.rowL k (TT.sg (rs.getD k Str.empty)) := rfl
   generalize rs.getD k Str.empty = row at hrl5 hrow htp
   have s3 : Same H2 (upd H2 tp (.tup [.int (k : Nat), .str row])) := TX.Same.upd (Same.refl _) htp
   refine ⟨tp, _, rfl, SqT.of upd_same, rfl, _, _, rfl, _, _, rfl, rfl, ?_⟩
   have hbn : (Txt.split row blank).length ≤ row.length + 1 := by rw [blank_eq]; exact TT.split_len row 32
   refine ⟨_, rfl, rfl, row, blank, rfl, rfl, by decide +kernel, Nat.le_trans hrl5 (by decide), Nat.le_trans hbn (Nat.le_trans (Nat.succ_le_succ hrl5) (by decide)), fun pl hpl => ?_⟩
   obtain ⟨p0, ps, hps⟩ : ∃ p0 ps, Txt.split row blank = p0 :: ps := by
    cases e : Txt.split row blank with
    | nil => exact absurd e (split_ne _ _)
    | cons a b => exact ⟨a, b, rfl⟩
   have hokp := okP_iff (k := k) (x := row)
   rw [hps] at hokp ⊢
   generalize upd H2 tp (.tup [.int (k : Nat), .str row]) = H3 at s3 hpl
   have s4 : Same H3 (upd H3 pl (.lst ((p0 :: ps).map V.str))) := TX.Same.upd (Same.refl _) hpl
   refine ⟨_, rfl, _, rfl, pl, (k : Int), p0, ps, rfl, upd_same, ⟨by omega, by omega⟩, fun b H5 s5 hb => ⟨_, rfl, ?_⟩⟩
   have hp5 := s5 _ _ (upd_same (H := H3) (a := pl) (o := .lst ((p0 :: ps).map V.str)))
   have s25 : Same H2 H5 := s3.trans (s4.trans s5)
   cases b with
   | false =>
    have hno : TT.rowAt rs k = none := by
     rw [hrow]
     cases e : TT.rowL k (TT.sg row) with
     | none => rfl
     | some l => exact absurd (hb.mpr (hokp.mpr (by rw [e]; rfl))) (by decide)
    have hd : d = (k : Int) + 1 := TT.due_one hD (.row hkl ha hno)
    subst hd
    exact iteT ⟨_, rfl, _, _, rfl, rfl, fun e he => raise_bt bad (s2.trans s25) he⟩
   | true =>
    refine iteF ?_
    obtain ⟨l, hl⟩ := Option.isSome_iff_exists.mp (hokp.mp (hb.mp rfl))
    have ok := (TT.row_iff.mp hl).1
    have hpp := (TT.parts_iff ok).mpr hl
    rw [hps] at hpp
    have hll := figs_len ok.fig ok.nd
    have hF5 := Of.same mI hF2 s25
    obtain ⟨fs, hf5, rf5⟩ := id hF5
    have hfl := rf5.length
    rw [TT.lsOf_length] at hfl
    refine ⟨_, rfl, .inl ⟨rfl, _, SqL.of hf5⟩, ?_⟩
    refine tCons_of ?_
    rw [hpp] at hp5
    have ec : cutV ((parts (k : Int) l).map V.str) (some 1) none = l.map fun x => V.str (dg x) := (cut1 _ _).trans (by rw [List.map_map]; rfl)
    refine mappedS (K := K) (l := l) (f := fun x => .str (dg x)) (g := V.int) (fun cp H1 => H5 cp = none ∧ H1 = upd H5 cp (.lst (l.map fun x => .str (dg x)))) (by omega) (fun cp H1 ⟨_, e⟩ => by subst e; exact SqL.of upd_same) (fun R z => ⟨_, rfl, 1, rfl, pl, _, rfl, SqL.of hp5, fun cp hcp => by rw [ec]; exact z cp _ ⟨hcp, rfl⟩⟩)
     (fun H1 x hx R z => ⟨_, rfl, x, rfl, ⟨by have := ok.fig x hx; omega, by have := ok.fig x hx; omega⟩, z⟩) ?_
    rintro cp H6 c ⟨hcp, rfl⟩ hc
    have s6 : Same H5 (upd H5 cp (.lst (l.map fun x => .str (dg x)))) := TX.Same.upd (Same.refl _) hcp
    generalize upd H5 cp (.lst (l.map fun x => V.str (dg x))) = H6 at s6 hc
    have s7 : Same H6 (upd H6 c (.lst (l.map V.int))) := TX.Same.upd (Same.refl _) hc
    have hf7 := s7 _ _ (s6 _ _ hf5)
    refine ⟨f, fs, _, rfl, rfl, hf7, small1000 (by omega), _, _, _, rfl, TX.Same.upd ((s2.trans s25).trans (s6.trans s7)) hf, upd_oth (s7 _ _ (s6 _ _ (s25 _ _ hr2))) nfr.symm, ?_, ha.succ (by rw [hrow, hl]; rfl)⟩
    rw [TT.lsOf_succ, hrow, hl]
    exact LL.push hf7 (Paired.impl (fun v d => mI _ _ v d (s6.trans s7)) rf5) upd_same (ne_of_none (s6 _ _ hf5) hc).symm
  ·rintro σ H2 ⟨v2, v3, v4, rfl, s2, hr2, hF2, ha⟩
   rw [List.length_map] at hF2 ha
   have hm : ∃ l ∈ TT.lsOf rs rs.length, ∃ z ∈ l, (rs.length : Int) ≤ z := by
    refine Classical.byContradiction fun no => hn0 (TT.due_one hD (.good ha fun l hl z hz => ?_))
    refine Classical.byContradiction fun nz => no ⟨l, hl, z, hz, by omega⟩
   have hd : d = (rs.length : Int) + 1 := TT.due_one hD (.many ha hm)
   obtain ⟨xs, hf2, rx⟩ := id hF2
   have hxl := rx.length
   rw [TT.lsOf_length] at hxl
   refine ⟨_, rfl, ?_⟩
   intro x dx hx hdx hne
   have s3 : Same H2 (upd (upd H2 dx (.own x)) x (.ins t.C dx [])) := TX.Same.upd (TX.Same.upd (Same.refl _) hdx) hx
   refine ⟨x, dx, .ref f, rfl, upd_same, (bad_lists hF2 ha hm).same s3, fun H4 s4 => fun c hc => ?_⟩
   have s5 : Same H4 (upd H4 c (TX.ctxO c)) := TX.Same.upd (Same.refl _) hc
   have hf5 := s5 _ _ (s4 _ _ (s3 _ _ hf2))
   refine ⟨_, rfl, f, _, rfl, .inl (SqL.of hf5), _, _, rfl, rfl, upd_same, fun e he => ?_⟩
   subst hd
   rw [hxl]
   exact raise_btC bad (s2.trans (s3.trans (s4.trans s5))) upd_same he
end
end Tp
namespace Tp
open PySem PySem.Spec PyProof.Rows L2 TX TM TK TS
seal PySem.Sem.wp
theorem _root_.TK.boot_ValueError : bootBuiltins "ValueError" = some (.type "ValueError") := by decide +kernel
section
variable {P : Program} {w : World} {K : PySem.W.Frag} {mg : Str → Option Value} {base : Heap} {t : Adr}
inductive Rf (K : PySem.W.Frag) (H : Hp) : V → Int → Prop where
 | bad {v : V} {d : Int} (h : RdBad K H v d) : Rf K H v d
 | good {z : Str} (hz : z.length ≤ 5000) (h : TT.Due (Txt.split z feed) 0) : Rf K H (.str z) 0
theorem due_good {z : Str} (h : TT.Due (Txt.split z feed) 0) : ∃ ls, Valid ls ∧ z = textS ls := by
 generalize hd : (0 : Int) = d at h
 cases h with
 | row => omega
 | many => omega
 | good a x => exact ⟨_, TT.due_valid (TT.split_pos z feed) a x, TT.text_eq a⟩
def spRefused (K : PySem.W.Frag) : Sp := fun vs H Q _ => ∃ (v : V) (d : Int), vs = [v] ∧ Rf K H v d ∧ ∀ H', Same H H' → Q (.int d) H'
set_option maxHeartbeats 1000000 in
theorem ok_refused (T : Txt K mg t) : FnOk P w K mg base CX0 7 t.law_refused t.fd_law_refused ["_law_text"] (spRefused K) := by
 have S := sc_law_refused
 have h_BadCamp := T.mg_BadCamp
 have h_BadPairs := T.mg_BadPairs
 have h_NoCamper := T.mg_NoCamper
 have h_NoneSteady := T.mg_NoneSteady
 have h_BadText := T.mg_BadText
 have G_read := ok_read (P := P) (w := w) (base := base) T
 have X_read := x6_read (P := P) (w := w) (base := base) T
 refine T.law_refused.fn.ok S (fun vs H Q E h => ?_) (fun cdv A outer s H vs Q E hr h => ?_)
 ·obtain ⟨v, d, rfl, _⟩ := h; rfl
 ·obtain ⟨v, d, rfl, hR, fin⟩ := h
  cases hR with
  | @good z hz hD =>
   obtain ⟨ls, hV, rfl⟩ := due_good hD
   refine ⟨_, (pss_cons (TX.ps_tryN (pss_one (ps_expr (pe_call (k := 6) G_read hr (by rfl) T.read.mg T.read.fn.kp T.read.b .nil pass0 (pa_cons (pv 0) pa_nil)))))
   (pss_one (ps_ret pe_int))), ?_⟩
   exact ⟨_, rfl, ls, rfl, hV, fun p H1 s1 _ => fin H1 s1⟩
  | bad hB =>
   refine ⟨_, (pss_cons (TX.ps_tryAs (lo := true) (C := t.X_BadText) (B := t.X_CampError) (i := 1) T.xc_BadText.kt T.kt_CampError T.be_BadText (by rfl) T.mg_CampError ⟨rfl, rfl⟩ rfl S.nd rfl rfl (fun pn E2 => (pss_one (ps_expr (pe_call (k := 6) X_read hr (by rfl) T.read.mg T.read.fn.kp T.read.b .nil TX.pass2 (pa_cons (pv 0) pa_nil))))) (fun e xe => (pss_cons (ps_set (i := 2) S.nd rfl (by first | exact Or.inl rfl | exact Or.inr rfl) (pe_lst (pa_cons (pe_callB TX.call_isXS (by rfl) T.b_isinstance TK.boot_isinstance (pa_cons (pv 1) (pa_cons (pe_glob (v := .ref t.X_BadCamp) (by rfl) h_BadCamp (by first | exact ⟨_, rfl⟩ | rfl)) pa_nil))) (pa_cons (pe_callB TX.call_isXS (by rfl) T.b_isinstance TK.boot_isinstance (pa_cons (pv 1) (pa_cons (pe_glob (v := .ref t.X_BadPairs) (by rfl) h_BadPairs (by first | exact ⟨_, rfl⟩ | rfl)) pa_nil))) (pa_cons (pe_callB TX.call_isXS (by rfl) T.b_isinstance TK.boot_isinstance (pa_cons (pv 1) (pa_cons (pe_glob (v := .ref t.X_NoCamper) (by rfl) h_NoCamper (by first | exact ⟨_, rfl⟩ | rfl)) pa_nil))) pa_nil)))))
   (pss_cons (ps_if (pw_or (pt_val (pe_callB TX.call_anyH (by rfl) T.b_any TK.boot_any (pa_cons (pv 2) pa_nil))) (pw_or (pt_val (pe_callB TX.call_isXS (by rfl) T.b_isinstance TK.boot_isinstance (pa_cons (pv 1) (pa_cons (pe_glob (v := .ref t.X_NoneSteady) (by rfl) h_NoneSteady (by first | exact ⟨_, rfl⟩ | rfl)) pa_nil)))) (pw_or1 (pt_not (pt_val (pe_callB TX.call_isXS (by rfl) T.b_isinstance TK.boot_isinstance (pa_cons (pv 1) (pa_cons (pe_glob (v := .ref t.X_BadText) (by rfl) h_BadText (by first | exact ⟨_, rfl⟩ | rfl)) pa_nil)))))))).pt (pss_one (ps_ret (pe_un un_neg pe_int))) pss_nil)
   (pss_one (ps_ret (pe_ifExp (pt_val (pe_callB TX.call_isXS (by rfl) T.b_isinstance TK.boot_isinstance (pa_cons (pv 1) (pa_cons (pe_bltn (v := .ty "ValueError") (by rfl) T.b_ValueError TK.boot_ValueError (by rfl)) pa_nil)))) (TX.pe_fldX T.ii_BadText T.xc_BadText T.nx_row (pv 1) rfl) (pe_un un_neg pe_int))))))))
   (pss_one (ps_ret pe_int))), ?_⟩
   refine ⟨_, rfl, v, d, rfl, hB, fun dx H1 s1 hdx => fun ex σ' cx hex hl hcx => ?_⟩
   obtain ⟨a0, a1, a2, rfl⟩ : ∃ a0 a1 a2, σ' = [a0, a1, a2] := by
    match σ', hl with
    | [a0, a1, a2], _ => exact ⟨a0, a1, a2, rfl⟩
   have s2 : Same H1 (upd H1 ex (TX.excO t.X_BadText ex (some dx) cx)) := TX.Same.upd (Same.refl _) hex
   have he : upd H1 ex (TX.excO t.X_BadText ex (some dx) cx) ex = some (TX.excO t.X_BadText ex (some dx) cx) := upd_same
   have hdx2 := s2 _ _ hdx
   have hcx2 : TX.CtxAt (upd H1 ex (TX.excO t.X_BadText ex (some dx) cx)) ex cx := hcx.at hex
   generalize upd H1 ex (TX.excO t.X_BadText ex (some dx) cx) = H2 at s2 he hdx2 hcx2
   refine ⟨_, rfl, ex, _, _, _, _, _, _, rfl, ref_only, he, T.xc_BadText, T.kx_BadText_BadCamp, _, rfl, ex, _, _, _, _, _, _, rfl, ref_only, he, T.xc_BadText, T.kx_BadText_BadPairs, _, rfl, ex, _, _, _, _, _, _, rfl, ref_only, he, T.xc_BadText, T.kx_BadText_NoCamper, (by show 3 ≤ sizeLine; decide), fun p hp => ?_⟩
   have s3 : Same H2 (upd H2 p (.lst [.bl false, .bl false, .bl false])) := TX.Same.upd (Same.refl _) hp
   have he3 := s3 _ _ he
   have hdx3 := s3 _ _ hdx2
   have hcx3 : TX.CtxAt (upd H2 p (.lst [.bl false, .bl false, .bl false])) ex cx := hcx2.imp id fun ⟨c, e1, e2, e3⟩ => ⟨c, e1, e2, s3 _ _ e3⟩
   have hp3 : upd H2 p (.lst [.bl false, .bl false, .bl false]) p = some (.lst ([false, false, false].map V.bl)) := upd_same
   generalize upd H2 p (.lst [.bl false, .bl false, .bl false]) = H3 at s3 he3 hdx3 hcx3 hp3
   refine ⟨_, rfl, p, [false, false, false], _, _, cx, rfl, SqL.of hp3, he3, hcx3, _, rfl, iteFalse rfl ?_⟩
   refine ⟨_, rfl, ex, _, _, _, _, _, _, rfl, ref_only, he3, T.xc_BadText, T.kx_BadText_NoneSteady, _, rfl, iteFalse rfl ?_⟩
   refine ⟨_, rfl, ex, _, _, _, _, _, _, rfl, ref_only, he3, T.xc_BadText, T.kx_BadText_BadText, _, rfl, iteFalse rfl ?_⟩
   refine ⟨_, rfl, ex, _, _, _, _, _, _, rfl, ty_only, he3, T.xc_BadText, T.kv_BadText, _, rfl, iteT ?_⟩
   exact ⟨_, rfl, ex, dx, cx, _, _, rfl, he3, hdx3, rfl, fin H3 (s1.trans (s2.trans s3))⟩
def spRight : Sp := fun vs H Q _ => ∃ z : Str, vs = [.str z] ∧ z.length ≤ 5000 ∧ ∀ H', Same H H' → Q (.bl true) H'
theorem ok_right (T : Txt K mg t) : FnOk P w K mg base CX0 8 t.law_right t.fd_law_right ["_law_text"] spRight := by
 have S := sc_law_right
 have G_law_due := ok_due (P := P) (w := w) (base := base) T
 have G_law_refused := ok_refused (P := P) (w := w) (base := base) T
 have G_written := ok_written (P := P) (w := w) (base := base) T
 have G_read := ok_read (P := P) (w := w) (base := base) T
 refine T.law_right.fn.ok S (fun vs H Q E h => ?_) (fun cdv A outer s H vs Q E hr h => ?_)
 ·obtain ⟨z, rfl, _⟩ := h; rfl
 ·obtain ⟨z, rfl, hz, fin⟩ := h
  refine ⟨_, (pss_cons (ps_set (i := 1) S.nd rfl (by first | exact Or.inl rfl | exact Or.inr rfl) (pe_call (k := 7) (G_law_due.mono (by decide)) hr (by rfl) T.law_due.mg T.law_due.fn.kp T.law_due.b .nil pass0 (pa_cons (pv 0) pa_nil)))
   (pss_cons (ps_if (pt_cmpR op_ne (pe_call (k := 7) G_law_refused hr (by rfl) T.law_refused.mg T.law_refused.fn.kp T.law_refused.b .nil pass0 (pa_cons (pv 0) pa_nil)) (pv 1) (nomark _)) (pss_one (ps_ret pe_bl)) pss_nil)
   (pss_one (ps_ret (pe_or (pe_cmpR op_gt (pv 1) pe_int (nomark _)) (pe_one (pe_cmpR op_eq (pe_call (k := 7) (G_written.mono (by decide)) hr (by rfl) T.written.mg T.written.fn.kp T.written.b .nil pass0 (pa_cons (pe_call (k := 7) (G_read.mono (by decide)) hr (by rfl) T.read.mg T.read.fn.kp T.read.b .nil pass0 (pa_cons (pv 0) pa_nil)) pa_nil)) (pv 0) (nomark _)))))))), ?_⟩
  refine ⟨_, rfl, z, rfl, hz, fun d H1 s1 hD => ?_⟩
  have hR : Rf K H1 (.str z) d := by
   by_cases h0 : d = 0
   ·subst h0; exact .good hz hD
   ·exact .bad (.txt hz hD h0)
  refine ⟨_, rfl, .str z, d, rfl, hR, fun H2 s2 => ⟨_, rfl, rfl, _, rfl, iteFalse (by simp) ?_⟩⟩
  refine ⟨_, rfl, _, _, rfl, rfl, _, rfl, iteB (fun e => fin H2 (s1.trans s2)) (fun e => ?_)⟩
  have e : ¬ 0 < d := of_decide_eq_false e
  have h0 : d = 0 := by
   cases hD with
   | row => omega
   | many => omega
   | good => rfl
  subst h0
  obtain ⟨ls, hV, ez⟩ := due_good hD
  refine ⟨_, rfl, ls, by rw [ez]; rfl, hV, fun p H3 s3 hC => ⟨p, ls, rfl, hC, hV, fun H4 s4 => ⟨_, rfl, rfl, ?_⟩⟩⟩
  rw [← ez, show decide (V.str z = V.str z) = true by simp]
  exact fin H4 (s1.trans (s2.trans (s3.trans s4)))
end
section
variable {P : Program} {w : World} {K : PySem.W.Frag} {mg : Str → Option Value} {base : Heap} {t : Adr}
def spOther : Sp := fun vs H Q _ => ∃ (z : Str) (c k : Int), vs = [.str z, .int c, .int k] ∧ z.length ≤ 1000 ∧ ∀ (y : Str) H', Same H H' → y.length ≤ 5000 → Q (.str y) H'
theorem pick_at {y : Str} {i : Int} (h0 : 0 ≤ i) (h1 : i < (y.length : Int)) : ∃ c, atI y.cps.toList i = some c := by
 have hz : (TT.sg y).length = y.length := Array.length_toList
 have hk : i.toNat < (TT.sg y).length := by omega
 exact ⟨_, atI_of h0 (List.getElem?_eq_getElem hk)⟩
theorem sz5 {n : Nat} (h : n ≤ 5000) : n ≤ sizeLine := Nat.le_trans h (by decide)
theorem sign_len : (("0123456789:- x" : Str) ++ ("\t\n+" : Str)).length = 17 := by decide +kernel
set_option maxHeartbeats 1000000 in
theorem ok_other (T : Txt K mg t) : FnOk P w K mg base CX0 2 t.law_other t.fd_law_other ["_law_text", "_law_cell", "_law_k"] spOther := by
 have S := sc_law_other
 have G_law_draw := ok_draw (P := P) (w := w) (base := base) T
 refine T.law_other.fn.ok S (fun vs H Q E h => ?_) (fun cdv A outer s H vs Q E hr h => ?_)
 ·obtain ⟨z, c, k, rfl, _⟩ := h; rfl
 ·obtain ⟨z, c, k, rfl, hz, fin⟩ := h
  have hzs : z.length ≤ sizeLine := sz hz
  refine ⟨_, (pss_cons (ps_set (i := 3) S.nd rfl (by first | exact Or.inl rfl | exact Or.inr rfl) (pe_call (k := 1) G_law_draw hr (by rfl) T.law_draw.mg T.law_draw.fn.kp T.law_draw.b .nil pass0 (pa_cons (pv 1) (pa_cons (pv 2) (pa_cons (pe_op op_add (pe_callB call_len_str (by rfl) T.b_len TK.boot_len (pa_cons (pv 0) pa_nil)) pe_int) pa_nil)))))
   (pss_cons (ps_set (i := 4) S.nd rfl (by first | exact Or.inl rfl | exact Or.inr rfl) (pe_op op_add_str pe_str pe_str))
   (pss_cons (ps_set (i := 4) S.nd rfl (by first | exact Or.inl rfl | exact Or.inr rfl) (pe_ix ix_str (pv 4) (pe_call (k := 1) G_law_draw hr (by rfl) T.law_draw.mg T.law_draw.fn.kp T.law_draw.b .nil pass0 (pa_cons (pv 1) (pa_cons (pe_op op_add (pv 2) pe_int) (pa_cons (pe_callB call_len_str (by rfl) T.b_len TK.boot_len (pa_cons (pv 4) pa_nil)) pa_nil)))) (fun _ _ => rfl)))
   (pss_cons (ps_set (i := 5) S.nd rfl (by first | exact Or.inl rfl | exact Or.inr rfl) (pe_call (k := 1) G_law_draw hr (by rfl) T.law_draw.mg T.law_draw.fn.kp T.law_draw.b .nil pass0 (pa_cons (pv 1) (pa_cons (pe_op op_add (pv 2) pe_int) (pa_cons pe_int pa_nil)))))
   (pss_cons (ps_if (pt_cmpR op_eq (pv 5) pe_int (nomark _)) (pss_one (ps_ret (pe_op op_add_str (pe_op op_add_str (pe_slice TX.sl_str (pv 0) po_none (po_some (pv 3))) (pv 4)) (pe_slice TX.sl_str (pv 0) (po_some (pv 3)) po_none)))) pss_nil)
   (pss_one (ps_ret (pe_op op_add_str (pe_op op_add_str (pe_slice TX.sl_str (pv 0) po_none (po_some (pv 3))) (pe_ix ix_list (pe_lst (pa_cons pe_str (pa_cons (pv 4) pa_nil))) (pe_op op_sub (pv 5) pe_int) (fun _ _ => rfl))) (pe_slice TX.sl_str (pv 0) (po_some (pe_op op_add (pv 3) pe_int)) po_none))))))))), ?_⟩
  refine ⟨_, rfl, _, rfl, _, rfl, z, rfl, hzs, _, _, rfl, rfl, c, k, _, rfl, by omega, fun a H1 a0 a1 s1 => ?_⟩
  refine ⟨_, _, rfl, rfl, sz (by decide +kernel), ?_⟩
  refine ⟨_, rfl, _, rfl, _, rfl, _, _, rfl, rfl, _, rfl, _, rfl, sz (by rw [sign_len]; decide), c, k + 3, _, rfl, by rw [sign_len]; decide, fun b H2 b0 b1 s2 => ?_⟩
  obtain ⟨g, hg⟩ := pick_at b0 b1
  refine ⟨_, b, g, rfl, rfl, sz (by rw [sign_len]; decide), hg, ?_⟩
  refine ⟨_, rfl, _, rfl, _, _, rfl, rfl, c, k + 5, 3, rfl, by decide, fun m H3 m0 m1 s3 => ?_⟩
  have s13 := s1.trans (s2.trans s3)
  have hg1 : (⟨#[g]⟩ : Str).length = 1 := rfl
  have la := Txt.slice_le z none (some a)
  refine ⟨_, rfl, rfl, _, rfl, iteB (fun e => ?_) (fun e => ?_)⟩
  ·have lb := Txt.slice_le z (some a) none
   refine ⟨_, rfl, _, rfl, a, rfl, z, rfl, hzs, _, rfl, _, _, rfl, rfl, sz5 (by rw [hg1]; omega), _, rfl, _, rfl, a, rfl, z, rfl, hzs, _, _, rfl, rfl, sz5 (by rw [Str.length_append, hg1]; omega), fin _ H3 s13 (by rw [Str.length_append, Str.length_append, hg1]; omega)⟩
  ·have lb := Txt.slice_le z (some (a + 1)) none
   have em : ¬ m = 0 := by rw [dec_V] at e; exact of_decide_eq_false e
   refine ⟨_, rfl, _, rfl, a, rfl, z, rfl, hzs, _, rfl, (by show 2 ≤ sizeLine; decide), fun p hp => ?_⟩
   have s4 := TX.Same.upd (o := .lst [.str Str.empty, .str ⟨#[g]⟩]) s13 (s13.free hp)
   obtain ⟨y, hy, hyl⟩ : ∃ y : Str, atI [V.str Str.empty, V.str ⟨#[g]⟩] (m - 1) = some (.str y) ∧ y.length ≤ 1 := by
    have : m = 1 ∨ m = 2 := by omega
    rcases this with rfl | rfl
    ·exact ⟨Str.empty, rfl, Nat.zero_le _⟩
    ·exact ⟨⟨#[g]⟩, rfl, Nat.le_refl _⟩
   refine ⟨_, rfl, _, _, rfl, rfl, p, _, _, _, rfl, rfl, SqL.of upd_same, hy, _, _, rfl, rfl, sz5 (by omega), _, rfl, _, rfl, _, _, rfl, rfl, _, rfl, z, rfl, hzs, _, _, rfl, rfl, sz5 (by rw [Str.length_append]; omega), fin _ _ s4 (by rw [Str.length_append, Str.length_append]; omega)⟩
end
end Tp
namespace Tp
open PySem PySem.Spec PyProof.Rows L2 TX TM TK TS
seal PySem.Sem.wp
section
variable {P : Program} {w : World} {K : PySem.W.Frag} {mg : Str → Option Value} {base : Heap} {t : Adr}
def Few (H : Hp) (p : Addr) (n : Nat) : Prop := ∃ zs : List Str, H p = some (.lst (zs.map V.str)) ∧ zs.length ≤ n ∧ ∀ z ∈ zs, z.length ≤ 5000
theorem Few.same {H H' : Hp} {p : Addr} {n : Nat} (h : Few H p n) (s : Same H H') : Few H' p n := let ⟨zs, a, b⟩ := h; ⟨zs, s _ _ a, b⟩
def RS (σ : L2.St) (ta : TA) (n : Nat) : Prop := ∀ (H : Hp) (Q : List V → Hp → Prop), (∀ zs : List Str, zs.length = n → (∀ z ∈ zs, z.length ≤ 5000) → Q (zs.map V.str) H) → ta σ H Q
theorem rs_nil {σ : L2.St} : RS σ tNil 0 := fun H Q q => q [] rfl fun z hz => (nomatch hz)
theorem rs_cons {σ : L2.St} {te : TE} {ta : TA} {n : Nat} (h : ∀ (H : Hp) (R : VK), (∀ z : Str, z.length ≤ 5000 → R (.str z) H) → te σ H R) (r : RS σ ta n) : RS σ (tCons te ta) (n + 1) := fun H Q q =>
 h H _ fun z hz => r H _ fun zs hl hs => q (z :: zs) (by rw [List.length_cons, hl]) fun y hy => (List.mem_cons.mp hy).elim (fun e => e ▸ hz) (hs y)
theorem rs_c {σ : L2.St} {z : Str} (hz : z.length ≤ 5000) : ∀ (H : Hp) (R : VK), (∀ z : Str, z.length ≤ 5000 → R (.str z) H) → tC (.str z) σ H R := fun H R q => q z hz
theorem rs_big {σ : L2.St} : ∀ (H : Hp) (R : VK), (∀ z : Str, z.length ≤ 5000 → R (.str z) H) → tOp (fun x y H Q => ∃ i j, x = .str i ∧ y = .str j ∧ i.length + j.length ≤ sizeLine ∧ Q (.str (i ++ j)) H) (tC (.str "0: ")) (tOp TX.rMulS (tC (.str "1")) (tC (.int 4000))) σ H R := fun H R q => by
 have e1 : ("1" : Str).length = 1 := by decide +kernel
 have e3 : ("0: " : Str).length = 3 := by decide +kernel
 refine ⟨"1", 4000, rfl, rfl, by decide, by decide, by rw [e1]; decide, by rw [e1]; decide, fun r hr => ⟨_, r, rfl, rfl, ?_, q _ ?_⟩⟩
 ·rw [hr, e1, e3]; decide
 ·rw [Str.length_append, hr, e1, e3]; decide
theorem few_lst {σ : L2.St} {ta : TA} {n : Nat} {H : Hp} {Q : VK} (r : RS σ ta n) (hn : n ≤ 100) (q : ∀ p H', Same H H' → Few H' p n → Q (.ref p) H') : tLst ta σ H Q :=
 r H _ fun zs hl hz => ⟨by rw [List.length_map, hl]; exact Nat.le_trans hn (by decide), fun p hp => q p _ (TX.Same.upd (Same.refl H) hp) ⟨zs, upd_same, by omega, hz⟩⟩
theorem few_app {H : Hp} {l b : Addr} {n m : Nat} {Q : VK} (f : Few H l n) (g : Few H b m) (hn : n + m ≤ 100) (q : ∀ p H', Same H H' → Few H' p (n + m) → Q (.ref p) H') : rCat (.ref l) (.ref b) H Q := by
 obtain ⟨zs, h1, h2, h3⟩ := f
 obtain ⟨ys, g1, g2, g3⟩ := g
 refine ⟨l, b, _, _, rfl, rfl, h1, g1, by rw [List.length_map, List.length_map]; exact Nat.le_trans (show zs.length + ys.length ≤ 100 by omega) (by decide), fun p hp => q p _ (TX.Same.upd (Same.refl H) hp) ⟨zs ++ ys, by rw [upd_same, List.map_append], by rw [List.length_append]; omega, fun z hz => (List.mem_append.mp hz).elim (h3 z) (g3 z)⟩⟩
theorem few_cat {σ : L2.St} {i : Nat} {l : Addr} {ta : TA} {n m : Nat} {H : Hp} {Q : VK} (hv : σ[i]? = some (some (.ref l))) (f : Few H l n) (r : RS σ ta m) (hn : n + m ≤ 100) (q : ∀ p H', Same H H' → Few H' p (n + m) → Q (.ref p) H') : tOp rCat (tVar i) (tLst ta) σ H Q :=
 ⟨_, hv, few_lst r (by omega) fun b H1 s1 g => few_app (f.same s1) g hn fun p H2 s2 h => q p H2 (s1.trans s2) h⟩
theorem set_of {i : Nat} {te : TE} {D : Ends} {σ : L2.St} {H : Hp} (h : te σ H fun x H1 => D.nx (σ.set i (some x)) H1) : tAsg te (gName i) D σ H := h
abbrev ForW (K : PySem.W.Frag) (a : Addr) (g : TG) (tb : TS) (D : Ends) (σ : L2.St) (H : Hp) : Prop := ∃ W : Nat → Nat → L2.St → Hp → Prop, (∃ m, W 0 m σ H) ∧ ∀ i m σ H, W i m σ H →
 ((Itl K a).stop i H ∧ D.nx σ H) ∨ ((Itl K a).go i H ∧ ∃ N : L2.St → Hp → Prop, (∀ σ' H', N σ' H' → ∃ m', m' < m ∧ W (i + 1) m' σ' H') ∧ ∀ x H', (Itl K a).yld i H x H' → g x σ H' fun σ2 H2 => tb { D with nx := N, ct := N, bk := D.nx } σ2 H2)
theorem forFew {te : TE} {n : Nat} {σ : L2.St} {H : Hp} {g : TG} {tb : TS} {D : Ends} (h : ∀ R : VK, (∀ p H', Same H H' → Few H' p n → R (.ref p) H') → te σ H R) (q : ∀ (p : Addr) (zs : List Str) (H' : Hp), Same H H' → H' p = some (.lst (zs.map V.str)) → (∀ z ∈ zs, z.length ≤ 5000) → ForW K p g tb D σ H') : tFor (iList K te) g tb D σ H :=
 h _ fun p H1 s ⟨zs, e, _, hz⟩ => ⟨p, rfl, ⟨_, SqL.of e⟩, q p zs H1 s e hz⟩
theorem strsR {H : Hp} {σ : L2.St} {ta : TA} {te : TE} {ixs : List (Option Nat)} {rest : L2.St} {n : Nat} {Q : VK} (hn : n ≤ 100) (hσ : subSt σ ixs = none :: rest) (hta : ∀ R : List V → Hp → Prop, R [.int n] H → ta σ H R)
  (hte : ∀ k : Nat, k < n → ∀ (H1 : Hp) (R : VK), Same H H1 → (∀ (y : Str) H2, Same H1 H2 → y.length ≤ 5000 → R (.str y) H2) → te (some (.int (0 + (k : Int))) :: rest) H1 R) (q : ∀ c H', Same H H' → Few H' c n → Q (.ref c) H') :
  tComp ixs (iRng1 ta) (gName 0) tYes te σ H Q := by
 refine hta _ ⟨(n : Int), rfl, by omega, by omega, fun i m ys H1 => m = n - i ∧ i ≤ n ∧ Same H H1 ∧ ∃ zs : List Str, ys = zs.map V.str ∧ zs.length = i ∧ ∀ z ∈ zs, z.length ≤ 5000, ⟨_, rfl, Nat.zero_le _, Same.refl H, [], rfl, rfl, fun z hz => (nomatch hz)⟩, ?_⟩
 rintro i m ys H1 ⟨rfl, hi, s1, zs, rfl, hl, hz⟩
 by_cases hlt : i < n
 ·refine .inr ⟨hlt, small1000 (by rw [List.length_map]; omega), fun x H' y => ?_⟩
  obtain ⟨rfl, rfl⟩ := y
  rw [hσ]
  refine ⟨Kps.own, ?_⟩
  refine yes_if (hte i hlt _ _ s1 fun y H2 s2 hy => ⟨n - (i + 1), by omega, rfl, hlt, s1.trans s2, zs ++ [y], by rw [List.map_append]; rfl, by rw [List.length_append, hl]; rfl, fun z hz' => (List.mem_append.mp hz').elim (hz z) fun e => by rw [List.mem_singleton.mp e]; exact hy⟩)
 ·have e : i = n := by omega
  subst e
  exact .inl ⟨Nat.le_refl _, fun p hp => q p _ (TX.Same.upd s1 (s1.free hp)) ⟨zs, upd_same, by omega, hz⟩⟩
theorem kit_non_str : PySem.W.kitOne K (.type "NoneType") (.type "str") = some false := by rfl
theorem kit_int_str : PySem.W.kitOne K (.type "int") (.type "str") = some false := by rfl
theorem kit_bool_str : PySem.W.kitOne K (.type "bool") (.type "str") = some false := by rfl
theorem kit_list_str : PySem.W.kitOne K (.type "list") (.type "str") = some false := by rfl
theorem Rf.same {H H' : Hp} {v : V} {d : Int} (h : Rf K H v d) (s : Same H H') : Rf K H' v d := by
 cases h with
 | good a b => exact .good a b
 | bad h =>
  cases h with
  | no a b => exact .bad (.no (TyOf.same a s) b)
  | txt a b c => exact .bad (.txt a b c)
theorem ones {H : Hp} {σ : L2.St} {tl : TE} {n : Nat} {Q : VK} (hn : n ≤ 100) (htl : ∀ R : VK, (∀ l xs H1, H1 l = some (.lst xs) → xs.length = n → (∀ x ∈ xs, Rf K H1 x 1) → R (.ref l) H1) → tl σ H R)
  (q : ∀ c H', H' c = some (.lst ((List.replicate n (1 : Int)).map V.int)) → Q (.ref c) H') : tComp [none] (iList K tl) (gName 0) tYes (tCall (spRefused K) [] E0 (tCons (tVar 0) tNil)) σ H Q := by
 refine htl _ fun l xs H1 hl hxn hx => ⟨l, rfl, ⟨_, SqL.of hl⟩, fun i m ys H2 => m = xs.length - i ∧ i ≤ xs.length ∧ ys = (List.replicate i (1 : Int)).map V.int ∧ Same H1 H2, ⟨_, rfl, Nat.zero_le _, rfl, Same.refl _⟩, ?_⟩
 rintro i m ys H2 ⟨rfl, hi, rfl, s2⟩
 by_cases hlt : i < xs.length
 ·refine .inr ⟨⟨_, xs[i], SqL.of (s2 _ _ hl), by simp [hlt]⟩, small1000 (by simp; omega), fun x H' y => ?_⟩
  obtain ⟨rfl, y⟩ := y
  have hxi := y _ (SqL.of (s2 _ _ hl))
  refine ⟨Kps.own, ?_⟩
  refine yes_if ⟨_, rfl, x, 1, rfl, (hx x (List.mem_of_getElem? hxi)).same s2, fun H3 s3 => ⟨xs.length - (i + 1), by omega, rfl, hlt, ?_, s2.trans s3⟩⟩
  rw [List.replicate_succ', List.map_append]
  rfl
 ·have e : i = xs.length := by omega
  subst e
  exact .inl ⟨⟨_, SqL.of (s2 _ _ hl), Nat.le_refl _⟩, fun c hc => q c _ (by rw [upd_same, hxn])⟩
theorem camp_of {C : Addr} {ta : TA} {σ : L2.St} {H : Hp} {Q : VK} {E : XK} (h : ∀ R : List V → Hp → Prop, (∀ b ls H1, Same H H1 → LL H1 b ls → Valid ls → R [.ref b] H1) → ta σ H R) (fin : ∀ x ls H', Same H H' → CampAt C H' x ls → Valid ls → Q (.ref x) H') : tMake C (spInit C) [] E ta σ H Q :=
 h _ fun b ls H1 s1 hL hV => make_camp (Q := Q) hL hV fun x H2 _ s2 hC => fin x ls H2 (s1.trans s2) hC hV
def spLaw (K : PySem.W.Frag) : Sp := fun vs H Q _ => ∃ (a : Addr) (ns : List Int), vs = [.ref a] ∧ SqL K H a (ns.map V.int) ∧ ns.length ≤ 63 ∧ ∀ H', Q (.bl true) H'
set_option maxHeartbeats 4000000 in
theorem ok_law (T : Txt K mg t) : FnOk P w K mg base CX0 9 t.law t.fd_law ["_law_script"] (spLaw K) := by
 have S := sc_law
 have G_law_cell_at := ok_cell (P := P) (w := w) (base := base) T
 have G_law_lists := ok_llists (P := P) (w := w) (base := base) T
 have G_Camp := ok_init (P := P) (w := w) (base := base) T
 have G_written := ok_written (P := P) (w := w) (base := base) T
 have G_law_other := ok_other (P := P) (w := w) (base := base) T
 have G_law_right := ok_right (P := P) (w := w) (base := base) T
 have G_law_refused := ok_refused (P := P) (w := w) (base := base) T
 refine T.law.fn.ok S (fun vs H Q E h => ?_) (fun cdv A outer s H vs Q E hr h => ?_)
 ·obtain ⟨a, ns, rfl, _⟩ := h; rfl
 ·obtain ⟨a, ns, rfl, hS, hlen, fin⟩ := h
  have hu64 := hr.units
  refine ⟨_, (pss_cons (ps_set (i := 1) S.nd rfl (by first | exact Or.inl rfl | exact Or.inr rfl) (pe_call (k := 8) (G_written.mono (by decide)) hr (by rfl) T.written.mg T.written.fn.kp T.written.b .nil pass0 (pa_cons (pe_make (k := 7) T.mk_Camp (G_Camp.mono (by decide)) hr (by rfl) T.mg_Camp T.Camp___init__.b .nil pass0 (pa_cons (pe_call (k := 8) (G_law_lists.mono (by decide)) hr (by rfl) T.law_lists.mg T.law_lists.fn.kp T.law_lists.b .nil pass0 (pa_cons (pv 0) (pa_cons pe_int pa_nil))) pa_nil)) pa_nil)))
   (pss_cons (ps_set (i := 2) S.nd rfl (by first | exact Or.inl rfl | exact Or.inr rfl) (pe_call (k := 8) (G_law_cell_at.mono (by decide)) hr (by rfl) T.law_cell_at.mg T.law_cell_at.fn.kp T.law_cell_at.b .nil pass0 (pa_cons (pv 0) (pa_cons pe_int pa_nil))))
   (pss_cons (ps_set (i := 3) S.nd rfl (by first | exact Or.inl rfl | exact Or.inr rfl) (TX.ExT.pe (.ls (.cons .str (.cons .str (.cons .str (.cons .str (.cons .str (.cons .str (.cons .str (.cons .str (.cons .str (.cons .str (.cons .str (.cons .str .nil)))))))))))))))
   (pss_cons (ps_set (i := 3) S.nd rfl (by first | exact Or.inl rfl | exact Or.inr rfl) (pe_op op_cat (pv 3) (TX.ExT.pe (.ls (.cons .str (.cons .str (.cons .str (.cons .str (.cons .str (.cons .str .nil))))))))))
   (pss_cons (ps_set (i := 3) S.nd rfl (by first | exact Or.inl rfl | exact Or.inr rfl) (pe_op op_cat (pv 3) (TX.ExT.pe (.ls (.cons .str (.cons .str (.cons .str (.cons .str .nil))))))))
   (pss_cons (ps_set (i := 3) S.nd rfl (by first | exact Or.inl rfl | exact Or.inr rfl) (pe_op op_cat (pv 3) (TX.ExT.pe (.ls (.cons .str (.cons .str (.cons .str .nil)))))))
   (pss_cons (ps_set (i := 3) S.nd rfl (by first | exact Or.inl rfl | exact Or.inr rfl) (pe_op op_cat (pv 3) (TX.ExT.pe (.ls (.cons .str (.cons .str (.cons (.bin (pe_op op_add_str pe_str (pe_op TX.op_mulS pe_str pe_int))) (.cons .str .nil))))))))
   (pss_cons (ps_for PassesOwn.never rfl (pi_list (pe_op op_cat (pe_op op_cat (pv 3) (pe_lst (pa_cons (pv 1) pa_nil))) (TX.pe_comp (te := tCall spOther [] E0 (tCons (tVar 1) (tCons (tOp (rI0 fun i j => .int (i + j)) (tVar 2) (tOp (rI CMul fun i j => .int (i * j)) (tC (.int 31)) (tVar 0))) (tCons (tVar 0) tNil)))) ["_law_k", "_law_text", "_law_cell"] [none, some 1, some 2] rfl (pi_range1 rfl T.b_range (pa_cons pe_int pa_nil)) (fun _ _ _ _ _ => (pg_name (i := 0) (show (["_law_k", "_law_text", "_law_cell"] : List Str).Nodup by decide +kernel) rfl (by first | exact Or.inl rfl | exact Or.inr rfl))) (fun _ _ _ _ _ => TX.pts_nil) (fun _ _ _ _ _ => (pe_call (k := 8) (G_law_other.mono (by decide)) hr (by rfl) T.law_other.mg T.law_other.fn.kp T.law_other.b .nil pass0 (pa_cons (pv 1) (pa_cons (pe_op op_add (pv 2) (pe_op op_mul pe_int (pv 0))) (pa_cons (pv 0) pa_nil))))) rfl (by decide +kernel) (by decide +kernel) (No := ["_law_script", "_law_text", "_law_cell", "_law_few", "_law_other_here"]) (sc := defScope s_law) rfl rfl (by decide +kernel) rfl (by decide +kernel)))) (pg_name (i := 4) S.nd rfl (by first | exact Or.inl rfl | exact Or.inr rfl)) (pss_one (ps_if (pt_not (pt_val (pe_call (k := 8) G_law_right hr (by rfl) T.law_right.mg T.law_right.fn.kp T.law_right.b .nil pass0 (pa_cons (pv 4) pa_nil)))) (pss_one (ps_ret pe_bl)) pss_nil)))
   (pss_one (ps_ret (pe_cmpR (TX.op_eqD hu64) (TX.pe_comp (te := tCall (spRefused K) [] E0 (tCons (tVar 0) tNil)) ["_law_thing"] [none] rfl (pi_list (TX.ExT.pe (.ls (.cons .non (.cons .int (.cons (.ls (.cons .str .nil)) (.cons .bl .nil))))))) (fun _ _ _ _ _ => (pg_name (i := 0) (show (["_law_thing"] : List Str).Nodup by decide +kernel) rfl (by first | exact Or.inl rfl | exact Or.inr rfl))) (fun _ _ _ _ _ => TX.pts_nil) (fun _ _ _ _ _ => (pe_call (k := 8) (G_law_refused.mono (by decide)) hr (by rfl) T.law_refused.mg T.law_refused.fn.kp T.law_refused.b .nil pass0 (pa_cons (pv 0) pa_nil))) rfl (by decide +kernel) (by decide +kernel) (No := ["_law_script", "_law_text", "_law_cell", "_law_few", "_law_other_here"]) (sc := defScope s_law) rfl rfl (by decide +kernel) rfl (by decide +kernel)) (TX.ExT.pe (.ls (.cons .int (.cons .int (.cons .int (.cons .int .nil)))))) (nomark _)))))))))))), ?_⟩
  refine tSeq_of (set_of (tCall_of (tCons_of (camp_of (fun R q => ⟨_, rfl, a, ns, 0, rfl, hS, by decide, fun b H1 ls hb s1 hLL hV => q b ls H1 s1 hLL hV⟩) fun x ls H2 s2 hC hV => ⟨x, ls, rfl, hC, hV, fun H3 s3 => ?_⟩))))
  have hT := text_len hV
  have s03 := s2.trans s3
  have hS3 := s03.seq hS
  generalize textS ls = z at hT ⊢
  refine ⟨_, rfl, a, ns, 2, rfl, hS3, by decide, fun c => ?_⟩
  refine gName_of ?_
  dsimp only
  refine tSeq_of (set_of (few_lst (n := 12) ?r1 (by decide) fun l1 H4 s4 f1 => ?_))
  case r1 => repeat' (first | exact rs_nil | exact rs_c (by decide +kernel) | refine rs_cons ?_ ?_)
  dsimp only
  refine tSeq_of (set_of (few_cat rfl f1 (m := 6) ?r2 (by decide) fun l2 H5 s5 f2 => ?_))
  case r2 => repeat' (first | exact rs_nil | exact rs_c (by decide +kernel) | refine rs_cons ?_ ?_)
  dsimp only
  refine tSeq_of (set_of (few_cat rfl f2 (m := 4) ?r3 (by decide) fun l3 H6 s6 f3 => ?_))
  case r3 => repeat' (first | exact rs_nil | exact rs_c (by decide +kernel) | refine rs_cons ?_ ?_)
  dsimp only
  refine tSeq_of (set_of (few_cat rfl f3 (m := 3) ?r4 (by decide) fun l4 H7 s7 f4 => ?_))
  case r4 => repeat' (first | exact rs_nil | exact rs_c (by decide +kernel) | refine rs_cons ?_ ?_)
  dsimp only
  refine tSeq_of (set_of (few_cat rfl f4 (m := 4) ?r5 (by decide) fun l5 H8 s8 f5 => ?_))
  case r5 => repeat' (first | exact rs_nil | exact rs_c (by decide +kernel) | exact rs_big | refine rs_cons ?_ ?_)
  dsimp only
  refine tSeq_of ?_
  refine (forFew (K := K) (n := 33) (fun R q => ?_) fun p zs H9 s9 hp hz => for_list (K := K) (a := p) (xs := zs.map V.str) (fun i σ H' => ∃ v, σ = [some (.ref a), some (.str z), some (.int c), some (.ref l5), v] ∧ Same H9 H') ⟨none, rfl, Same.refl _⟩ (fun i σ H' _ ⟨_, _, s⟩ => SqL.of (s _ _ hp)) ?_ ?_)
  ·refine ⟨_, rfl, _, rfl, (by show 1 ≤ sizeLine; decide), fun p1 hp1 => ?_⟩
   have s9 : Same H8 (upd H8 p1 (.lst [.str z])) := TX.Same.upd (Same.refl _) hp1
   refine few_app (m := 1) (f5.same s9) ⟨[z], upd_same, by simp, fun y hy => by rw [List.mem_singleton.mp hy]; omega⟩ (by decide) fun p2 H10 s10 f6 => ?_
   refine strsR (n := 3) (rest := [some (.str z), some (.int c)]) (by decide) rfl (fun R z => z) (fun k hk H11 R s11 q11 => ?_) fun c2 H12 s12 f7 => few_app (m := 3) (f6.same s12) f7 (by decide) fun p3 H13 s13 f8 => q p3 H13 (s9.trans (s10.trans (s12.trans s13))) f8
   exact ⟨_, rfl, _, rfl, _, rfl, _, _, rfl, rfl, .inr ⟨by omega, by omega⟩, _, _, rfl, rfl, _, rfl, z, _, _, rfl, by omega, fun y H14 s14 hy => q11 y H14 s14 hy⟩
  ·rintro i y σ H' hy ⟨v, rfl, s'⟩
   rw [List.getElem?_map] at hy
   cases hi : zs[i]? with
   | none => rw [hi] at hy; cases hy
   | some x =>
    rw [hi] at hy
    obtain rfl : V.str x = y := Option.some.inj hy
    exact ⟨_, rfl, x, rfl, hz x (List.mem_of_getElem? hi), fun H'' s'' => ⟨_, rfl, iteF ⟨_, rfl, s'.trans s''⟩⟩⟩
  ·rintro σ H' ⟨v, rfl, s'⟩
   dsimp only
   refine tRet_of (tOp_of ?_)
   refine ones (K := K) (n := 4) (by decide) (fun R q => ?_) fun c2 H10 hc2 => ?_
   ·refine ⟨(by show 1 ≤ sizeLine; decide), fun q1 hq1 => ⟨(by show 4 ≤ sizeLine; decide), fun l hl => q l _ _ upd_same rfl fun x hx => ?_⟩⟩
    have hq2 := TX.upd_old (o := .lst [.non, .int 3, .ref q1, .bl true]) (upd_same (H := H') (a := q1) (o := .lst [.str "0:"])) hl
    simp only [List.mem_cons, List.not_mem_nil, or_false] at hx
    rcases hx with rfl | rfl | rfl | rfl
    ·exact .bad (.no .non kit_non_str)
    ·exact .bad (.no (.int _) kit_int_str)
    ·exact .bad (.no (.lst hq2) kit_list_str)
    ·exact .bad (.no (.bl _) kit_bool_str)
   ·refine ⟨(by show 4 ≤ sizeLine; decide), fun p4 hp4 => ?_⟩
    have h1 := TX.upd_old (o := .lst [.int 1, .int 1, .int 1, .int 1]) hc2 hp4
    have h2 : upd H10 p4 (.lst [.int 1, .int 1, .int 1, .int 1]) p4 = some (.lst ((List.replicate 4 (1 : Int)).map V.int)) := upd_same
    exact ⟨_, _, dd_ints h1, dd_ints h2, ok_dZ _ 8, ok_dZ _ 8, fun _ => fin _, fun h => absurd rfl h⟩
end
end Tp
namespace Tp
open PySem PySem.Spec PyProof.Rows L2 TX TM TK TS
section
open PySem.W (nsIn findIn isFn codeIn keepIn mg_of mg_none_of)
abbrev fnA (x q : Str) (st : Stmt) (kV dc pm : Value) (an : Option Addr) (cd ct : Value) : FuncData := PySem.W.fnOf x q (defArgs st) (defBody st) (defScope st) .none kV dc pm an cd ct
set_option maxHeartbeats 8000000 in
theorem all_mk {l : PySem.W.OpenLaw} {w : World} {fa : Addr} {K : PySem.W.Frag} {h : Heap} {mg : Str → Option Value} {C X_BadCamp X_CampError X_BadPairs X_NoCamper X_NoneSteady X_BadText f0 f1 f2 f3 f4 f5 f6 f7 f8 f9 f10 f11 f12 f13 f14 f15 f16 f17 : Addr} {tM : Tok} (X : K.In h) (G : h.Ns mainGlobals mg) (hfa : mg "law" = some (.ref fa))
  {od0 an0 od1 an1 od2 an2 od3 an3 od4 an4 od5 an5 od6 an6 od7 an7 od8 an8 od9 an9 od10 an10 od11 an11 od12 an12 od13 an13 od14 an14 od15 an15 od16 an16 od17 an17 : Option Addr} {sl0 sl1 sl2 sl3 sl4 sl5 sl6 sl7 sl8 sl9 sl10 sl11 sl12 sl13 sl14 sl15 sl16 sl17 : Array (Option Value)} {oc0 kV0 dc0 pm0 cd0 ct0 oc1 kV1 dc1 pm1 cd1 ct1 oc2 kV2 dc2 pm2 cd2 ct2 oc3 kV3 dc3 pm3 cd3 ct3 oc4 kV4 dc4 pm4 cd4 ct4 oc5 kV5 dc5 pm5 cd5 ct5 oc6 kV6 dc6 pm6 cd6 ct6 oc7 kV7 dc7 pm7 cd7 ct7 oc8 kV8 dc8 pm8 cd8 ct8 oc9 kV9 dc9 pm9 cd9 ct9 oc10 kV10 dc10 pm10 cd10 ct10 oc11 kV11 dc11 pm11 cd11 ct11 oc12 kV12 dc12 pm12 cd12 ct12 oc13 kV13 dc13 pm13 cd13 ct13 oc14 kV14 dc14 pm14 cd14 ct14 oc15 kV15 dc15 pm15 cd15 ct15 oc16 kV16 dc16 pm16 cd16 ct16 oc17 kV17 dc17 pm17 cd17 ct17 : Value}
  (aC : nsIn K mainGlobals "Camp" = some (some (.ref C)))
  (aX_BadCamp : nsIn K mainGlobals "BadCamp" = some (some (.ref X_BadCamp)))
  (xX_BadCamp : PySem.W.excIn K X_BadCamp [.type "ValueError", .type "Exception", .type "BaseException", .type "object"] "ValueError.__new__" = true)
  (aX_CampError : nsIn K mainGlobals "CampError" = some (some (.ref X_CampError)))
  (aX_BadPairs : nsIn K mainGlobals "BadPairs" = some (some (.ref X_BadPairs)))
  (aX_NoCamper : nsIn K mainGlobals "NoCamper" = some (some (.ref X_NoCamper)))
  (aX_NoneSteady : nsIn K mainGlobals "NoneSteady" = some (some (.ref X_NoneSteady)))
  (aX_BadText : nsIn K mainGlobals "BadText" = some (some (.ref X_BadText)))
  (kt_CampError : PySem.W.ktsIn K X_CampError "BaseException" = true)
  (sp_CampError : PySem.W.specialIn K (.ref X_CampError) "__getattribute__" = some (some (.builtin "type.__getattribute__")))
  (rd_CampError : PySem.W.readsIn K X_CampError (.type "type") = true)
  (fc_CampError : PySem.W.findCls K (.ref X_CampError) (.type "type") "__init__" = some (.val (.builtin "ValueError.__init__")))
  (kt_BadText : PySem.W.ktsIn K X_BadText "BaseException" = true)
  (ga_BadText : findIn K (.ref X_BadText) "__getattribute__" = some (some (.builtin "BaseException.__getattribute__")))
  (gt_BadText : findIn K (.ref X_BadText) "__getattr__" = some none)
  (cc_BadText : (PySem.W.clsIn K X_BadText).isSome = true)
  (ca_BadText : findIn K (.ref X_BadText) "__class__" = some (some (.builtin "object.__class__")))
  (mr_BadText : PySem.W.mroIn K X_BadText (.type "object") = some true)
  (be_BadText : TX.belowIn K X_BadText X_CampError = true)
  (kx_BadText_BadCamp : PySem.W.kitOne K (.ref X_BadText) (.ref X_BadCamp) = some false)
  (kx_BadText_BadPairs : PySem.W.kitOne K (.ref X_BadText) (.ref X_BadPairs) = some false)
  (kx_BadText_NoCamper : PySem.W.kitOne K (.ref X_BadText) (.ref X_NoCamper) = some false)
  (kx_BadText_NoneSteady : PySem.W.kitOne K (.ref X_BadText) (.ref X_NoneSteady) = some false)
  (kx_BadText_BadText : PySem.W.kitOne K (.ref X_BadText) (.ref X_BadText) = some true)
  (kv_BadText : PySem.W.kitOne K (.ref X_BadText) (.type "ValueError") = some true)
  (cg : PySem.W.specialIn K (.builtin "object.__class__") "__get__" = some (some (.builtin "getset_descriptor.__get__")))
  (ctk : PySem.W.takesIn K (.builtin "object.__class__") = some true)
  (a0 : findIn K (.ref X_BadText) "__init__" = some (some (.ref f0)))
  (i0 : isFn K (.ref f0) = true)
  (l0 : K.lookup f0 = some ⟨oc0, od0, .func (fnA "__init__" "BadText.__init__" s_BadText___init__ kV0 dc0 pm0 an0 cd0 ct0), sl0⟩)
  (c0 : codeIn K cd0 "BadText.__init__" = true)
  (k0 : keepIn K (.ref f0) = true)
  (a1 : nsIn K mainGlobals "is_camper" = some (some (.ref f1)))
  (l1 : K.lookup f1 = some ⟨oc1, od1, .func (fnA "is_camper" "is_camper" s_is_camper kV1 dc1 pm1 an1 cd1 ct1), sl1⟩)
  (c1 : codeIn K cd1 "is_camper" = true)
  (k1 : keepIn K (.ref f1) = true)
  (a2 : nsIn K mainGlobals "check_wishes" = some (some (.ref f2)))
  (l2 : K.lookup f2 = some ⟨oc2, od2, .func (fnA "check_wishes" "check_wishes" s_check_wishes kV2 dc2 pm2 an2 cd2 ct2), sl2⟩)
  (c2 : codeIn K cd2 "check_wishes" = true)
  (k2 : keepIn K (.ref f2) = true)
  (a3 : nsIn K mainGlobals "check_lists" = some (some (.ref f3)))
  (l3 : K.lookup f3 = some ⟨oc3, od3, .func (fnA "check_lists" "check_lists" s_check_lists kV3 dc3 pm3 an3 cd3 ct3), sl3⟩)
  (c3 : codeIn K cd3 "check_lists" = true)
  (k3 : keepIn K (.ref f3) = true)
  (a4 : findIn K (.ref C) "__init__" = some (some (.ref f4)))
  (i4 : isFn K (.ref f4) = true)
  (l4 : K.lookup f4 = some ⟨oc4, od4, .func (fnA "__init__" "Camp.__init__" s_Camp___init__ kV4 dc4 pm4 an4 cd4 ct4), sl4⟩)
  (c4 : codeIn K cd4 "Camp.__init__" = true)
  (k4 : keepIn K (.ref f4) = true)
  (a5 : nsIn K mainGlobals "written_row" = some (some (.ref f5)))
  (l5 : K.lookup f5 = some ⟨oc5, od5, .func (fnA "written_row" "written_row" s_written_row kV5 dc5 pm5 an5 cd5 ct5), sl5⟩)
  (c5 : codeIn K cd5 "written_row" = true)
  (k5 : keepIn K (.ref f5) = true)
  (a6 : nsIn K mainGlobals "written" = some (some (.ref f6)))
  (l6 : K.lookup f6 = some ⟨oc6, od6, .func (fnA "written" "written" s_written kV6 dc6 pm6 an6 cd6 ct6), sl6⟩)
  (c6 : codeIn K cd6 "written" = true)
  (k6 : keepIn K (.ref f6) = true)
  (a7 : nsIn K mainGlobals "is_row" = some (some (.ref f7)))
  (l7 : K.lookup f7 = some ⟨oc7, od7, .func (fnA "is_row" "is_row" s_is_row kV7 dc7 pm7 an7 cd7 ct7), sl7⟩)
  (c7 : codeIn K cd7 "is_row" = true)
  (k7 : keepIn K (.ref f7) = true)
  (a8 : nsIn K mainGlobals "read" = some (some (.ref f8)))
  (l8 : K.lookup f8 = some ⟨oc8, od8, .func (fnA "read" "read" s_read kV8 dc8 pm8 an8 cd8 ct8), sl8⟩)
  (c8 : codeIn K cd8 "read" = true)
  (k8 : keepIn K (.ref f8) = true)
  (a9 : nsIn K mainGlobals "_law_cell_at" = some (some (.ref f9)))
  (l9 : K.lookup f9 = some ⟨oc9, od9, .func (fnA "_law_cell_at" "_law_cell_at" s_law_cell_at kV9 dc9 pm9 an9 cd9 ct9), sl9⟩)
  (c9 : codeIn K cd9 "_law_cell_at" = true)
  (k9 : keepIn K (.ref f9) = true)
  (a10 : nsIn K mainGlobals "_law_draw" = some (some (.ref f10)))
  (l10 : K.lookup f10 = some ⟨oc10, od10, .func (fnA "_law_draw" "_law_draw" s_law_draw kV10 dc10 pm10 an10 cd10 ct10), sl10⟩)
  (c10 : codeIn K cd10 "_law_draw" = true)
  (k10 : keepIn K (.ref f10) = true)
  (a11 : nsIn K mainGlobals "_law_lists" = some (some (.ref f11)))
  (l11 : K.lookup f11 = some ⟨oc11, od11, .func (fnA "_law_lists" "_law_lists" s_law_lists kV11 dc11 pm11 an11 cd11 ct11), sl11⟩)
  (c11 : codeIn K cd11 "_law_lists" = true)
  (k11 : keepIn K (.ref f11) = true)
  (a12 : nsIn K mainGlobals "_law_refused" = some (some (.ref f12)))
  (l12 : K.lookup f12 = some ⟨oc12, od12, .func (fnA "_law_refused" "_law_refused" s_law_refused kV12 dc12 pm12 an12 cd12 ct12), sl12⟩)
  (c12 : codeIn K cd12 "_law_refused" = true)
  (k12 : keepIn K (.ref f12) = true)
  (a13 : nsIn K mainGlobals "_law_row_in" = some (some (.ref f13)))
  (l13 : K.lookup f13 = some ⟨oc13, od13, .func (fnA "_law_row_in" "_law_row_in" s_law_row_in kV13 dc13 pm13 an13 cd13 ct13), sl13⟩)
  (c13 : codeIn K cd13 "_law_row_in" = true)
  (k13 : keepIn K (.ref f13) = true)
  (a14 : nsIn K mainGlobals "_law_due" = some (some (.ref f14)))
  (l14 : K.lookup f14 = some ⟨oc14, od14, .func (fnA "_law_due" "_law_due" s_law_due kV14 dc14 pm14 an14 cd14 ct14), sl14⟩)
  (c14 : codeIn K cd14 "_law_due" = true)
  (k14 : keepIn K (.ref f14) = true)
  (a15 : nsIn K mainGlobals "_law_right" = some (some (.ref f15)))
  (l15 : K.lookup f15 = some ⟨oc15, od15, .func (fnA "_law_right" "_law_right" s_law_right kV15 dc15 pm15 an15 cd15 ct15), sl15⟩)
  (c15 : codeIn K cd15 "_law_right" = true)
  (k15 : keepIn K (.ref f15) = true)
  (a16 : nsIn K mainGlobals "_law_other" = some (some (.ref f16)))
  (l16 : K.lookup f16 = some ⟨oc16, od16, .func (fnA "_law_other" "_law_other" s_law_other kV16 dc16 pm16 an16 cd16 ct16), sl16⟩)
  (c16 : codeIn K cd16 "_law_other" = true)
  (k16 : keepIn K (.ref f16) = true)
  (a17 : nsIn K mainGlobals "law" = some (some (.ref f17)))
  (l17 : K.lookup f17 = some ⟨oc17, od17, .func (fnA "law" "law" s_law kV17 dc17 pm17 an17 cd17 ct17), sl17⟩)
  (c17 : codeIn K cd17 "law" = true)
  (k17 : keepIn K (.ref f17) = true)
  (ii_BadText : TX.excII K X_BadText X_CampError f0 = true)
  (sa_BadText : findIn K (.ref X_BadText) "__setattr__" = some (some (.builtin "object.__setattr__")))
  (nx_row : findIn K (.ref X_BadText) "row" = some none)
  (pg : PySem.W.plainGet K C Str.empty = true)
  (hd : PySem.W.hasDictIn K C = true)
  (po : PySem.W.plainOver K C = true)
  (sa : findIn K (.ref C) "__setattr__" = some (some (.builtin "object.__setattr__")))
  (mk : PySem.W.makesIn K C = true)
  (kc : keepIn K (.ref C) = true)
  (n_size : findIn K (.ref C) "size" = some none)
  (n_wishes : findIn K (.ref C) "wishes" = some none)
  (eM : nsIn K mainGlobals "MOST_CAMPERS" = some (some (.int 6 tM)))
  (z_len : nsIn K mainGlobals "len" = some none)
  (z_list : nsIn K mainGlobals "list" = some none)
  (z_isinstance : nsIn K mainGlobals "isinstance" = some none)
  (z_range : nsIn K mainGlobals "range" = some none)
  (z_enumerate : nsIn K mainGlobals "enumerate" = some none)
  (z_min : nsIn K mainGlobals "min" = some none)
  (z_max : nsIn K mainGlobals "max" = some none)
  (z_any : nsIn K mainGlobals "any" = some none)
  (z_int : nsIn K mainGlobals "int" = some none)
  (z_bool : nsIn K mainGlobals "bool" = some none)
  (z_str : nsIn K mainGlobals "str" = some none)
  (z_ValueError : nsIn K mainGlobals "ValueError" = some none)
  : ∃ fd : FuncData, (∀ (s : Shared) (v : Value), BindsTo s fd ⟨[v], []⟩ [("_law_script", v)]) ∧ ∀ base : Heap, K.In base → base.Ns mainGlobals mg → FnOk l.prog w K mg base CX0 9 fa fd ["_law_script"] (spLaw K) := by
 obtain ⟨t, h1, h2, T⟩ : ∃ t : Adr, t.law = f17 ∧ t.fd_law = fnA "law" "law" s_law kV17 dc17 pm17 an17 cd17 ct17 ∧ Txt K mg t := by
  refine ⟨⟨C, X_BadCamp, X_CampError, X_BadPairs, X_NoCamper, X_NoneSteady, X_BadText, f0, fnA "__init__" "BadText.__init__" s_BadText___init__ kV0 dc0 pm0 an0 cd0 ct0, f1, fnA "is_camper" "is_camper" s_is_camper kV1 dc1 pm1 an1 cd1 ct1, f2, fnA "check_wishes" "check_wishes" s_check_wishes kV2 dc2 pm2 an2 cd2 ct2, f3, fnA "check_lists" "check_lists" s_check_lists kV3 dc3 pm3 an3 cd3 ct3, f4, fnA "__init__" "Camp.__init__" s_Camp___init__ kV4 dc4 pm4 an4 cd4 ct4, f5, fnA "written_row" "written_row" s_written_row kV5 dc5 pm5 an5 cd5 ct5, f6, fnA "written" "written" s_written kV6 dc6 pm6 an6 cd6 ct6, f7, fnA "is_row" "is_row" s_is_row kV7 dc7 pm7 an7 cd7 ct7, f8, fnA "read" "read" s_read kV8 dc8 pm8 an8 cd8 ct8, f9, fnA "_law_cell_at" "_law_cell_at" s_law_cell_at kV9 dc9 pm9 an9 cd9 ct9, f10, fnA "_law_draw" "_law_draw" s_law_draw kV10 dc10 pm10 an10 cd10 ct10, f11, fnA "_law_lists" "_law_lists" s_law_lists kV11 dc11 pm11 an11 cd11 ct11, f12, fnA "_law_refused" "_law_refused" s_law_refused kV12 dc12 pm12 an12 cd12 ct12, f13, fnA "_law_row_in" "_law_row_in" s_law_row_in kV13 dc13 pm13 an13 cd13 ct13, f14, fnA "_law_due" "_law_due" s_law_due kV14 dc14 pm14 an14 cd14 ct14, f15, fnA "_law_right" "_law_right" s_law_right kV15 dc15 pm15 an15 cd15 ct15, f16, fnA "_law_other" "_law_other" s_law_other kV16 dc16 pm16 an16 cd16 ct16, f17, fnA "law" "law" s_law kV17 dc17 pm17 an17 cd17 ct17, tM⟩, rfl, rfl, ?_⟩
  have F0 := fun_mk (st := s_BadText___init__) l0 c0 k0
  have B0 := F0.binds (ps := ["self", "row"]) fun _ _ _ _ _ _ us hl => match us, hl with | [_, _], _ => rfl
  have F1 := fun_mk (st := s_is_camper) l1 c1 k1
  have B1 := F1.binds (ps := ["value", "size"]) fun _ _ _ _ _ _ us hl => match us, hl with | [_, _], _ => rfl
  have F2 := fun_mk (st := s_check_wishes) l2 c2 k2
  have B2 := F2.binds (ps := ["camper", "wishes", "size"]) fun _ _ _ _ _ _ us hl => match us, hl with | [_, _, _], _ => rfl
  have F3 := fun_mk (st := s_check_lists) l3 c3 k3
  have B3 := F3.binds (ps := ["lists"]) fun _ _ _ _ _ _ us hl => match us, hl with | [_], _ => rfl
  have F4 := fun_mk (st := s_Camp___init__) l4 c4 k4
  have B4 := F4.binds (ps := ["self", "lists"]) fun _ _ _ _ _ _ us hl => match us, hl with | [_, _], _ => rfl
  have F5 := fun_mk (st := s_written_row) l5 c5 k5
  have B5 := F5.binds (ps := ["camper", "wishes"]) fun _ _ _ _ _ _ us hl => match us, hl with | [_, _], _ => rfl
  have F6 := fun_mk (st := s_written) l6 c6 k6
  have B6 := F6.binds (ps := ["camp"]) fun _ _ _ _ _ _ us hl => match us, hl with | [_], _ => rfl
  have F7 := fun_mk (st := s_is_row) l7 c7 k7
  have B7 := F7.binds (ps := ["parts", "place"]) fun _ _ _ _ _ _ us hl => match us, hl with | [_, _], _ => rfl
  have F8 := fun_mk (st := s_read) l8 c8 k8
  have B8 := F8.binds (ps := ["text"]) fun _ _ _ _ _ _ us hl => match us, hl with | [_], _ => rfl
  have F9 := fun_mk (st := s_law_cell_at) l9 c9 k9
  have B9 := F9.binds (ps := ["_law_script", "_law_k"]) fun _ _ _ _ _ _ us hl => match us, hl with | [_, _], _ => rfl
  have F10 := fun_mk (st := s_law_draw) l10 c10 k10
  have B10 := F10.binds (ps := ["_law_cell", "_law_k", "_law_many"]) fun _ _ _ _ _ _ us hl => match us, hl with | [_, _, _], _ => rfl
  have F11 := fun_mk (st := s_law_lists) l11 c11 k11
  have B11 := F11.binds (ps := ["_law_script", "_law_first"]) fun _ _ _ _ _ _ us hl => match us, hl with | [_, _], _ => rfl
  have F12 := fun_mk (st := s_law_refused) l12 c12 k12
  have B12 := F12.binds (ps := ["_law_text"]) fun _ _ _ _ _ _ us hl => match us, hl with | [_], _ => rfl
  have F13 := fun_mk (st := s_law_row_in) l13 c13 k13
  have B13 := F13.binds (ps := ["_law_row", "_law_camper"]) fun _ _ _ _ _ _ us hl => match us, hl with | [_, _], _ => rfl
  have F14 := fun_mk (st := s_law_due) l14 c14 k14
  have B14 := F14.binds (ps := ["_law_text"]) fun _ _ _ _ _ _ us hl => match us, hl with | [_], _ => rfl
  have F15 := fun_mk (st := s_law_right) l15 c15 k15
  have B15 := F15.binds (ps := ["_law_text"]) fun _ _ _ _ _ _ us hl => match us, hl with | [_], _ => rfl
  have F16 := fun_mk (st := s_law_other) l16 c16 k16
  have B16 := F16.binds (ps := ["_law_text", "_law_cell", "_law_k"]) fun _ _ _ _ _ _ us hl => match us, hl with | [_, _, _], _ => rfl
  have F17 := fun_mk (st := s_law) l17 c17 k17
  have B17 := F17.binds (ps := ["_law_script"]) fun _ _ _ _ _ _ us hl => match us, hl with | [_], _ => rfl
  exact ⟨⟨pg, hd, po, sa⟩, n_size, n_wishes, ⟨mk, a4, i4, kc⟩, mg_of X G aC, mg_of X G eM, mg_none_of X G z_len, mg_none_of X G z_list, mg_none_of X G z_isinstance, mg_none_of X G z_range, mg_none_of X G z_enumerate, mg_none_of X G z_min, mg_none_of X G z_max, mg_none_of X G z_any, mg_none_of X G z_int, mg_none_of X G z_bool, mg_none_of X G z_str, mg_none_of X G z_ValueError, mg_of X G aX_BadCamp, xX_BadCamp, mg_of X G aX_CampError, mg_of X G aX_BadPairs, mg_of X G aX_NoCamper, mg_of X G aX_NoneSteady, mg_of X G aX_BadText, kt_CampError, sp_CampError, rd_CampError, fc_CampError, ⟨kt_BadText, ga_BadText, gt_BadText, cc_BadText, ca_BadText, cg, ctk, mr_BadText⟩, be_BadText, kx_BadText_BadCamp, kx_BadText_BadPairs, kx_BadText_NoCamper, kx_BadText_NoneSteady, kx_BadText_BadText, kv_BadText, ii_BadText, i0, sa_BadText, nx_row, ⟨F0, B0, ⟨a0, i0, k0⟩⟩, ⟨F1, B1, mg_of X G a1⟩, ⟨F2, B2, mg_of X G a2⟩, ⟨F3, B3, mg_of X G a3⟩, ⟨F4, B4, ⟨a4, i4, k4⟩⟩, ⟨F5, B5, mg_of X G a5⟩, ⟨F6, B6, mg_of X G a6⟩, ⟨F7, B7, mg_of X G a7⟩, ⟨F8, B8, mg_of X G a8⟩, ⟨F9, B9, mg_of X G a9⟩, ⟨F10, B10, mg_of X G a10⟩, ⟨F11, B11, mg_of X G a11⟩, ⟨F12, B12, mg_of X G a12⟩, ⟨F13, B13, mg_of X G a13⟩, ⟨F14, B14, mg_of X G a14⟩, ⟨F15, B15, mg_of X G a15⟩, ⟨F16, B16, mg_of X G a16⟩, ⟨F17, B17, mg_of X G a17⟩⟩
 have e := hfa.symm.trans (mg_of X G a17)
 cases e
 refine ⟨t.fd_law, ?_, fun base _ _ => ?_⟩
 ·rw [h2]; exact fun s v => .of_eq rfl
 ·have := ok_law (P := l.prog) (w := w) (base := base) T
  rw [h1] at this
  exact this
end
theorem walk {l : PySem.W.OpenLaw} {q : Program} {loose : List Str} {XP : (Str → Option Value) → Heap → Prop} {YP : World → Heap → Prop} {d : DefRec} {K : Params → PySem.W.Frag} (hn : l.most = some 63) (hdf : d.params.defaults = [])
  (hY : ∀ (w : World) (h : Heap), YP w h → (K w.params).In h)
  (F : ∀ (w : World) (mg : Str → Option Value) (fa : Addr) (h : Heap), (K w.params).In h → h.Ns mainGlobals mg → mg d.name = some (.ref fa) →
   ∃ fd : FuncData, (∀ (s : Shared) (u : Value), BindsTo s fd ⟨[u], []⟩ [("_law_script", u)]) ∧ ∀ base : Heap, (K w.params).In base → base.Ns mainGlobals mg → FnOk l.prog w (K w.params) mg base CX0 9 fa fd ["_law_script"] (spLaw (K w.params))) :
  PySem.W.WalkO q loose XP YP l.row.toRowW d [] (fun f vs => PySem.call f vs) :=
 L2.walk_of (n := 63) (k := 9) (x := "_law_script") (CX := fun _ => CX0) (sp := fun w => spLaw (K w.params)) hn (by decide) hdf ⟨rfl, by decide, by decide⟩ hY F (fun _ _ a ns hl _ hS => ⟨a, ns, rfl, hS, hl, fun _ => rfl⟩) fun _ _ _ _ _ z => z
end Tp
open PySem PySem.W PyProof.Rows
set_option maxRecDepth 100000 in
set_option maxHeartbeats 0 in
theorem PySem.Challenge.cw_tentpairs_k06_texts_misread_holds : PySem.Challenge.rw_tentpairs_k06_texts_misread.Holds := by
 w_on; o_law; k_head; (case hw => w_witness2)
 k_fill
 refine Tp.walk (l := PySem.Challenge.rw_tentpairs_k06_texts_misread) rfl rfl (fun w h Y => PySem.W.kIn_of Y) ?F
 case F =>
  intro w mg fa h KX G hmg
  refine' Tp.all_mk KX G hmg ?aC ?aX_BadCamp ?xX_BadCamp ?aX_CampError ?aX_BadPairs ?aX_NoCamper ?aX_NoneSteady ?aX_BadText ?kt_CampError ?sp_CampError ?rd_CampError ?fc_CampError ?kt_BadText ?ga_BadText ?gt_BadText ?cc_BadText ?ca_BadText ?mr_BadText ?be_BadText ?kx_BadText_BadCamp ?kx_BadText_BadPairs ?kx_BadText_NoCamper ?kx_BadText_NoneSteady ?kx_BadText_BadText ?kv_BadText ?cg ?ctk ?a0 ?i0 ?l0 ?c0 ?k0 ?a1 ?l1 ?c1 ?k1 ?a2 ?l2 ?c2 ?k2 ?a3 ?l3 ?c3 ?k3 ?a4 ?i4 ?l4 ?c4 ?k4 ?a5 ?l5 ?c5 ?k5 ?a6 ?l6 ?c6 ?k6 ?a7 ?l7 ?c7 ?k7 ?a8 ?l8 ?c8 ?k8 ?a9 ?l9 ?c9 ?k9 ?a10 ?l10 ?c10 ?k10 ?a11 ?l11 ?c11 ?k11 ?a12 ?l12 ?c12 ?k12 ?a13 ?l13 ?c13 ?k13 ?a14 ?l14 ?c14 ?k14 ?a15 ?l15 ?c15 ?k15 ?a16 ?l16 ?c16 ?k16 ?a17 ?l17 ?c17 ?k17 ?ii_BadText ?sa_BadText ?nx_row ?pg ?hd ?po ?sa ?mk ?kc ?n_size ?n_wishes ?eM ?z_len ?z_list ?z_isinstance ?z_range ?z_enumerate ?z_min ?z_max ?z_any ?z_int ?z_bool ?z_str ?z_ValueError
  (case aC | aX_BadCamp => k_is)
  (case xX_BadCamp => k_exc)
  (case aX_CampError | aX_BadPairs | aX_NoCamper | aX_NoneSteady | aX_BadText => k_is)
  (case kt_CampError | sp_CampError | rd_CampError | fc_CampError | kt_BadText => kernel_rfl)
  (case ga_BadText | gt_BadText => k_is)
  (case cc_BadText => kernel_rfl)
  (case ca_BadText | mr_BadText => k_is)
  (case be_BadText => kernel_rfl)
  (case kx_BadText_BadCamp | kx_BadText_BadPairs | kx_BadText_NoCamper | kx_BadText_NoneSteady | kx_BadText_BadText | kv_BadText => kit_is)
  (case cg | ctk | a0 | i0 | l0 | c0 | k0 | a1 | l1 | c1 | k1 | a2 | l2 | c2 | k2 | a3 | l3 | c3 | k3 | a4 | i4 | l4 | c4 | k4 | a5 | l5 | c5 | k5 | a6 | l6 | c6 | k6 | a7 | l7 | c7 | k7 | a8 | l8 | c8 | k8 | a9 | l9 | c9 | k9 | a10 | l10 | c10 | k10 | a11 | l11 | c11 | k11 | a12 | l12 | c12 | k12 | a13 | l13 | c13 | k13 | a14 | l14 | c14 | k14 | a15 | l15 | c15 | k15 | a16 | l16 | c16 | k16 | a17 | l17 | c17 | k17 => k_is)
  (case ii_BadText => kernel_rfl)
  (case sa_BadText | nx_row | pg | hd | po | sa | mk | kc | n_size | n_wishes | eM | z_len | z_list | z_isinstance | z_range | z_enumerate | z_min | z_max | z_any | z_int | z_bool | z_str | z_ValueError => k_is)
#print axioms PySem.Challenge.cw_tentpairs_k06_texts_misread_holds
