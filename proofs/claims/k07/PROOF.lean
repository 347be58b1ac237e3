import PyProof.Rows.All
import Wide.All
import OpenK.AllK
import Wide.FinOn
import Lean
import PyProof.EqAt
import PyProof.EqKinds
import PyProof.TupleCall
import PyProof.StrLawsTight
import PyProof.StrLawsChain
import KE.KIntText
import KE.KSortAsk
import KE.KEqDat
import PyProof.P3In
import PyProof.InstStoreFacts
import PyProof.InstLoad
import PyProof.ExcArgsOwn
import PyProof.StationsW
import PySem.Challenge.RW_tentpairs_k07_refused
set_option Elab.async false
set_option linter.all false
set_option maxRecDepth 100000
def PySem.W.Fast.tw13003573630651919076:=0
def PySem.W.Fast.tw11240591184735589570:=0
def PySem.W.Fast.tw8471055501412622346:=0
def PySem.W.Fast.tw10262393860362707203:=0
def PySem.W.Fast.tw4786634622222314593:=0
def PySem.W.Fast.tw890510613092815719:=0
def PySem.W.Fast.tw3221617643660946667:=0
namespace L2
open PySem PySem.Spec PyProof.Rows
abbrev Key := Sum Int Str
def keyIs : Key → Value → Bool
 | .inl k, v => Value.isInt k v
 | .inr x, v => Value.isStrOf x v
def keyH (w : World) : Key → Int
 | .inl k => hashInt k
 | .inr x => hashStr w x
theorem keyIs_shape : ∀ {k : Key} {v : Value}, keyIs k v = true → (∃ i t, k = Sum.inl i ∧ v = Value.int i t) ∨ (∃ x t, k = Sum.inr x ∧ v = Value.str x t)
 | .inl i, v, h => by
  obtain ⟨t, e⟩ := Value.isInt_shape (k := i) (v := v) h
  exact .inl ⟨i, t, rfl, e⟩
 | .inr x, v, h => by
  obtain ⟨t, e⟩ := Value.isStrOf_shape (x := x) (v := v) h
  exact .inr ⟨x, t, rfl, e⟩
theorem keyIs_int (i : Int) (t : Tok) : keyIs (.inl i) (.int i t) = true := by simp [keyIs, Value.isInt]
theorem keyIs_str (x : Str) (t : Tok) : keyIs (.inr x) (.str x t) = true := by simp [keyIs, Value.isStrOf]
theorem key_ll (a b : Int) : decide ((Sum.inl a : Key) = Sum.inl b) = (a == b) := by
 by_cases e : a = b
 ·subst e; simp
 ·have h : ¬ (Sum.inl a : Key) = Sum.inl b := fun q => e (Sum.inl.inj q)
  rw [decide_eq_false h]
  exact (beq_eq_false_iff_ne.mpr e).symm
theorem key_rr (a b : Str) : decide ((Sum.inr a : Key) = Sum.inr b) = decide (a = b) := by
 by_cases e : a = b
 ·subst e; simp
 ·have h : ¬ (Sum.inr a : Key) = Sum.inr b := fun q => e (Sum.inr.inj q)
  rw [decide_eq_false h, decide_eq_false e]
theorem key_lr (a : Int) (b : Str) : decide ((Sum.inl a : Key) = Sum.inr b) = false := decide_eq_false (fun q => nomatch q)
theorem key_rl (a : Str) (b : Int) : decide ((Sum.inr a : Key) = Sum.inl b) = false := decide_eq_false (fun q => nomatch q)
def mixKind (prog : Program) (w : World) : PySem.KeyKind prog w Key where
 is := keyIs
 hash := keyH w
 inj := fun v a b ha hb => by
  rcases keyIs_shape ha with ⟨i, t, rfl, rfl⟩ | ⟨x, t, rfl, rfl⟩
  ·rcases keyIs_shape hb with ⟨j, u, rfl, e⟩ | ⟨y, u, rfl, e⟩
   ·injection e with e1 _; rw [e1]
   ·exact nomatch e
  ·rcases keyIs_shape hb with ⟨j, u, rfl, e⟩ | ⟨y, u, rfl, e⟩
   ·exact nomatch e
   ·injection e with e1 _; rw [e1]
 byValue := fun k v h => by
  rcases keyIs_shape h with ⟨i, t, rfl, rfl⟩ | ⟨x, t, rfl, rfl⟩ <;> rfl
 pyHash := fun hv h => by
  rcases keyIs_shape hv with ⟨i, t, rfl, rfl⟩ | ⟨x, t, rfl, rfl⟩
  ·exact wpAny_pyHash_int h
  ·exact wpAny_pyHash_str h
 eqBool := fun hu hv h => by
  rcases keyIs_shape hu with ⟨i, t, rfl, rfl⟩ | ⟨x, t, rfl, rfl⟩
  ·rcases keyIs_shape hv with ⟨j, u, rfl, rfl⟩ | ⟨y, u, rfl, rfl⟩
   ·rw [key_ll] at h; exact wpAny_eqBool_int h
   ·rw [key_lr] at h; exact SeqAt.EqAt.int_str i t y u _ _ _ _ h
  ·rcases keyIs_shape hv with ⟨j, u, rfl, rfl⟩ | ⟨y, u, rfl, rfl⟩
   ·rw [key_rl] at h; exact SeqAt.EqAt.str_int x t j u _ _ _ _ h
   ·rw [key_rr] at h; exact wpAny_eqBool_str h
 «strs» := fun k x t v h => by
  rcases keyIs_shape h with ⟨i, u, rfl, e⟩ | ⟨y, u, rfl, e⟩
  ·exact nomatch e
  ·injection e with e1 _
   subst e1
   cases v <;> rfl
theorem mixKind_int (prog : Program) (w : World) (i : Int) (t : Tok) : (mixKind prog w).is (.inl i) (.int i t) = true := keyIs_int i t
theorem mixKind_str (prog : Program) (w : World) (x : Str) (t : Tok) : (mixKind prog w).is (.inr x) (.str x t) = true := keyIs_str x t
end L2
namespace L2
open PySem PySem.Spec PyProof.Rows
inductive V where
 | non | bl (b : Bool) | int (i : Int) | str (x : Str) | byt (b : Array UInt8) | flt (b : UInt64) | ref (a : Addr) | ty (n : String)
 deriving DecidableEq
def RelV : V → Value → Prop
 | .non, u => u = Value.none
 | .bl b, u => u = Value.bool b
 | .int i, u => ∃ t, u = Value.int i t
 | .str x, u => ∃ t, u = Value.str x t
 | .byt b, u => ∃ t, u = Value.bytes b t
 | .flt b, u => ∃ t, u = Value.float b t
 | .ref a, u => u = Value.ref a
 | .ty n, u => u = Value.type n
abbrev Vals : List V → List Value → Prop := Paired RelV
theorem Vals.length {xs : List V} {us : List Value} (r : Vals xs us) : xs.length = us.length := Paired.length r
theorem Vals.get : ∀ {xs : List V} {us : List Value} {i : Nat} {x : V}, Vals xs us → xs[i]? = some x → ∃ u, us[i]? = some u ∧ RelV x u
 | _, _, _, _, .nil, e => by simp at e
 | _, _, 0, _, .cons r _, e => by simp at e; subst e; exact ⟨_, rfl, r⟩
 | _, _, i + 1, x, .cons _ t, e => by
  obtain ⟨u, h1, h2⟩ := Vals.get (i := i) (x := x) t (by simpa using e)
  exact ⟨u, by simpa using h1, h2⟩
theorem Vals.append : ∀ {xs ys : List V} {us ws : List Value}, Vals xs us → Vals ys ws → Vals (xs ++ ys) (us ++ ws)
 | _, _, _, _, .nil, s => s
 | _, _, _, _, .cons r t, s => .cons r (Vals.append t s)
theorem Vals.take : ∀ {xs : List V} {us : List Value} (n : Nat), Vals xs us → Vals (xs.take n) (us.take n)
 | _, _, 0, _ => .nil
 | _, _, _ + 1, .nil => .nil
 | _, _, n + 1, .cons r t => .cons r (Vals.take n t)
theorem Vals.drop : ∀ {xs : List V} {us : List Value} (n : Nat), Vals xs us → Vals (xs.drop n) (us.drop n)
 | _, _, 0, r => r
 | _, _, _ + 1, .nil => .nil
 | _, _, n + 1, .cons _ t => Vals.drop n t
def RelO : Option V → Option Value → Prop
 | some v, some u => RelV v u
 | none, none => True
 | _, _ => False
def KV {κ : Type} : List (κ × V) → List (κ × Value) → Prop := Paired fun (p : κ × V) (q : κ × Value) => p.1 = q.1 ∧ RelV p.2 q.2
def kV : Key → V
 | .inl i => .int i
 | .inr x => .str x
inductive HO where
 | lst (xs : List V)
 | tup (xs : List V)
 | dK (kvs : List (Key × V)) | dT (kvs : List (List Key × V))
 | set (S : Int → Bool) (n : Nat)
 | ins (C dx : Addr) (fs : List (Str × V))
 | own (x : Addr)
 | xd (fs : List (Str × V))
 | met (f x : Addr)
 | rng (lo hi : Int)
 | frz (o : Obj) (u : HO)
 | tbl (ps : Array Value)
 | ext (φ : Heap → Prop)
abbrev Hp := Addr → Option HO
def upd (H : Hp) (a : Addr) (o : HO) : Hp := fun b => if b = a then some o else H b
theorem upd_same {H : Hp} {a : Addr} {o : HO} : upd H a o a = some o := by unfold upd; rw [if_pos rfl]
theorem upd_ne {H : Hp} {a b : Addr} {o : HO} (h : b ≠ a) : upd H a o b = H b := by unfold upd; rw [if_neg h]
theorem upd_upd {H : Hp} {a : Addr} {o u : HO} : upd (upd H a o) a u = upd H a u := by
 funext b; unfold upd; split <;> rfl
theorem ne_of {H : Hp} {a b : Addr} {o u : HO} (h : H a = some o) (h' : H b = some u) (d : o ≠ u) : a ≠ b := by
 intro e; subst e; rw [h] at h'; exact d (Option.some.inj h')
theorem ne_of_none {H : Hp} {a b : Addr} {o : HO} (h : H a = some o) (h' : H b = none) : a ≠ b := by
 intro e; subst e; rw [h] at h'; cases h'
section
variable (P : Program) (w : World)
def ObjOk (H : Hp) (h : Heap) (a : Addr) : HO → Prop
 | .lst xs => xs.length ≤ sizeLine ∧ ∃ (its : List Value) (n : Nat), Vals xs its ∧ h.get? a = some { cls := .type "list", data := .seq its.toArray n }
 | .tup xs => xs.length ≤ sizeLine ∧ ∃ its : List Value, Vals xs its ∧ IsTup h a its.toArray
 | .dK kvs => kvs.length ≤ sizeLine ∧ (a == sysModules) = false ∧ ∃ vs, KV kvs vs ∧ h.DictOf (mixKind P w) a vs
 | .dT kvs => kvs.length ≤ sizeLine ∧ (a == sysModules) = false ∧ ∃ xs : List (List Key × Addr × Value),
   Paired (fun (p : List Key × V) (q : List Key × Addr × Value) => p.1 = q.1 ∧ H q.2.1 = some (.tup (p.1.map kV)) ∧ RelV p.2 q.2.2) kvs xs ∧
   ∃ o es ep, h.get? a = some o ∧ o.ExactDict ∧ o.data = .dict es ep ∧ es.toList = xs.map (entryOfKey (tupleKind (mixKind P w))) ∧ (xs.map (·.1)).Nodup
 | .set S n => h.SetOf (intKind P w) a S n
 | .ins C dx fs => H dx = some (.own a) ∧ fs.length ≤ 1000 ∧ dx ≠ a ∧ h.get? a = some (PySem.W.instObj C dx) ∧
   ∃ mA, h.Ns1 dx mA ∧ (∀ f, RelO (fs.lookup f) (mA f)) ∧ PySem.Within mA (fs.map (·.1))
 | .own _ => ∃ o, h.get? a = some o
 | .xd fs => ∃ mA, h.Ns1 a mA ∧ ∀ f, RelO (fs.lookup f) (mA f)
 | .rng lo hi => ∃ t u v, h.get? a = some { cls := .type "range", data := .fields #[.int lo t, .int hi u, .int 1 v] }
 | .frz o u => h.get? a = some o ∧ ObjOk H h a u
 | .tbl ps => h.get? a = some { cls := .none, data := .fields ps }
 | .met f x => h.get? a = some (PySem.W.methodObj (.ref f) (.ref x))
 | .ext φ => φ h ∧ (∃ o, h.get? a = some o) ∧ ∀ h1 h2 : Heap, φ h1 → (∀ o, h1.get? a = some o → h2.get? a = some o) → φ h2
def HOk (H : Hp) (h : Heap) : Prop := ∀ a o, H a = some o → ObjOk P w H h a o
end
section
variable {P : Program} {w : World} {H H' : Hp} {h h' : Heap} {a : Addr} {o : HO}
theorem ObjOk.lt (x : ObjOk P w H h a o) : a < h.objs.size := by
 cases o with
 | lst xs => obtain ⟨_, _, _, _, e⟩ := x; exact Heap.lt_size e
 | tup xs => obtain ⟨_, _, _, p⟩ := x; exact p.lt
 | dK kvs => obtain ⟨_, _, _, _, o, _, _, e, _⟩ := x; exact Heap.lt_size e
 | dT kvs => obtain ⟨_, _, _, _, o, _, _, e, _⟩ := x; exact Heap.lt_size e
 | set S n => obtain ⟨o, _, _, _, e, _⟩ := x; exact Heap.lt_size e
 | ins C dx fs => obtain ⟨_, _, _, e, _⟩ := x; exact Heap.lt_size e
 | own y => obtain ⟨_, e⟩ := x; exact Heap.lt_size e
 | xd fs => obtain ⟨_, ⟨_, _, _, e, _⟩, _⟩ := x; exact Heap.lt_size e
 | rng lo hi => obtain ⟨_, _, _, e⟩ := x; exact Heap.lt_size e
 | frz ob u => obtain ⟨e, _⟩ := x; exact Heap.lt_size e
 | tbl ps => exact Heap.lt_size (show h.get? a = some _ from x)
 | met f y => exact Heap.lt_size (show h.get? a = some _ from x)
 | ext φ => obtain ⟨_, ⟨_, e⟩, _⟩ := x; exact Heap.lt_size e
theorem Paired.mapP {α β : Type} {F G : α → β → Prop} : ∀ {l₁ : List α} {l₂ : List β}, Paired F l₁ l₂ → (∀ a b, F a b → G a b) → Paired G l₁ l₂
 | _, _, .nil, _ => .nil
 | _, _, .cons r t, f => .cons (f _ _ r) (Paired.mapP t f)
theorem ObjOk.stay (x : ObjOk P w H h a o) (k : ∀ b u, (b = a ∨ H b = some (.own a)) → h.get? b = some u → h'.get? b = some u)
  (ho : ∀ b, H b = some (.own a) → H' b = some (.own a)) (ht : ∀ b xs, H b = some (.tup xs) → H' b = some (.tup xs)) : ObjOk P w H' h' a o := by
 induction o with
 | lst xs => obtain ⟨z, its, n, r, e⟩ := x; exact ⟨z, its, n, r, k _ _ (.inl rfl) e⟩
 | tup xs => obtain ⟨z, its, r, ob, e, c⟩ := x; exact ⟨z, its, r, ob, k _ _ (.inl rfl) e, c⟩
 | dK kvs => obtain ⟨z, y, vs, r, ob, es, ep, e, c⟩ := x; exact ⟨z, y, vs, r, ob, es, ep, k _ _ (.inl rfl) e, c⟩
 | dT kvs =>
  obtain ⟨z, y, xs, r, ob, es, ep, e, c⟩ := x
  exact ⟨z, y, xs, Paired.mapP r fun p q z => ⟨z.1, ht _ _ z.2.1, z.2.2⟩, ob, es, ep, k _ _ (.inl rfl) e, c⟩
 | set S n => obtain ⟨ob, es, ep, t, e, c⟩ := x; exact ⟨ob, es, ep, t, k _ _ (.inl rfl) e, c⟩
 | ins C dx fs =>
  obtain ⟨d, z, ne, e, mA, ⟨od, es, ep, e2, c⟩, r⟩ := x
  exact ⟨ho _ d, z, ne, k _ _ (.inl rfl) e, mA, ⟨od, es, ep, k _ _ (.inr d) e2, c⟩, r⟩
 | own y => obtain ⟨ob, e⟩ := x; exact ⟨ob, k _ _ (.inl rfl) e⟩
 | xd fs => obtain ⟨mA, ⟨od, es, ep, e, c⟩, r⟩ := x; exact ⟨mA, ⟨od, es, ep, k _ _ (.inl rfl) e, c⟩, r⟩
 | rng lo hi => obtain ⟨t, u, v, e⟩ := x; exact ⟨t, u, v, k _ _ (.inl rfl) e⟩
 | frz ob u ih => obtain ⟨e, q⟩ := x; exact ⟨k _ _ (.inl rfl) e, ih q⟩
 | tbl ps =>
  have e : h.get? a = some { cls := .none, data := .fields ps } := x
  show h'.get? a = some { cls := .none, data := .fields ps }
  exact k a _ (.inl rfl) e
 | met f y =>
  have e : h.get? a = some (PySem.W.methodObj (.ref f) (.ref y)) := x
  show h'.get? a = some (PySem.W.methodObj (.ref f) (.ref y))
  exact k a _ (.inl rfl) e
 | ext φ => obtain ⟨p, ⟨o, e⟩, st⟩ := x; exact ⟨st _ _ p fun o q => k _ _ (.inl rfl) q, ⟨o, k _ _ (.inl rfl) e⟩, st⟩
theorem HOk.lt (x : HOk P w H h) (e : H a = some o) : a < h.objs.size := (x a o e).lt
theorem HOk.fresh (x : HOk P w H h) (e : h.objs.size ≤ a) : H a = none := by
 cases q : H a with
 | none => rfl
 | some u => exact absurd (Nat.lt_of_lt_of_le (x.lt q) e) (Nat.lt_irrefl _)
theorem HOk.kept (x : HOk P w H h) (k : ∀ b u, h.get? b = some u → h'.get? b = some u) : HOk P w H h' := fun a o e =>
 (x a o e).stay (fun b u _ q => k b u q) (fun _ q => q) fun _ _ q => q
theorem HOk.laid (x : HOk P w H h) (k : ∀ b u, h.get? b = some u → h'.get? b = some u) (hp : h.objs.size ≤ a) (new : ObjOk P w (upd H a o) h' a o) : HOk P w (upd H a o) h' := fun b u e => by
 have hn := x.fresh hp
 by_cases hb : b = a
 ·subst hb; rw [upd_same] at e; cases e; exact new
 ·rw [upd_ne hb] at e
  exact (x b u e).stay (fun c v _ q => k c v q) (fun c q => by rw [upd_ne (ne_of_none q hn)]; exact q) fun c xs q => by rw [upd_ne (ne_of_none q hn)]; exact q
end
def Rd (H : Hp) (a : Addr) (u : HO) : Prop := H a = some u ∨ ∃ o, H a = some (.frz o u)
theorem Rd.ok {P : Program} {w : World} {H : Hp} {h : Heap} {a : Addr} {u : HO} (r : Rd H a u) (x : HOk P w H h) : ObjOk P w H h a u := by
 rcases r with r | ⟨o, r⟩
 ·exact x a u r
 ·obtain ⟨_, q⟩ := x a _ r
  exact q
def Mut : Option HO → Prop
 | some (.lst _) => True
 | some (.dK _) => True
 | some (.dT _) => True
 | some (.set _ _) => True
 | some (.ins _ _ _) => True
 | some (.ext _) => True
 | _ => False
section
variable {P : Program} {w : World} {H : Hp} {h h' : Heap} {x e : Addr} {o' : HO}
theorem HOk.write (ok : HOk P w H h) (mu : Mut (H x)) (he : e = x ∨ H e = some (.own x)) (k : ∀ b u, b ≠ e → h.get? b = some u → h'.get? b = some u) (heo : ∃ u, h'.get? e = some u)
  (new : ObjOk P w (upd H x o') h' x o') : HOk P w (upd H x o') h' := fun b u q => by
 have nown : ∀ c y, H c = some (.own y) → c ≠ x := fun c y r z => by subst z; rw [r] at mu; exact mu
 have ntup : ∀ c xs, H c = some (.tup xs) → c ≠ x := fun c xs r z => by subst z; rw [r] at mu; exact mu
 by_cases hb : b = x
 ·subst hb; rw [upd_same] at q; cases q; exact new
 ·rw [upd_ne hb] at q
  by_cases hbe : b = e
  ·have q' : H b = some (.own x) := by
    rcases he with z | z
    ·exact absurd (hbe.trans z) hb
    ·rw [hbe]; exact z
   rw [q] at q'; cases q'
   obtain ⟨v, hv⟩ := heo
   exact ⟨v, by rw [hbe]; exact hv⟩
  ·refine (ok b u q).stay (fun c v hc r => k c v ?_ r) (fun c r => by rw [upd_ne (nown c b r)]; exact r) fun c xs r => by rw [upd_ne (ntup c xs r)]; exact r
   rcases hc with rfl | hc
   ·exact hbe
   ·rintro rfl
    rcases he with z | z
    ·exact nown c b hc z
    ·rw [hc] at z; cases z; exact hb rfl
end
structure Un (fs ex : List Addr) (H H' : Hp) (h h' : Heap) : Prop where
 keep : ∀ b o, h.get? b = some o → H b = none → b ∉ fs → b ∉ ex → h'.get? b = some o
 slot : ∀ b o, h.get? b = some o → H b = none → b ∈ fs → b ∉ ex → ∃ sl, h'.get? b = some { o with slots := sl }
 free : ∀ b o, h.get? b = some o → H b = none → b ∉ ex → H' b = none
 there : ∀ b o, h.get? b = some o → b ∉ ex → ∃ o', h'.get? b = some o'
 tups : ∀ b xs, H b = some (.tup xs) → H' b = some (.tup xs)
 frzs : ∀ b o u, H b = some (.frz o u) → H' b = some (.frz o u)
 tbls : ∀ b ps, H b = some (.tbl ps) → ∃ more, H' b = some (.tbl (ps ++ more))
section
variable {fs fs' ex ex' : List Addr} {H H1 H2 : Hp} {h h1 h2 h' : Heap} {a x e : Addr} {o : HO}
theorem Un.any (u : Un fs ex H H1 h h1) {b : Addr} {ob : Obj} (q : h.get? b = some ob) (n : H b = none) (hx : b ∉ ex) : ∃ sl, h1.get? b = some { ob with slots := sl } := by
 by_cases hb : b ∈ fs
 ·exact u.slot b ob q n hb hx
 ·exact ⟨ob.slots, u.keep b ob q n hb hx⟩
theorem Un.kept (k : ∀ b u, h.get? b = some u → h'.get? b = some u) : Un fs ex H H h h' :=
 ⟨fun b ob q _ _ _ => k b ob q, fun b ob q _ _ _ => ⟨ob.slots, k b ob q⟩, fun _ _ _ n _ => n, fun b ob q _ => ⟨ob, k b ob q⟩, fun _ _ q => q, fun _ _ _ q => q, fun _ ps q => ⟨#[], by rw [q]; simp⟩⟩
theorem Un.refl : Un fs ex H H h h := Un.kept fun _ _ q => q
theorem Un.laid (k : ∀ b u, h.get? b = some u → h'.get? b = some u) (hp : h.objs.size ≤ a) (hn : H a = none) : Un fs ex H (upd H a o) h h' where
 keep := fun b u q _ _ _ => k b u q
 slot := fun b u q _ _ _ => ⟨u.slots, k b u q⟩
 free := fun b u q n _ => by rw [upd_ne (Nat.ne_of_lt (Nat.lt_of_lt_of_le (Heap.lt_size q) hp))]; exact n
 there := fun b u q _ => ⟨u, k b u q⟩
 tups := fun b xs q => by rw [upd_ne (ne_of_none q hn)]; exact q
 frzs := fun b u xs q => by rw [upd_ne (ne_of_none q hn)]; exact q
 tbls := fun b ps q => ⟨#[], by rw [upd_ne (ne_of_none q hn), q]; simp⟩
theorem Un.write (mu : Mut (H x)) (he : e = x ∨ H e = some (.own x)) (k : ∀ b u, b ≠ e → h.get? b = some u → h'.get? b = some u) (heo : ∃ u, h'.get? e = some u) : Un fs ex H (upd H x o) h h' := by
 have hx : ∀ b, H b = none → b ≠ x := fun b n z => by subst z; rw [n] at mu; exact mu
 have hb : ∀ b, H b = none → b ≠ e := fun b n z => by
  subst z
  rcases he with r | r
  ·exact hx b n r
  ·rw [n] at r; cases r
 have hm : ∀ b u, H b = some u → ¬ Mut (some u) → b ≠ x := fun b u q nm z => by subst z; rw [q] at mu; exact nm mu
 refine ⟨fun b u q n _ _ => k b u (hb b n) q, fun b u q n _ _ => ⟨u.slots, k b u (hb b n) q⟩, fun b u q n _ => by rw [upd_ne (hx b n)]; exact n, fun b u q _ => ?_,
  fun b xs q => by rw [upd_ne (hm b _ q fun z => z)]; exact q, fun b u xs q => by rw [upd_ne (hm b _ q fun z => z)]; exact q, fun b ps q => ⟨#[], by rw [upd_ne (hm b _ q fun z => z), q]; simp⟩⟩
 by_cases hbe : b = e
 ·subst hbe; exact heo
 ·exact ⟨u, k b u hbe q⟩
end
def trk (h : Heap) (H : Hp) : List Addr := (List.range h.objs.size).filter fun a => (H a).isSome
def hidT (h : Heap) (H : Hp) : Heap := PySem.W.hideAll h (trk h H)
theorem hidT_size (h : Heap) (H : Hp) : (hidT h H).objs.size = h.objs.size := PySem.W.hideAll_size _ _
theorem hidT_get {h : Heap} {H : Hp} {b : Addr} {o : Obj} (e : h.get? b = some o) (n : H b = none) : (hidT h H).get? b = some o :=
 PySem.W.hideAll_get _ e fun hm => by
  have q : (H b).isSome = true := (List.mem_filter.mp hm).2
  rw [n] at q; simp at q
theorem of_hidT {h : Heap} {H : Hp} {b : Addr} {o : Obj} (e : (hidT h H).get? b = some o) : h.get? b = some o ∧ H b = none := by
 have e' : h.get? b = some o := PySem.W.of_hideAll (trk h H) e
 refine ⟨e', ?_⟩
 cases q : H b with
 | none => rfl
 | some x =>
  have hm : b ∈ trk h H := List.mem_filter.mpr ⟨List.mem_range.mpr (Heap.lt_size e'), by simp [q]⟩
  have z : (hidT h H).get? b = none := PySem.W.hideAll_none (trk h H) hm
  rw [z] at e; cases e
def allNews (g h : Heap) (L : Addr) : List (Addr × Obj) := (List.range h.objs.size).filterMap fun a => if a = L ∨ (g.get? a).isSome = true then none else (h.get? a).map fun o => (a, o)
theorem mem_allNews {g h : Heap} {L a : Addr} {o : Obj} (h1 : a ≠ L) (h2 : g.get? a = none) (h3 : h.get? a = some o) : (a, o) ∈ allNews g h L :=
 List.mem_filterMap.mpr ⟨a, List.mem_range.mpr (Heap.lt_size h3), by simp [h1, h2, h3]⟩
theorem of_mem_allNews {g h : Heap} {L : Addr} {p : Addr × Obj} (hp : p ∈ allNews g h L) : p.1 ≠ L ∧ g.get? p.1 = none ∧ h.get? p.1 = some p.2 := by
 obtain ⟨b, _, e⟩ := List.mem_filterMap.mp hp
 split at e
 ·cases e
 ·rename_i hn
  cases q : h.get? b with
  | none => rw [q] at e; simp at e
  | some u =>
   rw [q] at e
   simp only [Option.map_some, Option.some.injEq] at e
   subst e
   refine ⟨fun z => hn (.inl z), ?_, q⟩
   show g.get? b = none
   cases r : g.get? b with
   | none => rfl
   | some v => exact (hn (.inr (by simp [r]))).elim
def rest (g h : Heap) (L d : Addr) : List (Addr × Obj) := (allNews g h L).filter fun p => decide (p.1 ≠ d)
theorem news_all {g h : Heap} {L : Addr} : News g L h (allNews g h L) := fun p hp => let ⟨a, b, c⟩ := of_mem_allNews hp; ⟨c, a, b⟩
end L2
namespace L2
open PySem PySem.Spec PyProof.Rows
structure Mod (K : PySem.W.Frag) (mg : Str → Option Value) (base : Heap) : Prop where
 kin : K.In base
 glob : base.Ns mainGlobals mg
 blt : ∃ mb, base.Ns builtinsNs mb ∧ ∀ x : Str, x ≠ "__name__" → mb x = bootBuiltins x
 nolimit : base.NoLimit
structure Cx where
 prog : Program
 w : World
 K : PySem.W.Frag
 mg : Str → Option Value
 base : Heap
 A : Around
 N : List Str
 s₀ : Shared
 H₀ : Hp
 env : Env
 outer : List Env
 stack : List Env
 ex : List Addr
 fn : Str → Bool
 calm : Bool
 pn : List (Addr × Obj)
 xe : Value → Shared → Prop
def frs (l : List Env) : List Addr := l.filterMap (·.frame)
abbrev Cx.fs (X : Cx) : List Addr := frs X.outer
def Vis (sc : Scope) (x : Str) : Prop := sc.names.lookup x = some .local ∨ sc.names.lookup x = some .cell ∨ sc.names.lookup x = some .free
def Loc (sc : Scope) (x : Str) : Prop := sc.names.lookup x = some .local ∨ sc.names.lookup x = some .cell
def Look (env : Env) (h : Heap) (m : Str → Option Value) (x : Str) (u : Value) : Prop :=
 (env.kindOf x = some .local ∧ m x = some u) ∨ ((env.kindOf x = some .cell ∨ env.kindOf x = some .free) ∧ ∃ c, env.cells.lookup x = some c ∧ h.IsCell c (some u))
structure Cx.Ok (X : Cx) : Prop where
 mod : Mod X.K X.mg X.base
 kind : X.env.scope.kind = .function
 glob : X.env.globals = mainGlobals
 blt : X.env.builtins = builtinsNs
 above : X.s₀.heap.objs.size ≤ X.env.locals
 inj : ∀ x y c, X.env.cells.lookup x = some c → X.env.cells.lookup y = some c → x = y
 has : ∀ x, (X.env.kindOf x = some .cell ∨ X.env.kindOf x = some .free) → ∃ c, X.env.cells.lookup x = some c
 cab : ∀ x c, X.fn x = true → X.env.cells.lookup x = some c → X.s₀.heap.objs.size ≤ c
 hd : X.calm = true → X.A.handled = none
 frames : X.A.frames = some X.stack
 stk : X.stack = X.outer ∨ (X.stack = X.env :: X.outer ∧ X.env.frame = some X.env.locals)
 exf : ∀ b ∈ X.ex, b ≠ X.env.locals ∧ ∀ x c, X.env.cells.lookup x = some c → c ≠ b
 bs : ∀ b o, X.base.get? b = some o → X.s₀.heap.get? b = some o ∧ X.H₀ b = none
 bsz : X.base.objs.size ≤ X.s₀.heap.objs.size
 noex : ∀ b o, X.base.get? b = some o → b ∉ X.ex
 exfs : ∀ b ∈ X.ex, b ∉ X.fs
 funs : X.s₀.heap.FunFrames X.base X.outer
 frf : ∀ b ∈ X.fs, X.H₀ b = none
structure Inv (X : Cx) (pins : List (Addr × Obj)) (σ : List (Option V)) (H : Hp) (s : Shared) : Prop where
 ok : X.Ok
 os : s.os = X.s₀.os
 bare : AllBare s.gens
 base : Un X.fs X.ex X.H₀ H X.s₀.heap s.heap
 loc : ∃ m, s.heap.Ns X.env.locals m ∧ ∀ (i : Nat) (x : Str) (v : V), X.N[i]? = some x → σ[i]? = some (some v) → Vis X.env.scope x → ∃ u, RelV v u ∧ Look X.env s.heap m x u
 cell : ∀ x c, X.env.cells.lookup x = some c → ∃ v, s.heap.IsCell c v
 free : H X.env.locals = none
 freeC : ∀ x c, X.env.cells.lookup x = some c → H c = none
 pin : ∀ p ∈ X.pn ++ pins, s.heap.get? p.1 = some p.2 ∧ H p.1 = none ∧ p.1 ≠ X.env.locals ∧ p.1 ∉ X.fs ∧ ∀ v, p.2.data ≠ .cell v
 hok : HOk X.prog X.w H s.heap
 len : σ.length = X.N.length
section
variable {X : Cx} {pins : List (Addr × Obj)} {σ : List (Option V)} {H H' : Hp} {s : Shared} {h' : Heap}
theorem Cx.Ok.nofr (ok : X.Ok) {b : Addr} {o : Obj} (e : X.base.get? b = some o) : b ∉ X.fs := fun hb => by
 have := (ok.funs.mem hb).1
 rw [e] at this; cases this
theorem Inv.bs (I : Inv X pins σ H s) : ∀ b o, X.base.get? b = some o → s.heap.get? b = some o ∧ H b = none := fun b o e =>
 ⟨I.base.keep b o (I.ok.bs b o e).1 (I.ok.bs b o e).2 (I.ok.nofr e) (I.ok.noex b o e), I.base.free b o (I.ok.bs b o e).1 (I.ok.bs b o e).2 (I.ok.noex b o e)⟩
theorem Inv.bk (I : Inv X pins σ H s) : ∀ b o, X.base.get? b = some o → s.heap.get? b = some o := fun b o e => (I.bs b o e).1
theorem Inv.mod (I : Inv X pins σ H s) : Mod X.K X.mg X.base := I.ok.mod
theorem Inv.kIn (I : Inv X pins σ H s) : X.K.In s.heap := I.ok.mod.kin.keeps I.bk
theorem Inv.fr (I : Inv X pins σ H s) : ∃ m, Fr X.base X.env.locals s.heap m :=
 let ⟨m, hn, _⟩ := I.loc
 ⟨m, hn, I.bk, Nat.le_trans I.ok.bsz I.ok.above⟩
theorem Inv.lt (I : Inv X pins σ H s) : X.env.locals < s.heap.objs.size := let ⟨_, hn, _⟩ := I.loc; hn.lt
theorem Inv.sz (I : Inv X pins σ H s) : X.s₀.heap.objs.size ≤ s.heap.objs.size := Nat.le_trans I.ok.above (Nat.le_of_lt I.lt)
theorem Inv.nofs (I : Inv X pins σ H s) {a : Addr} (h : s.heap.objs.size ≤ a) : a ∉ X.fs := fun hb => by
 obtain ⟨_, o, ho, _⟩ := I.ok.funs.mem hb
 exact absurd (Nat.lt_of_lt_of_le (Heap.lt_size ho) (Nat.le_trans I.sz h)) (Nat.lt_irrefl _)
theorem Inv.cne (I : Inv X pins σ H s) : ∀ x c, X.env.cells.lookup x = some c → c ≠ X.env.locals := fun x c e z => by
 obtain ⟨v, o, ho, hd⟩ := I.cell x c e
 obtain ⟨m, ⟨o', es, ep, ho', hd', _⟩, _⟩ := I.loc
 rw [z, ho'] at ho; cases ho; rw [hd'] at hd; cases hd
theorem Inv.funs (I : Inv X pins σ H s) : s.heap.FunFrames X.base X.outer := by
 have all : ∀ (l : List Env), (∀ b ∈ frs l, b ∈ X.fs) → X.s₀.heap.FunFrames X.base l → s.heap.FunFrames X.base l := by
  intro l
  induction l with
  | nil => intro _ _; trivial
  | cons env r ih =>
   intro hs hl
   obtain ⟨hk, ⟨L, o, hf, hn, ho, hd⟩, hr⟩ := hl
   have hL : L ∈ X.fs := hs L (by unfold frs; rw [List.filterMap_cons, hf]; exact List.mem_cons_self)
   obtain ⟨sl, e⟩ := I.base.slot L o ho (I.ok.frf L hL) hL fun z => I.ok.exfs L z hL
   exact ⟨hk, ⟨L, _, hf, hn, e, hd⟩, ih (fun b hb => hs b (by unfold frs; rw [List.filterMap_cons, hf]; exact List.mem_cons_of_mem _ hb)) hr⟩
 exact all X.outer (fun _ hb => hb) I.ok.funs
theorem Inv.stack (I : Inv X pins σ H s) : s.heap.FunFrames X.base X.stack := by
 rcases I.ok.stk with e | ⟨e, hf⟩
 ·rw [e]; exact I.funs
 ·rw [e]
  obtain ⟨m, hn, _⟩ := I.loc
  refine .cons (by rw [I.ok.kind]; decide) hf hn ?_ I.funs
  exact Heap.get?_none_of_le (Nat.le_trans I.ok.bsz I.ok.above)
theorem Inv.stkSub (I : Inv X pins σ H s) : ∀ b ∈ frs X.stack, b ∈ X.env.locals :: X.fs := fun b hb => by
 rcases I.ok.stk with e | ⟨e, hf⟩
 ·rw [e] at hb; exact List.mem_cons_of_mem _ hb
 ·rw [e] at hb
  unfold frs at hb
  rw [List.filterMap_cons, hf] at hb
  exact hb
theorem Inv.stkFree (I : Inv X pins σ H s) : ∀ b ∈ frs X.stack, H b = none := fun b hb => by
 rcases List.mem_cons.mp (I.stkSub b hb) with e | hb
 ·rw [e]; exact I.free
 ·obtain ⟨_, o, ho, _⟩ := I.ok.funs.mem hb
  exact I.base.free b o ho (I.ok.frf b hb) fun z => I.ok.exfs b z hb
theorem Inv.step {g' : Array GenState} {t' : Nat} {d' : Drawn} {ch : List Addr} (I : Inv X pins σ H s)
  (hch : ∀ b ∈ ch, (b ∈ X.ex ∨ X.s₀.heap.objs.size ≤ b) ∧ b ≠ X.env.locals ∧ (∀ x c, X.env.cells.lookup x = some c → c ≠ b) ∧ ∀ p ∈ X.pn ++ pins, p.1 ≠ b)
  (keep : ∀ b o, b ≠ X.env.locals → b ∉ X.fs → b ∉ ch → s.heap.get? b = some o → H b = none → h'.get? b = some o)
  (slot : ∀ b o, b ≠ X.env.locals → b ∈ X.fs → b ∉ ch → s.heap.get? b = some o → H b = none → ∃ sl, h'.get? b = some { o with slots := sl }) (free : ∀ b o, b ∉ ch → s.heap.get? b = some o → H b = none → H' b = none)
  (there : ∀ b o, b ∉ ch → s.heap.get? b = some o → ∃ o', h'.get? b = some o')
  (tups : ∀ b xs, H b = some (.tup xs) → H' b = some (.tup xs)) (frzs : ∀ b o u, H b = some (.frz o u) → H' b = some (.frz o u)) (tbls : ∀ b ps, H b = some (.tbl ps) → ∃ more, H' b = some (.tbl (ps ++ more)))
  (ns : ∀ m, s.heap.Ns X.env.locals m → h'.Ns X.env.locals m) (hok : HOk X.prog X.w H' h') (hg : AllBare g') :
  Inv X pins σ H' { s with heap := h', gens := g', drawn := d', toks := t' } := by
 have neL : ∀ b o, X.s₀.heap.get? b = some o → b ≠ X.env.locals := fun b o e => Nat.ne_of_lt (Nat.lt_of_lt_of_le (Heap.lt_size e) I.ok.above)
 have neC : ∀ b o, X.s₀.heap.get? b = some o → b ∉ X.ex → b ∉ ch := fun b o e hx hb => by
  rcases (hch b hb).1 with z | z
  ·exact hx z
  ·exact absurd (Nat.lt_of_lt_of_le (Heap.lt_size e) z) (Nat.lt_irrefl _)
 have cellK : ∀ x c, X.env.cells.lookup x = some c → ∀ v, s.heap.IsCell c v → h'.IsCell c v := fun x c e v ⟨o, ho, hd⟩ => by
  have nch : c ∉ ch := fun z => (hch c z).2.2.1 x c e rfl
  by_cases hc : c ∈ X.fs
  ·obtain ⟨sl, q⟩ := slot c o (I.cne x c e) hc nch ho (I.freeC x c e)
   exact ⟨_, q, hd⟩
  ·exact ⟨o, keep c o (I.cne x c e) hc nch ho (I.freeC x c e), hd⟩
 refine ⟨I.ok, I.os, hg, ⟨fun b o e n hb hx => ?_, fun b o e n hb hx => ?_, fun b o e n hx => ?_, fun b o e hx => ?_, fun b xs e => tups b xs (I.base.tups b xs e), fun b o xs e => frzs b o xs (I.base.frzs b o xs e), fun b ps e => ?_⟩, ?_, fun x c e => ?_, ?_, fun x c e => ?_, fun p hp => ?_, hok, I.len⟩
 ·exact keep b o (neL b o e) hb (neC b o e hx) (I.base.keep b o e n hb hx) (I.base.free b o e n hx)
 ·obtain ⟨sl, e1⟩ := I.base.slot b o e n hb hx
  obtain ⟨sl', e2⟩ := slot b _ (neL b o e) hb (neC b o e hx) e1 (I.base.free b o e n hx)
  exact ⟨sl', e2⟩
 ·obtain ⟨o', e1⟩ := I.base.there b o e hx
  exact free b o' (neC b o e hx) e1 (I.base.free b o e n hx)
 ·obtain ⟨o', e1⟩ := I.base.there b o e hx
  exact there b o' (neC b o e hx) e1
 ·obtain ⟨m1, e1⟩ := I.base.tbls b ps e
  obtain ⟨m2, e2⟩ := tbls b _ e1
  exact ⟨m1 ++ m2, by rw [e2, Array.append_assoc]⟩
 ·obtain ⟨m, hn, hl⟩ := I.loc
  refine ⟨m, ns m hn, fun i x v e1 e2 e3 => ?_⟩
  obtain ⟨u, r, l⟩ := hl i x v e1 e2 e3
  refine ⟨u, r, ?_⟩
  rcases l with l | ⟨k, c, e, z⟩
  ·exact .inl l
  ·exact .inr ⟨k, c, e, cellK x c e _ z⟩
 ·obtain ⟨v, z⟩ := I.cell x c e
  exact ⟨v, cellK x c e v z⟩
 ·obtain ⟨m, ⟨o, _, _, ho, _⟩, _⟩ := I.loc
  exact free _ o (fun z => (hch _ z).2.1 rfl) ho I.free
 ·obtain ⟨v, o, ho, hd⟩ := I.cell x c e
  exact free c o (fun z => (hch c z).2.2.1 x c e rfl) ho (I.freeC x c e)
 ·obtain ⟨e, n, ne, nf, d⟩ := I.pin p hp
  have nch : p.1 ∉ ch := fun z => (hch p.1 z).2.2.2 p hp rfl
  exact ⟨keep p.1 p.2 ne nf nch e n, free p.1 p.2 nch e n, ne, nf, d⟩
theorem Inv.un {t' : Nat} (I : Inv X pins σ H s) (u : Un X.fs [] H H' s.heap h') (hok : HOk X.prog X.w H' h') : Inv X pins σ H' { s with heap := h', toks := t' } := by
 obtain ⟨m, ⟨o, es, ep, ho, r⟩, _⟩ := id I.loc
 obtain ⟨sl, hL⟩ := u.any ho I.free (by simp)
 exact I.step (g' := s.gens) (d' := s.drawn) (ch := []) (fun _ z => nomatch z) (fun b o _ hb _ e n => u.keep b o e n hb (by simp)) (fun b o _ hb _ e n => u.slot b o e n hb (by simp)) (fun b o _ e n => u.free b o e n (by simp)) (fun b o _ e => u.there b o e (by simp)) u.tups u.frzs u.tbls (fun m' hm => by
  obtain ⟨o', es', ep', ho', r'⟩ := hm
  rw [ho] at ho'; cases ho'
  exact ⟨_, es', ep', hL, r'⟩) hok I.bare
theorem Inv.call {g' : Array GenState} {t' : Nat} {d' : Drawn} {ch : List Addr} (I : Inv X pins σ H s) (u : Un (frs X.stack) ch H H' s.heap h') (hok : HOk X.prog X.w H' h') (hg : AllBare g')
  (hch : ∀ b ∈ ch, (b ∈ X.ex ∨ X.s₀.heap.objs.size ≤ b) ∧ b ≠ X.env.locals ∧ (∀ x c, X.env.cells.lookup x = some c → c ≠ b) ∧ ∀ p ∈ X.pn ++ pins, p.1 ≠ b) :
  Inv X pins σ H' { s with heap := h', gens := g', drawn := d', toks := t' } := by
 obtain ⟨m, ⟨o, es, ep, ho, r⟩, _⟩ := id I.loc
 obtain ⟨sl, hL⟩ := u.any ho I.free fun z => (hch _ z).2.1 rfl
 exact I.step (ch := ch) hch (fun b o hL hb hc e n => u.keep b o e n (fun z => (List.mem_cons.mp (I.stkSub b z)).elim hL hb) hc) (fun b o _ _ hc e n => u.any e n hc) (fun b o hc e n => u.free b o e n hc) (fun b o hc e => u.there b o e hc) u.tups u.frzs u.tbls (fun m' hm => by
  obtain ⟨o', es', ep', ho', r'⟩ := hm
  rw [ho] at ho'; cases ho'
  exact ⟨_, es', ep', hL, r'⟩) hok hg
theorem Inv.turned {t' : Nat} {it : Addr} (I : Inv X pins σ H s) (k : ∀ b o, b ≠ it → s.heap.get? b = some o → h'.get? b = some o) (hn : H it = none) (hL : it ≠ X.env.locals)
  (h1 : it ∈ X.ex ∨ X.s₀.heap.objs.size ≤ it) (h2 : ∀ x c, X.env.cells.lookup x = some c → c ≠ it) (h3 : ∀ p ∈ X.pn ++ pins, p.1 ≠ it) : Inv X pins σ H { s with heap := h', toks := t' } := by
 have nit : ∀ b u, H b = some u → b ≠ it := fun b u e z => by rw [z, hn] at e; cases e
 refine I.step (g' := s.gens) (d' := s.drawn) (ch := [it]) (fun b hb => ?_) (fun b o _ _ hc e _ => k b o (fun z => hc (by simp [z])) e) (fun b o _ _ hc e _ => ⟨o.slots, k b o (fun z => hc (by simp [z])) e⟩) (fun _ _ _ _ n => n)
  (fun b o hc e => ⟨o, k b o (fun z => hc (by simp [z])) e⟩) (fun _ _ e => e) (fun _ _ _ e => e) (fun b ps e => ⟨#[], by rw [e]; simp⟩) (fun m hm => ?_) (fun b u e => ?_) I.bare
 ·have e : b = it := by simpa using hb
  subst e
  exact ⟨h1, hL, h2, h3⟩
 ·obtain ⟨o, es, ep, ho, r⟩ := hm
  exact ⟨o, es, ep, k _ o (Ne.symm hL) ho, r⟩
 ·refine (I.hok b u e).stay (fun c v hc q => k c v ?_ q) (fun _ q => q) fun _ _ q => q
  rcases hc with z | z
  ·rw [z]; exact nit b u e
  ·exact nit c _ z
theorem Inv.tok (I : Inv X pins σ H s) (t : Nat) : Inv X pins σ H { s with toks := t } := I.un (h' := s.heap) (t' := t) Un.refl I.hok
theorem Inv.kept {t' : Nat} (I : Inv X pins σ H s) (k : ∀ b u, s.heap.get? b = some u → h'.get? b = some u) : Inv X pins σ H { s with heap := h', toks := t' } := I.un (Un.kept k) (I.hok.kept k)
theorem Inv.laid {a : Addr} {o : HO} {t' : Nat} (I : Inv X pins σ H s) (k : ∀ b u, s.heap.get? b = some u → h'.get? b = some u) (hp : s.heap.objs.size ≤ a) (new : ObjOk X.prog X.w (upd H a o) h' a o) :
  Inv X pins σ (upd H a o) { s with heap := h', toks := t' } := I.un (Un.laid k hp (I.hok.fresh hp)) (I.hok.laid k hp new)
theorem Inv.write {x e : Addr} {o : HO} {t' : Nat} (I : Inv X pins σ H s) (mu : Mut (H x)) (he : e = x ∨ H e = some (.own x)) (k : ∀ b u, b ≠ e → s.heap.get? b = some u → h'.get? b = some u) (heo : ∃ u, h'.get? e = some u)
  (new : ObjOk X.prog X.w (upd H x o) h' x o) : Inv X pins σ (upd H x o) { s with heap := h', toks := t' } := I.un (Un.write mu he k heo) (I.hok.write mu he k heo new)
theorem Inv.weak {σ' : List (Option V)} (I : Inv X pins σ H s) (hl : σ'.length = σ.length) (w : ∀ (i : Nat) v, σ'[i]? = some (some v) → σ[i]? = some (some v)) : Inv X pins σ' H s :=
 ⟨I.ok, I.os, I.bare, I.base, let ⟨m, hn, hl'⟩ := I.loc; ⟨m, hn, fun i x v e1 e2 e3 => hl' i x v e1 (w i v e2) e3⟩, I.cell, I.free, I.freeC, I.pin, I.hok, hl.trans I.len⟩
theorem Inv.pins_of {pins' : List (Addr × Obj)} (I : Inv X pins σ H s) (h : ∀ p ∈ pins', s.heap.get? p.1 = some p.2 ∧ H p.1 = none ∧ p.1 ≠ X.env.locals ∧ p.1 ∉ X.fs ∧ ∀ v, p.2.data ≠ .cell v) : Inv X pins' σ H s :=
 ⟨I.ok, I.os, I.bare, I.base, I.loc, I.cell, I.free, I.freeC, fun p hp => (List.mem_append.mp hp).elim (fun z => I.pin p (List.mem_append_left _ z)) (h p), I.hok, I.len⟩
theorem nodup_ix {N : List Str} (hN : N.Nodup) {i j : Nat} {x : Str} (a : N[i]? = some x) (b : N[j]? = some x) : i = j := by
 obtain ⟨h1, e1⟩ := List.getElem?_eq_some_iff.mp a
 obtain ⟨h2, e2⟩ := List.getElem?_eq_some_iff.mp b
 exact (List.getElem_inj hN).mp (e1.trans e2.symm)
theorem store_ok2 {M : Model} {A : Around} {E : Value → Shared → Prop} {i : Nat} {x : Str} {v : V} {u : Value} {Q : Unit → Shared → Prop} (I : Inv X pins σ H s) (hN : X.N.Nodup) (hi : X.N[i]? = some x) (hx : Loc X.env.scope x) (r : RelV v u)
  (h : ∀ s', Inv X pins (σ.set i (some v)) H s' → (∃ a, Heap.SameBut a s.heap s'.heap ∧ (a = X.env.locals ∨ X.env.cells.lookup x = some a)) → Q () s') (hf : X.fn x = true ∨ X.env.scope.names.lookup x = some .local := by first | exact .inl rfl | exact .inr rfl | assumption) : wpAny M A (storeName X.env x u) Q E s := by
 obtain ⟨m, hn, hl⟩ := id I.loc
 have hcls : (X.env.scope.kind == .class || (X.env.scope.kind == .module && X.env.locals != X.env.globals)) = false := by rw [I.ok.kind]; rfl
 have hiσ : i < σ.length := by rw [I.len]; exact (List.getElem?_eq_some_iff.mp hi).1
 have cne := I.cne
 have tracked : ∀ {a : Addr} {h' : Heap}, (∃ o, s.heap.get? a = some o ∧ H a = none) → Heap.SameBut a s.heap h' → HOk X.prog X.w H h' := fun {a h'} ha hs b ob e => by
  obtain ⟨_, _, hfree⟩ := ha
  refine (I.hok b ob e).stay (fun c w' hc q => (hs.2 c ?_).trans q) (fun _ q => q) fun _ _ q => q
  rintro rfl
  rcases hc with rfl | hc
  ·rw [hfree] at e; cases e
  ·rw [hfree] at hc; cases hc
 rcases hx with hk | hk
 ·refine wpAny_storeName_local hk hn (fun h' hn' hs => ?_) hcls
  obtain ⟨oL, _, _, hoL, _⟩ := id hn
  refine h _ ⟨I.ok, I.os, I.bare, ⟨fun b o e n hb hx => ?_, fun b o e n hb hx => ?_, I.base.free, fun b o e hx => ?_, I.base.tups, I.base.frzs, I.base.tbls⟩, ⟨_, hn', fun j y v' e1 e2 e3 => ?_⟩, fun y c e => ?_, I.free, I.freeC, fun p hp => ?_, tracked ⟨oL, hoL, I.free⟩ hs, by simpa using I.len⟩ ⟨_, hs, .inl rfl⟩
  ·exact (hs.2 b (Nat.ne_of_lt (Nat.lt_of_lt_of_le (Heap.lt_size e) I.ok.above))).trans (I.base.keep b o e n hb hx)
  ·obtain ⟨sl, e1⟩ := I.base.slot b o e n hb hx
   exact ⟨sl, (hs.2 b (Nat.ne_of_lt (Nat.lt_of_lt_of_le (Heap.lt_size e) I.ok.above))).trans e1⟩
  ·obtain ⟨o', e1⟩ := I.base.there b o e hx
   exact ⟨o', (hs.2 b (Nat.ne_of_lt (Nat.lt_of_lt_of_le (Heap.lt_size e) I.ok.above))).trans e1⟩
  ·by_cases hj : j = i
   ·subst hj
    rw [hi] at e1; cases e1
    rw [List.getElem?_set_self hiσ] at e2
    cases e2
    exact ⟨u, r, .inl ⟨hk, by simp⟩⟩
   ·rw [List.getElem?_set_ne (Ne.symm hj)] at e2
    obtain ⟨u', r', q⟩ := hl j y v' e1 e2 e3
    refine ⟨u', r', ?_⟩
    rcases q with ⟨k, e⟩ | ⟨k, c, e, z⟩
    ·refine .inl ⟨k, ?_⟩
     have : y ≠ x := fun e => hj (nodup_ix hN e1 (e ▸ hi))
     simp [this, e]
    ·exact .inr ⟨k, c, e, z.sameBut hs (cne y c e)⟩
  ·obtain ⟨w', z⟩ := I.cell y c e
   exact ⟨w', z.sameBut hs (cne y c e)⟩
  ·obtain ⟨e, n, ne, nf, d⟩ := I.pin p hp
   exact ⟨(hs.2 p.1 ne).trans e, n, ne, nf, d⟩
 ·have hfn : X.fn x = true := by
   rcases hf with z | z
   ·exact z
   ·rw [z] at hk; cases hk
  obtain ⟨c, hc⟩ := I.ok.has x (.inl hk)
  obtain ⟨w', z⟩ := I.cell x c hc
  refine wpAny_storeName_cell I.ok.kind hk hc z (fun h' hc' hs => ?_)
  obtain ⟨oc, hoc, hocd⟩ := id z
  refine h { s with heap := h' } ⟨I.ok, I.os, I.bare, ⟨fun b o e n hb hx => ?_, fun b o e n hb hx => ?_, I.base.free, fun b o e hx => ?_, I.base.tups, I.base.frzs, I.base.tbls⟩, ⟨m, hn.sameBut hs (Ne.symm (cne x c hc)), fun j y v' e1 e2 e3 => ?_⟩, fun y c' e => ?_, I.free, I.freeC, fun p hp => ?_, tracked ⟨oc, hoc, I.freeC x c hc⟩ hs, by simpa using I.len⟩ ⟨c, hs, .inr hc⟩
  ·exact (hs.2 b (Nat.ne_of_lt (Nat.lt_of_lt_of_le (Heap.lt_size e) (I.ok.cab x c hfn hc)))).trans (I.base.keep b o e n hb hx)
  ·obtain ⟨sl, e1⟩ := I.base.slot b o e n hb hx
   exact ⟨sl, (hs.2 b (Nat.ne_of_lt (Nat.lt_of_lt_of_le (Heap.lt_size e) (I.ok.cab x c hfn hc)))).trans e1⟩
  ·obtain ⟨o', e1⟩ := I.base.there b o e hx
   exact ⟨o', (hs.2 b (Nat.ne_of_lt (Nat.lt_of_lt_of_le (Heap.lt_size e) (I.ok.cab x c hfn hc)))).trans e1⟩
  ·by_cases hj : j = i
   ·subst hj
    rw [hi] at e1; cases e1
    rw [List.getElem?_set_self hiσ] at e2
    cases e2
    exact ⟨u, r, .inr ⟨.inl hk, c, hc, hc'⟩⟩
   ·rw [List.getElem?_set_ne (Ne.symm hj)] at e2
    obtain ⟨u', r', q⟩ := hl j y v' e1 e2 e3
    refine ⟨u', r', ?_⟩
    rcases q with q | ⟨k, c', e, z'⟩
    ·exact .inl q
    ·refine .inr ⟨k, c', e, z'.sameBut hs ?_⟩
     rintro rfl
     exact hj (nodup_ix hN e1 (I.ok.inj _ _ _ e hc ▸ hi))
  ·by_cases hcc : c' = c
   ·subst hcc; exact ⟨_, hc'⟩
   ·obtain ⟨w2, z2⟩ := I.cell y c' e
    exact ⟨w2, z2.sameBut hs hcc⟩
  ·obtain ⟨e, n, ne, nf, d⟩ := I.pin p hp
   refine ⟨(hs.2 p.1 ?_).trans e, n, ne, nf, d⟩
   intro q
   rw [q, hoc] at e
   have q' : oc = p.2 := Option.some.inj e
   exact d w' (by rw [← q']; exact hocd)
theorem store_ok {M : Model} {A : Around} {E : Value → Shared → Prop} {i : Nat} {x : Str} {v : V} {u : Value} {Q : Unit → Shared → Prop} (I : Inv X pins σ H s) (hN : X.N.Nodup) (hi : X.N[i]? = some x) (hx : Loc X.env.scope x) (r : RelV v u)
  (h : ∀ s', Inv X pins (σ.set i (some v)) H s' → Q () s') (hf : X.fn x = true ∨ X.env.scope.names.lookup x = some .local := by first | exact .inl rfl | exact .inr rfl | assumption) : wpAny M A (storeName X.env x u) Q E s :=
 store_ok2 I hN hi hx r (fun s' I' _ => h s' I') hf
theorem Inv.call' {s' : Shared} {ch : List Addr} (I : Inv X pins σ H s) (ho : s'.os = s.os) (u : Un (frs X.stack) ch H H' s.heap s'.heap) (hok : HOk X.prog X.w H' s'.heap) (hg : AllBare s'.gens)
  (hch : ∀ b ∈ ch, (b ∈ X.ex ∨ X.s₀.heap.objs.size ≤ b) ∧ b ≠ X.env.locals ∧ (∀ x c, X.env.cells.lookup x = some c → c ≠ b) ∧ ∀ p ∈ X.pn ++ pins, p.1 ≠ b) : Inv X pins σ H' s' := by
 obtain ⟨h', g', d', t', o'⟩ := s'
 have e : o' = s.os := ho
 subst e
 exact I.call (g' := g') (t' := t') (d' := d') u hok hg hch
end
abbrev XK := Value → Option Addr → Hp → Prop
abbrev St := List (Option V)
abbrev VK := V → Hp → Prop
abbrev TE := St → Hp → VK → Prop
abbrev TT := St → Hp → (Bool → Hp → Prop) → Prop
abbrev TA := St → Hp → (List V → Hp → Prop) → Prop
structure Ends where
 nx : St → Hp → Prop
 rt : VK
 bk : St → Hp → Prop := fun _ _ => False
 ct : St → Hp → Prop := fun _ _ => False
abbrev TS := Ends → St → Hp → Prop
def EP (X : Cx) (pins : List (Addr × Obj)) (σ : St) (Q : VK) (u : Value) (s' : Shared) : Prop := ∃ v H', Inv X pins σ H' s' ∧ RelV v u ∧ Q v H'
def TP (X : Cx) (pins : List (Addr × Obj)) (σ : St) (Q : Bool → Hp → Prop) (b : Bool) (s' : Shared) : Prop := ∃ H', Inv X pins σ H' s' ∧ Q b H'
def AP (X : Cx) (pins : List (Addr × Obj)) (σ : St) (Q : List V → Hp → Prop) (us : List Value) (s' : Shared) : Prop := ∃ vs H', Inv X pins σ H' s' ∧ Vals vs us ∧ Q vs H'
def SP (X : Cx) (pins : List (Addr × Obj)) (D : Ends) (f : Flow) (s' : Shared) : Prop :=
 match f with
 | .next => ∃ σ' H', Inv X pins σ' H' s' ∧ D.nx σ' H'
 | .brk => ∃ σ' H', Inv X pins σ' H' s' ∧ D.bk σ' H'
 | .cont => ∃ σ' H', Inv X pins σ' H' s' ∧ D.ct σ' H'
 | .ret u => ∃ v σ' H', Inv X pins σ' H' s' ∧ RelV v u ∧ D.rt v H'
def PE (X : Cx) (e : Expr) (t : TE) : Prop :=
 ∀ (pins : List (Addr × Obj)) (s : Shared) (σ : St) (H : Hp) (Q : VK), Inv X pins σ H s → t σ H Q → wpAny (model X.prog X.w) X.A (eval e X.env) (EP X pins σ Q) X.xe s
def PT (X : Cx) (e : Expr) (t : TT) : Prop :=
 ∀ (pins : List (Addr × Obj)) (s : Shared) (σ : St) (H : Hp) (Q : Bool → Hp → Prop), Inv X pins σ H s → t σ H Q → wpAny (model X.prog X.w) X.A (isTrue e X.env (eval e X.env)) (TP X pins σ Q) X.xe s
def PW (X : Cx) (e : Expr) (t : TT) : Prop :=
 ∀ (whole : Sem Value) (pins : List (Addr × Obj)) (s : Shared) (σ : St) (H : Hp) (Q : Bool → Hp → Prop), Inv X pins σ H s → t σ H Q → wpAny (model X.prog X.w) X.A (isTrue e X.env whole) (TP X pins σ Q) X.xe s
theorem PW.pt {X : Cx} {e : Expr} {t : TT} (h : PW X e t) : PT X e t := h _
def PA (X : Cx) (es : List Expr) (t : TA) : Prop :=
 ∀ (pos : Pos) (pins : List (Addr × Obj)) (s : Shared) (σ : St) (H : Hp) (Q : List V → Hp → Prop), Inv X pins σ H s → t σ H Q → wpAny (model X.prog X.w) X.A (spliced (backTo pos (starEach es X.env))) (AP X pins σ Q) X.xe s
def PS (X : Cx) (st : Stmt) (t : TS) : Prop :=
 ∀ (pins : List (Addr × Obj)) (s : Shared) (σ : St) (H : Hp) (D : Ends), Inv X pins σ H s → t D σ H → wpAny (model X.prog X.w) X.A (exec st X.env) (SP X pins D) X.xe s
def PSs (X : Cx) (st : List Stmt) (t : TS) : Prop :=
 ∀ (pins : List (Addr × Obj)) (s : Shared) (σ : St) (H : Hp) (D : Ends), Inv X pins σ H s → t D σ H → wpAny (model X.prog X.w) X.A (execs st X.env) (SP X pins D) X.xe s
theorem thn {α : Type} {t : Sem α} {Q Q' : α → Shared → Prop} {M : Model} {A : Around} {E : Value → Shared → Prop} {s : Shared} (h : wpAny M A t Q E s) (hQ : ∀ a s, Q a s → Q' a s) : wpAny M A t Q' E s := wpAny_mono h hQ fun _ _ x => x
end L2
namespace L2
open PySem PySem.Spec PyProof.Rows
section
variable {X : Cx}
def tVar (i : Nat) : TE := fun σ H Q => ∃ v, σ[i]? = some (some v) ∧ Q v H
def tC (v : V) : TE := fun _ H Q => Q v H
theorem pe_var {i : Nat} {x : Str} {pos : Pos} (hN : X.N[i]? = some x) (hv : Vis X.env.scope x) (hd : (x == ("__debug__" : Str)) = false := by decide) (hcd : (x == ("__classdict__" : Str)) = false := by decide) : PE X (.Name x pos) (tVar i) := by
 intro pins s σ H Q I h
 obtain ⟨v, e, h⟩ := h
 obtain ⟨m, hn, hl⟩ := I.loc
 obtain ⟨u, r, l⟩ := hl i x v hN e hv
 have fin : EP X pins σ Q u s := ⟨v, H, I, r, h⟩
 rcases l with ⟨hk, hm⟩ | ⟨hk, c, hc, hcell⟩
 ·exact wpAny_Name (wpAny_loadName_local I.ok.kind hk hn hm fin) hd
 ·rcases hk with hk | hk
  ·exact wpAny_Name (wpAny_loadName_cell I.ok.kind hk hc hcell fin) hd
  ·exact wpAny_Name (wpAny_loadName_free I.ok.kind hk hc hcell fin hcd) hd
theorem pe_int {i j pos} : PE X (.Constant (.int i) j pos) (tC (.int i)) := fun _ _ _ H _ I h => wpAny_Constant_int ⟨.int i, H, I.tok _, ⟨_, rfl⟩, h⟩
theorem pe_bl {b j pos} : PE X (.Constant (.bool b) j pos) (tC (.bl b)) := fun _ _ _ H _ I h => Constant_bool ⟨.bl b, H, I, rfl, h⟩
theorem pe_non {j pos} : PE X (.Constant .none j pos) (tC .non) := fun _ _ _ H _ I h => Constant_none ⟨.non, H, I, rfl, h⟩
theorem pe_str {x j pos} : PE X (.Constant (.str x) j pos) (tC (.str x)) := fun _ _ _ H _ I h => Calls.Constant_str ⟨.str x, H, I.tok _, ⟨_, rfl⟩, h⟩
def Gl (X : Cx) (x : Str) : Prop := X.env.kindOf x = some .globalImplicit
theorem ld_glob {E : Value → Shared → Prop} {pins : List (Addr × Obj)} {s : Shared} {σ : St} {H : Hp} {x : Str} {u : Value} {pos : Pos} {Q : Value → Shared → Prop} (I : Inv X pins σ H s) (hg : Gl X x) (hm : X.mg x = some u) (h : Q u s)
  (hd : (x == ("__debug__" : Str)) = false := by decide) : wpAny (model X.prog X.w) X.A (eval (.Name x pos) X.env) Q E s :=
 Calls.Name_function_global I.ok.kind hg (Calls.loadGlobal_global (by rw [I.ok.glob]; exact I.mod.glob.keeps I.bk) hm h) hd
theorem ld_blt {E : Value → Shared → Prop} {pins : List (Addr × Obj)} {s : Shared} {σ : St} {H : Hp} {x : Str} {u : Value} {pos : Pos} {Q : Value → Shared → Prop} (I : Inv X pins σ H s) (hg : Gl X x) (hm : X.mg x = none) (hv : bootBuiltins x = some u) (h : Q u s)
  (hn : x ≠ "__name__" := by decide) (hd : (x == ("__debug__" : Str)) = false := by decide) : wpAny (model X.prog X.w) X.A (eval (.Name x pos) X.env) Q E s := by
 obtain ⟨mb, h1, h2⟩ := I.mod.blt
 exact Calls.Name_function_global I.ok.kind hg (Calls.loadGlobal_builtin (by rw [I.ok.glob]; exact I.mod.glob.keeps I.bk) hm (by rw [I.ok.blt]; exact h1.keeps I.bk) ((h2 x hn).trans hv) h) hd
theorem pe_glob {x : Str} {v : V} {u : Value} {pos : Pos} (hg : Gl X x) (hm : X.mg x = some u) (r : RelV v u) (hd : (x == ("__debug__" : Str)) = false := by decide) : PE X (.Name x pos) (tC v) :=
 fun _ _ _ H _ I h => ld_glob I hg hm ⟨v, H, I, r, h⟩ hd
theorem pe_bltn {x : Str} {v : V} {u : Value} {pos : Pos} (hg : Gl X x) (hm : X.mg x = none) (hv : bootBuiltins x = some u) (r : RelV v u) (hn : x ≠ "__name__" := by decide) (hd : (x == ("__debug__" : Str)) = false := by decide) : PE X (.Name x pos) (tC v) :=
 fun _ _ _ H _ I h => ld_blt I hg hm hv ⟨v, H, I, r, h⟩ hn hd
def t2I (ta tb : TE) (k : Int → Int → Hp → Prop) : St → Hp → Prop := fun σ H => ta σ H fun x H1 => tb σ H1 fun y H2 => ∃ i j, x = .int i ∧ y = .int j ∧ k i j H2
def tAdd (ta tb : TE) : TE := fun σ H Q => t2I ta tb (fun i j H2 => Q (.int (i + j)) H2) σ H
def tSub (ta tb : TE) : TE := fun σ H Q => t2I ta tb (fun i j H2 => Q (.int (i - j)) H2) σ H
def tMul (ta tb : TE) : TE := fun σ H Q => t2I ta tb (fun i j H2 => (-(2 ^ 64) < i ∧ i < 2 ^ 64) ∧ Q (.int (i * j)) H2) σ H
variable {a b : Expr} {ta tb : TE} {pos : Pos}
def PC (X : Cx) (op : CmpOp) (a b : Expr) (t : TE) : Prop :=
 ∀ (pins : List (Addr × Obj)) (s : Shared) (σ : St) (H : Hp) (Q : VK), Inv X pins σ H s → t σ H Q →
  wpAny (model X.prog X.w) X.A (eval a X.env) (fun v s₁ => wpAny (model X.prog X.w) X.A (eval b X.env) (fun u s₂ => wpAny (model X.prog X.w) X.A (compareOp op v u) (EP X pins σ Q) X.xe s₂) X.xe s₁) X.xe s
theorem nobehind (b : Expr) {op : CmpOp} (h : op ≠ .In) (h2 : op ≠ .NotIn) : behindInMarks op b = false := by
 have e1 : (op == CmpOp.In) = false := by cases op <;> first | rfl | exact absurd rfl h
 have e2 : (op == CmpOp.NotIn) = false := by cases op <;> first | rfl | exact absurd rfl h2
 cases b <;> simp [behindInMarks, e1, e2]
def tCmp (p : Int → Int → Bool) (ta tb : TE) : TE := fun σ H Q => t2I ta tb (fun i j H2 => Q (.bl (p i j)) H2) σ H
abbrev tLt : TE → TE → TE := tCmp fun i j => decide (i < j)
abbrev tLe : TE → TE → TE := tCmp fun i j => decide (i ≤ j)
abbrev tGt : TE → TE → TE := tCmp fun i j => decide (j < i)
abbrev tGe : TE → TE → TE := tCmp fun i j => decide (j ≤ i)
abbrev tEqI : TE → TE → TE := tCmp fun i j => decide (i = j)
abbrev tNeI : TE → TE → TE := tCmp fun i j => !decide (i = j)
def tIsN (ta : TE) : TE := fun σ H Q => ta σ H fun x H1 => Q (.bl (decide (x = .non))) H1
def tNotN (ta : TE) : TE := fun σ H Q => ta σ H fun x H1 => Q (.bl (!decide (x = .non))) H1
theorem RelV.none_iff {x : V} {v : Value} (r : RelV x v) : (v == Value.none) = decide (x = .non) := by
 cases x with
 | non => cases r; rfl
 | bl _ => cases r; rfl
 | int _ => obtain ⟨t, rfl⟩ := r; rfl
 | str _ => obtain ⟨t, rfl⟩ := r; rfl
 | byt _ => obtain ⟨t, rfl⟩ := r; rfl
 | flt _ => obtain ⟨t, rfl⟩ := r; rfl
 | ref _ => cases r; rfl
 | ty _ => cases r; rfl
theorem pc_isN {j pos'} (ha : PE X a ta) : PC X .Is a (.Constant .none j pos') (tIsN ta) := by
 intro pins s σ H Q I h
 refine thn (ha pins s σ H _ I h) fun v s1 ⟨x, H1, I1, r1, q1⟩ => ?_
 exact Constant_none (is_none_gen ⟨.bl _, H1, I1, by rw [r1.none_iff]; rfl, q1⟩)
theorem pc_notN {j pos'} (ha : PE X a ta) : PC X .IsNot a (.Constant .none j pos') (tNotN ta) := by
 intro pins s σ H Q I h
 refine thn (ha pins s σ H _ I h) fun v s1 ⟨x, H1, I1, r1, q1⟩ => ?_
 exact Constant_none (isnot_none_gen ⟨.bl _, H1, I1, by rw [r1.none_iff]; rfl, q1⟩)
def tB (t : TE) : TT := fun σ H Q => t σ H fun x H1 => ∃ c, x = .bl c ∧ Q c H1
theorem pt_cmp {op : CmpOp} {t : TE} (h : PC X op a b t) (h1 : behindInMarks op b = false := by first | exact nobehind _ (by decide) (by decide) | rfl) : PT X (.Compare a [op] [b] pos) (tB t) := by
 intro pins s σ H Q I hw
 refine wpAny_isTrue_Compare1 (thn (h pins s σ H _ I hw) fun v s1 h1 => thn h1 fun u s2 h2 => thn h2 fun c s3 ⟨x, H1, I1, r1, q1⟩ => ?_) h1
 obtain ⟨d, rfl, q⟩ := q1
 cases r1
 exact wpAny_truthy_bool ⟨H1, I1, q⟩
theorem pt_val {e : Expr} {t : TE} (h : PE X e t) (he : ∀ whole, isTrue e X.env whole = (do let v ← whole; standAt e.pos; holding [v] (truthy v)) := by intro _; rfl) : PT X e (tB t) := by
 intro pins s σ H Q I hw
 refine isTrue_plain (thn (h pins s σ H _ I hw) fun v s1 ⟨x, H1, I1, r1, q1⟩ => ?_) (he _)
 obtain ⟨d, rfl, q⟩ := q1
 cases r1
 exact wpAny_truthy_bool ⟨H1, I1, q⟩
variable {tA tB' : TT} {rest : List Expr}
def tAnd (t u : TT) : TT := fun σ H Q => t σ H fun c H1 => if c = true then u σ H1 Q else Q false H1
def tOr (t u : TT) : TT := fun σ H Q => t σ H fun c H1 => if c = true then Q true H1 else u σ H1 Q
def tNot (t : TT) : TT := fun σ H Q => t σ H fun c H1 => Q (!c) H1
theorem pw_or1 (ha : PT X a tA) : PW X (.BoolOp .Or [a] pos) tA := by
 intro wh pins s σ H Q I h
 refine isTrue_or (thn (ha pins s σ H Q I h) fun c s1 e => ?_)
 cases c with
 | false => exact isTrue_or_nil e
 | true => exact e
theorem pw_or (ha : PT X a tA) (hb : PW X (.BoolOp .Or (b :: rest) pos) tB') : PW X (.BoolOp .Or (a :: b :: rest) pos) (tOr tA tB') := by
 intro wh pins s σ H Q I h
 refine isTrue_or (thn (ha pins s σ H _ I h) fun c s1 ⟨H1, I1, q1⟩ => ?_)
 cases c with
 | true => exact ⟨H1, I1, q1⟩
 | false => exact hb wh pins s1 σ H1 Q I1 q1
theorem pt_not (ha : PT X a tA) : PT X (.UnaryOp .Not a pos) (tNot tA) := by
 intro pins s σ H Q I h
 exact isTrue_not (ha pins s σ H (fun c H1 => Q (!c) H1) I h)
def tAndV (ta tb : TE) : TE := fun σ H Q => ta σ H fun x H1 => ∃ c, x = .bl c ∧ if c = true then tb σ H1 Q else Q (.bl false) H1
def tOrV (ta tb : TE) : TE := fun σ H Q => ta σ H fun x H1 => ∃ c, x = .bl c ∧ if c = true then Q (.bl true) H1 else tb σ H1 Q
def tNotV (ta : TE) : TE := fun σ H Q => ta σ H fun x H1 => ∃ c, x = .bl c ∧ Q (.bl (!c)) H1
theorem pe_one {op} {t : TE} (h : PE X a t) : PE X (.BoolOp op [a] pos) t := fun pins s σ H Q I hw => BoolOp_one (h pins s σ H Q I hw)
theorem pe_and (ha : PE X a ta) (hb : PE X (.BoolOp .And (b :: rest) pos) tb) : PE X (.BoolOp .And (a :: b :: rest) pos) (tAndV ta tb) := by
 intro pins s σ H Q I h
 refine BoolOp_and (thn (ha pins s σ H _ I h) fun v s1 ⟨x, H1, I1, r1, q1⟩ => ?_)
 obtain ⟨c, rfl, q1⟩ := q1
 cases r1
 refine wpAny_truthy_bool ?_
 cases c with
 | true => exact hb pins s1 σ H1 Q I1 q1
 | false => exact ⟨.bl false, H1, I1, rfl, q1⟩
theorem pe_or (ha : PE X a ta) (hb : PE X (.BoolOp .Or (b :: rest) pos) tb) : PE X (.BoolOp .Or (a :: b :: rest) pos) (tOrV ta tb) := by
 intro pins s σ H Q I h
 refine BoolOp_or (thn (ha pins s σ H _ I h) fun v s1 ⟨x, H1, I1, r1, q1⟩ => ?_)
 obtain ⟨c, rfl, q1⟩ := q1
 cases r1
 refine wpAny_truthy_bool ?_
 cases c with
 | false => exact hb pins s1 σ H1 Q I1 q1
 | true => exact ⟨.bl true, H1, I1, rfl, q1⟩
def tIf (t : TT) (ta tb : TE) : TE := fun σ H Q => t σ H fun c H1 => if c = true then ta σ H1 Q else tb σ H1 Q
theorem pe_ifExp {c : Expr} (hc : PT X c tA) (ha : PE X a ta) (hb : PE X b tb) : PE X (.IfExp c a b pos) (tIf tA ta tb) := by
 intro pins s σ H Q I h
 refine wpAny_IfExp (thn (hc pins s σ H _ I h) fun d s1 ⟨H1, I1, q1⟩ => ?_)
 cases d with
 | true => exact ha pins s1 σ H1 Q I1 q1
 | false => exact hb pins s1 σ H1 Q I1 q1
end
end L2
namespace L2
open PySem PySem.Spec PyProof.Rows
def SqL (K : PySem.W.Frag) (H : Hp) (a : Addr) (xs : List V) : Prop :=
 Rd H a (.lst xs) ∨
  ∃ (o : Obj) (its : Array Value) (n : Nat), K.lookup a = some o ∧ o.cls = .type "list" ∧ o.dict = none ∧ o.data = .seq its n ∧ its.size ≤ sizeLine ∧ Vals xs its.toList
def SqT (K : PySem.W.Frag) (H : Hp) (a : Addr) (xs : List V) : Prop :=
 Rd H a (.tup xs) ∨
  ∃ (o : Obj) (its : Array Value) (n : Nat), K.lookup a = some o ∧ o.cls = .type "tuple" ∧ o.data = .seq its n ∧ its.size ≤ sizeLine ∧ Vals xs its.toList
def absV : Value → Option V
 | .none => some .non
 | .bool b => some (.bl b)
 | .int i _ => some (.int i)
 | .str x _ => some (.str x)
 | .bytes b _ => some (.byt b)
 | .float b _ => some (.flt b)
 | .ref a => some (.ref a)
 | .type n => some (.ty n)
 | _ => none
theorem RelV.abs {x : V} {u : Value} (r : RelV x u) : absV u = some x := by
 cases x with
 | non => cases r; rfl
 | bl _ => cases r; rfl
 | int _ => obtain ⟨t, rfl⟩ := r; rfl
 | str _ => obtain ⟨t, rfl⟩ := r; rfl
 | byt _ => obtain ⟨t, rfl⟩ := r; rfl
 | flt _ => obtain ⟨t, rfl⟩ := r; rfl
 | ref _ => cases r; rfl
 | ty _ => cases r; rfl
theorem RelV.inj {x y : V} {u : Value} (r : RelV x u) (q : RelV y u) : x = y := Option.some.inj (r.abs.symm.trans q.abs)
theorem Vals.inj : ∀ {xs ys : List V} {us : List Value}, Vals xs us → Vals ys us → xs = ys
 | _, _, _, .nil, .nil => rfl
 | _, _, _, .cons r t, .cons r' t' => by rw [r.inj r', Vals.inj t t']
section
variable {X : Cx} {pins : List (Addr × Obj)} {σ : St} {H : Hp} {s : Shared} {a : Addr} {xs ys : List V}
theorem SqL.of {K : PySem.W.Frag} (h : H a = some (.lst xs)) : SqL K H a xs := .inl (.inl h)
theorem SqT.of {K : PySem.W.Frag} (h : H a = some (.tup xs)) : SqT K H a xs := .inl (.inl h)
theorem Inv.list (I : Inv X pins σ H s) (h : SqL X.K H a xs) : ∃ its : List Value, Vals xs its ∧ PlainL s.heap a its.toArray ∧ xs.length ≤ sizeLine := by
 rcases h with h | ⟨o, its, n, hk, hc, hd, hs, hz, r⟩
 ·obtain ⟨z, its, n, r, e⟩ := h.ok I.hok
  exact ⟨its, r, ⟨_, n, e, rfl, rfl, rfl⟩, z⟩
 ·refine ⟨its.toList, r, ⟨o, n, I.kIn a o hk, hc, hd, by simpa using hs⟩, ?_⟩
  have e := r.length
  simp only [Array.length_toList] at e
  omega
theorem Inv.tuple (I : Inv X pins σ H s) (h : SqT X.K H a xs) : ∃ its : List Value, Vals xs its ∧ IsTup s.heap a its.toArray ∧ xs.length ≤ sizeLine := by
 rcases h with h | ⟨o, its, n, hk, hc, hs, hz, r⟩
 ·obtain ⟨z, its, r, p⟩ := h.ok I.hok
  exact ⟨its, r, p, z⟩
 ·refine ⟨its.toList, r, ⟨o, I.kIn a o hk, hc, n, by simpa using hs⟩, ?_⟩
  have e := r.length
  simp only [Array.length_toList] at e
  omega
theorem Inv.list_inj (I : Inv X pins σ H s) (h : SqL X.K H a xs) (h' : SqL X.K H a ys) : xs = ys := by
 obtain ⟨its, r, ⟨o, n, e, _, _, d⟩, _⟩ := I.list h
 obtain ⟨its', r', ⟨o', n', e', _, _, d'⟩, _⟩ := I.list h'
 rw [e] at e'; cases e'
 rw [d] at d'
 injection d' with d1 _
 have : its = its' := by simpa using congrArg Array.toList d1
 subst this
 exact r.inj r'
theorem Inv.tuple_inj (I : Inv X pins σ H s) (h : SqT X.K H a xs) (h' : SqT X.K H a ys) : xs = ys := by
 obtain ⟨its, r, ⟨o, e, _, n, d⟩, _⟩ := I.tuple h
 obtain ⟨its', r', ⟨o', e', _, n', d'⟩, _⟩ := I.tuple h'
 rw [e] at e'; cases e'
 rw [d] at d'
 injection d' with d1 _
 have : its = its' := by simpa using congrArg Array.toList d1
 subst this
 exact r.inj r'
end
abbrev Cx.wish (X : Cx) (E : Value → Shared → Prop) : Cx := { X with xe := E }
abbrev Cx.nox (X : Cx) : Cx := X.wish fun _ _ => False
theorem Cx.Ok.wish {X : Cx} (ok : X.Ok) (E : Value → Shared → Prop) : (X.wish E).Ok :=
 ⟨ok.mod, ok.kind, ok.glob, ok.blt, ok.above, ok.inj, ok.has, ok.cab, ok.hd, ok.frames, ok.stk, ok.exf, ok.bs, ok.bsz, ok.noex, ok.exfs, ok.funs, ok.frf⟩
theorem Cx.Ok.unwish {X : Cx} {E : Value → Shared → Prop} (ok : (X.wish E).Ok) : X.Ok :=
 ⟨ok.mod, ok.kind, ok.glob, ok.blt, ok.above, ok.inj, ok.has, ok.cab, ok.hd, ok.frames, ok.stk, ok.exf, ok.bs, ok.bsz, ok.noex, ok.exfs, ok.funs, ok.frf⟩
section
variable {X : Cx} {pins : List (Addr × Obj)} {σ : St} {H : Hp} {s : Shared} {E : Value → Shared → Prop}
theorem Inv.wish (I : Inv X pins σ H s) (E : Value → Shared → Prop) : Inv (X.wish E) pins σ H s := ⟨I.ok.wish E, I.os, I.bare, I.base, I.loc, I.cell, I.free, I.freeC, I.pin, I.hok, I.len⟩
theorem Inv.unwish (I : Inv (X.wish E) pins σ H s) : Inv X pins σ H s := ⟨I.ok.unwish, I.os, I.bare, I.base, I.loc, I.cell, I.free, I.freeC, I.pin, I.hok, I.len⟩
theorem SP.unwish {D : Ends} {f : Flow} {s' : Shared} (h : SP (X.wish E) pins D f s') : SP X pins D f s' := by
 cases f with
 | next => obtain ⟨σ', H', I, q⟩ := h; exact ⟨σ', H', I.unwish, q⟩
 | brk => obtain ⟨σ', H', I, q⟩ := h; exact ⟨σ', H', I.unwish, q⟩
 | cont => obtain ⟨σ', H', I, q⟩ := h; exact ⟨σ', H', I.unwish, q⟩
 | ret u => obtain ⟨v, σ', H', I, r, q⟩ := h; exact ⟨v, σ', H', I.unwish, r, q⟩
theorem PSs.nox {st : List Stmt} {t : TS} (h : PSs X.nox st t) : PSs X st t := fun pins s σ H D I hw =>
 wpAny_mono (h pins s σ H D (I.wish _) hw) (fun _ _ q => q.unwish) fun _ _ z => False.elim z
end
section
variable {X : Cx} {st : Stmt} {rest : List Stmt} {t u : TS} {e : Expr} {te : TE} {pos : Pos}
def tNext : TS := fun D σ H => D.nx σ H
def tSeq (t u : TS) : TS := fun D σ H => t { D with nx := u D } σ H
theorem pss_nil : PSs X [] tNext := fun _ _ σ H _ I h => wpAny_execs_nil ⟨σ, H, I, h⟩
theorem pss_cons (h1 : PS X st t) (h2 : PSs X rest u) : PSs X (st :: rest) (tSeq t u) := by
 intro pins s σ H D I h
 refine wpAny_execs_cons (thn (h1 pins s σ H { D with nx := u D } I h) fun f s1 q => ?_)
 cases f with
 | next =>
  obtain ⟨σ', H', I', q⟩ := q
  exact h2 pins s1 σ' H' D I' q
 | ret v => exact q
 | brk => exact q
 | cont => exact q
theorem pss_one (h1 : PS X st t) : PSs X [st] t := by
 intro pins s σ H D I h
 refine wpAny_execs_cons (thn (h1 pins s σ H D I h) fun f s1 q => ?_)
 cases f with
 | next => exact wpAny_execs_nil q
 | ret v => exact q
 | brk => exact q
 | cont => exact q
def tBreak : TS := fun D σ H => D.bk σ H
def tCont : TS := fun D σ H => D.ct σ H
theorem Inv.quiet {pins : List (Addr × Obj)} {σ : St} {H : Hp} {s : Shared} (I : Inv X pins σ H s) : interactive X.env = false := by simp [interactive, I.ok.kind]
def tDrop (te : TE) : TS := fun D σ H => te σ H fun _ H1 => D.nx σ H1
theorem ps_expr (he : PE X e te) (hs : swapsWith e none pos.line X.env = pure false := by rfl) : PS X (.Expr e pos) (tDrop te) := by
 intro pins s σ H D I h
 exact wpAny_Expr_any (thn (he pins s σ H _ I h) fun v s1 ⟨x, H1, I1, r1, q1⟩ => ⟨σ, H1, I1, q1⟩) I.quiet hs
def tRet (te : TE) : TS := fun D σ H => te σ H D.rt
theorem ps_ret (he : PE X e te) : PS X (.Return (some e) pos) (tRet te) := by
 intro pins s σ H D I h
 exact wpAny_Return_some (thn (he pins s σ H _ I h) fun v s1 ⟨x, H1, I1, r1, q1⟩ => ⟨x, σ, H1, I1, r1, q1⟩)
def tRetN : TS := fun D _ H => D.rt .non H
def tIfS (c : TT) (t u : TS) : TS := fun D σ H => c σ H fun b H1 => if b = true then t D σ H1 else u D σ H1
theorem ps_if {c : Expr} {a b : List Stmt} {tc : TT} (hc : PT X c tc) (ha : PSs X a t) (hb : PSs X b u) : PS X (.If c a b pos) (tIfS tc t u) := by
 intro pins s σ H D I h
 refine wpAny_If (thn (hc pins s σ H _ I h) fun d s1 ⟨H1, I1, q1⟩ => ?_)
 cases d with
 | true => exact ha pins s1 σ H1 D I1 q1
 | false => exact hb pins s1 σ H1 D I1 q1
def tNever : TS := fun _ _ _ => False
theorem ps_never : PS X st tNever := fun _ _ _ _ _ _ h => h.elim
end
abbrev TG := V → St → Hp → (St → Hp → Prop) → Prop
abbrev TGs := List V → St → Hp → (St → Hp → Prop) → Prop
def PG (X : Cx) (target : Expr) (t : TG) : Prop :=
 ∀ (pins : List (Addr × Obj)) (s : Shared) (σ : St) (H : Hp) (v : V) (u : Value) (Q : St → Hp → Prop), Inv X pins σ H s → RelV v u → t v σ H Q →
  wpAny (model X.prog X.w) X.A (assign target X.env u) (fun _ s' => ∃ σ' H', Inv X pins σ' H' s' ∧ Q σ' H') X.xe s
def PGs (X : Cx) (ts : List Expr) (t : TGs) : Prop :=
 ∀ (pins : List (Addr × Obj)) (s : Shared) (σ : St) (H : Hp) (vs : List V) (us : List Value) (Q : St → Hp → Prop), Inv X pins σ H s → Vals vs us → t vs σ H Q →
  wpAny (model X.prog X.w) X.A (assignInOrder ((assignEach ts X.env).map (·.2)) us) (fun _ s' => ∃ σ' H', Inv X pins σ' H' s' ∧ Q σ' H') X.xe s
abbrev TSet := V → V → V → Hp → (Hp → Prop) → Prop
def PSet (X : Cx) (t : TSet) : Prop :=
 ∀ (pins : List (Addr × Obj)) (s : Shared) (σ : St) (H : Hp) (o i v : V) (ov iv u : Value) (Q : Hp → Prop), Inv X pins σ H s → RelV o ov → RelV i iv → RelV v u → t o i v H Q →
  wpAny (model X.prog X.w) X.A (setItem ov iv u) (fun _ s' => ∃ H', Inv X pins σ H' s' ∧ Q H') X.xe s
abbrev TIp := V → V → Hp → VK → Prop
def PIp (X : Cx) (op : Operator) (t : TIp) : Prop :=
 ∀ (pins : List (Addr × Obj)) (s : Shared) (σ : St) (H : Hp) (x y : V) (v u : Value) (Q : VK), Inv X pins σ H s → RelV x v → RelV y u → t x y H Q →
  wpAny (model X.prog X.w) X.A (inplaceOp op v u) (EP X pins σ Q) X.xe s
section
variable {X : Cx} {pos : Pos}
def gName (i : Nat) : TG := fun v σ H Q => Q (σ.set i (some v)) H
theorem pg_name {i : Nat} {x : Str} (hN : X.N.Nodup) (hi : X.N[i]? = some x) (hx : Loc X.env.scope x) (hf : X.fn x = true ∨ X.env.scope.names.lookup x = some .local := by first | exact .inl rfl | exact .inr rfl | assumption) : PG X (.Name x pos) (gName i) := by
 intro pins s σ H v u Q I r h
 exact wpAny_assign_Name (store_ok I hN hi hx r (fun s' I' => ⟨_, H, I', h⟩) hf)
def gNil : TGs := fun vs σ H Q => vs = [] ∧ Q σ H
def gCons (t : TG) (u : TGs) : TGs := fun vs σ H Q => ∃ v r, vs = v :: r ∧ t v σ H fun σ' H' => u r σ' H' Q
theorem pgs_nil : PGs X [] gNil := by
 intro pins s σ H vs us Q I r h
 obtain ⟨e, h⟩ := h
 subst e
 cases r
 exact assignInOrder_nil ⟨σ, H, I, h⟩
theorem pgs_cons {e : Expr} {es : List Expr} {t : TG} {u : TGs} (h1 : PG X e t) (h2 : PGs X es u)
  (hs : (assignEach (e :: es) X.env).map (·.2) = assign e X.env :: (assignEach es X.env).map (·.2) := by rfl) : PGs X (e :: es) (gCons t u) := by
 intro pins s σ H vs us Q I r h
 obtain ⟨v, vr, e1, h⟩ := h
 subst e1
 cases r with
 | cons r rr =>
  rw [hs]
  refine assignInOrder_cons (thn (h1 pins s σ H _ _ _ I r h) fun _ s1 ⟨σ1, H1, I1, q1⟩ => ?_)
  exact h2 pins s1 σ1 H1 _ _ Q I1 rr q1
def gTup (K : PySem.W.Frag) (n : Nat) (t : TGs) : TG := fun v σ H Q => ∃ a xs, v = .ref a ∧ SqT K H a xs ∧ xs.length = n ∧ t xs σ H Q
theorem pg_tup {es : List Expr} {k : Nat} {t : TGs} {n : Nat} (hc : X.calm = true) (h : PGs X es t)
  (hn : (assignEach es X.env).length = n := by rfl) (hst : (assignEach es X.env).findIdx? (·.1) = none := by rfl) : PG X (.Tuple es k pos) (gTup X.K n t) := by
 intro pins s σ H v u Q I r hw
 obtain ⟨a, xs, e1, hq, hl, hw⟩ := hw
 subst e1
 cases r
 obtain ⟨its, rv, ht, hz⟩ := I.tuple hq
 refine assign_Tuple_tuple (I.ok.hd hc) ht (by simp [hn, ← hl, rv.length]) hst fun h' hx => ?_
 have I1 : Inv X pins σ H { s with heap := h' } := I.kept (t' := s.toks) fun b o e => hx b o (Nat.ne_of_lt (Heap.lt_size e)) e
 exact h pins _ σ H xs _ Q I1 (by simpa using rv) hw
def gSub (to ti : TE) (t : TSet) : TG := fun v σ H Q => to σ H fun o H1 => ti σ H1 fun i H2 => t o i v H2 fun H3 => Q σ H3
def tAsg (te : TE) (g : TG) : TS := fun D σ H => te σ H fun x H1 => g x σ H1 D.nx
theorem ps_set {i : Nat} {x : Str} {e : Expr} {te : TE} {pos' : Pos} (hN : X.N.Nodup) (hi : X.N[i]? = some x) (hx : Loc X.env.scope x) (he : PE X e te) (hs : swapsWith e (some (.Name x pos')) pos.line X.env = pure false := by rfl) (hf : X.fn x = true ∨ X.env.scope.names.lookup x = some .local := by first | exact .inl rfl | exact .inr rfl | assumption) :
  PS X (.Assign [.Name x pos'] e pos) (tAsg te (gName i)) := by
 intro pins s σ H D I h
 refine wpAny_Assign_Name (thn (he pins s σ H _ I h) fun v s1 ⟨y, H1, I1, r1, q1⟩ => ?_) hs
 exact store_ok I1 hN hi hx r1 (fun s2 I2 => ⟨_, H1, I2, q1⟩) hf
def tPar (i j : Nat) (ta : TA) : TS := fun D σ H => ta σ H fun vs H1 => ∃ v w, vs = [v, w] ∧ D.nx ((σ.set i (some v)).set j (some w)) H1
def tAug (i : Nat) (te : TE) (ti : TIp) : TS := fun D σ H => ∃ x, σ[i]? = some (some x) ∧ te σ H fun y H1 => ti x y H1 fun z H2 => D.nx (σ.set i (some z)) H2
def tAugS (to ti te : TE) (tget : V → V → Hp → VK → Prop) (tip : TIp) (tset : TSet) : TS := fun D σ H => to σ H fun o H1 => ti σ H1 fun i H2 => tget o i H2 fun x H3 => te σ H3 fun y H4 => tip x y H4 fun z H5 => tset o i z H5 fun H6 => D.nx σ H6
def PGet (X : Cx) (t : V → V → Hp → VK → Prop) : Prop :=
 ∀ (pins : List (Addr × Obj)) (s : Shared) (σ : St) (H : Hp) (o i : V) (ov iv : Value) (Q : VK), Inv X pins σ H s → RelV o ov → RelV i iv → t o i H Q →
  wpAny (model X.prog X.w) X.A (getItem ov iv) (EP X pins σ Q) X.xe s
def ipI (f : Int → Int → Int) : TIp := fun x y H Q => ∃ i j, x = .int i ∧ y = .int j ∧ Q (.int (f i j)) H
end
section
variable {X : Cx} {pos : Pos}
def tWhile (c : TT) (tb : TS) : TS := fun D σ H => ∃ W : Nat → St → Hp → Prop, (∃ m, W m σ H) ∧ ∀ m σ H, W m σ H →
 c σ H fun b H1 => if b = true then ∃ N : St → Hp → Prop, (∀ σ' H', N σ' H' → ∃ m', m' < m ∧ W m' σ' H') ∧ tb { D with nx := N, ct := N, bk := D.nx } σ H1 else D.nx σ H1
end
structure It where
 go : Nat → Hp → Prop
 yld : Nat → Hp → V → Hp → Prop
 stop : Nat → Hp → Prop
def FpOk (X : Cx) (pins : List (Addr × Obj)) (H : Hp) (b : Addr) : Prop :=
 H b = none ∧ b ≠ X.env.locals ∧ b ∉ X.fs ∧ (b ∈ X.ex ∨ X.s₀.heap.objs.size ≤ b) ∧ (∀ x c, X.env.cells.lookup x = some c → c ≠ b) ∧ ∀ p ∈ X.pn ++ pins, p.1 ≠ b
theorem Inv.fpOk {X : Cx} {pins : List (Addr × Obj)} {σ : St} {H H' : Hp} {s : Shared} {b : Addr} (I : Inv X pins σ H s) (hb : s.heap.objs.size ≤ b) (hn : H' b = none) : FpOk X pins H' b := by
 refine ⟨hn, Nat.ne_of_gt (Nat.lt_of_lt_of_le I.lt hb), I.nofs hb, .inr (Nat.le_trans I.sz hb), fun x c e z => ?_, fun p hp z => ?_⟩
 ·obtain ⟨v, q⟩ := I.cell x c e
  exact absurd (Nat.lt_of_lt_of_le q.lt (by rw [z]; exact hb)) (Nat.lt_irrefl _)
 ·exact absurd (Nat.lt_of_lt_of_le (Heap.lt_size (I.pin p hp).1) (by rw [z]; exact hb)) (Nat.lt_irrefl _)
structure Turn (P : Program) (w : World) (K : PySem.W.Frag) (tg : Expr) (J : It) (fp : List Addr) (it : Addr) (tn : Nat → Heap → Prop) : Prop where
 mem : it ∈ fp
 obj : ∀ i h, tn i h → ∀ b ∈ fp, ∃ o, h.get? b = some o ∧ ∀ v, o.data ≠ .cell v
 keep : ∀ i h h', tn i h → (∀ b ∈ fp, ∀ o, h.get? b = some o → h'.get? b = some o) → tn i h'
 item : ∀ (X : Cx), X.prog = P → X.w = w → X.K = K → X.calm = true → ∀ (i : Nat) (pins : List (Addr × Obj)) (s : Shared) (σ : St) (H : Hp) (E : Value → Shared → Prop), Inv X pins σ H s → (∀ b ∈ fp, FpOk X pins H b) → tn i s.heap → J.go i H →
  wpAny (model P w) X.A (pyNext (.ref it)) (fun r s1 => ∃ u, r = some u ∧
   wpAny (model P w) X.A (letOwnedTupleGo tg (.ref it) u) (fun _ s2 => ∃ x H', Inv X pins σ H' s2 ∧ RelV x u ∧ J.yld i H x H' ∧ tn (i + 1) s2.heap ∧ ∀ b ∈ fp, H' b = none) E s1) E s
 done : ∀ (X : Cx), X.prog = P → X.w = w → X.K = K → X.calm = true → ∀ (i : Nat) (pins : List (Addr × Obj)) (s : Shared) (σ : St) (H : Hp) (E : Value → Shared → Prop), Inv X pins σ H s → (∀ b ∈ fp, FpOk X pins H b) → tn i s.heap → J.stop i H →
  wpAny (model P w) X.A (pyNext (.ref it)) (fun r s1 => r = none ∧ Inv X pins σ H s1) E s
 self : ∀ (A : Around) (i : Nat) (s : Shared) (Q : Value → Shared → Prop) (E : Value → Shared → Prop), tn i s.heap → Q (.ref it) s → wpAny (model P w) A (pyIter (.ref it)) Q E s
abbrev TI := St → Hp → (It → Hp → Prop) → Prop
def PIE (X : Cx) (pins : List (Addr × Obj)) (σ : St) (tg : Expr) (R : It → Hp → Prop) (itv : Value) (s2 : Shared) : Prop :=
 ∃ (it : Addr) (fp : List Addr) (tn : Nat → Heap → Prop) (J : It) (H' : Hp), itv = .ref it ∧ Inv X pins σ H' s2 ∧ Turn X.prog X.w X.K tg J fp it tn ∧ tn 0 s2.heap ∧ (∀ b ∈ fp, FpOk X pins H' b) ∧ R J H'
def PI (X : Cx) (tg iter : Expr) (wi : TI) : Prop :=
 ∀ (pins : List (Addr × Obj)) (s : Shared) (σ : St) (H : Hp) (R : It → Hp → Prop), Inv X pins σ H s → wi σ H R →
  wpAny (model X.prog X.w) X.A (eval iter X.env) (fun v s1 => wpAny (model X.prog X.w) X.A (pyIter v) (PIE X pins σ tg R) X.xe s1) X.xe s
theorem go_of {M : Model} {A : Around} {E : Value → Shared → Prop} {s : Shared} {tg : Expr} {it : Addr} {u : Value} {o : Obj} {n : String} {vs : Array Value} {Q : Unit → Shared → Prop} (ho : s.heap.get? it = some o) (hc : o.cls = .type n) (hd : o.data = .fields vs)
  (hn : ["enumerate", "zip", "dict_itemiterator", "dict_reverseitemiterator", "odict_iterator", "itertools.zip_longest", "itertools.pairwise"].contains n = false) (hQ : Q () s) : wpAny M A (letOwnedTupleGo tg (.ref it) u) Q E s := by
 unfold letOwnedTupleGo
 cases tg <;> first
  | exact wpAny_pure hQ
  | (cases u <;> first
    | exact wpAny_pure hQ
    | (refine wpAny_bind (wpAny_load ho ?_)
       rw [hc, hd]
       show wpAny M A (if (["enumerate", "zip", "dict_itemiterator", "dict_reverseitemiterator", "odict_iterator", "itertools.zip_longest", "itertools.pairwise"].contains n && vs[0]? == some (rawInt _)) = true then _ else _) Q E s
       rw [if_neg (by intro h; rw [hn, Bool.false_and] at h; cases h)]
       exact wpAny_pure hQ))
def Itl (K : PySem.W.Frag) (a : Addr) : It :=
 ⟨fun i H => ∃ xs x, SqL K H a xs ∧ xs[i]? = some x, fun i H x H' => H' = H ∧ ∀ xs, SqL K H a xs → xs[i]? = some x, fun i H => ∃ xs, SqL K H a xs ∧ xs.length ≤ i⟩
def Itt (K : PySem.W.Frag) (a : Addr) : It :=
 ⟨fun i H => ∃ xs x, SqT K H a xs ∧ xs[i]? = some x, fun i H x H' => H' = H ∧ ∀ xs, SqT K H a xs → xs[i]? = some x, fun i H => ∃ xs, SqT K H a xs ∧ xs.length ≤ i⟩
def Itr (lo : Int) (n : Nat) : It := ⟨fun i _ => i < n, fun i H x H' => H' = H ∧ x = .int (lo + i), fun i _ => n ≤ i⟩
theorem turn_list {P : Program} {w : World} {K : PySem.W.Frag} {tg : Expr} (a it : Addr) : Turn P w K tg (Itl K a) [it] it (fun i h => h.IsListIter it a i) where
 mem := by simp
 obj := fun i h st b hb => by
  have e : b = it := by simpa using hb
  subst e
  obtain ⟨o, e, c, d⟩ := st
  exact ⟨o, e, fun v z => by rw [d] at z; cases z⟩
 keep := fun i h h' st k => st.at fun o e => k it (by simp) o e
 item := by
  intro X hP hw hK hc i pins s σ H E I hf st hg
  subst hP hw hK
  obtain ⟨xs, x, hq, hx⟩ := hg
  obtain ⟨its, rv, p, hz⟩ := I.list hq
  obtain ⟨u, hu, ru⟩ := rv.get hx
  obtain ⟨f0, f1, f2, f3, f4, f5⟩ := hf it (by simp)
  refine wpAny_pyNext_list_item st p.isList (x := u) (by simpa using hu) fun h' st' sb => ?_
  have I1 : Inv X pins σ H { s with heap := h' } := I.turned (t' := s.toks) (fun b o hb e => (sb.2 b hb).trans e) f0 f1 f3 f4 f5
  obtain ⟨o, e, c, d⟩ := id st'
  exact ⟨u, rfl, go_of (s := { s with heap := h' }) e c d (by decide) ⟨x, H, I1, ru, ⟨rfl, fun ys hy => by rw [I.list_inj hy hq]; exact hx⟩, st', fun b hb => (hf b hb).1⟩⟩
 done := by
  intro X hP hw hK hc i pins s σ H E I hf st hg
  subst hP hw hK
  obtain ⟨xs, hq, hx⟩ := hg
  obtain ⟨its, rv, p, hz⟩ := I.list hq
  obtain ⟨f0, f1, f2, f3, f4, f5⟩ := hf it (by simp)
  have hl := rv.length
  exact wpAny_pyNext_list_end (I.ok.hd hc) st p.isList (by simp; omega) fun h' eb => ⟨rfl, I.turned (t' := s.toks) (fun b o hb e => eb b o hb e) f0 f1 f3 f4 f5⟩
 self := fun _ _ _ _ _ st h => wpAny_pyIter_listiter st h
theorem turn_tuple {P : Program} {w : World} {K : PySem.W.Frag} {tg : Expr} (a it : Addr) : Turn P w K tg (Itt K a) [it] it (fun i h => h.IsTupleIter it a i) where
 mem := by simp
 obj := fun i h st b hb => by
  have e : b = it := by simpa using hb
  subst e
  obtain ⟨o, e, c, d⟩ := st
  exact ⟨o, e, fun v z => by rw [d] at z; cases z⟩
 keep := fun i h h' st k => st.at fun o e => k it (by simp) o e
 item := by
  intro X hP hw hK hc i pins s σ H E I hf st hg
  subst hP hw hK
  obtain ⟨xs, x, hq, hx⟩ := hg
  obtain ⟨its, rv, p, hz⟩ := I.tuple hq
  obtain ⟨u, hu, ru⟩ := rv.get hx
  obtain ⟨f0, f1, f2, f3, f4, f5⟩ := hf it (by simp)
  refine wpAny_pyNext_tuple_item st (show s.heap.IsTuple a its.toArray from p) (x := u) (by simpa using hu) fun h' st' sb => ?_
  have I1 : Inv X pins σ H { s with heap := h' } := I.turned (t' := s.toks) (fun b o hb e => (sb.2 b hb).trans e) f0 f1 f3 f4 f5
  obtain ⟨o, e, c, d⟩ := id st'
  exact ⟨u, rfl, go_of (s := { s with heap := h' }) e c d (by decide) ⟨x, H, I1, ru, ⟨rfl, fun ys hy => by rw [I.tuple_inj hy hq]; exact hx⟩, st', fun b hb => (hf b hb).1⟩⟩
 done := by
  intro X hP hw hK hc i pins s σ H E I hf st hg
  subst hP hw hK
  obtain ⟨xs, hq, hx⟩ := hg
  obtain ⟨its, rv, p, hz⟩ := I.tuple hq
  obtain ⟨f0, f1, f2, f3, f4, f5⟩ := hf it (by simp)
  have hl := rv.length
  exact wpAny_pyNext_tuple_end (I.ok.hd hc) st (show s.heap.IsTuple a its.toArray from p) (by simp; omega) fun h' eb => ⟨rfl, I.turned (t' := s.toks) (fun b o hb e => eb b o hb e) f0 f1 f3 f4 f5⟩
 self := fun _ _ _ _ _ st h => wpAny_pyIter_tupleiter st h
theorem turn_range {P : Program} {w : World} {K : PySem.W.Frag} {tg : Expr} (it : Addr) (lo : Int) (n : Nat) : Turn P w K tg (Itr lo n) [it] it (fun i h => IsRangeIter h it (lo + (i : Nat) * 1) ((n : Int) - (i : Nat)) 1) where
 mem := by simp
 obj := fun i h st b hb => by
  have e : b = it := by simpa using hb
  subst e
  exact ⟨_, st, fun v z => by
   have z' : Data.fields _ = Data.cell v := z
   cases z'⟩
 keep := fun i h h' st k => k it (by simp) _ st
 item := by
  intro X hP hw hK hc i pins s σ H E I hf st hg
  subst hP hw hK
  obtain ⟨f0, f1, f2, f3, f4, f5⟩ := hf it (by simp)
  have W := Walks.range (prog := X.prog) (w := X.w) (I.ok.hd hc) it lo 1 n
  refine W.item i s _ _ hg st fun v h' tk hv st' kk => ?_
  obtain ⟨t, rfl⟩ := hv
  have I1 : Inv X pins σ H { s with heap := h', toks := tk } := I.turned (fun b o hb e => kk b o (by simpa using hb) e) f0 f1 f3 f4 f5
  refine ⟨_, rfl, go_of (s := { s with heap := h', toks := tk }) (n := "range_iterator") st' rfl rfl (by decide) ⟨.int (lo + i), H, I1, ⟨t, ?_⟩, ⟨rfl, rfl⟩, st', fun b hb => (hf b hb).1⟩⟩
  rw [Int.mul_one]
 done := by
  intro X hP hw hK hc i pins s σ H E I hf st hg
  subst hP hw hK
  obtain ⟨f0, f1, f2, f3, f4, f5⟩ := hf it (by simp)
  exact wpAny_pyNext_range_end (I.ok.hd hc) st (by have : n ≤ i := hg; omega) fun h' eb => ⟨rfl, I.turned (t' := s.toks) (fun b o hb e => eb b o hb e) f0 f1 f3 f4 f5⟩
 self := fun _ _ _ _ _ st h => wpAny_pyIter_rangeiter st h
end L2
namespace L2
open PySem PySem.Spec PyProof.Rows
section
variable {X : Cx} {tg : Expr}
def iList (K : PySem.W.Frag) (tl : TE) : TI := fun σ H R => tl σ H fun x H1 => ∃ a, x = .ref a ∧ (∃ xs, SqL K H1 a xs) ∧ R (Itl K a) H1
def iTup (K : PySem.W.Frag) (tl : TE) : TI := fun σ H R => tl σ H fun x H1 => ∃ a, x = .ref a ∧ (∃ xs, SqT K H1 a xs) ∧ R (Itt K a) H1
theorem pi_list {l : Expr} {tl : TE} (hl : PE X l tl) : PI X tg l (iList X.K tl) := by
 intro pins s σ H R I h
 refine thn (hl pins s σ H _ I h) fun v s1 ⟨x, H1, I1, r1, q1⟩ => ?_
 obtain ⟨a, e, ⟨xs, hq⟩, q⟩ := q1
 subst e
 cases r1
 obtain ⟨its, rv, p, hz⟩ := I1.list hq
 refine wpAny_pyIter_list p.isList ?_
 refine ⟨s1.heap.objs.size, [s1.heap.objs.size], _, _, H1, rfl, I1.kept (t' := s1.toks) fun b o e => Heap.get?_push_of_some _ e, turn_list a _, ⟨_, Heap.get?_push_size _ rfl, rfl, rfl⟩, fun b hb => ?_, q⟩
 have e : b = s1.heap.objs.size := by simpa using hb
 subst e
 exact I1.fpOk (Nat.le_refl _) (I1.hok.fresh (Nat.le_refl _))
theorem pi_tup {l : Expr} {tl : TE} (hl : PE X l tl) : PI X tg l (iTup X.K tl) := by
 intro pins s σ H R I h
 refine thn (hl pins s σ H _ I h) fun v s1 ⟨x, H1, I1, r1, q1⟩ => ?_
 obtain ⟨a, e, ⟨xs, hq⟩, q⟩ := q1
 subst e
 cases r1
 obtain ⟨its, rv, p, hz⟩ := I1.tuple hq
 refine wpAny_pyIter_tuple (show s1.heap.IsTuple a its.toArray from p) ?_
 refine ⟨s1.heap.objs.size, [s1.heap.objs.size], _, _, H1, rfl, I1.kept (t' := s1.toks) fun b o e => Heap.get?_push_of_some _ e, turn_tuple a _, ⟨_, Heap.get?_push_size _ rfl, rfl, rfl⟩, fun b hb => ?_, q⟩
 have e : b = s1.heap.objs.size := by simpa using hb
 subst e
 exact I1.fpOk (Nat.le_refl _) (I1.hok.fresh (Nat.le_refl _))
theorem range_it {pins : List (Addr × Obj)} {σ : St} {H : Hp} {s : Shared} {R : It → Hp → Prop} {E : Value → Shared → Prop} {lo hi : Int} {t u v : Tok} {tk : Nat} (I : Inv X pins σ H s) (h1 : -(2 ^ 62) ≤ lo) (h2 : lo < 2 ^ 62) (h3 : -(2 ^ 62) ≤ hi) (h4 : hi < 2 ^ 62)
  (q : R (Itr lo (hi - lo).toNat) H) : wpAny (model X.prog X.w) X.A (pyIter (.ref s.heap.objs.size)) (PIE X pins σ tg R) E { s with heap := s.heap.push { cls := .type "range", data := .fields #[.int lo t, .int hi u, .int 1 v] }, toks := tk } := by
 refine wpAny_pyIter_range (IsRange.new ..) (small_one h1 h2 h3 h4) ?_
 have I1 : Inv X pins σ H { s with heap := s.heap.push { cls := .type "range", data := .fields #[.int lo t, .int hi u, .int 1 v] }, toks := tk } := I.kept fun b o e => Heap.get?_push_of_some _ e
 refine ⟨(s.heap.push { cls := .type "range", data := .fields #[.int lo t, .int hi u, .int 1 v] }).objs.size, [(s.heap.push { cls := .type "range", data := .fields #[.int lo t, .int hi u, .int 1 v] }).objs.size], _, _, H, rfl,
  I1.kept (t' := tk) fun b o e => Heap.get?_push_of_some _ e, turn_range _ lo (hi - lo).toNat, ?_, fun b hb => ?_, q⟩
 ·have e1 : lo + ((0 : Nat) : Int) * 1 = lo := by simp
  have e2 : (((hi - lo).toNat : Nat) : Int) - ((0 : Nat) : Int) = Builtin.Range.rangeSize lo hi 1 := by rw [rangeSize_one]; split <;> omega
  show IsRangeIter _ _ (lo + ((0 : Nat) : Int) * 1) ((((hi - lo).toNat : Nat) : Int) - ((0 : Nat) : Int)) 1
  rw [e1, e2]
  exact Heap.get?_push_size _ rfl
 ·have e : b = (s.heap.push { cls := .type "range", data := .fields #[.int lo t, .int hi u, .int 1 v] }).objs.size := by simpa using hb
  subst e
  exact I1.fpOk (Nat.le_refl _) (I1.hok.fresh (Nat.le_refl _))
def iRng1 (ta : TA) : TI := fun σ H R => ta σ H fun vs H1 => ∃ j : Int, vs = [.int j] ∧ -(2 ^ 62) ≤ j ∧ j < 2 ^ 62 ∧ R (Itr 0 j.toNat) H1
def iRng2 (ta : TA) : TI := fun σ H R => ta σ H fun vs H1 => ∃ i j : Int, vs = [.int i, .int j] ∧ (-(2 ^ 62) ≤ i ∧ i < 2 ^ 62 ∧ -(2 ^ 62) ≤ j ∧ j < 2 ^ 62) ∧ R (Itr i (j - i).toNat) H1
theorem pi_range1 {a : Expr} {ta : TA} {p pos : Pos} (hg : Gl X "range") (hm : X.mg "range" = none) (ha : PA X [a] ta) (hs : starEach [a] X.env = [(false, eval a X.env)] := by rfl) : PI X tg (.Call (.Name "range" p) [a] [] pos) (iRng1 ta) := by
 intro pins s σ H R I h
 refine Call_ (ld_blt I hg hm boot_range (PyProof.Rows.callWith_type1 (thn (ha pos pins s σ H _ I h) fun us s1 ⟨vs, H1, I1, r1, q1⟩ => ?_) hs rfl))
 obtain ⟨j, e, q1, q2, q⟩ := q1
 subst e
 cases r1 with
 | cons r rr =>
  cases rr
  obtain ⟨t, rfl⟩ := r
  exact call_range_1 (range_it I1 (by omega) (by omega) q1 q2 (by simpa using q))
theorem pi_range2 {a b : Expr} {ta : TA} {p pos : Pos} (hg : Gl X "range") (hm : X.mg "range" = none) (ha : PA X [a, b] ta) (hs : starEach [a, b] X.env = [(false, eval a X.env), (false, eval b X.env)] := by rfl) (hs2 : starEach [b] X.env = [(false, eval b X.env)] := by rfl) :
  PI X tg (.Call (.Name "range" p) [a, b] [] pos) (iRng2 ta) := by
 intro pins s σ H R I h
 refine Call_ (ld_blt I hg hm boot_range (PyProof.Rows.callWith_type1 (thn (ha pos pins s σ H _ I h) fun us s1 ⟨vs, H1, I1, r1, q1⟩ => ?_) (by rw [hs, hs2]) (by rw [hs2]; rfl)))
 obtain ⟨i, j, e, ⟨q1, q2, q3, q4⟩, q⟩ := q1
 subst e
 cases r1 with
 | cons r rr =>
  cases rr with
  | cons r' rr =>
   cases rr
   obtain ⟨t, rfl⟩ := r
   obtain ⟨t', rfl⟩ := r'
   exact call_range_2 (range_it I1 q1 q2 q3 q4 q)
def tFor (wi : TI) (g : TG) (tb : TS) : TS := fun D σ H => wi σ H fun J H1 => ∃ W : Nat → Nat → St → Hp → Prop, (∃ m, W 0 m σ H1) ∧ ∀ i m σ H, W i m σ H →
 (J.stop i H ∧ D.nx σ H) ∨ (J.go i H ∧ ∃ N : St → Hp → Prop, (∀ σ' H', N σ' H' → ∃ m', m' < m ∧ W (i + 1) m' σ' H') ∧ ∀ x H', J.yld i H x H' → g x σ H' fun σ2 H2 => tb { D with nx := N, ct := N, bk := D.nx } σ2 H2)
def pinsAt (fp : List Addr) (h : Heap) : List (Addr × Obj) := fp.filterMap fun b => (h.get? b).map fun o => (b, o)
theorem mem_pinsAt {fp : List Addr} {h : Heap} {b : Addr} {o : Obj} (hb : b ∈ fp) (e : h.get? b = some o) : (b, o) ∈ pinsAt fp h := List.mem_filterMap.mpr ⟨b, hb, by rw [e]; rfl⟩
theorem of_pinsAt {fp : List Addr} {h : Heap} {p : Addr × Obj} (hp : p ∈ pinsAt fp h) : p.1 ∈ fp ∧ h.get? p.1 = some p.2 := by
 obtain ⟨b, hb, e⟩ := List.mem_filterMap.mp hp
 cases q : h.get? b with
 | none => rw [q] at e; cases e
 | some o =>
  rw [q] at e
  have e' : (b, o) = p := Option.some.inj e
  subst e'
  exact ⟨hb, q⟩
theorem Inv.pinned {pins : List (Addr × Obj)} {σ : St} {H : Hp} {s : Shared} {fp : List Addr} (I : Inv X pins σ H s) (hf : ∀ b ∈ fp, FpOk X pins H b) (ho : ∀ b ∈ fp, ∃ o, s.heap.get? b = some o ∧ ∀ v, o.data ≠ .cell v) : Inv X (pins ++ pinsAt fp s.heap) σ H s :=
 I.pins_of fun p hp => (List.mem_append.mp hp).elim (fun z => I.pin p (List.mem_append_right _ z)) fun z => by
  obtain ⟨hb, e⟩ := of_pinsAt z
  obtain ⟨f0, f1, f2, _⟩ := hf p.1 hb
  obtain ⟨o, e', d⟩ := ho p.1 hb
  rw [e] at e'; cases e'
  exact ⟨e, f0, f1, f2, d⟩
theorem Inv.unpinned {pins pl : List (Addr × Obj)} {σ : St} {H : Hp} {s : Shared} (I : Inv X (pins ++ pl) σ H s) : Inv X pins σ H s := I.pins_of fun p hp => I.pin p (List.mem_append_right _ (List.mem_append_left _ hp))
theorem ps_for {iter : Expr} {body : List Stmt} {wi : TI} {g : TG} {tb : TS} {pos : Pos} (hp : PassesOwn (model X.prog X.w) X.A X.env X.xe) (hc : X.calm = true) (hi : PI X tg iter wi) (hg : PG X tg g) (hb : PSs X body tb)
  (hs : ∀ x, foldedSetIterable iter X.env x = pure x := by intro _; rfl) : PS X (.For tg iter body [] pos) (tFor wi g tb) := by
 intro pins s σ H D I h
 refine wpAny_For (thn (hi pins s σ H _ I h) fun v s1 h1 => thn h1 fun itv s2 h2 => ?_) hs
 obtain ⟨it, fp, tn, J, H2, e, I2, T, st2, f2, W, ⟨m0, w0⟩, turn⟩ := h2
 subst e
 have stat : ∀ {H' : Hp}, (∀ b ∈ fp, H' b = none) → ∀ b ∈ fp, FpOk X pins H' b := fun hn b hb => ⟨hn b hb, (f2 b hb).2⟩
 refine codeAny_forLoop_any (fun n s' => ∃ i σ' H', Inv X pins σ' H' s' ∧ tn i s'.heap ∧ (∀ b ∈ fp, H' b = none) ∧ W i n σ' H') ?_ m0 ⟨0, σ, H2, I2, st2, fun b hb => (f2 b hb).1, w0⟩
 rintro n s3 ⟨i, σ3, H3, I3, st3, fr3, w3⟩
 rcases turn i n σ3 H3 w3 with ⟨stop, qn⟩ | ⟨go, N, hN, step⟩
 ·refine wpAny_passesOwn hp (thn (T.done X rfl rfl rfl hc i pins s3 σ3 H3 X.xe I3 (stat fr3) st3 stop) fun r s4 ⟨hr, I4⟩ => ?_)
  subst hr
  exact wpAny_execs_nil ⟨σ3, H3, I4, qn⟩
 ·refine wpAny_passesOwn hp (thn (T.item X rfl rfl rfl hc i pins s3 σ3 H3 X.xe I3 (stat fr3) st3 go) fun r s4 ⟨u, hr, h4⟩ => ?_)
  subst hr
  refine wpAny_passesOwn hp (thn h4 fun _ s5 ⟨x, H5, I5, r5, y5, st5, fr5⟩ => ?_)
  have I5' := I5.pinned (stat fr5) (T.obj _ _ st5)
  refine wpAny_passesOwn hp (thn (hg _ s5 σ3 H5 x u _ I5' r5 (step x H5 y5)) fun _ s6 ⟨σ6, H6, I6, q6⟩ => ?_)
  refine wpAny_passesOwn hp (thn (hb _ s6 σ6 H6 _ I6 q6) fun f s7 q7 => ?_)
  have again : ∀ {σ7 : St} {H7 : Hp}, Inv X (pins ++ pinsAt fp s5.heap) σ7 H7 s7 → N σ7 H7 → ∃ m, m < n ∧ ∃ i σ' H', Inv X pins σ' H' s7 ∧ tn i s7.heap ∧ (∀ b ∈ fp, H' b = none) ∧ W i m σ' H' := fun {σ7 H7} I7 n7 => by
   obtain ⟨m', hm, w7⟩ := hN σ7 H7 n7
   refine ⟨m', hm, i + 1, σ7, H7, I7.unpinned, T.keep _ _ _ st5 fun b hb o e => (I7.pin (b, o) (List.mem_append_right _ (List.mem_append_right _ (mem_pinsAt hb e)))).1, fun b hb => ?_, w7⟩
   obtain ⟨o, e, d⟩ := T.obj _ _ st5 b hb
   exact (I7.pin (b, o) (List.mem_append_right _ (List.mem_append_right _ (mem_pinsAt hb e)))).2.1
  cases f with
  | next => obtain ⟨σ7, H7, I7, n7⟩ := q7; exact again I7 n7
  | cont => obtain ⟨σ7, H7, I7, n7⟩ := q7; exact again I7 n7
  | brk => obtain ⟨σ7, H7, I7, q7⟩ := q7; exact ⟨σ7, H7, I7.unpinned, q7⟩
  | ret v => obtain ⟨x7, σ7, H7, I7, r7, q7⟩ := q7; exact ⟨x7, σ7, H7, I7.unpinned, r7, q7⟩
end
theorem for_list {K : PySem.W.Frag} {a : Addr} {xs : List V} {g : TG} {tb : TS} {D : Ends} {σ : St} {H : Hp} (Pv : Nat → St → Hp → Prop) (h0 : Pv 0 σ H) (hl : ∀ i σ H, i ≤ xs.length → Pv i σ H → SqL K H a xs)
  (hs : ∀ i x σ H, xs[i]? = some x → Pv i σ H → g x σ H fun σ2 H2 => tb { D with nx := Pv (i + 1), ct := Pv (i + 1), bk := D.nx } σ2 H2) (hd : ∀ σ H, Pv xs.length σ H → D.nx σ H) :
  ∃ W : Nat → Nat → St → Hp → Prop, (∃ m, W 0 m σ H) ∧ ∀ i m σ H, W i m σ H →
   ((Itl K a).stop i H ∧ D.nx σ H) ∨ ((Itl K a).go i H ∧ ∃ N : St → Hp → Prop, (∀ σ' H', N σ' H' → ∃ m', m' < m ∧ W (i + 1) m' σ' H') ∧ ∀ x H', (Itl K a).yld i H x H' → g x σ H' fun σ2 H2 => tb { D with nx := N, ct := N, bk := D.nx } σ2 H2) := by
 refine ⟨fun i m σ H => m = xs.length - i ∧ i ≤ xs.length ∧ Pv i σ H, ⟨xs.length, by simp, Nat.zero_le _, h0⟩, ?_⟩
 rintro i m σ H ⟨rfl, hi, p⟩
 have q := hl i σ H hi p
 by_cases hlt : i < xs.length
 ·refine .inr ⟨⟨xs, xs[i], q, by simp [hlt]⟩, Pv (i + 1), fun σ' H' p' => ⟨xs.length - (i + 1), by omega, rfl, hlt, p'⟩, fun x H' y => ?_⟩
  obtain ⟨e, y⟩ := y
  subst e
  exact hs i x σ _ (y xs q) p
 ·have e : i = xs.length := by omega
  subst e
  exact .inl ⟨⟨xs, q, Nat.le_refl _⟩, hd σ H p⟩
theorem for_tup {K : PySem.W.Frag} {a : Addr} {xs : List V} {g : TG} {tb : TS} {D : Ends} {σ : St} {H : Hp} (Pv : Nat → St → Hp → Prop) (h0 : Pv 0 σ H) (hl : ∀ i σ H, i ≤ xs.length → Pv i σ H → SqT K H a xs)
  (hs : ∀ i x σ H, xs[i]? = some x → Pv i σ H → g x σ H fun σ2 H2 => tb { D with nx := Pv (i + 1), ct := Pv (i + 1), bk := D.nx } σ2 H2) (hd : ∀ σ H, Pv xs.length σ H → D.nx σ H) :
  ∃ W : Nat → Nat → St → Hp → Prop, (∃ m, W 0 m σ H) ∧ ∀ i m σ H, W i m σ H →
   ((Itt K a).stop i H ∧ D.nx σ H) ∨ ((Itt K a).go i H ∧ ∃ N : St → Hp → Prop, (∀ σ' H', N σ' H' → ∃ m', m' < m ∧ W (i + 1) m' σ' H') ∧ ∀ x H', (Itt K a).yld i H x H' → g x σ H' fun σ2 H2 => tb { D with nx := N, ct := N, bk := D.nx } σ2 H2) := by
 refine ⟨fun i m σ H => m = xs.length - i ∧ i ≤ xs.length ∧ Pv i σ H, ⟨xs.length, by simp, Nat.zero_le _, h0⟩, ?_⟩
 rintro i m σ H ⟨rfl, hi, p⟩
 have q := hl i σ H hi p
 by_cases hlt : i < xs.length
 ·refine .inr ⟨⟨xs, xs[i], q, by simp [hlt]⟩, Pv (i + 1), fun σ' H' p' => ⟨xs.length - (i + 1), by omega, rfl, hlt, p'⟩, fun x H' y => ?_⟩
  obtain ⟨e, y⟩ := y
  subst e
  exact hs i x σ _ (y xs q) p
 ·have e : i = xs.length := by omega
  subst e
  exact .inl ⟨⟨xs, q, Nat.le_refl _⟩, hd σ H p⟩
theorem for_range {lo : Int} {n : Nat} {g : TG} {tb : TS} {D : Ends} {σ : St} {H : Hp} (Pv : Nat → St → Hp → Prop) (h0 : Pv 0 σ H)
  (hs : ∀ i σ H, i < n → Pv i σ H → g (.int (lo + i)) σ H fun σ2 H2 => tb { D with nx := Pv (i + 1), ct := Pv (i + 1), bk := D.nx } σ2 H2) (hd : ∀ σ H, Pv n σ H → D.nx σ H) :
  ∃ W : Nat → Nat → St → Hp → Prop, (∃ m, W 0 m σ H) ∧ ∀ i m σ H, W i m σ H →
   ((Itr lo n).stop i H ∧ D.nx σ H) ∨ ((Itr lo n).go i H ∧ ∃ N : St → Hp → Prop, (∀ σ' H', N σ' H' → ∃ m', m' < m ∧ W (i + 1) m' σ' H') ∧ ∀ x H', (Itr lo n).yld i H x H' → g x σ H' fun σ2 H2 => tb { D with nx := N, ct := N, bk := D.nx } σ2 H2) := by
 refine ⟨fun i m σ H => m = n - i ∧ i ≤ n ∧ Pv i σ H, ⟨n, by simp, Nat.zero_le _, h0⟩, ?_⟩
 rintro i m σ H ⟨rfl, hi, p⟩
 by_cases hlt : i < n
 ·refine .inr ⟨hlt, Pv (i + 1), fun σ' H' p' => ⟨n - (i + 1), by omega, rfl, hlt, p'⟩, fun x H' y => ?_⟩
  obtain ⟨e, y⟩ := y
  subst e y
  exact hs i σ _ hlt p
 ·have e : i = n := by omega
  subst e
  exact .inl ⟨Nat.le_refl _, hd σ H p⟩
end L2
namespace L2
open PySem PySem.Spec PyProof.Rows
abbrev R2 := V → V → Hp → VK → Prop
def OpR (X : Cx) (f : Value → Value → Sem Value) (r : R2) : Prop :=
 ∀ (pins : List (Addr × Obj)) (s : Shared) (σ : St) (H : Hp) (x y : V) (v u : Value) (Q : VK), Inv X pins σ H s → RelV x v → RelV y u → r x y H Q →
  wpAny (model X.prog X.w) X.A (f v u) (EP X pins σ Q) X.xe s
def UnR (X : Cx) (f : Value → Sem Value) (r : V → Hp → VK → Prop) : Prop :=
 ∀ (pins : List (Addr × Obj)) (s : Shared) (σ : St) (H : Hp) (x : V) (v : Value) (Q : VK), Inv X pins σ H s → RelV x v → r x H Q →
  wpAny (model X.prog X.w) X.A (f v) (EP X pins σ Q) X.xe s
def CallR (X : Cx) (f : Value) (r : List V → Hp → VK → Prop) : Prop :=
 ∀ (pins : List (Addr × Obj)) (s : Shared) (σ : St) (H : Hp) (xs : List V) (us : List Value) (Q : VK), Inv X pins σ H s → Vals xs us → r xs H Q →
  wpAny (model X.prog X.w) X.A (call f us) (EP X pins σ Q) X.xe s
def TruR (X : Cx) (r : V → Hp → (Bool → Hp → Prop) → Prop) : Prop :=
 ∀ (pins : List (Addr × Obj)) (s : Shared) (σ : St) (H : Hp) (x : V) (v : Value) (Q : Bool → Hp → Prop), Inv X pins σ H s → RelV x v → r x H Q →
  wpAny (model X.prog X.w) X.A (truthy v) (TP X pins σ Q) X.xe s
def tOp (r : R2) (ta tb : TE) : TE := fun σ H Q => ta σ H fun x H1 => tb σ H1 fun y H2 => r x y H2 Q
def tUn (r : V → Hp → VK → Prop) (ta : TE) : TE := fun σ H Q => ta σ H fun x H1 => r x H1 Q
def rI (C : Int → Int → Prop) (g : Int → Int → V) : R2 := fun x y H Q => ∃ i j, x = .int i ∧ y = .int j ∧ C i j ∧ Q (g i j) H
def rI0 (g : Int → Int → V) : R2 := fun x y H Q => ∃ i j, x = .int i ∧ y = .int j ∧ Q (g i j) H
def rU (g : Int → V) : V → Hp → VK → Prop := fun x H Q => ∃ i, x = .int i ∧ Q (g i) H
section
variable {X : Cx} {a b c : Expr} {ta tb tc : TE} {pos : Pos}
theorem binT (ha : PE X a ta) (hb : PE X b tb) {pins : List (Addr × Obj)} {s : Shared} {σ : St} {H : Hp} {R : V → V → Hp → Prop} (I : Inv X pins σ H s)
  (h : ta σ H fun x H1 => tb σ H1 fun y H2 => R x y H2) {Q : Value → Shared → Prop} {f : Value → Value → Sem Value}
  (hf : ∀ v u s2 x y H2, Inv X pins σ H2 s2 → RelV x v → RelV y u → R x y H2 → wpAny (model X.prog X.w) X.A (f v u) Q X.xe s2) :
  wpAny (model X.prog X.w) X.A (eval a X.env) (fun v s₁ => wpAny (model X.prog X.w) X.A (eval b X.env) (fun u s₂ => wpAny (model X.prog X.w) X.A (f v u) Q X.xe s₂) X.xe s₁) X.xe s := by
 refine thn (ha pins s σ H _ I h) fun v s1 ⟨x, H1, I1, r1, q1⟩ => ?_
 refine thn (hb pins s1 σ H1 _ I1 q1) fun u s2 ⟨y, H2, I2, r2, q2⟩ => ?_
 exact hf v u s2 x y H2 I2 r1 r2 q2
theorem pe_op {op : Operator} {r : R2} (ho : OpR X (binaryOp op) r) (ha : PE X a ta) (hb : PE X b tb) : PE X (.BinOp a op b pos) (tOp r ta tb) := by
 intro pins s σ H Q I h
 exact wpAny_BinOp (binT ha hb I h fun v u s2 x y H2 I2 rx ry q => ho pins s2 σ H2 x y v u Q I2 rx ry q)
theorem pe_un {op : UnaryOp} {r : V → Hp → VK → Prop} (ho : UnR X (unaryOp op) r) (ha : PE X a ta) : PE X (.UnaryOp op a pos) (tUn r ta) := by
 intro pins s σ H Q I h
 exact UnaryOp_ (thn (ha pins s σ H _ I h) fun v s1 ⟨x, H1, I1, r1, q1⟩ => ho pins s1 σ H1 x v Q I1 r1 q1)
theorem opI {f : Value → Value → Sem Value} {C : Int → Int → Prop} {g : Int → Int → Int}
  (rule : ∀ (i j : Int) (t u : Tok) (s : Shared) (Q : Value → Shared → Prop) (E : Value → Shared → Prop), C i j → Q (.int (g i j) s.toks) { s with toks := s.toks + 1 } → wpAny (model X.prog X.w) X.A (f (.int i t) (.int j u)) Q E s) :
  OpR X f (rI C fun i j => .int (g i j)) := by
 intro pins s σ H x y v u Q I rx ry h
 obtain ⟨i, j, rfl, rfl, hc, q⟩ := h
 obtain ⟨t, rfl⟩ := rx
 obtain ⟨t', rfl⟩ := ry
 exact rule i j t t' s _ _ hc ⟨.int (g i j), H, I.tok _, ⟨_, rfl⟩, q⟩
theorem opI0 {f : Value → Value → Sem Value} {g : Int → Int → Int}
  (rule : ∀ (i j : Int) (t u : Tok) (s : Shared) (Q : Value → Shared → Prop) (E : Value → Shared → Prop), Q (.int (g i j) s.toks) { s with toks := s.toks + 1 } → wpAny (model X.prog X.w) X.A (f (.int i t) (.int j u)) Q E s) :
  OpR X f (rI0 fun i j => .int (g i j)) := by
 intro pins s σ H x y v u Q I rx ry h
 obtain ⟨i, j, rfl, rfl, q⟩ := h
 obtain ⟨t, rfl⟩ := rx
 obtain ⟨t', rfl⟩ := ry
 exact rule i j t t' s _ _ ⟨.int (g i j), H, I.tok _, ⟨_, rfl⟩, q⟩
theorem opB0 {f : Value → Value → Sem Value} {g : Int → Int → Bool}
  (rule : ∀ (i j : Int) (t u : Tok) (s : Shared) (Q : Value → Shared → Prop) (E : Value → Shared → Prop), Q (.bool (g i j)) s → wpAny (model X.prog X.w) X.A (f (.int i t) (.int j u)) Q E s) :
  OpR X f (rI0 fun i j => .bl (g i j)) := by
 intro pins s σ H x y v u Q I rx ry h
 obtain ⟨i, j, rfl, rfl, q⟩ := h
 obtain ⟨t, rfl⟩ := rx
 obtain ⟨t', rfl⟩ := ry
 exact rule i j t t' s _ _ ⟨.bl (g i j), H, I, rfl, q⟩
def CDiv (i j : Int) : Prop := 0 < j ∧ j < 1073741824
def CDivN (i j : Int) : Prop := j ≠ 0 ∧ j.natAbs < 1073741824
def CPow (i j : Int) : Prop := 0 ≤ j ∧ j ≤ 1000000 ∧ i.natAbs < 2 ^ 64
def CMul (i j : Int) : Prop := (-(2 ^ 64) < i ∧ i < 2 ^ 64) ∨ (-(2 ^ 64) < j ∧ j < 2 ^ 64)
theorem op_add : OpR X (binaryOp .Add) (rI0 fun i j => .int (i + j)) := opI0 fun _ _ _ _ _ _ _ q => add_int q
theorem op_sub : OpR X (binaryOp .Sub) (rI0 fun i j => .int (i - j)) := opI0 fun _ _ _ _ _ _ _ q => sub_int q
theorem op_mod : OpR X (binaryOp .Mod) (rI (fun _ j => 0 < j) fun i j => .int (i % j)) := opI fun i j _ _ _ _ _ hc q => by
 have h1 : (0 : Int) < j := hc
 exact mod_int' (by omega) (by rw [Int.fmod_eq_emod_of_nonneg i (by omega)]; exact q)
theorem unI {f : Value → Sem Value} {g : Int → Int}
  (rule : ∀ (i : Int) (t : Tok) (s : Shared) (Q : Value → Shared → Prop) (E : Value → Shared → Prop), Q (.int (g i) s.toks) { s with toks := s.toks + 1 } → wpAny (model X.prog X.w) X.A (f (.int i t)) Q E s) :
  UnR X f (rU fun i => .int (g i)) := by
 intro pins s σ H x v Q I rx h
 obtain ⟨i, rfl, q⟩ := h
 obtain ⟨t, rfl⟩ := rx
 exact rule i t s _ _ ⟨.int (g i), H, I.tok _, ⟨_, rfl⟩, q⟩
theorem un_neg : UnR X (unaryOp .USub) (rU fun i => .int (-i)) := unI fun _ _ _ _ _ q => neg_int q
end
def scal : V → V → Bool
 | .non, .non => true | .non, .int _ => true | .int _, .non => true | .non, .bl _ => true | .bl _, .non => true | .non, .str _ => true | .str _, .non => true
 | .int _, .int _ => true | .bl _, .bl _ => true | .str _, .str _ => true | .byt _, .byt _ => true
 | .int _, .str _ => true | .str _, .int _ => true | .bl _, .str _ => true | .str _, .bl _ => true
 | _, _ => false
def rEq : R2 := fun x y H Q => scal x y = true ∧ Q (.bl (decide (x = y))) H
def rNe : R2 := fun x y H Q => scal x y = true ∧ Q (.bl (!decide (x = y))) H
theorem dec_int {i j : Int} : decide (V.int i = V.int j) = (i == j) := by
 rw [Bool.eq_iff_iff]
 simp
theorem dec_bl {i j : Bool} : decide (V.bl i = V.bl j) = (i == j) := by
 rw [Bool.eq_iff_iff]
 simp
theorem dec_str {i j : Str} : decide (V.str i = V.str j) = (i == j) := by
 rw [Bool.eq_iff_iff]
 simp
theorem dec_byt {i j : Array UInt8} : decide (V.byt i = V.byt j) = (i.toList == j.toList) := by
 rw [Bool.eq_iff_iff]
 cases i
 cases j
 simp
section
variable {X : Cx} {a b c : Expr} {ta tb tc : TE} {pos : Pos}
theorem fin_bl {pins : List (Addr × Obj)} {σ : St} {H : Hp} {s : Shared} {Q : VK} {k k' : Bool} (I : Inv X pins σ H s) (q : Q (.bl k) H) (e : k = k') : EP X pins σ Q (.bool k') s := by
 subst e
 exact ⟨.bl k, H, I, rfl, q⟩
theorem op_eq : OpR X (compareOp .Eq) rEq := by
 intro pins s σ H x y v u Q I rx ry h
 obtain ⟨hs, q⟩ := h
 cases x with
 | non =>
  cases rx
  cases y with
  | non => cases ry; exact PySem.EqNone.eq_none_none (fin_bl I q (by simp))
  | bl j => cases ry; exact PySem.EqNone.eq_none_bool (fin_bl I q (by simp))
  | int j => obtain ⟨t', rfl⟩ := ry; exact PySem.EqNone.eq_none_int (fin_bl I q (by simp))
  | str j => obtain ⟨t', rfl⟩ := ry; exact PySem.EqNone.eq_none_str (fin_bl I q (by simp))
  | _ => exact absurd (show false = true from hs) Bool.false_ne_true
 | bl i =>
  cases rx
  cases y with
  | non => cases ry; exact PySem.EqNone.eq_bool_none (fin_bl I q (by simp))
  | bl j => cases ry; exact eq_bool (fin_bl I q dec_bl)
  | str j => obtain ⟨t', rfl⟩ := ry; exact PySem.EqMixed.eq_bool_str (fin_bl I q (by simp))
  | _ => exact absurd (show false = true from hs) Bool.false_ne_true
 | int i =>
  obtain ⟨t, rfl⟩ := rx
  cases y with
  | non => cases ry; exact PySem.EqNone.eq_int_none (fin_bl I q (by simp))
  | int j => obtain ⟨t', rfl⟩ := ry; exact eq_int (fin_bl I q dec_int)
  | str j => obtain ⟨t', rfl⟩ := ry; exact PySem.EqMixed.eq_int_str (fin_bl I q (by simp))
  | _ => exact absurd (show false = true from hs) Bool.false_ne_true
 | str i =>
  obtain ⟨t, rfl⟩ := rx
  cases y with
  | non => cases ry; exact PySem.EqNone.eq_str_none (fin_bl I q (by simp))
  | bl j => cases ry; exact PySem.EqMixed.eq_str_bool (fin_bl I q (by simp))
  | int j => obtain ⟨t', rfl⟩ := ry; exact PySem.EqMixed.eq_str_int (fin_bl I q (by simp))
  | str j => obtain ⟨t', rfl⟩ := ry; exact eq_str (fin_bl I q dec_str)
  | _ => exact absurd (show false = true from hs) Bool.false_ne_true
 | byt i =>
  obtain ⟨t, rfl⟩ := rx
  cases y with
  | byt j => obtain ⟨t', rfl⟩ := ry; exact PySem.W.eq_bytes (fin_bl I q dec_byt)
  | _ => exact absurd (show false = true from hs) Bool.false_ne_true
 | _ => cases y <;> exact absurd (show false = true from hs) Bool.false_ne_true
theorem op_ne : OpR X (compareOp .NotEq) rNe := by
 intro pins s σ H x y v u Q I rx ry h
 obtain ⟨hs, q⟩ := h
 cases x with
 | non =>
  cases rx
  cases y with
  | non => cases ry; exact PySem.EqNone.ne_none_none (fin_bl I q (by simp))
  | bl j => cases ry; exact PySem.EqNone.ne_none_bool (fin_bl I q (by simp))
  | int j => obtain ⟨t', rfl⟩ := ry; exact PySem.EqNone.ne_none_int (fin_bl I q (by simp))
  | str j => obtain ⟨t', rfl⟩ := ry; exact PySem.EqNone.ne_none_str (fin_bl I q (by simp))
  | _ => exact absurd (show false = true from hs) Bool.false_ne_true
 | bl i =>
  cases rx
  cases y with
  | non => cases ry; exact PySem.EqNone.ne_bool_none (fin_bl I q (by simp))
  | bl j => cases ry; exact ne_bool (fin_bl I q (congrArg not dec_bl))
  | str j => obtain ⟨t', rfl⟩ := ry; exact PySem.EqMixed.ne_bool_str (fin_bl I q (by simp))
  | _ => exact absurd (show false = true from hs) Bool.false_ne_true
 | int i =>
  obtain ⟨t, rfl⟩ := rx
  cases y with
  | non => cases ry; exact PySem.EqNone.ne_int_none (fin_bl I q (by simp))
  | int j => obtain ⟨t', rfl⟩ := ry; exact ne_int (fin_bl I q (congrArg not dec_int))
  | str j => obtain ⟨t', rfl⟩ := ry; exact PySem.EqMixed.ne_int_str (fin_bl I q (by simp))
  | _ => exact absurd (show false = true from hs) Bool.false_ne_true
 | str i =>
  obtain ⟨t, rfl⟩ := rx
  cases y with
  | non => cases ry; exact PySem.EqNone.ne_str_none (fin_bl I q (by simp))
  | bl j => cases ry; exact PySem.EqMixed.ne_str_bool (fin_bl I q (by simp))
  | int j => obtain ⟨t', rfl⟩ := ry; exact PySem.EqMixed.ne_str_int (fin_bl I q (by simp))
  | str j => obtain ⟨t', rfl⟩ := ry; exact ne_str (fin_bl I q (congrArg not dec_str))
  | _ => exact absurd (show false = true from hs) Bool.false_ne_true
 | byt i =>
  obtain ⟨t, rfl⟩ := rx
  cases y with
  | byt j => obtain ⟨t', rfl⟩ := ry; exact PySem.W.ne_bytes (fin_bl I q (congrArg not dec_byt))
  | _ => exact absurd (show false = true from hs) Bool.false_ne_true
 | _ => cases y <;> exact absurd (show false = true from hs) Bool.false_ne_true
theorem op_lt : OpR X (compareOp .Lt) (rI0 fun i j => .bl (decide (i < j))) := opB0 fun _ _ _ _ _ _ _ q => lt_int q
theorem op_le : OpR X (compareOp .LtE) (rI0 fun i j => .bl (decide (i ≤ j))) := opB0 fun _ _ _ _ _ _ _ q => le_int q
theorem op_gt : OpR X (compareOp .Gt) (rI0 fun i j => .bl (decide (j < i))) := opB0 fun _ _ _ _ _ _ _ q => gt_int q
def isObj : HO → Bool
 | .lst _ => true
 | .ins _ _ _ => true
 | _ => false
theorem nomark (b : Expr) {op : CmpOp} (h : op ≠ .In := by decide) (h2 : op ≠ .NotIn := by decide) : behindInMarks op b = false := by
 have e1 : (op == CmpOp.In) = false := by cases op <;> first | rfl | exact absurd rfl h
 have e2 : (op == CmpOp.NotIn) = false := by cases op <;> first | rfl | exact absurd rfl h2
 cases b <;> simp [behindInMarks, e1, e2]
theorem pe_cmpR {op : CmpOp} {r : R2} (ho : OpR X (compareOp op) r) (ha : PE X a ta) (hb : PE X b tb) (hm : behindInMarks op b = false) : PE X (.Compare a [op] [b] pos) (tOp r ta tb) := by
 intro pins s σ H Q I h
 exact wpAny_Compare1 (binT ha hb I h fun v u s2 x y H2 I2 rx ry q => ho pins s2 σ H2 x y v u Q I2 rx ry q) hm
def tTest (t : TE) : TT := fun σ H Q => t σ H fun x H' => ∃ k, x = .bl k ∧ Q k H'
theorem pt_cmpR {op : CmpOp} {r : R2} (ho : OpR X (compareOp op) r) (ha : PE X a ta) (hb : PE X b tb) (hm : behindInMarks op b = false) : PT X (.Compare a [op] [b] pos) (tTest (tOp r ta tb)) := by
 intro pins s σ H Q I h
 refine wpAny_isTrue_Compare1 (thn (ha pins s σ H _ I h) fun v s1 ⟨x, H1, I1, r1, q1⟩ => thn (hb pins s1 σ H1 _ I1 q1) fun u s2 ⟨y, H2, I2, r2, q2⟩ =>
  thn (ho pins s2 σ H2 x y v u _ I2 r1 r2 q2) fun c s3 ⟨z, H3, I3, r3, k, e, q3⟩ => ?_) hm
 subst e
 cases r3
 exact wpAny_truthy_bool ⟨H3, I3, q3⟩
def tChain (r r' : R2) (ta tb tc : TE) : TE := fun σ H Q => ta σ H fun x H1 => tb σ H1 fun y H2 => r x y H2 fun z H3 => ∃ k, z = .bl k ∧
 (if k = true then tc σ H3 fun w' H4 => r' y w' H4 Q else Q (.bl false) H3)
theorem pe_chain {op op' : CmpOp} {r r' : R2} (ho : OpR X (compareOp op) r) (ho' : OpR X (compareOp op') r') (ha : PE X a ta) (hb : PE X b tb) (hc : PE X c tc)
  (hm : lastMarks [op, op'] [b, c] = false := by with_unfolding_all rfl) : PE X (.Compare a [op, op'] [b, c] pos) (tChain r r' ta tb tc) := by
 intro pins s σ H Q I h
 refine Compare_chain (thn (ha pins s σ H _ I h) fun v s1 ⟨x, H1, I1, r1, q1⟩ => chain_link (thn (hb pins s1 σ H1 _ I1 q1) fun u s2 ⟨y, H2, I2, r2, q2⟩ =>
  thn (ho pins s2 σ H2 x y v u _ I2 r1 r2 q2) fun d s3 ⟨z, H3, I3, r3, k, e, q3⟩ => ?_)) hm
 subst e
 cases r3
 refine wpAny_truthy_bool ?_
 cases k with
 | false => exact ite_ff ⟨.bl false, H3, I3, rfl, q3⟩
 | true => exact ite_tt (chain_last (thn (hc pins s3 σ H3 _ I3 q3) fun w' s4 ⟨z', H4, I4, r4, q4⟩ => ho' pins s4 σ H4 y z' u w' Q I4 r2 r4 q4))
theorem pt_chain {op op' : CmpOp} {r r' : R2} (ho : OpR X (compareOp op) r) (ho' : OpR X (compareOp op') r') (ha : PE X a ta) (hb : PE X b tb) (hc : PE X c tc)
  (hm : lastMarks [op, op'] [b, c] = false := by with_unfolding_all rfl) : PT X (.Compare a [op, op'] [b, c] pos) (tTest (tChain r r' ta tb tc)) := by
 intro pins s σ H Q I h
 refine isTrue_chain (thn (ha pins s σ H _ I h) fun v s1 ⟨x, H1, I1, r1, q1⟩ => test_link (thn (hb pins s1 σ H1 _ I1 q1) fun u s2 ⟨y, H2, I2, r2, q2⟩ =>
  thn (ho pins s2 σ H2 x y v u _ I2 r1 r2 q2) fun d s3 ⟨z, H3, I3, r3, k, e, q3⟩ => ?_)) hm
 subst e
 cases r3
 refine wpAny_truthy_bool ?_
 cases k with
 | false =>
  obtain ⟨k', e', q'⟩ := q3
  cases e'
  exact ite_ff ⟨H3, I3, q'⟩
 | true =>
  refine ite_tt (test_last (thn (hc pins s3 σ H3 _ I3 q3) fun w' s4 ⟨z', H4, I4, r4, q4⟩ => thn (ho' pins s4 σ H4 y z' u w' _ I4 r2 r4 q4) fun d' s5 ⟨z2, H5, I5, r5, k2, e2, q5⟩ => ?_))
  subst e2
  cases r5
  exact wpAny_truthy_bool ⟨H5, I5, q5⟩
def TruV (K : PySem.W.Frag) (x : V) (H : Hp) (k : Bool) : Prop :=
 match x with
 | .non => k = false
 | .bl b => k = b
 | .int i => k = (i != 0)
 | .str y => y.length ≤ sizeLine ∧ k = ((y.length : Int) != 0)
 | .byt y => y.size ≤ sizeLine ∧ k = ((y.size : Int) != 0)
 | .ref p => (∃ xs, SqL K H p xs ∧ k = !xs.isEmpty) ∨ (∃ xs, SqT K H p xs ∧ k = !xs.isEmpty) ∨ ∃ kvs, H p = some (.dK kvs) ∧ k = !kvs.isEmpty
 | _ => False
theorem isEmpty_kv {κ : Type} {kvs : List (κ × V)} {vs : List (κ × Value)} (r : KV kvs vs) : (!vs.isEmpty) = !kvs.isEmpty := by
 cases r <;> rfl
theorem isEmpty_of {xs : List V} {its : List Value} (r : Vals xs its) : (!its.toArray.isEmpty) = !xs.isEmpty := by
 cases r <;> simp
theorem line63 : (sizeLine : Nat) < 2 ^ 63 := by rw [sizeLine_eq]; decide
theorem tru_ok : TruR X (fun x H Q => ∃ k, TruV X.K x H k ∧ Q k H) := by
 intro pins s σ H x v Q I rx h
 obtain ⟨k, e, q⟩ := h
 have hl := line63
 have hs : sizeLine = 16777216 := sizeLine_eq
 cases x with
 | non =>
  cases rx
  have e' : k = false := e
  subst e'
  exact truthy_none ⟨H, I, q⟩
 | bl b =>
  cases rx
  have e' : k = b := e
  subst e'
  exact wpAny_truthy_bool ⟨H, I, q⟩
 | int i =>
  obtain ⟨t, rfl⟩ := rx
  have e' : k = (i != 0) := e
  subst e'
  exact PySem.P.truthy_int ⟨H, I, q⟩
 | str y =>
  obtain ⟨t, rfl⟩ := rx
  obtain ⟨hy, e'⟩ : y.length ≤ sizeLine ∧ k = ((y.length : Int) != 0) := e
  subst e'
  exact PySem.P.truthy_str (by omega) ⟨H, I.tok _, q⟩
 | byt y =>
  obtain ⟨t, rfl⟩ := rx
  obtain ⟨hy, e'⟩ : y.size ≤ sizeLine ∧ k = ((y.size : Int) != 0) := e
  subst e'
  exact PySem.W.truthy_bytes (by omega) ⟨H, I.tok _, q⟩
 | ref p =>
  cases rx
  have e' : (∃ xs, SqL X.K H p xs ∧ k = !xs.isEmpty) ∨ (∃ xs, SqT X.K H p xs ∧ k = !xs.isEmpty) ∨ ∃ kvs, H p = some (.dK kvs) ∧ k = !kvs.isEmpty := e
  rcases e' with ⟨xs, hx, e'⟩ | ⟨xs, hx, e'⟩ | ⟨kvs, hx, e'⟩
  ·subst e'
   obtain ⟨its, r, pl, hz⟩ := I.list hx
   have hlen := r.length
   exact wpAny_truthy_list pl.isList (by simp only [List.size_toArray]; omega) ⟨H, I.tok _, by rw [isEmpty_of r]; exact q⟩
  ·subst e'
   obtain ⟨its, r, pl, hz⟩ := I.tuple hx
   have hlen := r.length
   exact truthy_tuple pl (by simp only [List.size_toArray]; omega) ⟨H, I.tok _, by rw [isEmpty_of r]; exact q⟩
  ·subst e'
   obtain ⟨hz, hS, vs, r, m⟩ : kvs.length ≤ sizeLine ∧ (p == sysModules) = false ∧ ∃ vs, KV kvs vs ∧ s.heap.DictOf (mixKind X.prog X.w) p vs := I.hok p _ hx
   have hlen : kvs.length = vs.length := Paired.length r
   exact wpAny_truthy_dict hS m (by omega) ⟨H, I.tok _, by rw [isEmpty_kv r]; exact q⟩
 | _ => exact (show False from e).elim
theorem pt_truth (ha : PE X a ta) (he : ∀ whole, isTrue a X.env whole = (do let v ← whole; standAt a.pos; holding [v] (truthy v))) :
  PT X a (fun σ H Q => ta σ H fun x H' => ∃ k, TruV X.K x H' k ∧ Q k H') := by
 intro pins s σ H Q I h
 exact isTrue_plain (thn (ha pins s σ H _ I h) fun v s1 ⟨x, H1, I1, r1, q1⟩ => tru_ok pins s1 σ H1 x v Q I1 r1 q1) (he _)
def PlainIxT (b : Expr) : Prop := ∀ o i, subscripted b false o i = operate [o, i] (getItem o i)
theorem vals1 {x : V} {us : List Value} (r : Vals [x] us) : ∃ u, us = [u] ∧ RelV x u := by
 cases r with
 | cons r1 r2 => cases r2; exact ⟨_, rfl, r1⟩
theorem vals2 {x y : V} {us : List Value} (r : Vals [x, y] us) : ∃ u w', us = [u, w'] ∧ RelV x u ∧ RelV y w' := by
 cases r with
 | cons r1 r2 =>
  cases r2 with
  | cons r3 r4 => cases r4; exact ⟨_, _, rfl, r1, r3⟩
def LenV (K : PySem.W.Frag) (x : V) (H : Hp) (n : Nat) : Prop :=
 match x with
 | .str y => y.length ≤ sizeLine ∧ n = y.length
 | .byt y => y.size ≤ sizeLine ∧ n = y.size
 | .ref p => (∃ xs, SqL K H p xs ∧ n = xs.length) ∨ ∃ xs, SqT K H p xs ∧ n = xs.length
 | _ => False
end
end L2
namespace L2
open PySem PySem.Spec PyProof.Rows
structure ObjM (h : Heap) (x dx C : Addr) (mA : Str → Option Value) : Prop where
 obj : h.get? x = some (PySem.W.instObj C dx)
 ns : h.Ns1 dx mA
 ne : dx ≠ x
theorem lookIn_ns {h : Heap} {dx : Addr} {mA : Str → Option Value} (n : h.Ns1 dx mA) : ∃ od, h.get? dx = some od ∧ ∀ name, PySem.W.lookIn name od = some (mA name) := by
 obtain ⟨o, es, ep, ho, hd, hk, _, hm⟩ := n
 refine ⟨o, ho, fun name => ?_⟩
 have e := hm name
 unfold nsFind findBy at e
 rw [← Array.find?_toList] at e
 unfold PySem.W.lookIn
 rw [hd]
 dsimp only
 split
 ·rename_i y q
  rw [q] at e
  exact congrArg some e
 ·rename_i q
  rw [q] at e
  have a : es.toList.any (·.refKey) = false := by
   rw [List.any_eq_false]
   intro y hy
   obtain ⟨z, t, hkey⟩ := hk y (Array.mem_toList_iff.mp hy)
   simp [DictEntry.refKey, hkey]
  have a' : ¬ es.toList.any (·.refKey) = true := by rw [a]; exact Bool.false_ne_true
  rw [if_neg a']
  exact congrArg some e
theorem ObjM.look {h : Heap} {x dx C : Addr} {mA : Str → Option Value} (I : ObjM h x dx C mA) : ∃ od, PySem.W.InstAt h x (PySem.W.instObj C dx) C (some od) ∧ ∀ name, PySem.W.lookIn name od = some (mA name) :=
 let ⟨od, ho, hl⟩ := lookIn_ns I.ns
 ⟨od, ⟨I.obj, rfl, rfl, ho⟩, hl⟩
section
variable {prog : Program} {w : World} {A : Around} {E : Value → Shared → Prop} {s : Shared} {K : PySem.W.Frag} {x dx C f : Addr} {mA : Str → Option Value} {name : Str} {v : Value}
theorem get_map {expr : Bool} {Q : Value → Shared → Prop} (X : K.In s.heap) (I : ObjM s.heap x dx C mA) (hg : PySem.W.plainGet K C name = true) (hh : PySem.W.hasDictIn K C = true)
  (ha : PySem.W.findIn K (.ref C) name = some none) (hv : mA name = some v) (hv' : PySem.W.handedIn v = true) (h : Q v { s with toks := s.toks + 1 }) :
  wpAny (model prog w) A (getAttr (.ref x) name expr) Q E s := by
 obtain ⟨od, J, hl⟩ := I.look
 exact PySem.W.get_value X J (PySem.W.plainGet_of hg).1 (PySem.W.findObj_own hh ha rfl (by rw [hl, hv])) hv' h
theorem get_meth {pl : Sem Bool} {Q : Value × List Value → Shared → Prop} (X : K.In s.heap) (I : ObjM s.heap x dx C mA) (hg : PySem.W.plainGet K C name = true)
  (hf : PySem.W.findIn K (.ref C) name = some (some (.ref f))) (ht : PySem.W.isFn K (.ref f) = true) (hv : mA name = none) (h : Q (.ref f, [.ref x]) s) :
  wpAny (model prog w) A (getMethod (.ref x) name pl) Q E s := by
 obtain ⟨od, J, hl⟩ := I.look
 exact PySem.W.method_fn X J (PySem.W.plainGet_of hg).1 (PySem.W.plainGet_of hg).2 hf (beq_iff_eq.mp ht) (by show (PySem.W.lookIn name od).map (·.isSome) = some false; rw [hl, hv]; rfl) h
theorem set_map {ns : List Str} {Q : Unit → Shared → Prop} (X : K.In s.heap) (I : ObjM s.heap x dx C mA)
  (hs : PySem.W.findIn K (.ref C) "__setattr__" = some (some (.builtin "object.__setattr__"))) (hp : PySem.W.plainOver K C = true) (ht : PySem.W.takerIn K C name = some none) (hh : PySem.W.hasDictIn K C = true)
  (hw : PySem.Within mA ns) (hsz : ns.length ≤ sizeLine)
  (h : ∀ h', ObjM h' x dx C (fun y => if y = name then some v else mA y) → Heap.SameBut dx s.heap h' → Q () { s with heap := h', toks := s.toks + 2 }) :
  wpAny (model prog w) A (setAttr (.ref x) name v) Q E s := by
 obtain ⟨od, J, hl⟩ := I.look
 refine PySem.W.set_plain X J hs (PySem.W.osa_open (s := { s with toks := s.toks + 1 }) (r := none) X J hp ht fun b => ?_)
 obtain ⟨cd, hc, hd'⟩ := PySem.W.any_some hh
 have hx : s.heap.get? x = some ⟨.ref C, some dx, .plain, #[]⟩ := I.obj
 refine wpAny_bind (wpAny_pure (wpAny_bind (wpAny_bind (wpAny_loadPart hx (wpAny_bind (PySem.W.Looks.here (s := { s with toks := s.toks + 1 }) (PySem.W.looks_clsIn X hc) ?_))))))
 rw [hd']
 refine wpAny_pure (a := some dx) (wpAny_bind (wpAny_pure (wpAny_bind ?_)))
 refine wpAny_nsSet1 (s := { s with toks := s.toks + 1 }) I.ns fun h' hn2 hs2 => ?_
 obtain ⟨oD, esD, epD, hoD, hdD, hcD⟩ := hn2.count (PySem.Within.cons name v hw)
 refine wpAny_bind (wpAny_lookBehind hoD (by rw [hdD]; exact pastItsLine_dict (Nat.le_trans hcD (by rw [List.length_cons]; omega))) ?_)
 exact wpAny_pure (h _ ⟨(hs2.2 _ (Ne.symm I.ne)).trans I.obj, hn2, I.ne⟩ hs2)
theorem make_map {R : Result → Shared → Prop} {vs : List Value} {kw : List (Str × Value)} (X : K.In s.heap) (hm : PySem.W.makesIn K C = true)
  (hi : PySem.W.findIn K (.ref C) "__init__" = some (some (.ref f))) (hf : PySem.W.typeIn K (.ref f) = some (.type "function"))
  (h : codeAny (model prog w) (A.under (.builtin "type.__call__" ⟨.ref C :: vs, kw⟩)) (.call (.ref f) ⟨.ref (s.heap.objs.size + 1) :: vs, kw⟩) (PySem.W.InitBack (s.heap.objs.size + 1) R)
   { s with heap := (s.heap.push PySem.W.emptyDict).push (PySem.W.instObj C s.heap.objs.size) }) :
  codeAny (model prog w) A (.call (.ref C) ⟨vs, kw⟩) R s := by
 obtain ⟨hh, g, d, t, os⟩ := s
 exact PySem.W.make_core (PySem.W.makes_of X hm) (PySem.W.looks_findIn X hi) (fun self => PySem.W.bind_fn X self hf) (.inl rfl) h
end
def putF (f : Str) (v : V) : List (Str × V) → List (Str × V)
 | [] => [(f, v)]
 | (g, x) :: r => if g = f then (g, v) :: r else (g, x) :: putF f v r
theorem lookup_putF (f g : Str) (v : V) : ∀ fs : List (Str × V), (putF f v fs).lookup g = if g = f then some v else fs.lookup g
 | [] => by
  show List.lookup g [(f, v)] = _
  by_cases h : g = f
  ·have hb : (g == f) = true := beq_iff_eq.mpr h
   simp only [List.lookup, hb, if_pos h]
  ·have hb : (g == f) = false := beq_eq_false_iff_ne.mpr h
   simp only [List.lookup, hb, if_neg h]
 | (k, x) :: r => by
  have ih := lookup_putF f g v r
  rw [show putF f v ((k, x) :: r) = (if k = f then (k, v) :: r else (k, x) :: putF f v r) from rfl]
  by_cases hk : k = f
  ·rw [if_pos hk]
   by_cases h : g = k
   ·have hb : (g == k) = true := beq_iff_eq.mpr h
    simp only [List.lookup, hb, if_pos (h.trans hk)]
   ·have hb : (g == k) = false := beq_eq_false_iff_ne.mpr h
    simp only [List.lookup, hb, if_neg (fun e : g = f => h (e.trans hk.symm))]
  ·rw [if_neg hk]
   by_cases h : g = k
   ·have hb : (g == k) = true := beq_iff_eq.mpr h
    simp only [List.lookup, hb, if_neg (fun e : g = f => hk (h.symm.trans e))]
   ·have hb : (g == k) = false := beq_eq_false_iff_ne.mpr h
    simp only [List.lookup, hb]
    exact ih
theorem keys_putF (f : Str) (v : V) : ∀ fs : List (Str × V), f ∈ (putF f v fs).map (·.1) ∧ ∀ g, g ∈ fs.map (·.1) → g ∈ (putF f v fs).map (·.1)
 | [] => ⟨by simp [putF], fun g h => by simp at h⟩
 | (k, x) :: r => by
  obtain ⟨i1, i2⟩ := keys_putF f v r
  rw [show putF f v ((k, x) :: r) = (if k = f then (k, v) :: r else (k, x) :: putF f v r) from rfl]
  by_cases hk : k = f
  ·rw [if_pos hk]
   subst hk
   exact ⟨by simp, fun g h => by simpa using h⟩
  ·rw [if_neg hk]
   refine ⟨?_, fun g h => ?_⟩
   ·rw [List.map_cons]
    exact List.mem_cons_of_mem _ i1
   ·rw [List.map_cons] at h ⊢
    rcases List.mem_cons.mp h with e | e
    ·exact List.mem_cons.mpr (.inl e)
    ·exact List.mem_cons_of_mem _ (i2 g e)
theorem length_putF (f : Str) (v : V) : ∀ fs : List (Str × V), (putF f v fs).length ≤ fs.length + 1
 | [] => by simp [putF]
 | (k, x) :: r => by
  have ih := length_putF f v r
  rw [show putF f v ((k, x) :: r) = (if k = f then (k, v) :: r else (k, x) :: putF f v r) from rfl]
  by_cases hk : k = f
  ·rw [if_pos hk, List.length_cons, List.length_cons]; omega
  ·rw [if_neg hk, List.length_cons, List.length_cons]; omega
theorem RelO.some_of {v : V} {o : Option Value} (r : RelO (some v) o) : ∃ u, o = some u ∧ RelV v u := by
 cases o with
 | none => exact (show False from r).elim
 | some u => exact ⟨u, rfl, r⟩
theorem RelO.none_of {o : Option Value} (r : RelO none o) : o = none := by
 cases o with
 | none => rfl
 | some u => exact (show False from r).elim
theorem handed_of {v : V} {u : Value} (r : RelV v u) : PySem.W.handedIn u = true := by
 cases v with
 | non => cases (show u = Value.none from r); rfl
 | bl b => cases (show u = Value.bool b from r); rfl
 | int i => obtain ⟨t, e⟩ := (show ∃ t, u = Value.int i t from r); cases e; rfl
 | str x => obtain ⟨t, e⟩ := (show ∃ t, u = Value.str x t from r); cases e; rfl
 | byt b => obtain ⟨t, e⟩ := (show ∃ t, u = Value.bytes b t from r); cases e; rfl
 | flt b => obtain ⟨t, e⟩ := (show ∃ t, u = Value.float b t from r); cases e; rfl
 | ref a => cases (show u = Value.ref a from r); rfl
 | ty n => cases (show u = Value.type n from r); rfl
section
variable {P : Program} {w : World} {H H' : Hp} {h h' : Heap} {a C dx : Addr} {fs fs' : List (Str × V)}
theorem ins_get (hok : HOk P w H h) (e : H a = some (.ins C dx fs)) : ∃ mA, ObjM h a dx C mA ∧ (∀ f, RelO (fs.lookup f) (mA f)) ∧ PySem.Within mA (fs.map (·.1)) ∧ fs.length ≤ 1000 ∧ H dx = some (.own a) := by
 obtain ⟨d, z, ne, ob, mA, n, r, q⟩ := (show ObjOk P w H h a (.ins C dx fs) from hok a _ e)
 exact ⟨mA, ⟨ob, n, ne⟩, r, q, z, d⟩
end
structure Cls (K : PySem.W.Frag) (C : Addr) : Prop where
 pg : PySem.W.plainGet K C Str.empty = true
 hd : PySem.W.hasDictIn K C = true
 po : PySem.W.plainOver K C = true
 sa : PySem.W.findIn K (.ref C) "__setattr__" = some (some (.builtin "object.__setattr__"))
theorem Cls.get {K : PySem.W.Frag} {C : Addr} (c : Cls K C) (f : Str) : PySem.W.plainGet K C f = true := c.pg
def NoAttr (K : PySem.W.Frag) (C : Addr) (f : Str) : Prop := PySem.W.findIn K (.ref C) f = some none
theorem NoAttr.taker {K : PySem.W.Frag} {C : Addr} {f : Str} (n : NoAttr K C f) : PySem.W.takerIn K C f = some none := by
 unfold PySem.W.takerIn
 rw [show PySem.W.findIn K (.ref C) f = some none from n]
 rfl
structure Con (K : PySem.W.Frag) (C : Addr) (f : Str) (v : V) (u : Value) : Prop where
 at_ : PySem.W.findIn K (.ref C) f = some (some u)
 rel : RelV v u
 get : PySem.W.specialIn K u "__get__" = some none
 cp : PySem.W.copiedNames.contains f = false
structure Meth (K : PySem.W.Frag) (C : Addr) (m : Str) (f : Addr) : Prop where
 at_ : PySem.W.findIn K (.ref C) m = some (some (.ref f))
 fn : PySem.W.isFn K (.ref f) = true
 kp : PySem.W.keepIn K (.ref f) = true
section
variable {X : Cx} {pins : List (Addr × Obj)} {σ : St} {H : Hp} {s : Shared} {a C dx : Addr} {fs : List (Str × V)} {f : Str} {v : V} {A : Around} {E : Value → Shared → Prop}
theorem getattr_ok {b : Bool} {Q : Value → Shared → Prop} (I : Inv X pins σ H s) (e : H a = some (.ins C dx fs)) (c : Cls X.K C) (n : NoAttr X.K C f) (l : fs.lookup f = some v)
  (h : ∀ u s', Inv X pins σ H s' → RelV v u → Q u s') : wpAny (model X.prog X.w) A (getAttr (.ref a) f b) Q E s := by
 obtain ⟨mA, O, r, _, _, _⟩ := ins_get I.hok e
 obtain ⟨u, hu, ru⟩ := RelO.some_of (v := v) (o := mA f) (by rw [← l]; exact r f)
 exact get_map I.kIn O (c.get f) c.hd n hu (handed_of ru) (h u _ (I.tok _) ru)
theorem getmeth_ok {m : Str} {g : Addr} {pl : Sem Bool} {Q : Value × List Value → Shared → Prop} (I : Inv X pins σ H s) (e : H a = some (.ins C dx fs)) (c : Cls X.K C) (k : Meth X.K C m g) (l : fs.lookup m = none)
  (h : Q (.ref g, [.ref a]) s) : wpAny (model X.prog X.w) A (getMethod (.ref a) m pl) Q E s := by
 obtain ⟨mA, O, r, _, _, _⟩ := ins_get I.hok e
 have hn : mA m = none := RelO.none_of (by rw [← l]; exact r m)
 exact get_meth I.kIn O (c.get m) k.at_ k.fn hn h
theorem setattr_ok {y : V} {u : Value} {Q : Unit → Shared → Prop} (I : Inv X pins σ H s) (e : H a = some (.ins C dx fs)) (c : Cls X.K C) (n : NoAttr X.K C f) (hl : fs.length < 1000) (ry : RelV y u)
  (h : ∀ s', Inv X pins σ (upd H a (.ins C dx (putF f y fs))) s' → Q () s') : wpAny (model X.prog X.w) A (setAttr (.ref a) f u) Q E s := by
 obtain ⟨mA, O, r, wi, _, ho⟩ := ins_get I.hok e
 have hz : (fs.map (·.1)).length ≤ sizeLine := by rw [List.length_map, sizeLine_eq]; omega
 refine set_map I.kIn O c.sa c.po n.taker c.hd wi hz fun h' O' sb => h _ ?_
 have hd : ∃ o, h'.get? dx = some o := let ⟨o, _, _, e', _⟩ := O'.ns; ⟨o, e'⟩
 refine I.write (x := a) (e := dx) (by rw [e]; exact True.intro) (.inr ho) (fun b q hb z => (sb.2 b hb).trans z) hd ?_
 refine ⟨by rw [upd_ne O.ne]; exact ho, ?_, O.ne, O'.obj, _, O'.ns, fun g => ?_, fun g hg => ?_⟩
 ·have := length_putF f y fs; omega
 ·show RelO ((putF f y fs).lookup g) (if g = f then some u else mA g)
  rw [lookup_putF]
  by_cases q : g = f
  ·rw [if_pos q, if_pos q]; exact ry
  ·rw [if_neg q, if_neg q]; exact r g
 ·by_cases q : g = f
  ·rw [q]; exact (keys_putF f y fs).1
  ·refine (keys_putF f y fs).2 g (wi g fun z => hg ?_)
   show (if g = f then some u else mA g) = none
   rw [if_neg q]; exact z
theorem Inv.made (I : Inv X pins σ H s) : Inv X pins σ (upd (upd H s.heap.objs.size (.own (s.heap.objs.size + 1))) (s.heap.objs.size + 1) (.ins C s.heap.objs.size []))
  { s with heap := (s.heap.push PySem.W.emptyDict).push (PySem.W.instObj C s.heap.objs.size) } := by
 have e1 : (s.heap.push PySem.W.emptyDict).get? s.heap.objs.size = some PySem.W.emptyDict := Heap.get?_push_size s.heap rfl
 have e2 : ((s.heap.push PySem.W.emptyDict).push (PySem.W.instObj C s.heap.objs.size)).get? (s.heap.objs.size + 1) = some (PySem.W.instObj C s.heap.objs.size) := by
  have := Heap.get?_push_size (s.heap.push PySem.W.emptyDict) (o := PySem.W.instObj C s.heap.objs.size) rfl
  rwa [Heap.size_push] at this
 have e3 : (s.heap.push PySem.W.emptyDict).Ns s.heap.objs.size (fun _ => none) := ⟨PySem.W.emptyDict, #[], _, e1, rfl, (fun e he => absurd he (by simp)), fun _ => rfl⟩
 have I1 := I.laid (a := s.heap.objs.size) (o := .own (s.heap.objs.size + 1)) (h' := s.heap.push PySem.W.emptyDict) (t' := s.toks) (fun b u q => Heap.get?_push_of_some _ q) (Nat.le_refl _) ⟨_, e1⟩
 refine I1.laid (a := s.heap.objs.size + 1) (o := .ins C s.heap.objs.size []) (t' := s.toks) (fun b u q => Heap.get?_push_of_some _ q) (Nat.le_of_eq (Heap.size_push _ _)) ?_
 have ne : s.heap.objs.size ≠ s.heap.objs.size + 1 := Nat.ne_of_lt (Nat.lt_succ_self _)
 refine ⟨by rw [upd_ne ne, upd_same], Nat.zero_le _, ne, e2, fun _ => none, (Heap.Ns1.of_empty e3).at fun o q => Heap.get?_push_of_some _ q, fun _ => True.intro, fun y hy => absurd rfl hy⟩
theorem attr_of {prog : Program} {w : World} {env : Env} {e : Expr} {f : Str} {pos : Pos} {s : Shared} {Q : Value → Shared → Prop} (hb : attributeBase e f env (eval e env) = eval e env)
  (h : wpAny (model prog w) A (eval e env) (fun o s₁ => wpAny (model prog w) A (getAttr o f true) Q E s₁) E s) : wpAny (model prog w) A (eval (.Attribute e f pos) env) Q E s :=
 Attribute_any_ h (by rw [arm_eval_Attribute, hb])
end
def tFld (K : PySem.W.Frag) (ta : TE) (f : Str) : TE := fun σ H Q => ta σ H fun x H1 => ∃ a C dx fs v, x = .ref a ∧ H1 a = some (.ins C dx fs) ∧ Cls K C ∧ NoAttr K C f ∧ fs.lookup f = some v ∧ Q v H1
def tCon (K : PySem.W.Frag) (ta : TE) (f : Str) : TE := fun σ H Q => ta σ H fun x H1 => ∃ a C dx fs v u, x = .ref a ∧ H1 a = some (.ins C dx fs) ∧ Cls K C ∧ Con K C f v u ∧ fs.lookup f = none ∧ Q v H1
def sFld (K : PySem.W.Frag) (ta tv : TE) (f : Str) : TS := fun D σ H => tv σ H fun y H1 => ta σ H1 fun x H2 => ∃ a C dx fs, x = .ref a ∧ H2 a = some (.ins C dx fs) ∧ Cls K C ∧ NoAttr K C f ∧ fs.length < 1000 ∧
 D.nx σ (upd H2 a (.ins C dx (putF f y fs)))
def InOp (X : Cx) (op : Operator) (rd : V → V → Hp → VK → Prop) : Prop :=
 ∀ (pins : List (Addr × Obj)) (s : Shared) (σ : St) (H : Hp) (x y : V) (u v : Value) (Q : VK), Inv X pins σ H s → RelV x u → RelV y v → rd x y H Q → wpAny (model X.prog X.w) X.A (inplaceOp op u v) (EP X pins σ Q) X.xe s
def sFldAug (K : PySem.W.Frag) (ta tv : TE) (rd : V → V → Hp → VK → Prop) (f : Str) : TS := fun D σ H => ta σ H fun x H1 => ∃ a C dx fs v, x = .ref a ∧ H1 a = some (.ins C dx fs) ∧ Cls K C ∧ NoAttr K C f ∧ fs.lookup f = some v ∧
 tv σ H1 fun y H2 => rd v y H2 fun z H3 => ∃ dx' fs', H3 a = some (.ins C dx' fs') ∧ fs'.length < 1000 ∧ D.nx σ (upd H3 a (.ins C dx' (putF f z fs')))
section
variable {X : Cx} {o e value : Expr} {f : Str} {pos pos' tpos : Pos} {ta tv : TE}
theorem pe_fld (he : PE X e ta) (hb : attributeBase e f X.env (eval e X.env) = eval e X.env) : PE X (.Attribute e f pos) (tFld X.K ta f) := by
 intro pins s σ H Q I h
 refine attr_of hb (thn (he pins s σ H _ I h) fun u s1 ⟨x, H1, I1, rx, a, C, dx, fs, v, ex, ea, c, n, l, q⟩ => ?_)
 subst ex
 obtain rfl : u = Value.ref a := rx
 exact getattr_ok I1 ea c n l fun u' s2 I2 ru => ⟨v, H1, I2, ru, q⟩
theorem ps_fld (ha : PE X o ta) (hv : PE X value tv) (hs : swapsWith value (some (.Attribute o f pos')) pos.line X.env = pure false) : PS X (.Assign [.Attribute o f pos'] value pos) (sFld X.K ta tv f) := by
 intro pins s σ H D I h
 refine plainObj_wpAny_Assign_Attribute (thn (hv pins s σ H _ I h) fun u s1 ⟨y, H1, I1, ry, q⟩ => thn (ha pins s1 σ H1 _ I1 q) fun ov s2 ⟨x, H2, I2, rx, a, C, dx, fs, ex, ea, c, n, l, q2⟩ => ?_) hs
 subst ex
 obtain rfl : ov = Value.ref a := rx
 exact setattr_ok I2 ea c n l ry fun s3 I3 => ⟨σ, _, I3, q2⟩
def rAdd : V → V → Hp → VK → Prop := fun x y H Q => ∃ i j, x = .int i ∧ y = .int j ∧ Q (.int (i + j)) H
def rSub : V → V → Hp → VK → Prop := fun x y H Q => ∃ i j, x = .int i ∧ y = .int j ∧ Q (.int (i - j)) H
end
section
variable {X : Cx} {pins : List (Addr × Obj)} {σ : St} {H : Hp} {s : Shared} {A : Around} {E : Value → Shared → Prop} {Q : Value → Shared → Prop} {c : Value} {b : Bool}
inductive TyOf (K : PySem.W.Frag) (H : Hp) : V → Value → Prop where
 | non : TyOf K H .non (.type "NoneType")
 | bl (x : Bool) : TyOf K H (.bl x) (.type "bool")
 | int (i : Int) : TyOf K H (.int i) (.type "int")
 | str (x : Str) : TyOf K H (.str x) (.type "str")
 | flt (x : UInt64) : TyOf K H (.flt x) (.type "float")
 | lst {a : Addr} {xs : List V} (e : H a = some (.lst xs)) : TyOf K H (.ref a) (.type "list")
 | frz {a : Addr} {o : Obj} {xs : List V} (e : H a = some (.frz o (.lst xs))) : TyOf K H (.ref a) (.type "list")
 | tup {a : Addr} {xs : List V} (e : H a = some (.tup xs)) : TyOf K H (.ref a) (.type "tuple")
 | dK {a : Addr} {kvs : List (Key × V)} (e : H a = some (.dK kvs)) : TyOf K H (.ref a) (.type "dict")
 | dT {a : Addr} {kvs : List (List Key × V)} (e : H a = some (.dT kvs)) : TyOf K H (.ref a) (.type "dict")
 | ins {a C dx : Addr} {fs : List (Str × V)} (e : H a = some (.ins C dx fs)) (cl : Cls K C) (ha : PySem.W.findIn K (.ref C) "__class__" = some (some (.builtin "object.__class__")))
   (hn : PySem.W.specialIn K (.builtin "object.__class__") "__get__" = some (some (.builtin "getset_descriptor.__get__"))) (htk : PySem.W.takesIn K (.builtin "object.__class__") = some true)
   (hm : PySem.W.mroIn K C (.type "object") = some true) : TyOf K H (.ref a) (.ref C)
theorem isinst_ok {x : V} {u t : Value} (I : Inv X pins σ H s) (rx : RelV x u) (ty : TyOf X.K H x t) (e : PySem.W.kitOne X.K t c = some b) (h : ∀ tk, Q (.bool b) { s with toks := tk }) :
  wpAny (model X.prog X.w) A (call (.builtin "isinstance") [u, c]) Q E s := by
 cases ty with
 | non => cases (show u = Value.none from rx); exact PySem.W.kia_one PySem.W.kitx_none I.kIn True.intro e (fun z => nomatch z) h
 | bl y => cases (show u = Value.bool y from rx); exact PySem.W.kia_one PySem.W.kitx_bool I.kIn True.intro e (fun z => nomatch z) h
 | int i => obtain ⟨t, q⟩ := (show ∃ t, u = Value.int i t from rx); cases q; exact PySem.W.kia_one PySem.W.kitx_int I.kIn True.intro e (fun z => nomatch z) h
 | str y => obtain ⟨t, q⟩ := (show ∃ t, u = Value.str y t from rx); cases q; exact PySem.W.kia_one PySem.W.kitx_str I.kIn True.intro e (fun z => nomatch z) h
 | flt y => obtain ⟨t, q⟩ := (show ∃ t, u = Value.float y t from rx); cases q; exact PySem.W.kia_one PySem.W.kitx_float I.kIn True.intro e (fun z => nomatch z) h
 | @lst a xs ea =>
  cases (show u = Value.ref a from rx)
  obtain ⟨_, _, n, _, h1⟩ := (show ObjOk X.prog X.w H s.heap a (.lst xs) from I.hok a _ ea)
  exact PySem.W.kia_one PySem.W.kitx_list I.kIn ⟨_, h1, rfl⟩ e (fun z => nomatch z) h
 | @frz a ob xs ea =>
  cases (show u = Value.ref a from rx)
  obtain ⟨_, _, _, n, _, h1⟩ := (show ObjOk X.prog X.w H s.heap a (.frz ob (.lst xs)) from I.hok a _ ea)
  exact PySem.W.kia_one PySem.W.kitx_list I.kIn ⟨_, h1, rfl⟩ e (fun z => nomatch z) h
 | @tup a xs ea =>
  cases (show u = Value.ref a from rx)
  obtain ⟨_, _, _, p⟩ := (show ObjOk X.prog X.w H s.heap a (.tup xs) from I.hok a _ ea)
  obtain ⟨o, h1, h2, _⟩ := p
  exact PySem.W.kia_one PySem.W.kitx_tuple I.kIn ⟨o, h1, h2⟩ e (fun z => nomatch z) h
 | @dK a kvs ea =>
  cases (show u = Value.ref a from rx)
  obtain ⟨_, _, vs, _, p⟩ := (show ObjOk X.prog X.w H s.heap a (.dK kvs) from I.hok a _ ea)
  obtain ⟨o, es, ep, h1, h2, _⟩ := p
  exact PySem.W.kia_one PySem.W.kitx_dict I.kIn ⟨o, h1, h2.1⟩ e (fun z => nomatch z) h
 | @dT a kvs ea =>
  cases (show u = Value.ref a from rx)
  obtain ⟨_, _, xs, _, o, es, ep, h1, h2, _⟩ := (show ObjOk X.prog X.w H s.heap a (.dT kvs) from I.hok a _ ea)
  exact PySem.W.kia_one PySem.W.kitx_dict I.kIn ⟨o, h1, h2.1⟩ e (fun z => nomatch z) h
 | @ins a C dx fs ea cl ha hn htk hm =>
  cases (show u = Value.ref a from rx)
  obtain ⟨mA, O, _⟩ := ins_get I.hok ea
  obtain ⟨od, J, _⟩ := O.look
  exact PySem.W.kia_one (PySem.W.kitx_own (cl.get _) cl.hd ha hn htk hm) I.kIn J e (fun z => nomatch z) h
end
end L2
namespace L2
open PySem PySem.Spec PyProof.Rows
structure Room (k : Nat) (A : Around) : Prop where
 hd : A.handled = none
 dp : A.depth + 3 * k + 5 < recursionLimit
 un : A.units + 16 * k + 200 < cLine
theorem Room.mono {j k : Nat} {A : Around} (r : Room k A) (h : j ≤ k) : Room j A := ⟨r.hd, by have := r.dp; omega, by have := r.un; omega⟩
theorem Room.deeper {k : Nat} {A : Around} (r : Room (k + 1) A) (env : Env) : Room k (A.deeper env) :=
 ⟨r.hd, by have := r.dp; show A.depth + 1 + 3 * k + 5 < _; omega, by have := r.un; show A.units + 3 + 16 * k + 200 < _; omega⟩
theorem make_depth {A : Around} {C : Addr} {us : List Value} {kw : List (Str × Value)} : (A.under (.builtin "type.__call__" ⟨.ref C :: us, kw⟩)).depth = A.depth + 1 := by
 first | rfl | simp [Around.under, Code.weight, Code.isCreation, Code.isGuard, Code.isCaller, Code.frames, Code.isFrame, guardIds]
theorem make_units {A : Around} {C : Addr} {us : List Value} {kw : List (Str × Value)} : (A.under (.builtin "type.__call__" ⟨.ref C :: us, kw⟩)).units = A.units + 1 := by
 first | rfl | simp [Around.under, Code.cUnits, Code.frames, Code.isFrame]
theorem Room.make {k : Nat} {A : Around} (r : Room (k + 1) A) (C : Addr) (us : List Value) (kw : List (Str × Value)) : Room k (A.under (.builtin "type.__call__" ⟨.ref C :: us, kw⟩)) :=
 ⟨r.hd, by have := r.dp; rw [make_depth]; omega, by have := r.un; rw [make_units]; omega⟩
theorem Room.depth {k : Nat} {A : Around} (r : Room k A) : A.depth < recursionLimit := by have := r.dp; omega
theorem Room.units {k : Nat} {A : Around} (r : Room k A) : A.units + 64 < cLine := by have := r.un; omega
def tNil : TA := fun _ H Q => Q [] H
def tCons (ta : TE) (tr : TA) : TA := fun σ H Q => ta σ H fun x H1 => tr σ H1 fun xs H2 => Q (x :: xs) H2
section
variable {X : Cx} {e : Expr} {es : List Expr} {te : TE} {t : TA} {pos : Pos}
theorem pa_nil : PA X [] tNil := fun _ _ _ _ H Q I h => Calls.spliced_nil ⟨[], H, I, .nil, h⟩
theorem pa_cons (ha : PE X e te) (hr : PA X es t) (hs : starEach (e :: es) X.env = (false, eval e X.env) :: starEach es X.env := by rfl) : PA X (e :: es) (tCons te t) := by
 intro pos pins s σ H Q I h
 rw [hs]
 show wpAny _ _ (spliced ((false, eval e X.env) :: backTo pos (starEach es X.env))) _ _ s
 refine Calls.spliced_cons (thn (ha pins s σ H _ I h) fun u s1 ⟨x, H1, I1, r1, q1⟩ => ?_)
 exact thn (hr pos pins s1 σ H1 _ I1 q1) fun us s2 ⟨xs, H2, I2, r2, q2⟩ => ⟨x :: xs, H2, I2, .cons r1 r2, q2⟩
def tTup (t : TA) : TE := fun σ H Q => t σ H fun xs H1 => xs.length ≤ sizeLine ∧ ∀ p, H1 p = none → Q (.ref p) (upd H1 p (.tup xs))
def tLst (t : TA) : TE := fun σ H Q => t σ H fun xs H1 => xs.length ≤ sizeLine ∧ ∀ p, H1 p = none → Q (.ref p) (upd H1 p (.lst xs))
theorem pe_tup {x1} (h : PA X es t) : PE X (.Tuple es x1 pos) (tTup t) := by
 intro pins s σ H Q I hq
 refine wpAny_Tuple_spliced (thn (h pos pins s σ H _ I hq) fun us s1 ⟨xs, H1, I1, r, z, q⟩ => ⟨by rw [← r.length]; exact z, ?_⟩)
 have hf : H1 s1.heap.objs.size = none := I1.hok.fresh (Nat.le_refl _)
 refine ⟨.ref s1.heap.objs.size, upd H1 s1.heap.objs.size (.tup xs), I1.laid (t' := s1.toks) (fun b u e => Heap.get?_push_of_some _ e) (Nat.le_refl _) ?_, rfl, q _ hf⟩
 exact ⟨z, us, r, ⟨_, Heap.get?_push_size _ rfl, rfl, _, rfl⟩⟩
theorem pe_lst (h : PA X es t) : PE X (.List es pos) (tLst t) := by
 intro pins s σ H Q I hq
 refine wpAny_List_spliced (thn (h pos pins s σ H _ I hq) fun us s1 ⟨xs, H1, I1, r, z, q⟩ => ⟨by rw [← r.length]; exact z, ?_⟩)
 have hf : H1 s1.heap.objs.size = none := I1.hok.fresh (Nat.le_refl _)
 refine ⟨.ref s1.heap.objs.size, upd H1 s1.heap.objs.size (.lst xs), I1.laid (t' := s1.toks) (fun b u e => Heap.get?_push_of_some _ e) (Nat.le_refl _) ?_, rfl, q _ hf⟩
 exact ⟨z, us, 0, r, Heap.get?_push_size _ rfl⟩
end
abbrev Sp := List V → Hp → VK → XK → Prop
abbrev CXT := List Env → Hp → Shared → XK → Value → Shared → Prop
structure Env0 (P : Program) (w : World) (K : PySem.W.Frag) (mg : Str → Option Value) (base : Heap) (A : Around) (outer : List Env) (s : Shared) (H : Hp) : Prop where
 frames : A.frames = some outer
 mod : Mod K mg base
 bs : ∀ b o, base.get? b = some o → s.heap.get? b = some o ∧ H b = none
 bsz : base.objs.size ≤ s.heap.objs.size
 funs : s.heap.FunFrames base outer
 frf : ∀ b ∈ frs outer, H b = none
 hok : HOk P w H s.heap
 bare : AllBare s.gens
def CE (outer : List Env) (P : Program) (w : World) (H : Hp) (s : Shared) (Q : VK) (u : Value) (s' : Shared) : Prop :=
 ∃ v H', s'.os = s.os ∧ AllBare s'.gens ∧ Un (frs outer) [] H H' s.heap s'.heap ∧ HOk P w H' s'.heap ∧ RelV v u ∧ Q v H'
def CR (CX : CXT) (outer : List Env) (P : Program) (w : World) (H : Hp) (s : Shared) (Q : VK) (E : XK) (r : Result) (s' : Shared) : Prop :=
 match r with
 | .ok (.ret u) => CE outer P w H s Q u s'
 | .ok _ => False
 | .error e => CX outer H s E e s'
structure FnOk (P : Program) (w : World) (K : PySem.W.Frag) (mg : Str → Option Value) (base : Heap) (CX : CXT) (k : Nat) (f : Addr) (fd : FuncData) (ps : List Str) (sp : Sp) : Prop where
 len : ∀ vs H Q E, sp vs H Q E → vs.length = ps.length
 run : ∀ (A : Around) (outer : List Env) (s : Shared) (H : Hp) (args : Args) (us : List Value) (vs : List V) (Q : VK) (E : XK), Room k A → Env0 P w K mg base A outer s H → BindsTo s fd args (ps.zip us) → Vals vs us → sp vs H Q E →
  codeAny (model P w) A (.call (.ref f) args) (CR CX outer P w H s Q E) s
theorem FnOk.mono {P : Program} {w : World} {K : PySem.W.Frag} {mg : Str → Option Value} {base : Heap} {CX : CXT} {j k : Nat} {f : Addr} {fd : FuncData} {ps : List Str} {sp : Sp} (F : FnOk P w K mg base CX j f fd ps sp) (h : j ≤ k) :
  FnOk P w K mg base CX k f fd ps sp := ⟨F.len, fun A outer s H args us vs Q E hr => F.run A outer s H args us vs Q E (hr.mono h)⟩
theorem Env0.make {P : Program} {w : World} {K : PySem.W.Frag} {mg : Str → Option Value} {base : Heap} {A : Around} {outer : List Env} {s : Shared} {H : Hp} (e : Env0 P w K mg base A outer s H) (C : Addr) (us : List Value) (kw : List (Str × Value)) :
  Env0 P w K mg base (A.under (.builtin "type.__call__" ⟨.ref C :: us, kw⟩)) outer s H := ⟨by first | exact e.frames | (simpa [Around.under, Code.envs, Code.isFrame, pushEnvs] using e.frames), e.mod, e.bs, e.bsz, e.funs, e.frf, e.hok, e.bare⟩
section
variable {X : Cx} {pins : List (Addr × Obj)} {σ : St} {H : Hp} {s s' : Shared}
theorem Inv.env0 (I : Inv X pins σ H s) : Env0 X.prog X.w X.K X.mg X.base X.A X.stack s H :=
 ⟨I.ok.frames, I.ok.mod, I.bs, Nat.le_trans I.ok.bsz I.sz, I.stack, I.stkFree, I.hok, I.bare⟩
theorem Inv.after {Q : VK} {u : Value} (I : Inv X pins σ H s) (h : CE X.stack X.prog X.w H s Q u s') : EP X pins σ Q u s' := by
 obtain ⟨v, H', os, bare, un, hok, r, q⟩ := h
 obtain ⟨hh, g, d, t, os'⟩ := s'
 obtain rfl : os' = s.os := os
 exact ⟨v, H', I.call (h' := hh) (g' := g) (d' := d) (t' := t) (ch := []) un hok bare (fun b z => absurd z (by simp)), r, q⟩
end
def tCall (sp : Sp) (dvs : List V) (E : XK) (t : TA) : TE := fun σ H Q => t σ H fun vs H1 => sp (vs ++ dvs) H1 Q E
def tMeth (C : Addr) (m : Str) (sp : Sp) (dvs : List V) (E : XK) (ta : TE) (t : TA) : TE := fun σ H Q => ta σ H fun x H1 => ∃ a dx fs, x = .ref a ∧ H1 a = some (.ins C dx fs) ∧ fs.lookup m = none ∧
 t σ H1 fun vs H2 => sp (x :: (vs ++ dvs)) H2 Q E
def tMake (C : Addr) (sp : Sp) (dvs : List V) (E : XK) (t : TA) : TE := fun σ H Q => t σ H fun vs H1 => ∀ x dx, H1 x = none → H1 dx = none → dx ≠ x →
 sp (.ref x :: (vs ++ dvs)) (upd (upd H1 dx (.own x)) x (.ins C dx [])) (fun v H2 => v = .non ∧ Q (.ref x) H2) E
def Binds (K : PySem.W.Frag) (fd : FuncData) (ps : List Str) (ds : List Value) : Prop :=
 ∀ (s : Shared) (us : List Value), K.In s.heap → (us ++ ds).length = ps.length → BindsTo s fd ⟨us, []⟩ (ps.zip (us ++ ds))
theorem Binds.all {K : PySem.W.Frag} {fd : FuncData} {ps : List Str} (h : ∀ us : List Value, us.length = ps.length → bindArgs fd ⟨us, []⟩ = pure (ps.zip us)) : Binds K fd ps [] := fun s us _ hl => by
 rw [List.append_nil] at hl ⊢
 exact .of_eq (h us hl)
def Passes (CX : CXT) (X : Cx) (E : XK) : Prop := ∀ (pins : List (Addr × Obj)) (σ : St) (H : Hp) (s : Shared) (e : Value) (s' : Shared), Inv X pins σ H s → CX X.stack H s E e s' → X.xe e s'
section
variable {X : Cx} {CX : CXT} {k : Nat} {f C : Addr} {fd : FuncData} {ps : List Str} {sp : Sp} {dvs : List V} {ds : List Value} {E : XK} {x m : Str} {p pos apos : Pos} {e o : Expr} {es : List Expr} {ta : TE} {t : TA}
theorem run_fn {pins : List (Addr × Obj)} {σ : St} {H : Hp} {s : Shared} {Q : VK} {us : List Value} {vs : List V} (F : FnOk X.prog X.w X.K X.mg X.base CX k f fd ps sp) (hr : Room k X.A) (hb : Binds X.K fd ps ds) (hd : Vals dvs ds) (hx : Passes CX X E)
  (I : Inv X pins σ H s) (r : Vals vs us) (h : sp (vs ++ dvs) H Q E) : wpAny (model X.prog X.w) X.A (call (.ref f) us) (EP X pins σ Q) X.xe s := by
 have r2 : Vals (vs ++ dvs) (us ++ ds) := r.append hd
 have hl : (us ++ ds).length = ps.length := by rw [← r2.length]; exact F.len _ _ _ _ h
 refine wpAny_call (codeAny_mono (F.run X.A X.stack s H ⟨us, []⟩ (us ++ ds) (vs ++ dvs) Q E hr I.env0 (hb s us I.kIn hl) r2 h) fun r s' hq => ?_)
 cases r with
 | error e => exact hx pins σ H s e s' I hq
 | ok fl =>
  cases fl with
  | ret u => exact I.after hq
  | next => exact False.elim hq
  | brk => exact False.elim hq
  | cont => exact False.elim hq
theorem pe_call (F : FnOk X.prog X.w X.K X.mg X.base CX k f fd ps sp) (hr : Room k X.A) (hg : Gl X x) (hm : X.mg x = some (.ref f)) (hk : PySem.W.keepIn X.K (.ref f) = true) (hb : Binds X.K fd ps ds) (hd : Vals dvs ds) (hx : Passes CX X E)
  (ha : PA X (e :: es) t) (hdb : (x == ("__debug__" : Str)) = false := by decide) (he : starEach (e :: es) X.env = (false, eval e X.env) :: starEach es X.env := by rfl) (hpl : (backTo pos (starEach es X.env)).any (·.1) = false := by rfl) :
  PE X (.Call (.Name x p) (e :: es) [] pos) (tCall sp dvs E t) := by
 intro pins s σ H Q I h
 refine wpAny_Call_Name_kw (ld_glob I hg hm ?_ hdb)
 refine PySem.W.callWith_K (h₀ := X.base) I.ok.mod.kin hk (thn (ha pos pins s σ H _ I h) fun us s1 ⟨vs, H1, I1, r, q⟩ => ⟨I1.kIn, ?_⟩) he hpl
 exact run_fn F hr hb hd hx I1 r q
theorem pe_meth {pl : Sem Bool} (he : PE X o ta) (c : Cls X.K C) (hm : Meth X.K C m f) (F : FnOk X.prog X.w X.K X.mg X.base CX k f fd ps sp) (hr : Room k X.A) (hb : Binds X.K fd ps ds) (hd : Vals dvs ds) (hx : Passes CX X E) (ha : PA X (e :: es) t)
  (hst : starEach (e :: es) X.env = (false, eval e X.env) :: starEach es X.env := by rfl) (hpl : (backTo pos (starEach es X.env)).any (·.1) = false := by rfl)
  (ht : eval (.Call (.Attribute o m apos) (e :: es) [] pos) X.env = (do
   let ov ← eval o X.env
   standAt apos.atName
   let (f, first) ← holding [ov] (getMethod ov m pl)
   callWith pos f first (backTo pos (starEach (e :: es) X.env)) (backToKw pos (keywordEach [] X.env))) := by rfl) :
  PE X (.Call (.Attribute o m apos) (e :: es) [] pos) (tMeth C m sp dvs E ta t) := by
 intro pins s σ H Q I h
 refine PySem.W.methodCall_KW (pl := pl) (thn (he pins s σ H _ I h) fun u s1 ⟨x, H1, I1, rx, a, dx, fs, ex, ea, l, q⟩ => ?_) ht
 subst ex
 obtain rfl : u = Value.ref a := rx
 refine getmeth_ok I1 ea c hm l ?_
 refine PySem.W.callWith_K (first := [.ref a]) (h₀ := X.base) I.ok.mod.kin hm.kp (thn (ha pos pins s1 σ H1 _ I1 q) fun us s2 ⟨vs, H2, I2, r, q2⟩ => ⟨I2.kIn, ?_⟩) hst hpl
 exact run_fn (us := .ref a :: us) (vs := .ref a :: vs) F hr hb hd hx I2 (.cons rfl r) q2
structure Mk (K : PySem.W.Frag) (C f : Addr) : Prop where
 makes : PySem.W.makesIn K C = true
 init : PySem.W.findIn K (.ref C) "__init__" = some (some (.ref f))
 fn : PySem.W.isFn K (.ref f) = true
 kp : PySem.W.keepIn K (.ref C) = true
theorem run_make {pins : List (Addr × Obj)} {σ : St} {H : Hp} {s : Shared} {Q : VK} {us : List Value} {vs : List V} (M : Mk X.K C f) (F : FnOk X.prog X.w X.K X.mg X.base CX k f fd ps sp) (hr : Room (k + 1) X.A) (hb : Binds X.K fd ps ds) (hd : Vals dvs ds)
  (hx : Passes CX X E) (I : Inv X pins σ H s) (r : Vals vs us)
  (h : ∀ x dx, H x = none → H dx = none → dx ≠ x → sp (.ref x :: (vs ++ dvs)) (upd (upd H dx (.own x)) x (.ins C dx [])) (fun v H2 => v = .non ∧ Q (.ref x) H2) E) :
  wpAny (model X.prog X.w) X.A (call (.ref C) us) (EP X pins σ Q) X.xe s := by
 have hq := h (s.heap.objs.size + 1) s.heap.objs.size (I.hok.fresh (Nat.le_succ _)) (I.hok.fresh (Nat.le_refl _)) (Nat.ne_of_lt (Nat.lt_succ_self _))
 have I2 := Inv.made (C := C) I
 have r2 : Vals (V.ref (s.heap.objs.size + 1) :: (vs ++ dvs)) (Value.ref (s.heap.objs.size + 1) :: (us ++ ds)) := .cons rfl (r.append hd)
 have hl : (Value.ref (s.heap.objs.size + 1) :: us ++ ds).length = ps.length := by
  have e := r2.length
  rw [F.len _ _ _ _ hq] at e
  exact e.symm
 refine wpAny_call (make_map (f := f) I.kIn M.makes M.init (beq_iff_eq.mp M.fn) (codeAny_mono (F.run _ X.stack _ _ ⟨Value.ref (s.heap.objs.size + 1) :: us, []⟩ (Value.ref (s.heap.objs.size + 1) :: (us ++ ds)) _ _ E (hr.make C us [])
  (I2.env0.make C us []) (hb _ (Value.ref (s.heap.objs.size + 1) :: us) I2.kIn hl) r2 hq) fun r s' hq' => ?_))
 cases r with
 | error e => exact hx pins σ _ _ e s' I2 hq'
 | ok fl =>
  cases fl with
  | ret u =>
   obtain ⟨v, H', I3, rv, ev, q3⟩ := I2.after hq'
   subst ev
   exact ⟨rv, ⟨V.ref (s.heap.objs.size + 1), H', I3, rfl, q3⟩⟩
  | next => exact False.elim hq'
  | brk => exact False.elim hq'
  | cont => exact False.elim hq'
theorem pe_make (M : Mk X.K C f) (F : FnOk X.prog X.w X.K X.mg X.base CX k f fd ps sp) (hr : Room (k + 1) X.A) (hg : Gl X x) (hm : X.mg x = some (.ref C)) (hb : Binds X.K fd ps ds) (hd : Vals dvs ds) (hx : Passes CX X E)
  (ha : PA X (e :: es) t) (hdb : (x == ("__debug__" : Str)) = false := by decide) (he : starEach (e :: es) X.env = (false, eval e X.env) :: starEach es X.env := by rfl) (hpl : (backTo pos (starEach es X.env)).any (·.1) = false := by rfl) :
  PE X (.Call (.Name x p) (e :: es) [] pos) (tMake C sp dvs E t) := by
 intro pins s σ H Q I h
 refine wpAny_Call_Name_kw (ld_glob I hg hm ?_ hdb)
 refine PySem.W.callWith_K (h₀ := X.base) I.ok.mod.kin M.kp (thn (ha pos pins s σ H _ I h) fun us s1 ⟨vs, H1, I1, r, q⟩ => ⟨I1.kIn, ?_⟩) he hpl
 exact run_make M F hr hb hd hx I1 r q
end
def PK (X : Cx) (kws : List Keyword) (t : TA) : Prop :=
 ∀ (pos : Pos) (pins : List (Addr × Obj)) (s : Shared) (σ : St) (H : Hp) (Q : List V → Hp → Prop), Inv X pins σ H s → t σ H Q → wpAny (model X.prog X.w) X.A (evalAll ((backToKw pos (keywordEach kws X.env)).map (·.2))) (AP X pins σ Q) X.xe s
section
variable {X : Cx} {CX : CXT} {k : Nat} {f C : Addr} {fd : FuncData} {ps ks : List Str} {sp : Sp} {E : XK} {x m : Str} {p pos apos kpos : Pos} {e o : Expr} {es : List Expr} {kws : List Keyword} {te ta : TE} {t tk : TA} {nm : Option Str}
structure KBinds (K : PySem.W.Frag) (fd : FuncData) (ps ks : List Str) (g : List Value → List Value → List Value) (gV : List V → List V → List V) : Prop where
 to : ∀ (s : Shared) (us ws : List Value), K.In s.heap → (g us ws).length = ps.length → BindsTo s fd ⟨us, ks.zip ws⟩ (ps.zip (g us ws))
 rel : ∀ {vs : List V} {us : List Value} {zs : List V} {ws : List Value}, Vals vs us → Vals zs ws → Vals (gV vs zs) (g us ws)
def tCallK (sp : Sp) (gV : List V → List V → List V) (E : XK) (t tk : TA) : TE := fun σ H Q => t σ H fun vs H1 => tk σ H1 fun zs H2 => sp (gV vs zs) H2 Q E
variable {g : List Value → List Value → List Value} {gV : List V → List V → List V}
end
structure FnScope (N P : List Str) (sc : Scope) : Prop where
 kind : sc.kind = .function
 co : sc.isCoroutine = false
 gen : sc.isGenerator = false
 nd : N.Nodup
 pre : N.take P.length = P
 par : ∀ x ∈ P, sc.names.lookup x = some .local ∨ sc.names.lookup x = some .cell
 nofree : ∀ y ∈ sc.names, y.2 ≠ .free
theorem bindL_out {kindOf : Str → Option NameKind} {x : Str} : ∀ {binds : List (Str × Value)} {m : Str → Option Value}, (∀ v, (x, v) ∉ binds) → bindL kindOf binds m x = m x
 | [], _, _ => rfl
 | (n, v) :: r, m, h => by
  unfold bindL
  rw [bindL_out fun w hw => h w (List.mem_cons_of_mem _ hw)]
  split
  ·have : x ≠ n := by rintro rfl; exact h v List.mem_cons_self
   simp [this]
  ·rfl
theorem bindC_out {kindOf : Str → Option NameKind} {x : Str} : ∀ {binds : List (Str × Value)} {m : Str → Option Value}, (∀ v, (x, v) ∉ binds) → bindC kindOf binds m x = m x
 | [], _, _ => rfl
 | (n, v) :: r, m, h => by
  unfold bindC
  rw [bindC_out fun w hw => h w (List.mem_cons_of_mem _ hw)]
  split
  ·rfl
  ·have : x ≠ n := by rintro rfl; exact h v List.mem_cons_self
   simp [this]
theorem bindL_get {kindOf : Str → Option NameKind} {x : Str} {v : Value} : ∀ {P : List Str} {vs : List Value} {i : Nat} {m : Str → Option Value}, P.Nodup → P[i]? = some x → vs[i]? = some v → kindOf x = some .local →
  bindL kindOf (P.zip vs) m x = some v
 | [], _, _, _, _, h, _, _ => by simp at h
 | _ :: _, [], _, _, _, _, h, _ => by simp at h
 | p :: P, w :: vs, 0, m, nd, h1, h2, hk => by
  simp at h1 h2; subst h1; subst h2
  show bindL kindOf ((p, w) :: P.zip vs) m p = _
  unfold bindL
  rw [bindL_out fun v hv => (List.nodup_cons.mp nd).1 (List.of_mem_zip hv).1, if_pos hk]
  simp
 | p :: P, w :: vs, i + 1, m, nd, h1, h2, hk => by
  show bindL kindOf ((p, w) :: P.zip vs) m x = _
  unfold bindL
  exact bindL_get (i := i) (List.nodup_cons.mp nd).2 (by simpa using h1) (by simpa using h2) hk
theorem bindC_get {kindOf : Str → Option NameKind} {x : Str} {v : Value} : ∀ {P : List Str} {vs : List Value} {i : Nat} {m : Str → Option Value}, P.Nodup → P[i]? = some x → vs[i]? = some v → kindOf x ≠ some .local →
  bindC kindOf (P.zip vs) m x = some v
 | [], _, _, _, _, h, _, _ => by simp at h
 | _ :: _, [], _, _, _, _, h, _ => by simp at h
 | p :: P, w :: vs, 0, m, nd, h1, h2, hk => by
  simp at h1 h2; subst h1; subst h2
  show bindC kindOf ((p, w) :: P.zip vs) m p = _
  unfold bindC
  rw [bindC_out fun v hv => (List.nodup_cons.mp nd).1 (List.of_mem_zip hv).1, if_neg hk]
  simp
 | p :: P, w :: vs, i + 1, m, nd, h1, h2, hk => by
  show bindC kindOf ((p, w) :: P.zip vs) m x = _
  unfold bindC
  exact bindC_get (i := i) (List.nodup_cons.mp nd).2 (by simpa using h1) (by simpa using h2) hk
def start (N : List Str) (vs : List V) : St := vs.map some ++ List.replicate (N.length - vs.length) none
def cxOf (CX : CXT) (P : Program) (w : World) (K : PySem.W.Frag) (mg : Str → Option Value) (base : Heap) (N : List Str) (qual : Str) (scope : Scope) (f : Addr) (cd : Value) (A : Around) (outer : List Env) (s : Shared) (H : Hp) (E : XK) : Cx where
 prog := P
 w := w
 K := K
 mg := mg
 base := base
 A := A.deeper (envOfC qual scope s.heap.objs.size f cd)
 N := N
 s₀ := s
 H₀ := H
 env := envOfC qual scope s.heap.objs.size f cd
 outer := outer
 stack := envOfC qual scope s.heap.objs.size f cd :: outer
 ex := []
 calm := true
 fn := fun _ => true
 pn := []
 xe := fun e s' => wpAny (model P w) (A.deeper (envOfC qual scope s.heap.objs.size f cd)) (leaving (envOfC qual scope s.heap.objs.size f cd) e) (fun _ s'' => CX outer H s E e s'') (fun e' s'' => CX outer H s E e' s'') s'
theorem cell_has {sc : Scope} {n : Nat} {x : Str} (h : sc.names.lookup x = some .cell) : ∃ c, (cellsFrom n sc.names []).lookup x = some c := by
 have q := PySem.W.cellsFrom_some sc.names n [] (.inl h)
 exact Option.isSome_iff_exists.mp q
theorem inv_start {CX : CXT} {P : Program} {w : World} {K : PySem.W.Frag} {mg : Str → Option Value} {base : Heap} {N ps : List Str} {qual : Str} {scope : Scope} {f : Addr} {cd : Value} {A : Around} {outer : List Env} {s s1 : Shared} {H : Hp} {E : XK} {us : List Value} {vs : List V}
  (S : FnScope N ps scope) (hd : A.handled = none) (e0 : Env0 P w K mg base A outer s H) (hl : vs.length = ps.length) (r : Vals vs us)
  (x : InCallC s s.heap.objs.size (bindL (envOfC qual scope s.heap.objs.size f cd).kindOf (ps.zip us) fun _ => none) (cellsFrom (s.heap.objs.size + 1) scope.names []) (bindC (envOfC qual scope s.heap.objs.size f cd).kindOf (ps.zip us) fun _ => none) s1) :
  Inv (cxOf CX P w K mg base N qual scope f cd A outer s H E) [] (start N vs) H s1 := by
 have hpl : ps.length ≤ N.length := by have := congrArg List.length S.pre; rw [List.length_take] at this; omega
 obtain ⟨h1, tk, rfl, hk⟩ := x.done
 have noA : ∀ b : Addr, b ∉ (cxOf CX P w K mg base N qual scope f cd A outer s H E).ex := fun b z => absurd (show b ∈ ([] : List Addr) from z) (by simp)
 refine ⟨⟨e0.mod, S.kind, rfl, rfl, Nat.le_refl _, fun y z c h1 h2 => ?_, fun y hy => ?_, fun y c _ h => ?_, fun _ => hd, Around.frames_deeper e0.frames, .inr ⟨rfl, rfl⟩, fun b z => absurd z (noA b), e0.bs, e0.bsz, fun b _ _ => noA b, fun b z => absurd z (noA b), e0.funs, e0.frf⟩,
  rfl, e0.bare, Un.kept hk, ⟨_, x.toInCall.ns, fun i y v h1 h2 h3 => ?_⟩, fun y c h => ⟨_, x.cell y c h⟩, e0.hok.fresh (Nat.le_refl _), fun y c h => ?_, fun p hp => absurd (show p ∈ ([] : List (Addr × Obj)) from hp) (by simp), e0.hok.kept hk, ?_⟩
 ·exact name_of_addr x.apart (PySem.mem_of_lookup h1) (PySem.mem_of_lookup h2)
 ·have hy : scope.names.lookup y = some .cell ∨ scope.names.lookup y = some .free := hy
  rcases hy with hy | hy
  ·exact cell_has hy
  ·exact absurd rfl (S.nofree _ (PySem.mem_of_lookup hy))
 ·exact Nat.le_of_lt (x.above y c (PySem.mem_of_lookup h))
 ·have hi : i < vs.length := by
   unfold start at h2
   by_cases hi : i < vs.length
   ·exact hi
   ·rw [List.getElem?_append_right (by simpa using hi)] at h2
    rw [List.getElem?_replicate] at h2
    split at h2 <;> cases h2
  have ha : vs[i]? = some v := by
   unfold start at h2
   rw [List.getElem?_append_left (by simpa using hi), List.getElem?_map] at h2
   cases e : vs[i]? with
   | none => rw [e] at h2; cases h2
   | some a => rw [e] at h2; cases h2; rfl
  obtain ⟨u, hu, rv⟩ := r.get ha
  have hp : ps[i]? = some y := by
   rw [← S.pre, List.getElem?_take_of_lt (by omega)]; exact h1
  have ndP : ps.Nodup := by rw [← S.pre]; exact S.nd.sublist (List.take_sublist _ _)
  refine ⟨u, rv, ?_⟩
  rcases S.par y (List.mem_of_getElem? hp) with k | k
  ·exact .inl ⟨k, bindL_get ndP hp hu k⟩
  ·obtain ⟨c, e⟩ := cell_has (n := s.heap.objs.size + 1) k
   refine .inr ⟨.inl k, c, e, ?_⟩
   have q := x.cell y c e
   rw [bindC_get ndP hp hu (by show scope.names.lookup y ≠ _; rw [k]; decide)] at q
   exact q
 ·exact e0.hok.fresh (Nat.le_of_lt (x.above y c (PySem.mem_of_lookup h)))
 ·unfold start
  show _ = N.length
  rw [List.length_append, List.length_map, List.length_replicate]
  omega
theorem fn_of {CX : CXT} {P : Program} {w : World} {K : PySem.W.Frag} {mg : Str → Option Value} {base : Heap} {k : Nat} {f : Addr} {name qual : Str} {params : Arguments} {body : List Stmt} {scope : Scope} {dV kV doc pm cdv ct oc : Value} {an od : Option Addr}
  {osl : Array (Option Value)} {N ps : List Str} {sp : Sp} (lk : K.lookup f = some ⟨oc, od, .func (PySem.W.fnOf name qual params body scope dV kV doc pm an cdv ct), osl⟩) (hcd : PySem.W.codeIn K cdv qual = true) (S : FnScope N ps scope)
  (len : ∀ vs H Q E, sp vs H Q E → vs.length = ps.length)
  (hbody : ∀ (A : Around) (outer : List Env) (s : Shared) (H : Hp) (vs : List V) (Q : VK) (E : XK), Room k (A.deeper (envOfC qual scope s.heap.objs.size f cdv)) → sp vs H Q E →
   ∃ t, PSs (cxOf CX P w K mg base N qual scope f cdv A outer s H E) body t ∧ t { nx := fun _ H' => Q .non H', rt := Q } (start N vs) H) :
  FnOk P w K mg base CX (k + 1) f (PySem.W.fnOf name qual params body scope dV kV doc pm an cdv ct) ps sp := by
 refine ⟨len, fun A outer s H args us vs Q E hr e0 hb r hsp => ?_⟩
 have hl := len _ _ _ _ hsp
 have KX : K.In s.heap := e0.mod.kin.keeps fun b o e => (e0.bs b o e).1
 have lim : s.heap.NoLimit := e0.mod.nolimit.keeps fun b o e => (e0.bs b o e).1
 have hkind : ∀ y ∈ ps.zip us, scope.names.lookup y.1 = some .local ∨ (scope.names.lookup y.1 = some .cell ∧ ((cellsFrom (s.heap.objs.size + 1) scope.names []).lookup y.1).isSome = true) := fun ⟨n, v⟩ hy => by
  rcases S.par n (List.of_mem_zip hy).1 with q | q
  ·exact .inl q
  ·exact .inr ⟨q, PySem.W.cellsFrom_some _ _ _ (.inl q)⟩
 refine codeAny_call_function hr.depth (KX _ _ lk) rfl S.co S.gen rfl (PySem.W.codeRec_of KX hcd) (hb _ _ _ _ ?_)
 refine wpAny_newFunctionEnv_cells S.kind hkind fun env he s1 x => ?_
 subst he
 refine ⟨lim.keeps x.toInCall.keep, codeAny_func ?_⟩
 obtain ⟨t, ht, hq⟩ := hbody A outer s H vs Q E (hr.deeper _) hsp
 have I : Inv (cxOf CX P w K mg base N qual scope f cdv A outer s H E) [] (start N vs) H s1 := inv_start S hr.hd e0 hl r x
 refine wpAny_mono (ht [] s1 (start N vs) H _ I hq) (fun fl s' hs => ?_) fun e s' hs => hs
 have fin : ∀ {σ' : St} {H' : Hp} {v : V} {u : Value}, Inv (cxOf CX P w K mg base N qual scope f cdv A outer s H E) [] σ' H' s' → RelV v u → Q v H' → CE outer P w H s Q u s' :=
  fun {σ' H' v u} J rv q => ⟨v, H', J.os, J.bare, J.base, J.hok, rv, q⟩
 cases fl with
 | ret u =>
  obtain ⟨v, σ', H', J, rv, q⟩ := hs
  exact fin J rv q
 | next =>
  obtain ⟨σ', H', J, q⟩ := hs
  exact fin (v := V.non) (u := Value.none) J rfl q
 | brk =>
  obtain ⟨_, _, _, q⟩ := hs
  exact False.elim q
 | cont =>
  obtain ⟨_, _, _, q⟩ := hs
  exact False.elim q
end L2
namespace L2
open PySem PySem.Spec PyProof.Rows
section
variable {X : Cx} {x : Str} {p pos : Pos} {e : Expr} {es : List Expr} {t : TA} {id T : String} {r : List V → Hp → VK → Prop}
def tCB (r : List V → Hp → VK → Prop) (t : TA) : TE := fun σ H Q => t σ H fun vs H1 => r vs H1 Q
theorem pe_callB (hc : CallR X (.builtin id) r) (hg : Gl X x) (hm : X.mg x = none) (hv : bootBuiltins x = some (.builtin id)) (ha : PA X (e :: es) t) (hn : x ≠ "__name__" := by decide) (hdb : (x == ("__debug__" : Str)) = false := by decide)
  (he : starEach (e :: es) X.env = (false, eval e X.env) :: starEach es X.env := by rfl) (hpl : (backTo pos (starEach es X.env)).any (·.1) = false := by rfl) : PE X (.Call (.Name x p) (e :: es) [] pos) (tCB r t) := by
 intro pins s σ H Q I h
 refine wpAny_Call_Name_kw (ld_blt I hg hm hv ?_ hn hdb)
 exact PyProof.Rows.callWith_builtin1 (thn (ha pos pins s σ H _ I h) fun us s1 ⟨vs, H1, I1, r1, q1⟩ => hc pins s1 σ H1 vs us Q I1 r1 q1) he hpl
theorem pe_callTy (hc : CallR X (.type T) r) (hg : Gl X x) (hm : X.mg x = none) (hv : bootBuiltins x = some (.type T)) (ha : PA X (e :: es) t) (hn : x ≠ "__name__" := by decide) (hdb : (x == ("__debug__" : Str)) = false := by decide)
  (he : starEach (e :: es) X.env = (false, eval e X.env) :: starEach es X.env := by rfl) (hpl : (backTo pos (starEach es X.env)).any (·.1) = false := by rfl) : PE X (.Call (.Name x p) (e :: es) [] pos) (tCB r t) := by
 intro pins s σ H Q I h
 refine wpAny_Call_Name_kw (ld_blt I hg hm hv ?_ hn hdb)
 exact PyProof.Rows.callWith_type1 (thn (ha pos pins s σ H _ I h) fun us s1 ⟨vs, H1, I1, r1, q1⟩ => hc pins s1 σ H1 vs us Q I1 r1 q1) he hpl
end
end L2
namespace HT
open PySem PyProof.Rows
def lexLt : List Int → List Int → Bool
 | [], [] => false
 | [], _ :: _ => true
 | _ :: _, [] => false
 | x :: xs, y :: ys => if x = y then lexLt xs ys else decide (x < y)
theorem lexLt_cons (x y : Int) (xs ys : List Int) : lexLt (x :: xs) (y :: ys) = if x = y then lexLt xs ys else decide (x < y) := rfl
theorem lexLt_nil_nil : lexLt [] [] = false := rfl
theorem lexLt_nil_cons (y : Int) (ys : List Int) : lexLt [] (y :: ys) = true := rfl
theorem lexLt_cons_nil (x : Int) (xs : List Int) : lexLt (x :: xs) [] = false := rfl
theorem eqAt_int (A : Around) (s : Shared) (a : Int) (t : Tok) (c : Int) (u : Tok) : ∃ e, SeqAt.EqAt A s (.int a t) (.int c u) e ∧ (e = true ↔ a = c) :=
 ⟨(a == c), SeqAt.EqAt.int_int a t c u, by simp⟩
theorem rcLt_int (A : Around) (s : Shared) (a : Int) (t : Tok) (c : Int) (u : Tok) (prog : Program) (w : World) (E : Value → Shared → Prop) (Q : Value → Shared → Prop) (h : Q (.bool (decide (a < c))) s) :
  wpAny (model prog w) A (richCompare .Lt (.int a t) (.int c u)) Q E s :=
 (PyProof.Rows.lt_int h : wpAny (model prog w) A (compareOp .Lt (.int a t) (.int c u)) Q E s)
section
open PySem.SeqAt
open PySem.AutoSeq1 (wpAny_loadPart')
open PySem.MeetsSeq PySem.MeetsSeq2 PySem.MeetsSeq3
theorem tuple_lt_ints (l b : Addr) (items items2 : Array Value) (n n2 : Nat) (dd dd2 : Option Addr) (sl sl2 : Array (Option Value)) (ns ms : List Int) (hi : IntsAre items.toList ns) (hj : IntsAre items2.toList ms) :
  Meets (Builtin.«tuple.__lt__» ⟨[.ref l, .ref b], []⟩)
   (fun _ R s => s.heap.get? l = some { cls := .type "tuple", dict := dd, data := .seq items n, slots := sl } ∧ s.heap.get? b = some { cls := .type "tuple", dict := dd2, data := .seq items2 n2, slots := sl2 } ∧
    R (.ok (.ret (.bool (lexLt ns ms)))) s) :=
 .of_wp fun prog w A R s h => by
  obtain ⟨hp, g, d, tk, os⟩ := s; obtain ⟨hl, hb, h⟩ := h
  have f2 := AutoSeq1.sub_tuple_tuple
  have z1 : items.size = ns.length := by rw [← hi.length]; simp
  have z2 : items2.size = ms.length := by rw [← hj.length]; simp
  wp_walk using wpAny_loadPart' hl, wpAny_loadPart' hb, wpAny_forIn_list _ (fun rest b s' => b.1 = none ∧ s' = ⟨hp, g, d, tk, os⟩ ∧ ∃ (vs ws : List Value) (ns' ms' : List Int), rest = vs.zip ws ∧
   IntsAre vs ns' ∧ IntsAre ws ms' ∧ ns'.length + items2.size = ms'.length + items.size ∧ R (.ok (.ret (.bool (lexLt ns' ms')))) ⟨hp, g, d, tk, os⟩) _
  case turn =>
   rintro ⟨y, x⟩ rest b s' ⟨hb', rfl, vs, ws, ns', ms', hz, hvi, hwi, hlen, hR⟩
   cases hvi with
   | nil => rw [List.zip_nil_left] at hz; cases hz
   | cons a t hvi' =>
    cases hwi with
    | nil => rw [List.zip_nil_right] at hz; cases hz
    | cons c u hwi' =>
     rw [List.zip_cons_cons] at hz
     injection hz with hyx hrest
     injection hyx with hy hx
     subst hy hx
     rw [lexLt_cons] at hR
     simp only [List.length_cons] at hlen
     obtain ⟨e, he, hiff⟩ := eqAt_int A.in1 ⟨hp, g, d, tk, os⟩ a t c u
     refine wpAny_bind (he prog w _ _ ?_)
     cases e with
     | true =>
      rw [if_pos (hiff.mp rfl)] at hR
      wp_walk
      exact ⟨rfl, rfl, _, _, _, _, hrest, hvi', hwi', by omega, hR⟩
     | false =>
      rw [if_neg (fun q => absurd (hiff.mpr q) Bool.false_ne_true)] at hR
      have hri := rcLt_int A.in1 ⟨hp, g, d, tk, os⟩ a t c u prog w
      wp_walk using hri
      exact ⟨_, rfl, by simpa using hR⟩
  case fin =>
   rintro ⟨b1, b2⟩ s' ⟨hb', rfl, vs, ws, ns', ms', hz, hvi, hwi, hlen, hR⟩
   simp only at hb'
   subst hb'
   have hv : lexLt ns' ms' = decide (items.size < items2.size) := by
    cases hvi with
    | nil =>
     cases hwi with
     | nil =>
      simp only [List.length_nil] at hlen
      rw [lexLt_nil_nil]
      exact (decide_eq_false (by omega)).symm
     | cons c u hw =>
      simp only [List.length_nil, List.length_cons] at hlen
      rw [lexLt_nil_cons]
      exact (decide_eq_true (by omega)).symm
    | cons a t hv =>
     cases hwi with
     | nil =>
      simp only [List.length_nil, List.length_cons] at hlen
      rw [lexLt_cons_nil]
      exact (decide_eq_false (by omega)).symm
     | cons c u hw =>
      rw [List.zip_cons_cons] at hz
      cases hz
   rw [hv] at hR
   wp_walk
   exact ⟨_, rfl, by simpa [Builtin.Tuple.tupleCompareSizes] using hR⟩
  case h =>
   exact ⟨rfl, rfl, items.toList, items2.toList, ns, ms, rfl, hi, hj, by omega, h⟩
end
section
variable {prog : Program} {w : World} {A : Around} {E : Value → Shared → Prop} {s : Shared}
theorem lt_tupInts {l b : Addr} {items items2 : Array Value} {ns ms : List Int} {Q : Value → Shared → Prop} (hl : IsTup s.heap l items) (hb : IsTup s.heap b items2) (hi : IntsAre items.toList ns) (hj : IntsAre items2.toList ms)
  (hu : A.units < cLine) (h : Q (.bool (lexLt ns ms)) s) : wpAny (model prog w) A (compareOp .Lt (.ref l) (.ref b)) Q E s := by
 obtain ⟨⟨cls, dd, data, sl⟩, ho, hc, n, hd⟩ := id hl
 obtain ⟨⟨cls2, dd2, data2, sl2⟩, ho2, hc2, n2, hd2⟩ := id hb
 simp only at hc hd hc2 hd2
 subst hc hd hc2 hd2
 exact richCompare_meets_room (op := .Lt) ⟨_, ho, rfl⟩ ⟨_, ho2, rfl⟩ PySem.F.slot_tuple_lt PySem.F.entry_tuple_lt (PySem.F.args_tuple_lt_2 _ _) (tuple_lt_ints l b items items2 n n2 dd dd2 sl sl2 ns ms hi hj)
  ⟨ho, ho2, show Value.bool (lexLt ns ms) ≠ Value.notImplemented ∧ Q (.bool (lexLt ns ms)) s from ⟨(fun x => nomatch x), h⟩⟩ hu
def sIx (n d : Nat) : Option Int → Nat
 | none => d
 | some v => if v < 0 then (v + (n : Int)).toNat else min v.toNat n
theorem sIx_none (n d : Nat) : sIx n d none = d := rfl
theorem sIx_nat (n d k : Nat) : sIx n d (some (k : Int)) = min k n := by
 show (if (k : Int) < 0 then ((k : Int) + (n : Int)).toNat else min (k : Int).toNat n) = min k n
 rw [if_neg (by omega), Int.toNat_natCast]
end
end HT
namespace L2
open PySem PySem.Spec PyProof.Rows
abbrev TO := St → Hp → (Option Int → Hp → Prop) → Prop
def PO (X : Cx) (e : Option Expr) (t : TO) : Prop :=
 ∀ (pins : List (Addr × Obj)) (s : Shared) (σ : St) (H : Hp) (Q : Option Int → Hp → Prop), Inv X pins σ H s → t σ H Q →
  wpAny (model X.prog X.w) X.A (evalPart e X.env) (fun u s' => ∃ o H', Inv X pins σ H' s' ∧ IsPart u o ∧ Q o H') X.xe s
def tNoPart : TO := fun _ H Q => Q none H
def tPart (t : TE) : TO := fun σ H Q => t σ H fun x H1 => ∃ i, x = .int i ∧ Q (some i) H1
theorem intsAre_of {ns : List Int} : ∀ {us : List Value}, Vals (ns.map V.int) us → IntsAre us ns := by
 induction ns with
 | nil => intro us r; rw [List.map_nil] at r; cases r; exact .nil
 | cons n ns ih =>
  intro us r
  rw [List.map_cons] at r
  cases r with
  | cons r1 r2 =>
   obtain ⟨t, e⟩ := r1
   subst e
   exact .cons n t (ih r2)
section
variable {X : Cx} {e : Expr} {te : TE} {lo hi : Option Expr} {tl th : TO} {pos p2 : Pos}
theorem po_none : PO X none tNoPart := by
 intro pins s σ H Q I h
 rw [evalPart_none]
 exact wpAny_pure ⟨none, H, I, .none, h⟩
theorem po_some (h : PE X e te) : PO X (some e) (tPart te) := by
 intro pins s σ H Q I hw
 rw [evalPart_some]
 refine thn (h pins s σ H _ I hw) fun u s1 ⟨x, H1, I1, r1, q1⟩ => ?_
 obtain ⟨i, rfl, q⟩ := q1
 obtain ⟨t, rfl⟩ := r1
 exact ⟨some i, H1, I1, .int i t, q⟩
def SlR (X : Cx) (r : V → Option Int → Option Int → Hp → VK → Prop) : Prop :=
 ∀ (pins : List (Addr × Obj)) (s : Shared) (σ : St) (H : Hp) (x : V) (v vl vu : Value) (lo hi : Option Int) (sl : Addr) (Q : VK), Inv X pins σ H s → RelV x v → s.heap.IsSliceOf sl vl vu .none → IsPart vl lo → IsPart vu hi → r x lo hi H Q →
  ∃ T id, typeLookup (.type T) "__getitem__" = pure (some (.builtin id)) ∧ s.TypeIs v T ∧ wpAny (model X.prog X.w) X.A (getItem v (.ref sl)) (EP X pins σ Q) X.xe s
def tSl (r : V → Option Int → Option Int → Hp → VK → Prop) (te : TE) (tl th : TO) : TE := fun σ H Q => te σ H fun x H1 => tl σ H1 fun l H2 => th σ H2 fun u H3 => r x l u H3 Q
theorem pe_slice {r : V → Option Int → Option Int → Hp → VK → Prop} (hr : SlR X r) (he : PE X e te) (hl : PO X lo tl) (hu : PO X hi th) : PE X (.Subscript e (.Slice lo hi none p2) pos) (tSl r te tl th) := by
 intro pins s σ H Q I h
 refine Subscript_ (thn (he pins s σ H _ I h) fun v s1 ⟨x, H1, I1, r1, q1⟩ => ?_)
 refine wpAny_Slice (thn (hl pins s1 σ H1 _ I1 q1) fun vl s2 ⟨l, H2, I2, pl, q2⟩ => thn (hu pins s2 σ H2 _ I2 q2) fun vu s3 ⟨u, H3, I3, pu, q3⟩ => ?_)
 rw [evalPart_none]
 refine wpAny_pure ?_
 have I4 : Inv X pins σ H3 { s3 with heap := s3.heap.push { cls := .type "slice", data := .fields #[vl, vu, .none] } } := I3.kept (t' := s3.toks) fun b ob q => Heap.get?_push_of_some _ q
 obtain ⟨T, id, hT, ht, hg⟩ := hr pins { s3 with heap := s3.heap.push { cls := .type "slice", data := .fields #[vl, vu, .none] } } σ H3 x v vl vu l u s3.heap.objs.size Q I4 r1 (Heap.IsSliceOf.new ..) pl pu q3
 show wpAny (model X.prog X.w) X.A (subscriptTail e (.Slice lo hi none p2) v (.ref s3.heap.objs.size)) (EP X pins σ Q) X.xe { s3 with heap := s3.heap.push { cls := .type "slice", data := .fields #[vl, vu, .none] } }
 exact tail_any (ops := [.ref s3.heap.objs.size, v]) ht hT hg (by with_unfolding_all rfl)
def cutV (xs : List V) (lo hi : Option Int) : List V := (xs.drop (HT.sIx xs.length 0 lo)).take (HT.sIx xs.length xs.length hi - HT.sIx xs.length 0 lo)
theorem cutV_length (xs : List V) (lo hi : Option Int) : (cutV xs lo hi).length ≤ xs.length := by
 unfold cutV
 rw [List.length_take, List.length_drop]
 omega
def rSlT (K : PySem.W.Frag) : V → Option Int → Option Int → Hp → VK → Prop := fun x lo hi H Q => ∃ a xs, x = .ref a ∧ SqT K H a xs ∧
 ¬ (HT.sIx xs.length 0 lo = 0 ∧ HT.sIx xs.length xs.length hi = xs.length) ∧ ∀ p, H p = none → Q (.ref p) (upd H p (.tup (cutV xs lo hi)))
def rLtT (K : PySem.W.Frag) : R2 := fun x y H Q => ∃ a b ns ms, x = .ref a ∧ y = .ref b ∧ SqT K H a (ns.map V.int) ∧ SqT K H b (ms.map V.int) ∧ Q (.bl (HT.lexLt ns ms)) H
def rCatT (K : PySem.W.Frag) : R2 := fun x y H Q => ∃ a b xs ys, x = .ref a ∧ y = .ref b ∧ SqT K H a xs ∧ SqT K H b ys ∧ xs ≠ [] ∧ xs.length + ys.length ≤ sizeLine ∧
 (ys = [] → Q (.ref a) H) ∧ (ys ≠ [] → ∀ p, H p = none → Q (.ref p) (upd H p (.tup (xs ++ ys))))
end
end L2
namespace L2
open PySem PySem.Spec PyProof.Rows
def ixN (n : Nat) (i : Int) : Option Nat := if 0 ≤ i then (if i < n then some i.toNat else none) else if -(n : Int) ≤ i then some (i + n).toNat else none
def atI {α : Type} (xs : List α) (i : Int) : Option α := (ixN xs.length i).bind fun j => xs[j]?
theorem ixN_seq {n : Nat} {i : Int} {j : Nat} (h : ixN n i = some j) : seqIndex? i n = some j ∧ j < n ∧ -(n : Int) ≤ i ∧ i < n := by
 unfold ixN at h
 by_cases h0 : 0 ≤ i
 ·rw [if_pos h0] at h
  by_cases h1 : i < n
  ·rw [if_pos h1] at h
   have e : i.toNat = j := Option.some.inj h
   exact ⟨by rw [seqIndex_of h0 h1, e], by omega, by omega, h1⟩
  ·rw [if_neg h1] at h; cases h
 ·rw [if_neg h0] at h
  by_cases h1 : -(n : Int) ≤ i
  ·rw [if_pos h1] at h
   have e : (i + n).toNat = j := Option.some.inj h
   exact ⟨by rw [seqIndex_neg (by omega) h1, e], by omega, h1, by omega⟩
  ·rw [if_neg h1] at h; cases h
theorem atI_get {α : Type} {xs : List α} {i : Int} {v : α} (h : atI xs i = some v) : ∃ j, seqIndex? i xs.length = some j ∧ xs[j]? = some v ∧ j < xs.length ∧ -(xs.length : Int) ≤ i ∧ i < xs.length := by
 unfold atI at h
 cases e : ixN xs.length i with
 | none => rw [e] at h; cases h
 | some j =>
  rw [e] at h
  obtain ⟨h1, h2, h3, h4⟩ := ixN_seq e
  exact ⟨j, h1, h, h2, h3, h4⟩
theorem atI_nat {α : Type} {xs : List α} {j : Nat} {v : α} (h : xs[j]? = some v) : atI xs (j : Int) = some v := by
 have hj : j < xs.length := (List.getElem?_eq_some_iff.mp h).1
 have e : ixN xs.length (j : Int) = some j := by
  unfold ixN
  rw [if_pos (by omega), if_pos (by omega)]; simp
 unfold atI; rw [e]; exact h
def PlainIx (b : Expr) : Prop := ∀ o i, subscripted b false o i = operate [o, i] (getItem o i)
def IxR (X : Cx) (r : R2) : Prop :=
 ∀ (value slice : Expr) (pins : List (Addr × Obj)) (s : Shared) (σ : St) (H : Hp) (x y : V) (v u : Value) (Q : VK), Inv X pins σ H s → RelV x v → RelV y u → r x y H Q →
  subscripted slice false v u = operate [v, u] (getItem v u) → wpAny (model X.prog X.w) X.A (subscriptTail value slice v u) (EP X pins σ Q) X.xe s
def MtR (X : Cx) (id : String) (r : V → List V → Hp → VK → Prop) : Prop :=
 ∀ (pins : List (Addr × Obj)) (s : Shared) (σ : St) (H : Hp) (x : V) (xs : List V) (v : Value) (us : List Value) (Q : VK), Inv X pins σ H s → RelV x v → Vals xs us → r x xs H Q →
  wpAny (model X.prog X.w) X.A (call (.builtin id) (v :: us)) (EP X pins σ Q) X.xe s
section
variable {X : Cx} {a b : Expr} {ta tb : TE} {pos : Pos}
theorem pe_ix {r : R2} (hr : IxR X r) (ha : PE X a ta) (hb : PE X b tb) (hs : PlainIx b) : PE X (.Subscript a b pos) (tOp r ta tb) := by
 intro pins s σ H Q I h
 exact Subscript_ (binT ha hb I h fun v u s2 x y H2 I2 rx ry q => hr a b pins s2 σ H2 x y v u Q I2 rx ry q (hs _ _))
def rIxL (K : PySem.W.Frag) : R2 := fun x y H Q => ∃ p xs i v, x = .ref p ∧ y = .int i ∧ SqL K H p xs ∧ atI xs i = some v ∧ Q v H
def rIxT (K : PySem.W.Frag) : R2 := fun x y H Q => ∃ p xs i v, x = .ref p ∧ y = .int i ∧ SqT K H p xs ∧ atI xs i = some v ∧ Q v H
def rIxS : R2 := fun x y H Q => ∃ z i c, x = .str z ∧ y = .int i ∧ z.length ≤ sizeLine ∧ atI z.cps.toList i = some c ∧ Q (.str ⟨#[c]⟩) H
theorem ix_list : IxR X (rIxL X.K) := by
 intro value slice pins s σ H x y v u Q I rx ry h hs
 obtain ⟨p, xs, i, z, rfl, rfl, hq, he, q⟩ := h
 cases rx
 obtain ⟨t, rfl⟩ := ry
 obtain ⟨its, r, pl, hz⟩ := I.list hq
 obtain ⟨j, h1, h2, h3, h4, h5⟩ := atI_get he
 obtain ⟨w, ew, rw'⟩ := r.get h2
 have hl := r.length
 have hn := line63
 have fin : EP X pins σ Q w s := ⟨z, H, I, rw', q⟩
 by_cases h0 : 0 ≤ i
 ·have hj : i.toNat = j := by
   rw [seqIndex_of h0 h5] at h1
   exact Option.some.inj h1
  exact item_listR pl.isList h0 (by omega) (by rw [hj]; simpa using ew) fin hs
 ·have hj : (i + (its.toArray.size : Int)).toNat = j := by
   rw [seqIndex_neg (by omega) h4] at h1
   rw [List.size_toArray, ← hl]
   exact Option.some.inj h1
  exact subscriptTail_builtinR (x := w) pl.isList.typeIs slot_list_getitem.lookup
   (wpAny_getItem_list_neg (Q := fun r s' => r = w ∧ EP X pins σ Q r s') pl.isList (by omega) (by rw [List.size_toArray] <;> omega) (by omega) (by rw [hj]; simpa using ew) ⟨rfl, fin⟩) hs
theorem ix_tup : IxR X (rIxT X.K) := by
 intro value slice pins s σ H x y v u Q I rx ry h hs
 obtain ⟨p, xs, i, z, rfl, rfl, hq, he, q⟩ := h
 cases rx
 obtain ⟨t, rfl⟩ := ry
 obtain ⟨its, r, pl, hz⟩ := I.tuple hq
 obtain ⟨j, h1, h2, h3, h4, h5⟩ := atI_get he
 obtain ⟨w, ew, rw'⟩ := r.get h2
 have hl := r.length
 have hn := line63
 have fin : EP X pins σ Q w s := ⟨z, H, I, rw', q⟩
 exact subscriptTail_builtinR (x := w) pl.typeIs slot_tuple_getitem.lookup
  (getItem_tuple (j := j) (Q := fun r s' => r = w ∧ EP X pins σ Q r s') pl (by omega) (by omega) (by rw [List.size_toArray, ← hl]; exact h1) (by simpa using ew) ⟨rfl, fin⟩) hs
def rIx (K : PySem.W.Frag) : R2 := fun x y H Q => rIxL K x y H Q ∨ rIxT K x y H Q ∨ rIxS x y H Q
def rSetL : V → V → V → Hp → (Hp → Prop) → Prop := fun o i v H Q => ∃ p xs k j, o = .ref p ∧ i = .int k ∧ H p = some (.lst xs) ∧ ixN xs.length k = some j ∧ Q (upd H p (.lst (xs.set j v)))
theorem slice_bounds (lo hi : Option Int) (n : Nat) : (sliceBounds lo hi none n).1 = ((HT.sIx n 0 lo : Nat) : Int) ∧ (sliceBounds lo hi none n).2.1 = ((HT.sIx n n hi : Nat) : Int) ∧ (sliceBounds lo hi none n).2.2 = 1 := by
 refine ⟨?_, ?_, rfl⟩
 ·cases lo with
  | none => simp [sliceBounds, HT.sIx]
  | some i =>
   simp only [sliceBounds, HT.sIx, Option.getD_none, show (1 : Int) > 0 by decide, if_true]
   by_cases h : i < 0
   ·simp only [h, if_true] <;> omega
   ·simp only [h, if_false] <;> omega
 ·cases hi with
  | none => simp [sliceBounds, HT.sIx]
  | some i =>
   simp only [sliceBounds, HT.sIx, Option.getD_none, show (1 : Int) > 0 by decide, if_true]
   by_cases h : i < 0
   ·simp only [h, if_true] <;> omega
   ·simp only [h, if_false] <;> omega
theorem slicePick_cut (its : List Value) (lo hi : Option Int) : slicePick its.toArray lo hi none = ((its.drop (HT.sIx its.length 0 lo)).take (HT.sIx its.length its.length hi - HT.sIx its.length 0 lo)).toArray := by
 obtain ⟨h1, h2, h3⟩ := slice_bounds lo hi its.toArray.size
 unfold slicePick
 rw [h1, h2, h3]
 simp only [sliceRange_one, pick_run, List.size_toArray] <;> rfl
def rSlL (K : PySem.W.Frag) : V → Option Int → Option Int → Hp → VK → Prop := fun x lo hi H Q => ∃ a xs, x = .ref a ∧ SqL K H a xs ∧ ∀ p, H p = none → Q (.ref p) (upd H p (.lst (cutV xs lo hi)))
theorem sl_list : SlR X (rSlL X.K) := by
 intro pins s σ H x v vl vu lo hi sl Q I rx hs pl pu h
 obtain ⟨a, xs, rfl, hx, q⟩ := h
 cases rx
 obtain ⟨its, r, ht, hz⟩ := I.list hx
 have hlen := r.length
 refine ⟨"list", _, slot_list_getitem.lookup, ht.isList.typeIs, ?_⟩
 refine wpAny_getItem_list_slice ht.isList hs pl pu .none (by simp) ?_ (by rw [List.size_toArray] <;> omega)
 rw [slicePick_cut, ← hlen]
 refine ⟨.ref s.heap.objs.size, _, I.laid (t' := s.toks) (o := .lst (cutV xs lo hi)) (fun b ob q => Heap.get?_push_of_some _ q) (Nat.le_refl _) ?_, rfl, q _ (I.hok.fresh (Nat.le_refl _))⟩
 exact ⟨Nat.le_trans (cutV_length xs lo hi) hz, _, 0, (r.drop (HT.sIx xs.length 0 lo)).take (HT.sIx xs.length xs.length hi - HT.sIx xs.length 0 lo), Heap.get?_push_size _ rfl⟩
def flatV : V → Bool
 | .non => true
 | .bl _ => true
 | .int _ => true
 | .str _ => true
 | _ => false
def eqV : V → V → Bool
 | .non, .non => true
 | .bl a, .bl b => a == b
 | .bl a, .int b => (if a then 1 else 0) == b
 | .int a, .bl b => a == (if b then 1 else 0)
 | .int a, .int b => a == b
 | .str a, .str b => a == b
 | _, _ => false
theorem eqAt_V {A : Around} {s : Shared} {y x : V} {u v : Value} (ry : RelV y u) (rx : RelV x v) (fy : flatV y = true) (fx : flatV x = true) : SeqAt.EqAt A s u v (eqV y x) := by
 cases y with
 | non =>
  cases ry
  cases x with
  | non => cases rx; exact SeqAt.EqAt.same _
  | bl b => cases rx; exact SeqAt.EqAt.none_bool b
  | int b => obtain ⟨t, rfl⟩ := rx; exact SeqAt.EqAt.none_int b t
  | str b => obtain ⟨t, rfl⟩ := rx; exact SeqAt.EqAt.none_str b t
  | _ => exact absurd (show false = true from fx) Bool.false_ne_true
 | bl a =>
  cases ry
  cases x with
  | non => cases rx; exact SeqAt.EqAt.bool_none a
  | bl b => cases rx; exact SeqAt.EqAt.bool_bool a b
  | int b => obtain ⟨t, rfl⟩ := rx; exact SeqAt.EqAt.bool_int a b t
  | str b => obtain ⟨t, rfl⟩ := rx; exact SeqAt.EqAt.bool_str a b t
  | _ => exact absurd (show false = true from fx) Bool.false_ne_true
 | int a =>
  obtain ⟨t', rfl⟩ := ry
  cases x with
  | non => cases rx; exact SeqAt.EqAt.int_none a t'
  | bl b => cases rx; exact SeqAt.EqAt.int_bool a t' b
  | int b => obtain ⟨t, rfl⟩ := rx; exact SeqAt.EqAt.int_int a t' b t
  | str b => obtain ⟨t, rfl⟩ := rx; exact SeqAt.EqAt.int_str a t' b t
  | _ => exact absurd (show false = true from fx) Bool.false_ne_true
 | str a =>
  obtain ⟨t', rfl⟩ := ry
  cases x with
  | non => cases rx; exact SeqAt.EqAt.str_none a t'
  | bl b => cases rx; exact SeqAt.EqAt.str_bool a t' b
  | int b => obtain ⟨t, rfl⟩ := rx; exact SeqAt.EqAt.str_int a t' b t
  | str b => obtain ⟨t, rfl⟩ := rx; exact SeqAt.EqAt.str_str a t' b t
  | _ => exact absurd (show false = true from fx) Bool.false_ne_true
 | _ => exact absurd (show false = true from fy) Bool.false_ne_true
def eqU (x : V) (u : Value) : Bool := match u with
 | .none => eqV .non x
 | .bool b => eqV (.bl b) x
 | .int i _ => eqV (.int i) x
 | .str z _ => eqV (.str z) x
 | _ => false
theorem eqU_of {x y : V} {u : Value} (r : RelV y u) (f : flatV y = true) : eqU x u = eqV y x := by
 cases y with
 | non => cases r; rfl
 | bl b => cases r; rfl
 | int i => obtain ⟨t, rfl⟩ := r; rfl
 | str z => obtain ⟨t, rfl⟩ := r; rfl
 | _ => exact absurd (show false = true from f) Bool.false_ne_true
theorem any_eqU {x : V} : ∀ {xs : List V} {us : List Value}, Vals xs us → xs.all flatV = true → us.any (eqU x) = xs.any fun y => eqV y x
 | _, _, .nil, _ => rfl
 | y :: xs, u :: us, .cons r t, f => by
  rw [List.all_cons, Bool.and_eq_true] at f
  rw [List.any_cons, List.any_cons, eqU_of r f.1, any_eqU t f.2]
theorem mem_eqAt {A : Around} {s : Shared} {x : V} {v : Value} (rx : RelV x v) (fx : flatV x = true) : ∀ {xs : List V} {us : List Value}, Vals xs us → xs.all flatV = true → ∀ u ∈ us, SeqAt.EqAt A s u v (eqU x u)
 | _, _, .nil, _ => fun u hu => by cases hu
 | y :: xs, u :: us, .cons r t, f => fun u' hu => by
  rw [List.all_cons, Bool.and_eq_true] at f
  rcases List.mem_cons.mp hu with rfl | hu
  ·rw [eqU_of r f.1]; exact eqAt_V r rx f.1 fx
  ·exact mem_eqAt rx fx t f.2 u' hu
def inV (x : V) (xs : List V) : Bool := xs.any fun y => eqV y x
def rIn (K : PySem.W.Frag) (neg : Bool) : R2 := fun x y H Q => ∃ p xs, y = .ref p ∧ (SqL K H p xs ∨ SqT K H p xs) ∧ flatV x = true ∧ xs.all flatV = true ∧ Q (.bl (if neg then !inV x xs else inV x xs)) H
theorem op_in_seq : OpR X (compareOp .In) (rIn X.K false) := by
 intro pins s σ H x y v u Q I rx ry h
 obtain ⟨p, xs, rfl, hq, fx, fs, q⟩ := h
 cases ry
 rcases hq with hq | hq
 ·obtain ⟨its, r, pl, hz⟩ := I.list hq
  refine SeqAt.in_listAt (eqU x) pl.isList (fun w hw => mem_eqAt rx fx r fs w (by simpa using hw)) ⟨.bl _, H, I, rfl, ?_⟩
  rw [show its.toArray.any (eqU x) = its.any (eqU x) by simp, any_eqU r fs]
  exact q
 ·obtain ⟨its, r, pl, hz⟩ := I.tuple hq
  refine SeqAt.in_tupleAt (eqU x) pl (fun w hw => mem_eqAt rx fx r fs w (by simpa using hw)) ⟨.bl _, H, I, rfl, ?_⟩
  rw [show its.toArray.any (eqU x) = its.any (eqU x) by simp, any_eqU r fs]
  exact q
theorem call_len_seq : CallR X (.builtin "len") (fun xs H Q => ∃ p ys, xs = [.ref p] ∧ (SqL X.K H p ys ∨ SqT X.K H p ys) ∧ Q (.int ys.length) H) := by
 intro pins s σ H xs us Q I r h
 obtain ⟨p, ys, rfl, hq, q⟩ := h
 obtain ⟨u, rfl, rx⟩ := vals1 r
 cases rx
 have hn := line63
 rcases hq with hq | hq
 ·obtain ⟨its, r', pl, hz⟩ := I.list hq
  have hlen := r'.length
  exact Calls.call_len_list pl.isList (by simp only [List.size_toArray] <;> omega) ⟨.int ys.length, H, I.tok _, ⟨s.toks + 1, by rw [List.size_toArray, hlen]⟩, q⟩
 ·obtain ⟨its, r', pl, hz⟩ := I.tuple hq
  have hlen := r'.length
  exact len_tuple pl (by simp only [List.size_toArray] <;> omega) ⟨.int ys.length, H, I.tok _, ⟨s.toks + 1, by rw [List.size_toArray, hlen]⟩, q⟩
theorem call_list_of : CallR X (.type "list") (fun xs H Q => ∃ p ys, xs = [.ref p] ∧ (SqL X.K H p ys ∨ SqT X.K H p ys) ∧ ∀ l, H l = none → Q (.ref l) (upd H l (.lst ys))) := by
 intro pins s σ H xs us Q I r h
 obtain ⟨p, ys, rfl, hq, q⟩ := h
 obtain ⟨u, rfl, rx⟩ := vals1 r
 cases rx
 have fin : ∀ (its : List Value), Vals ys its → ys.length ≤ sizeLine → ∀ (h' : Heap) (c' : Nat), (∀ b o', s.heap.get? b = some o' → h'.get? b = some o') →
   h'.get? s.heap.objs.size = some { cls := .type "list", dict := none, data := .seq its.toArray c', slots := #[] } → EP X pins σ Q (.ref s.heap.objs.size) { s with heap := h' } := fun its r' hz h' c' kp e =>
  ⟨.ref s.heap.objs.size, _, I.laid (t' := s.toks) kp (Nat.le_refl _) (show ObjOk X.prog X.w _ h' _ (.lst ys) from ⟨hz, its, c', r', e⟩), rfl, q _ (I.hok.fresh (Nat.le_refl _))⟩
 rcases hq with hq | hq
 ·obtain ⟨its, r', pl, hz⟩ := I.list hq
  have hlen := r'.length
  obtain ⟨o, ho, hc, n, hd⟩ := pl.isList
  exact call_list_seq p (.inl rfl) ho hc hd (fun h' c' kp e => fin its r' hz h' c' kp e) (by simp only [List.size_toArray] <;> omega)
 ·obtain ⟨its, r', pl, hz⟩ := I.tuple hq
  have hlen := r'.length
  obtain ⟨o, ho, hc, n, hd⟩ := pl
  exact call_list_seq p (.inr rfl) ho hc hd (fun h' c' kp e => fin its r' hz h' c' kp e) (by simp only [List.size_toArray] <;> omega)
def tyV (K : PySem.W.Frag) (T : String) (x : V) (H : Hp) : Prop := match x with
 | .str _ => T = "str"
 | .int _ => T = "int"
 | .ref p => (T = "list" ∧ ∃ xs, SqL K H p xs) ∨ (T = "tuple" ∧ ∃ o, K.lookup p = some o ∧ o.cls = .type "tuple" ∧ o.dict = none) ∨
   (T = "dict" ∧ ((∃ kvs, H p = some (.dK kvs)) ∨ ∃ kvs, H p = some (.dT kvs))) ∨ (T = "set" ∧ ∃ S n, H p = some (.set S n))
 | _ => False
theorem tyV_is {pins : List (Addr × Obj)} {σ : St} {H : Hp} {s : Shared} {T : String} {x : V} {v : Value} (I : Inv X pins σ H s) (r : RelV x v) (ty : tyV X.K T x H) :
  s.TypeIs v T ∧ ∀ a, v = .ref a → ∃ ob, s.heap.get? a = some ob ∧ ob.dict = none := by
 cases x with
 | str z =>
  obtain ⟨t, rfl⟩ := r
  cases (show T = "str" from ty)
  exact ⟨typeIs_str s z t, fun _ e => nomatch e⟩
 | int i =>
  obtain ⟨t, rfl⟩ := r
  cases (show T = "int" from ty)
  exact ⟨typeIs_int s i t, fun _ e => nomatch e⟩
 | ref p =>
  cases r
  rcases ty with ⟨rfl, xs, hq⟩ | ⟨rfl, o, hk, hc, hd⟩ | ⟨rfl, hk⟩ | ⟨rfl, S, n, hk⟩
  ·obtain ⟨its, _, pl, _⟩ := I.list hq
   refine ⟨pl.isList.typeIs, fun a e => ?_⟩
   cases e
   obtain ⟨o, n, e, c, hd, _⟩ := pl
   exact ⟨o, e, hd⟩
  ·refine ⟨⟨o, I.kIn p o hk, hc⟩, fun a e => ?_⟩
   cases e
   exact ⟨o, I.kIn _ o hk, hd⟩
  ·have z : ∃ o, s.heap.get? p = some o ∧ o.ExactDict := by
    rcases hk with ⟨kvs, hk⟩ | ⟨kvs, hk⟩
    ·obtain ⟨_, _, _, _, o, _, _, e, ex, _⟩ := I.hok p _ hk
     exact ⟨o, e, ex⟩
    ·obtain ⟨_, _, _, _, o, _, _, e, ex, _⟩ := I.hok p _ hk
     exact ⟨o, e, ex⟩
   obtain ⟨o, e, ex⟩ := z
   refine ⟨⟨o, e, ex.1⟩, fun a e2 => ?_⟩
   cases e2
   exact ⟨o, e, ex.2.1⟩
  ·obtain ⟨o, _, _, _, e, ex, _⟩ := I.hok p _ hk
   refine ⟨⟨o, e, ex.1⟩, fun a e2 => ?_⟩
   cases e2
   exact ⟨o, e, ex.2.1⟩
 | _ => exact False.elim ty
def tBM0 (K : PySem.W.Frag) (T : String) (r : V → List V → Hp → VK → Prop) (to : TE) : TE := fun σ H Q => to σ H fun x H1 => tyV K T x H1 ∧ r x [] H1 Q
def tBM (K : PySem.W.Frag) (T : String) (r : V → List V → Hp → VK → Prop) (to : TE) (t : TA) : TE := fun σ H Q => to σ H fun x H1 => tyV K T x H1 ∧ t σ H1 fun xs H2 => r x xs H2 Q
variable {o e : Expr} {es : List Expr} {to : TE} {t : TA} {name : Str} {apos cpos : Pos} {T id : String} {r : V → List V → Hp → VK → Prop}
theorem pe_bm (pa : PlainAttrs T) (slot : Slot T name id) (hty : typeOf (.builtin id) = pure (.type "method_descriptor")) (hm : MtR X id r) (ho : PE X o to) (ha : PA X (e :: es) t)
  (hbase : attributeBase o name X.env (eval o X.env) = eval o X.env := by rfl)
  (hfew : ((backTo cpos (starEach (e :: es) X.env)).all (fun x => !x.1) && (backToKw cpos (keywordEach [] X.env)).all (fun x => x.1.isSome)
   && decide ((e :: es).length + ([] : List Keyword).length + (if ([] : List Keyword).isEmpty then 0 else 1) < 30)) = true := by rfl)
  (hline : (apos.endLine == cpos.line) = true := by rfl) (hs : starEach (e :: es) X.env = (false, eval e X.env) :: starEach es X.env := by rfl) (hplain : (backTo cpos (starEach es X.env)).any (·.1) = false := by rfl) :
  PE X (.Call (.Attribute o name apos) (e :: es) [] cpos) (tBM X.K T r to t) := by
 intro pins s σ H Q I h
 refine wpAny_Call_method_late hbase hfew hline rfl (thn (ho pins s σ H _ I h) fun v s1 ⟨x, H1, I1, r1, ty, q1⟩ => ?_)
 obtain ⟨h1, h2⟩ := tyV_is I1 r1 ty
 refine ⟨T, id, pa, slot, hty, h1, h2, ?_⟩
 have hA := ha cpos pins s1 σ H1 _ I1 q1
 rw [hs] at hA ⊢
 refine Calls.callWith_builtin (by show (false || (backTo cpos (starEach es X.env)).any (·.1)) = false; rw [hplain] <;> rfl) (Calls.evalArgs_plain ?_)
 exact thn hA fun us s2 ⟨vs, H2, I2, r2, q2⟩ => hm pins s2 σ H2 x vs v us Q I2 r1 r2 q2
end
end L2
namespace L2
open PySem PySem.Spec PyProof.Rows
def MtM (X : Cx) (id : String) (r : V → List V → Hp → VK → Prop) : Prop :=
 ∀ (pins : List (Addr × Obj)) (s : Shared) (σ : St) (H : Hp) (x : V) (xs : List V) (v : Value) (us : List Value) (Q : VK), Inv X pins σ H s → RelV x v → Vals xs us → r x xs H Q →
  wpAny (model X.prog X.w) X.A (call (.builtin id) (v :: us)) (EP X pins σ Q) X.xe s
theorem Vals.one : ∀ {x : V} {us : List Value}, Vals [x] us → ∃ u, us = [u] ∧ RelV x u
 | _, _, .cons r .nil => ⟨_, rfl, r⟩
theorem Vals.dropLast {xs : List V} {us : List Value} (h : Vals xs us) : Vals xs.dropLast us.dropLast := by
 induction h with
 | nil => exact .nil
 | cons r t ih =>
  cases t with
  | nil => exact .nil
  | cons q t' => exact .cons r ih
theorem Vals.rep {xs : List V} {us : List Value} (h : Vals xs us) : ∀ k : Nat, Vals (List.replicate k xs).flatten (List.replicate k us).flatten
 | 0 => .nil
 | k + 1 => by
  rw [List.replicate_succ, List.replicate_succ, List.flatten_cons, List.flatten_cons]
  exact Vals.append h (Vals.rep h k)
theorem erase_last {α : Type} (l : List α) : l.eraseIdx (l.length - 1) = l.dropLast := by
 induction l with
 | nil => rfl
 | cons a r ih =>
  cases r with
  | nil => rfl
  | cons b r =>
   have e : (a :: b :: r).length - 1 = ((b :: r).length - 1) + 1 := by
    have h1 : (a :: b :: r).length = r.length + 2 := rfl
    have h2 : (b :: r).length = r.length + 1 := rfl
    omega
   rw [e, List.eraseIdx_cons_succ, ih]
   all_goals rfl
theorem foldl_rep (its : List Value) : ∀ (k : Nat) (acc : List Value),
  List.foldl (fun x1 x2 => x1 ++ x2) acc.toArray (List.replicate k its.toArray) = (acc ++ (List.replicate k its).flatten).toArray
 | 0, acc => by simp
 | k + 1, acc => by
  have e : acc.toArray ++ its.toArray = (acc ++ its).toArray := by simp
  have e2 : (acc ++ its) ++ (List.replicate k its).flatten = acc ++ (List.replicate (k + 1) its).flatten := by
   rw [List.replicate_succ, List.flatten_cons, List.append_assoc]
  rw [← e2, ← foldl_rep its k (acc ++ its), ← e, List.replicate_succ, List.foldl_cons]
section
variable {X : Cx} {pins : List (Addr × Obj)} {σ : St} {H : Hp} {s : Shared} {l b : Addr} {xs ys zs : List V}
theorem Inv.lset {its its' : List Value} {n : Nat} {f : Array Value → Array Value} {t' : Nat} (I : Inv X pins σ H s) (hH : H l = some (.lst xs))
  (e : s.heap.get? l = some { cls := .type "list", data := .seq its.toArray n }) (hf : f its.toArray = its'.toArray) (hv : Vals ys its') (hz : ys.length ≤ sizeLine) :
  Inv X pins σ (upd H l (.lst ys)) { s with heap := s.heap.update l (Obj.mapSeq f), toks := t' } := by
 have q := PySem.IsL.update e f
 rw [hf] at q
 refine I.write (x := l) (e := l) (by rw [hH]; exact trivial) (.inl rfl) (fun b' u hb hu => (Heap.get?_update_other s.heap (Obj.mapSeq f) (Ne.symm hb)).trans hu) ⟨_, q⟩ ?_
 exact ⟨hz, its', _, hv, q⟩
theorem Inv.lnew {its : List Value} {t' : Nat} (I : Inv X pins σ H s) (hv : Vals ys its) (hz : ys.length ≤ sizeLine) :
  Inv X pins σ (upd H s.heap.objs.size (.lst ys)) { s with heap := s.heap.push { cls := .type "list", data := .seq its.toArray }, toks := t' } :=
 I.laid (fun _ _ q => Heap.get?_push_of_some _ q) (Nat.le_refl _) ⟨hz, its, 0, hv, Heap.get?_push_size _ rfl⟩
theorem Inv.fresh (I : Inv X pins σ H s) : H s.heap.objs.size = none := I.hok.fresh (Nat.le_refl _)
theorem Inv.lstM (I : Inv X pins σ H s) (hH : H l = some (.lst xs)) : xs.length ≤ sizeLine ∧ ∃ (its : List Value) (n : Nat), Vals xs its ∧ xs.length = its.length ∧ s.heap.get? l = some { cls := .type "list", data := .seq its.toArray n } := by
 obtain ⟨z, its, n, r, e⟩ := I.hok l _ hH
 exact ⟨z, its, n, r, r.length, e⟩
theorem notLongL {n : Nat} (h : n ≤ sizeLine) : Builtin.List.listTooLong n = false := by
 unfold Builtin.List.listTooLong
 exact decide_eq_false (by omega)
end
section
variable {X : Cx}
def rAppend : V → List V → Hp → VK → Prop := fun x vs H Q => ∃ l xs y, x = .ref l ∧ vs = [y] ∧ H l = some (.lst xs) ∧ xs.length < sizeLine ∧ Q .non (upd H l (.lst (xs ++ [y])))
theorem mt_append : MtM X "list.append" rAppend := by
 intro pins s σ H x vs v us Q I rx rv h
 obtain ⟨l, xs, y, rfl, rfl, hH, hz, q⟩ := h
 cases rx
 obtain ⟨u, rfl, ru⟩ := rv.one
 obtain ⟨z, its, n, r, hl, e⟩ := I.lstM hH
 refine call_meets F.slot_list_append ⟨_, e, rfl⟩ F.entry_list_append (F.args_list_append_2 _ _) (PySem.list_append l its.toArray n u (by rw [List.size_toArray]; omega)) ⟨e, ?_⟩
 refine ⟨.non, _, I.lset (its' := its ++ [u]) hH e (by simp) (r.append (.cons ru .nil)) ?_, rfl, q⟩
 rw [List.length_append, List.length_singleton]
 omega
def rExtend : V → List V → Hp → VK → Prop := fun x vs H Q => ∃ l b xs zs, x = .ref l ∧ vs = [.ref b] ∧ H l = some (.lst xs) ∧ H b = some (.lst zs) ∧ xs.length + zs.length ≤ sizeLine ∧ Q .non (upd H l (.lst (xs ++ zs)))
theorem mt_extend : MtM X "list.extend" rExtend := by
 intro pins s σ H x vs v us Q I rx rv h
 obtain ⟨l, b, xs, zs, rfl, rfl, hH, hB, hz, q⟩ := h
 cases rx
 obtain ⟨u, rfl, ru⟩ := rv.one
 cases ru
 obtain ⟨z, its, n, r, hl, e⟩ := I.lstM hH
 obtain ⟨z2, its2, n2, r2, hl2, e2⟩ := I.lstM hB
 have hsz : its.toArray.size + its2.toArray.size ≤ sizeLine := by rw [List.size_toArray, List.size_toArray]; omega
 have hlong : ¬ (!its.toArray.isEmpty && Builtin.List.listTooLong (its.toArray.size + its2.toArray.size)) = true := by
  rw [notLongL hsz, Bool.and_false]
  exact Bool.false_ne_true
 refine call_meets F.slot_list_extend ⟨_, e, rfl⟩ F.entry_list_extend (F.args_list_extend_2 _ _)
  (AutoSeq1.list_extend_list_list_0 l its.toArray n b its2.toArray n2 hlong (by rw [List.size_toArray]; omega) (by omega)) ⟨e, e2, ?_⟩
 refine ⟨.non, _, I.lset (its' := its ++ its2) hH e (by simp) (r.append r2) ?_, rfl, q⟩
 rw [List.length_append]
 omega
def rPop : V → List V → Hp → VK → Prop := fun x vs H Q => ∃ l xs y, x = .ref l ∧ vs = [] ∧ H l = some (.lst xs) ∧ xs[xs.length - 1]? = some y ∧ Q y (upd H l (.lst xs.dropLast))
def rPopAt : V → List V → Hp → VK → Prop := fun x vs H Q => ∃ l xs i k y, x = .ref l ∧ vs = [.int i] ∧ H l = some (.lst xs) ∧ -(2 ^ 63) ≤ i ∧ i < 2 ^ 63 ∧ seqIndex? i xs.length = some k ∧ xs[k]? = some y ∧ Q y (upd H l (.lst (xs.eraseIdx k)))
def rReverse : V → List V → Hp → VK → Prop := fun x vs H Q => ∃ l xs, x = .ref l ∧ vs = [] ∧ H l = some (.lst xs) ∧ Q .non (upd H l (.lst xs.reverse))
def rClear : V → List V → Hp → VK → Prop := fun x vs H Q => ∃ l xs, x = .ref l ∧ vs = [] ∧ H l = some (.lst xs) ∧ Q .non (upd H l (.lst []))
def rCat : R2 := fun x y H Q => ∃ l b xs zs, x = .ref l ∧ y = .ref b ∧ H l = some (.lst xs) ∧ H b = some (.lst zs) ∧ xs.length + zs.length ≤ sizeLine ∧ ∀ p, H p = none → Q (.ref p) (upd H p (.lst (xs ++ zs)))
theorem op_cat : OpR X (binaryOp .Add) rCat := by
 intro pins s σ H x y v u Q I rx ry h
 obtain ⟨l, b, xs, zs, rfl, rfl, hH, hB, hz, q⟩ := h
 cases rx
 cases ry
 obtain ⟨z, its, n, r, hl, e⟩ := I.lstM hH
 obtain ⟨z2, its2, n2, r2, hl2, e2⟩ := I.lstM hB
 refine PySem.P.add_list e e2 ?_ (by rw [List.size_toArray, List.size_toArray]; omega)
 have ea : its.toArray ++ its2.toArray = (its ++ its2).toArray := by simp
 rw [ea]
 exact ⟨.ref _, _, I.lnew (t' := s.toks) (r.append r2) (by rw [List.length_append]; omega), rfl, q _ I.fresh⟩
def rRep : R2 := fun x y H Q => ∃ l k xs, x = .ref l ∧ y = .int k ∧ H l = some (.lst xs) ∧ -(2 ^ 63) ≤ k ∧ k < 2 ^ 63 ∧ xs.length * k.toNat ≤ sizeLine ∧
 ∀ p, H p = none → Q (.ref p) (upd H p (.lst (List.replicate k.toNat xs).flatten))
theorem len_rep {α : Type} (xs : List α) (k : Nat) : (List.replicate k xs).flatten.length = k * xs.length := by
 induction k with
 | zero => simp
 | succ k ih => rw [List.replicate_succ, List.flatten_cons, List.length_append, ih, Nat.succ_mul, Nat.add_comm]
theorem op_rep : OpR X (binaryOp .Mult) rRep := by
 intro pins s σ H x y v u Q I rx ry h
 obtain ⟨l, k, xs, rfl, rfl, hH, h1, h2, hz, q⟩ := h
 cases rx
 obtain ⟨t, rfl⟩ := ry
 obtain ⟨z, its, n, r, hl, e⟩ := I.lstM hH
 have hlen : its.toArray.size * k.toNat ≤ sizeLine := by rw [List.size_toArray, ← hl]; exact hz
 have hcap : ¬ its.toArray.size * k.toNat > (2 ^ 63 - 1) / 8 := by
  have : (sizeLine : Nat) ≤ (2 ^ 63 - 1) / 8 := by decide
  omega
 have hfit : ¬ (!Builtin.List.listFitsIndex k) = true := by
  rw [fitsIndex_both h1 h2]
  exact Bool.false_ne_true
 have hlong : ¬ Builtin.List.listTooLong (its.toArray.size * k.toNat) = true := by
  rw [notLongL hlen]
  exact Bool.false_ne_true
 have hnew : List.foldl (fun x1 x2 => x1 ++ x2) #[] (List.replicate (if its.toArray.isEmpty = true then 0 else k.toNat) its.toArray) = (List.replicate k.toNat its).flatten.toArray := by
  have f0 : ∀ m : Nat, List.foldl (fun x1 x2 => x1 ++ x2) #[] (List.replicate m its.toArray) = (List.replicate m its).flatten.toArray := fun m => by
   have := foldl_rep its m []
   rw [List.nil_append] at this
   exact this
  rw [f0]
  cases its with
  | nil => simp
  | cons a r' => rw [if_neg (by simp)]
 refine wpAny_binaryOp_repeat_ref (T := "list") (U := "int") (by decide) ⟨_, e, rfl⟩ (fun s' => typeIs_int s' k t) noFill_list_mul F.fills_int_mul F.slot_int_rmul repeat_list F.slot_int_index.lookup
  (call_meets F.slot_int_rmul (typeIs_int s k t) F.entry_int_rmul (F.args_int_rmul_2 _ _) (int___rmul___int_list k t l its.toArray n)
   ⟨e, rfl, ⟨_, e, rfl⟩, call_meets F.slot_list_mul ⟨_, e, rfl⟩ F.entry_list_mul (F.args_list_mul_2 _ _) (AutoListH.list___mul___list_int_3 l its.toArray n k t hfit hcap hlong) ⟨e, ?_⟩⟩)
 rw [hnew]
 exact ⟨.ref _, _, I.lnew (t' := s.toks) (r.rep k.toNat) (by rw [len_rep, Nat.mul_comm]; exact hz), rfl, q _ I.fresh⟩
end
section
variable {prog : Program} {w : World} {A : Around} {E : Value → Shared → Prop} {s : Shared}
end
section
variable {X : Cx}
end
end L2
namespace L2
open PySem PySem.Spec PyProof.Rows
section
variable {κ : Type} [DecidableEq κ]
def valV (kvs : List (κ × V)) (k : κ) : Option V := (kvs.find? fun kv => decide (kv.1 = k)).map (·.2)
def putK (kvs : List (κ × V)) (k : κ) (v : V) : List (κ × V) :=
 if (kvs.any fun kv => decide (kv.1 = k)) = true then kvs.map (fun kv => if kv.1 = k then (kv.1, v) else kv) else kvs ++ [(k, v)]
def dropK (kvs : List (κ × V)) (k : κ) : List (κ × V) := kvs.filter fun kv => decide (kv.1 ≠ k)
theorem valV_nil {k : κ} : valV ([] : List (κ × V)) k = none := rfl
theorem valV_pos {p : κ × V} {r : List (κ × V)} {k : κ} (e : p.1 = k) : valV (p :: r) k = some p.2 := by simp [valV, List.find?_cons, e]
theorem valV_neg {p : κ × V} {r : List (κ × V)} {k : κ} (e : ¬ p.1 = k) : valV (p :: r) k = valV r k := by simp [valV, List.find?_cons, e]
theorem valV_any (k : κ) : ∀ kvs : List (κ × V), (kvs.any fun kv => decide (kv.1 = k)) = (valV kvs k).isSome
 | [] => rfl
 | p :: r => by
  rw [List.any_cons]
  by_cases e : p.1 = k
  ·simp only [valV_pos e, decide_eq_true e, Bool.true_or, Option.isSome_some]
  ·rw [valV_neg e, decide_eq_false e, Bool.false_or]; exact valV_any k r
theorem valV_map (k j : κ) (y : V) : ∀ kvs : List (κ × V), valV (kvs.map fun kv => if kv.1 = k then (kv.1, y) else kv) j = (valV kvs j).map fun x => if j = k then y else x
 | [] => rfl
 | p :: r => by
  have ih := valV_map k j y r
  rw [List.map_cons]
  by_cases h : p.1 = k
  ·rw [if_pos h]
   by_cases e : p.1 = j
   ·rw [valV_pos (p := (p.1, y)) e, valV_pos e, Option.map_some, if_pos (e.symm.trans h)]
   ·rw [valV_neg (p := (p.1, y)) e, valV_neg e, ih]
  ·rw [if_neg h]
   by_cases e : p.1 = j
   ·rw [valV_pos (p := p) e, valV_pos e, Option.map_some, if_neg (fun z => h (e.trans z))]
   ·rw [valV_neg (p := p) e, valV_neg e, ih]
theorem valV_snoc (k j : κ) (y : V) : ∀ kvs : List (κ × V), valV kvs k = none → valV (kvs ++ [(k, y)]) j = if j = k then some y else valV kvs j
 | [], _ => by
  by_cases e : k = j
  ·rw [if_pos e.symm]; exact valV_pos (p := (k, y)) e
  ·rw [if_neg (fun z => e z.symm)]; exact valV_neg (p := (k, y)) e
 | p :: r, hn => by
  rw [List.cons_append]
  have hk : ¬ p.1 = k := fun z => by rw [valV_pos z] at hn; cases hn
  rw [valV_neg hk] at hn
  have ih := valV_snoc k j y r hn
  by_cases e : p.1 = j
  ·rw [valV_pos e, valV_pos e, if_neg (fun z => hk (e.trans z))]
  ·rw [valV_neg e, valV_neg e, ih]
theorem valV_put (kvs : List (κ × V)) (k j : κ) (y : V) : valV (putK kvs k y) j = if j = k then some y else valV kvs j := by
 unfold putK
 by_cases a : (kvs.any fun kv => decide (kv.1 = k)) = true
 ·rw [if_pos a, valV_map]
  rw [valV_any] at a
  by_cases e : j = k
  ·obtain ⟨x, hx⟩ := Option.isSome_iff_exists.mp a
   rw [if_pos e, e, hx, Option.map_some, if_pos rfl]
  ·rw [if_neg e]
   cases valV kvs j with
   | none => rfl
   | some x => rw [Option.map_some, if_neg e]
 ·rw [if_neg a]
  refine valV_snoc k j y kvs ?_
  rw [valV_any] at a
  cases q : valV kvs k with
  | none => rfl
  | some x => rw [q] at a; exact (a rfl).elim
theorem length_putK (kvs : List (κ × V)) (k : κ) (v : V) : (putK kvs k v).length ≤ kvs.length + 1 := by
 unfold putK
 split
 ·rw [List.length_map]; omega
 ·rw [List.length_append, List.length_cons, List.length_nil]; omega
theorem RelO.isSome_eq {o : Option V} {u : Option Value} (r : RelO o u) : o.isSome = u.isSome := by
 cases o with
 | none => cases u with
  | none => rfl
  | some _ => exact (show False from r).elim
 | some _ => cases u with
  | none => exact (show False from r).elim
  | some _ => rfl
theorem RelO.getD {o : Option V} {u : Option Value} {d : V} {d' : Value} (r : RelO o u) (rd : RelV d d') : RelV (o.getD d) (u.getD d') := by
 cases o with
 | none => cases u with
  | none => exact rd
  | some _ => exact (show False from r).elim
 | some _ => cases u with
  | none => exact (show False from r).elim
  | some _ => exact r
theorem KV.val {kvs : List (κ × V)} {vs : List (κ × Value)} (r : KV kvs vs) (k : κ) : RelO (valV kvs k) (valueAt vs k) := by
 unfold KV at r
 induction r with
 | nil => exact True.intro
 | @cons p q ps qs h t ih =>
  obtain ⟨h1, h2⟩ := h
  by_cases e : p.1 = k
  ·have e' : q.1 = k := h1.symm.trans e
   have b : valueAt (q :: qs) k = some q.2 := by simp [valueAt, List.find?_cons, e']
   rw [valV_pos e, b]; exact h2
  ·have e' : ¬ q.1 = k := fun z => e (h1.trans z)
   have b : valueAt (q :: qs) k = valueAt qs k := by simp [valueAt, List.find?_cons, e']
   rw [valV_neg e, b]; exact ih
theorem KV.any {kvs : List (κ × V)} {vs : List (κ × Value)} (r : KV kvs vs) (k : κ) : (kvs.any fun kv => decide (kv.1 = k)) = vs.any fun kv => decide (kv.1 = k) := by
 unfold KV at r
 induction r with
 | nil => rfl
 | cons h t ih => rw [List.any_cons, List.any_cons, ih, h.1]
theorem KV.repl {kvs : List (κ × V)} {vs : List (κ × Value)} (r : KV kvs vs) (k : κ) {y : V} {u : Value} (ry : RelV y u) :
  KV (kvs.map fun kv => if kv.1 = k then (kv.1, y) else kv) (vs.map fun kv => if kv.1 = k then (kv.1, u) else kv) := by
 unfold KV at r ⊢
 induction r with
 | nil => exact .nil
 | @cons p q ps qs h t ih =>
  rw [List.map_cons, List.map_cons]
  refine .cons ?_ ih
  obtain ⟨h1, h2⟩ := h
  by_cases e : p.1 = k
  ·rw [if_pos e, if_pos (h1.symm.trans e)]; exact ⟨h1, ry⟩
  ·rw [if_neg e, if_neg (fun z => e (h1.trans z))]; exact ⟨h1, h2⟩
theorem KV.put {kvs : List (κ × V)} {vs : List (κ × Value)} (r : KV kvs vs) (k : κ) {y : V} {u : Value} (ry : RelV y u) : KV (putK kvs k y) (stored vs k u) := by
 unfold putK stored
 rw [r.any k]
 by_cases e : (vs.any fun kv => decide (kv.1 = k)) = true
 ·rw [if_pos e, if_pos e]; exact r.repl k ry
 ·rw [if_neg e, if_neg e]; exact Paired.snoc r ⟨rfl, ry⟩
theorem KV.length {kvs : List (κ × V)} {vs : List (κ × Value)} (r : KV kvs vs) : kvs.length = vs.length := Paired.length r
end
theorem kV_is {P : Program} {w : World} {k : Key} {u : Value} (r : RelV (kV k) u) : (mixKind P w).is k u = true := by
 cases k with
 | inl i => obtain ⟨t, e⟩ := (show ∃ t, u = Value.int i t from r); subst e; exact mixKind_int P w i t
 | inr x => obtain ⟨t, e⟩ := (show ∃ t, u = Value.str x t from r); subst e; exact mixKind_str P w x t
theorem items_are {P : Program} {w : World} : ∀ {ks : List Key} {us : List Value}, Vals (ks.map kV) us → ItemsAre (mixKind P w) ks us
 | [], _, r => by rw [List.map_nil] at r; cases r; exact .nil
 | k :: ks, _, r => by
  rw [List.map_cons] at r
  cases r with
  | cons h t => exact .cons (kV_is h) (items_are t)
abbrev KT (H : Hp) : List (List Key × V) → List (List Key × Addr × Value) → Prop := Paired fun p q => p.1 = q.1 ∧ H q.2.1 = some (.tup (p.1.map kV)) ∧ RelV p.2 q.2.2
theorem KT.val {H : Hp} {kvs : List (List Key × V)} {xs : List (List Key × Addr × Value)} (r : KT H kvs xs) (k : List Key) : RelO (valV kvs k) ((atKey xs k).map (·.2)) := by
 induction r with
 | nil => exact True.intro
 | @cons p q ps qs h t ih =>
  obtain ⟨h1, _, h2⟩ := h
  by_cases e : p.1 = k
  ·have e' : q.1 = k := h1.symm.trans e
   have b : atKey (q :: qs) k = some q.2 := by simp [atKey, List.find?_cons, e']
   rw [valV_pos e, b]; exact h2
  ·have e' : ¬ q.1 = k := fun z => e (h1.trans z)
   have b : atKey (q :: qs) k = atKey qs k := by simp [atKey, List.find?_cons, e']
   rw [valV_neg e, b]; exact ih
theorem KT.repl {H : Hp} {kvs : List (List Key × V)} {xs : List (List Key × Addr × Value)} (r : KT H kvs xs) (k : List Key) {y : V} {u : Value} (ry : RelV y u) :
  KT H (kvs.map fun kv => if kv.1 = k then (kv.1, y) else kv) (xs.map (putAt k u)) := by
 induction r with
 | nil => exact .nil
 | @cons p q ps qs h t ih =>
  rw [List.map_cons, List.map_cons]
  refine .cons ?_ ih
  obtain ⟨h1, h2, h3⟩ := h
  unfold putAt
  by_cases e : p.1 = k
  ·rw [if_pos e, if_pos (h1.symm.trans e)]; exact ⟨h1, h2, ry⟩
  ·rw [if_neg e, if_neg (fun z => e (h1.trans z))]; exact ⟨h1, h2, h3⟩
theorem KT.put {H : Hp} {kvs : List (List Key × V)} {xs : List (List Key × Addr × Value)} (r : KT H kvs xs) (k : List Key) {b : Addr} {y : V} {u : Value} (hb : H b = some (.tup (k.map kV))) (ry : RelV y u) :
  KT H (putK kvs k y) (storedH xs k b u) := by
 have e : (kvs.any fun kv => decide (kv.1 = k)) = (atKey xs k).isSome := by
  rw [valV_any, (r.val k).isSome_eq, Option.isSome_map]
 unfold putK storedH
 rw [e]
 by_cases q : (atKey xs k).isSome = true
 ·rw [if_pos q, if_pos q]; exact r.repl k ry
 ·rw [if_neg q, if_neg q]; exact Paired.snoc r ⟨rfl, hb, ry⟩
theorem KT.keeps {H H' : Hp} {kvs : List (List Key × V)} {xs : List (List Key × Addr × Value)} (r : KT H kvs xs) (ht : ∀ b ys, H b = some (.tup ys) → H' b = some (.tup ys)) : KT H' kvs xs :=
 Paired.mapP r fun _ _ z => ⟨z.1, ht _ _ z.2.1, z.2.2⟩
section
variable {P : Program} {w : World} {H : Hp} {h : Heap} {a : Addr}
theorem rd_of {u : HO} (ok : HOk P w H h) (e : Rd H a u) : ObjOk P w H h a u := e.ok ok
theorem dk_rd {kvs : List (Key × V)} (ok : HOk P w H h) (e : Rd H a (.dK kvs)) : kvs.length ≤ sizeLine ∧ (a == sysModules) = false ∧ ∃ vs, KV kvs vs ∧ h.DictOf (mixKind P w) a vs :=
 show ObjOk P w H h a (.dK kvs) from rd_of ok e
theorem dk_of {kvs : List (Key × V)} (ok : HOk P w H h) (e : H a = some (.dK kvs)) : kvs.length ≤ sizeLine ∧ (a == sysModules) = false ∧ ∃ vs, KV kvs vs ∧ h.DictOf (mixKind P w) a vs := dk_rd ok (.inl e)
theorem key_of {ks : List Key} (ok : HOk P w H h) (e : H a = some (.tup (ks.map kV))) : (tupleKind (mixKind P w)).is h ks a := by
 obtain ⟨_, its, r, o, h1, h2, n, h3⟩ := (show ObjOk P w H h a (.tup (ks.map kV)) from ok a _ e)
 exact ⟨o, its.toArray, n, h1, h2, h3, by simpa using items_are r⟩
theorem dt_rd {kvs : List (List Key × V)} (ok : HOk P w H h) (e : Rd H a (.dT kvs)) : kvs.length ≤ sizeLine ∧ (a == sysModules) = false ∧
  ∃ xs, KT H kvs xs ∧ h.DictOfH (tupleKind (mixKind P w)) a xs := by
 obtain ⟨z, y, xs, r, o, es, ep, h1, h2, h3, h4, h5⟩ := (show ObjOk P w H h a (.dT kvs) from rd_of ok e)
 refine ⟨z, y, xs, r, o, es, ep, h1, h2, h3, h4, fun x hx => ?_, h5⟩
 have all : ∀ {l : List (List Key × V)} {m : List (List Key × Addr × Value)}, KT H l m → ∀ x ∈ m, (tupleKind (mixKind P w)).is h x.1 x.2.1 := by
  intro l m q
  induction q with
  | nil => intro x hx; exact nomatch hx
  | @cons p q ps qs hq t ih =>
   intro x hx
   rcases List.mem_cons.mp hx with e | hx
   ·subst e
    exact key_of ok (by rw [← hq.1]; exact hq.2.1)
   ·exact ih x hx
 exact all r x hx
theorem dt_of {kvs : List (List Key × V)} (ok : HOk P w H h) (e : H a = some (.dT kvs)) : kvs.length ≤ sizeLine ∧ (a == sysModules) = false ∧
  ∃ xs, KT H kvs xs ∧ h.DictOfH (tupleKind (mixKind P w)) a xs := dt_rd ok (.inl e)
end
def DGet (H : Hp) (a : Addr) (y : V) (r : Option V) : Prop :=
 (∃ kvs k, Rd H a (.dK kvs) ∧ y = kV k ∧ r = valV kvs k) ∨ ∃ kvs k b, Rd H a (.dT kvs) ∧ y = .ref b ∧ H b = some (.tup (k.map kV)) ∧ r = valV kvs k
def DPut (H : Hp) (a : Addr) (y v : V) (H' : Hp) : Prop :=
 (∃ kvs k, H a = some (.dK kvs) ∧ y = kV k ∧ kvs.length < sizeLine ∧ H' = upd H a (.dK (putK kvs k v))) ∨
 ∃ kvs k b, H a = some (.dT kvs) ∧ y = .ref b ∧ H b = some (.tup (k.map kV)) ∧ kvs.length < sizeLine ∧ H' = upd H a (.dT (putK kvs k v))
theorem DGet.k {H : Hp} {a : Addr} {kvs : List (Key × V)} {k : Key} (e : H a = some (.dK kvs)) : DGet H a (kV k) (valV kvs k) := .inl ⟨kvs, k, .inl e, rfl, rfl⟩
theorem DPut.k {H : Hp} {a : Addr} {kvs : List (Key × V)} {k : Key} {v : V} (e : H a = some (.dK kvs)) (hl : kvs.length < sizeLine) : DPut H a (kV k) v (upd H a (.dK (putK kvs k v))) := .inl ⟨kvs, k, e, rfl, hl, rfl⟩
section
variable {X : Cx} {pins : List (Addr × Obj)} {σ : St} {H : Hp} {s : Shared} {a : Addr} {y v : V} {u r : Value} {o : Option V} {A : Around} {E : Value → Shared → Prop}
theorem Inv.big (I : Inv X pins σ H s) : sysModules < s.heap.objs.size := by
 have h : mainGlobals < s.heap.objs.size := (I.mod.glob.keeps I.bk).lt
 exact Nat.lt_trans (by decide) h
theorem d_in {Q : Value → Shared → Prop} (hu : A.units + 1 < cLine) (I : Inv X pins σ H s) (g : DGet H a y o) (ry : RelV y u) (h : ∀ s', Inv X pins σ H s' → Q (.bool o.isSome) s') :
  wpAny (model X.prog X.w) A (compareOp .In u (.ref a)) Q E s := by
 rcases g with ⟨kvs, k, e, ey, l⟩ | ⟨kvs, k, b, e, ey, eb, l⟩
 ·subst ey
  obtain ⟨z, hd, vs, rel, dd⟩ := dk_rd I.hok e
  refine wpAny_in_of (kV_is ry) hd dd.mapOf ?_
  rw [← (rel.val k).isSome_eq, ← l]
  exact h _ (I.tok _)
 ·subst ey
  cases (show u = Value.ref b from ry)
  obtain ⟨z, hd, xs, rel, dd⟩ := dt_rd I.hok e
  refine wpAny_in_heap (tupleKind_room_in1 hu) (key_of I.hok eb) hd dd ?_
  have q := (rel.val k).isSome_eq
  rw [Option.isSome_map] at q
  rw [← q, ← l]
  exact h _ (I.tok _)
theorem d_write {h' : Heap} {t' : Nat} {ob : HO} (I : Inv X pins σ H s) (mu : Mut (H a)) (hs : Heap.SameBut a s.heap h') (he : ∃ q, h'.get? a = some q) (new : ObjOk X.prog X.w (upd H a ob) h' a ob) :
  Inv X pins σ (upd H a ob) { s with heap := h', toks := t' } :=
 I.write (x := a) (e := a) mu (.inl rfl) (fun b q hb z => (hs.2 b hb).trans z) he new
theorem dk_new {P : Program} {w : World} {H' : Hp} {h' : Heap} {kvs : List (Key × V)} {vs : List (Key × Value)} (z : kvs.length ≤ sizeLine) (hd : (a == sysModules) = false) (rel : KV kvs vs) (dd : h'.DictOf (mixKind P w) a vs) :
  ObjOk P w H' h' a (.dK kvs) := ⟨z, hd, vs, rel, dd⟩
theorem d_setItem {H' : Hp} {Q : Unit → Shared → Prop} (hu : A.units + 1 < cLine) (I : Inv X pins σ H s) (g : DPut H a y v H') (ry : RelV y u) (rv : RelV v r) (h : ∀ s', Inv X pins σ H' s' → Q () s') :
  wpAny (model X.prog X.w) A (setItem (.ref a) u r) Q E s := by
 rcases g with ⟨kvs, k, e, ey, l, eH⟩ | ⟨kvs, k, b, e, ey, eb, l, eH⟩
 ·subst ey eH
  obtain ⟨z, hd, vs, rel, dd⟩ := dk_of I.hok e
  have hz : vs.length ≤ sizeLine := by rw [← rel.length]; exact z
  have hl : (putK kvs k v).length ≤ sizeLine := by have := length_putK kvs k v; omega
  refine wpAny_setItem_pairs (hsz := hz) (kV_is ry) dd fun h' dd' hs => h _ ?_
  have he : ∃ q, h'.get? a = some q := let ⟨q, _, _, hq, _⟩ := dd'; ⟨q, hq⟩
  exact d_write I (by rw [e]; exact True.intro) hs he (dk_new hl hd (rel.put k rv) dd')
 ·subst ey eH
  cases (show u = Value.ref b from ry)
  obtain ⟨z, hd, xs, rel, dd⟩ := dt_of I.hok e
  have hz : xs.length ≤ sizeLine := by rw [← Paired.length rel]; exact z
  have hl : (putK kvs k v).length ≤ sizeLine := by have := length_putK kvs k v; omega
  refine wpAny_setItem_heap (hsz := hz) (tupleKind_room_in1 hu) (key_of I.hok eb) dd fun h' dd' hs => h _ ?_
  obtain ⟨q, es, ep, hq, h2, h3, h4, _, h5⟩ := dd'
  refine d_write I (by rw [e]; exact True.intro) hs ⟨q, hq⟩ ⟨hl, hd, _, (rel.put k eb rv).keeps fun c ys ec => ?_, q, es, ep, hq, h2, h3, h4, h5⟩
  rw [upd_ne (ne_of ec e (fun z => nomatch z))]
  exact ec
end
section
variable {X : Cx} {pins : List (Addr × Obj)} {σ : St} {H : Hp} {s : Shared} {a : Addr} {kvs : List (Key × V)} {k : Key} {u : Value} {A : Around} {E : Value → Shared → Prop}
end
def NoSl (i : Expr) : Prop := ∀ ov iv, subscripted i false ov iv = operate [ov, iv] (getItem ov iv)
def tDGet (td ty : TE) : TE := fun σ H Q => td σ H fun x H1 => ty σ H1 fun y H2 => ∃ a v, x = .ref a ∧ DGet H2 a y (some v) ∧ Q v H2
def tDIn (ty td : TE) : TE := fun σ H Q => ty σ H fun y H1 => td σ H1 fun x H2 => ∃ a o, x = .ref a ∧ DGet H2 a y o ∧ Q (.bl o.isSome) H2
def tDNotIn (ty td : TE) : TE := fun σ H Q => ty σ H fun y H1 => td σ H1 fun x H2 => ∃ a o, x = .ref a ∧ DGet H2 a y o ∧ Q (.bl (!o.isSome)) H2
def sDPut (td ty tv : TE) : TS := fun D σ H => tv σ H fun v H1 => td σ H1 fun x H2 => ty σ H2 fun y H3 => ∃ a H4, x = .ref a ∧ DPut H3 a y v H4 ∧ D.nx σ H4
def sDAug (td ty tv : TE) (rd : V → V → Hp → VK → Prop) : TS := fun D σ H => td σ H fun x H1 => ty σ H1 fun y H2 => ∃ a v, x = .ref a ∧ DGet H2 a y (some v) ∧
 tv σ H2 fun y2 H3 => rd v y2 H3 fun z H4 => ∃ H5, DPut H4 a y z H5 ∧ D.nx σ H5
def sDDel (td ty : TE) : TS := fun D σ H => td σ H fun x H1 => ty σ H1 fun y H2 => ∃ a kvs k, x = .ref a ∧ H2 a = some (.dK kvs) ∧ y = kV k ∧ (valV kvs k).isSome = true ∧ D.nx σ (upd H2 a (.dK (dropK kvs k)))
section
variable {X : Cx} {o i e value : Expr} {pos pos' tpos : Pos} {td ty tv : TE}
theorem pc_din (hu : X.A.units + 1 < cLine) (hi : PE X i ty) (ho : PE X o td) : PC X .In i o (tDIn ty td) := by
 intro pins s σ H Q I h
 refine thn (hi pins s σ H _ I h) fun iv s1 ⟨y, H1, I1, ry, q1⟩ => thn (ho pins s1 σ H1 _ I1 q1) fun u s2 ⟨x, H2, I2, rx, a, ov, ex, g, q2⟩ => ?_
 subst ex
 obtain rfl : u = Value.ref a := rx
 exact d_in hu I2 g ry fun s3 I3 => ⟨.bl ov.isSome, H2, I3, rfl, q2⟩
theorem ps_dput (hu : X.A.units + 1 < cLine) (ho : PE X o td) (hi : PE X i ty) (hv : PE X value tv) (hs : swapsWith value (some (.Subscript o i pos')) pos.line X.env = pure false) :
  PS X (.Assign [.Subscript o i pos'] value pos) (sDPut td ty tv) := by
 intro pins s σ H D I h
 refine wpAny_Assign_Subscript (thn (hv pins s σ H _ I h) fun r s1 ⟨v, H1, I1, rv, q1⟩ => thn (ho pins s1 σ H1 _ I1 q1) fun u s2 ⟨x, H2, I2, rx, q2⟩ => thn (hi pins s2 σ H2 _ I2 q2) fun iv s3 ⟨y, H3, I3, ry, a, H4, ex, g, q3⟩ => ?_) hs
 subst ex
 obtain rfl : u = Value.ref a := rx
 exact d_setItem hu I3 g ry rv fun s4 I4 => ⟨σ, H4, I4, q3⟩
end
theorem dk_empty {P : Program} {w : World} {H : Hp} (h : Heap) (hb : sysModules < h.objs.size) : ObjOk P w H (h.push { cls := .type "dict", data := .dict #[] }) h.objs.size (.dK []) :=
 ⟨Nat.zero_le _, beq_eq_false_iff_ne.mpr (Ne.symm (Nat.ne_of_lt hb)), [], .nil, Heap.DictOf.new h⟩
def tDNewK : TE := fun _ H Q => ∀ p, H p = none → Q (.ref p) (upd H p (.dK []))
def tDNewT : TE := fun _ H Q => ∀ p, H p = none → Q (.ref p) (upd H p (.dT []))
section
variable {X : Cx} {pos : Pos}
theorem pe_dnewK : PE X (.Dict [] [] pos) tDNewK := fun pins s σ H Q I h =>
 wpAny_Dict_empty ⟨.ref s.heap.objs.size, _, I.laid (a := s.heap.objs.size) (o := .dK []) (t' := s.toks) (fun _ _ q => Heap.get?_push_of_some _ q) (Nat.le_refl _) (dk_empty s.heap I.big), rfl, h _ (I.hok.fresh (Nat.le_refl _))⟩
end
def tPairs : List (TE × TE) → St → Hp → (List (V × V) → Hp → Prop) → Prop
 | [], _, H, Q => Q [] H
 | (tk, tv) :: r, σ, H, Q => tk σ H fun x H1 => tv σ H1 fun y H2 => tPairs r σ H2 fun ps H3 => Q ((x, y) :: ps) H3
abbrev VV : List (V × V) → List (Value × Value) → Prop := Paired fun p q => RelV p.1 q.1 ∧ RelV p.2 q.2
def PPs (X : Cx) (pos : Pos) (keys : List (Option Expr)) (values : List Expr) (trs : List (TE × TE)) : Prop :=
 ∀ (pins : List (Addr × Obj)) (s : Shared) (σ : St) (H : Hp) (Q : List (V × V) → Hp → Prop), Inv X pins σ H s → tPairs trs σ H Q →
  wpAny (model X.prog X.w) X.A (evalPairs (pairTrees keys values X.env pos)) (fun vs s' => ∃ ps H', Inv X pins σ H' s' ∧ VV ps vs ∧ Q ps H') X.xe s
theorem pps_nil {X : Cx} {pos : Pos} : PPs X pos [] [] [] := fun pins s σ H Q I h => pairTrees_nil_walk ⟨[], H, I, .nil, h⟩
theorem pps_cons {X : Cx} {pos : Pos} {k v : Expr} {ks : List (Option Expr)} {vs : List Expr} {tk tv : TE} {trs : List (TE × TE)} (hk : PE X k tk) (hv : PE X v tv) (hr : PPs X pos ks vs trs) :
  PPs X pos (some k :: ks) (v :: vs) ((tk, tv) :: trs) := fun pins s σ H Q I h =>
 pairTrees_cons_walk (thn (hk pins s σ H _ I h) fun u s1 ⟨x, H1, I1, rx, q1⟩ => thn (hv pins s1 σ H1 _ I1 q1) fun w2 s2 ⟨y, H2, I2, ry, q2⟩ =>
  thn (hr pins s2 σ H2 _ I2 q2) fun ws s3 ⟨ps, H3, I3, rel, q3⟩ => ⟨(x, y) :: ps, H3, I3, .cons ⟨rx, ry⟩ rel, q3⟩)
def mergeK (kvs more : List (Key × V)) : List (Key × V) := more.foldl (fun acc kv => putK acc kv.1 kv.2) kvs
theorem KV.merge : ∀ {more : List (Key × V)} {rs : List (Key × Value)} {kvs : List (Key × V)} {vs : List (Key × Value)}, KV more rs → KV kvs vs → KV (mergeK kvs more) (merged vs rs) := by
 intro more rs kvs vs r
 unfold KV at r
 induction r generalizing kvs vs with
 | nil => intro q; exact q
 | @cons p q ps qs h t ih =>
  intro r0
  have e : KV (putK kvs p.1 p.2) (stored vs q.1 q.2) := by
   have := r0.put p.1 h.2
   rw [← h.1]; exact this
  exact ih e
theorem length_mergeK : ∀ (more kvs : List (Key × V)), (mergeK kvs more).length ≤ kvs.length + more.length
 | [], kvs => by show kvs.length ≤ kvs.length + 0; omega
 | p :: r, kvs => by
  have h1 := length_mergeK r (putK kvs p.1 p.2)
  have h2 := length_putK kvs p.1 p.2
  show (mergeK (putK kvs p.1 p.2) r).length ≤ _
  rw [List.length_cons]; omega
theorem carries_of {P : Program} {w : World} : ∀ {kvs : List (Key × V)} {ws : List (Value × Value)}, VV (kvs.map fun kv => (kV kv.1, kv.2)) ws → ∃ rs, Carries (mixKind P w) ws rs ∧ KV kvs rs
 | [], _, r => by rw [List.map_nil] at r; cases r; exact ⟨[], True.intro, .nil⟩
 | p :: kvs, _, r => by
  rw [List.map_cons] at r
  cases r with
  | @cons a b as bs h t =>
   obtain ⟨rs, c, q⟩ := carries_of (P := P) (w := w) t
   obtain ⟨b1, b2⟩ := b
   exact ⟨(p.1, b2) :: rs, ⟨kV_is h.1, rfl, c⟩, .cons ⟨rfl, h.2⟩ q⟩
def tDisp (trs : List (TE × TE)) : TE := fun σ H Q => ∀ p, H p = none → tPairs trs σ (upd H p (.dK [])) fun ps H2 => H2 p = some (.dK []) ∧ ∃ kvs : List (Key × V), ps = kvs.map (fun kv => (kV kv.1, kv.2)) ∧ kvs.length ≤ 15 ∧ Q (.ref p) (upd H2 p (.dK (mergeK [] kvs)))
theorem pe_disp {X : Cx} {pos : Pos} {keys : List (Option Expr)} {values : List Expr} {trs : List (TE × TE)} (h : PPs X pos keys values trs) (hall : keys.all (·.isSome) = true) (hl : keys.length = values.length) (h0 : keys ≠ [])
  (h15 : keys.length ≤ 15) : PE X (.Dict keys values pos) (tDisp trs) := by
 intro pins s σ H Q I q
 have hn := I.hok.fresh (Nat.le_refl s.heap.objs.size)
 have I1 := I.laid (a := s.heap.objs.size) (o := .dK []) (h' := s.heap.push { cls := .type "dict", data := .dict #[] }) (t' := s.toks) (fun _ _ q => Heap.get?_push_of_some _ q) (Nat.le_refl _) (dk_empty s.heap I.big)
 refine wpAny_Dict_walk (knd := mixKind X.prog X.w) hall hl h0 h15 (thn (h pins _ σ _ _ I1 (q _ hn)) fun ws s2 ⟨ps, H2, I2, rel, e, kvs, ep, lk, q2⟩ => ?_)
 subst ep
 obtain ⟨rs, c, rk⟩ := carries_of (P := X.prog) (w := X.w) rel
 obtain ⟨z, hd, vs0, r0, dd⟩ := dk_of I2.hok e
 cases r0
 refine ⟨rs, c, dd, fun h' dd' hs => ⟨.ref s.heap.objs.size, _, ?_, rfl, q2⟩⟩
 have hz : (mergeK [] kvs).length ≤ sizeLine := by
  have h1 := length_mergeK kvs []
  rw [List.length_nil] at h1
  rw [sizeLine_eq]; omega
 have he : ∃ q, h'.get? s.heap.objs.size = some q := let ⟨q, _, _, hq, _⟩ := dd'; ⟨q, hq⟩
 exact d_write I2 (by rw [e]; exact True.intro) hs he (dk_new hz hd (rk.merge .nil) dd')
structure M1 (X : Cx) (o : Expr) (m : Str) (apos : Pos) (e : Expr) (cpos : Pos) : Prop where
 base : attributeBase o m X.env (eval o X.env) = eval o X.env
 few : ((backTo cpos (starEach [e] X.env)).all (fun x => !x.1) && (backToKw cpos (keywordEach [] X.env)).all (fun x => x.1.isSome)
  && decide (([e] : List Expr).length + ([] : List Keyword).length + (if ([] : List Keyword).isEmpty then 0 else 1) < 30)) = true
 line : (apos.endLine == cpos.line) = true
 trees : backTo cpos (starEach [e] X.env) = [(false, eval e X.env)]
structure M2 (X : Cx) (o : Expr) (m : Str) (apos : Pos) (e f : Expr) (cpos : Pos) : Prop where
 base : attributeBase o m X.env (eval o X.env) = eval o X.env
 few : ((backTo cpos (starEach [e, f] X.env)).all (fun x => !x.1) && (backToKw cpos (keywordEach [] X.env)).all (fun x => x.1.isSome)
  && decide (([e, f] : List Expr).length + ([] : List Keyword).length + (if ([] : List Keyword).isEmpty then 0 else 1) < 30)) = true
 line : (apos.endLine == cpos.line) = true
 trees : backTo cpos (starEach [e, f] X.env) = [(false, eval e X.env), (false, eval f X.env)]
def IsD (H : Hp) (a : Addr) : Prop := (∃ kvs, Rd H a (.dK kvs)) ∨ ∃ kvs, Rd H a (.dT kvs)
theorem isD_at {X : Cx} {pins : List (Addr × Obj)} {σ : St} {H : Hp} {s : Shared} {a : Addr} (I : Inv X pins σ H s) (d : IsD H a) :
  s.TypeIs (.ref a) "dict" ∧ (∀ b, Value.ref a = .ref b → ∃ ob, s.heap.get? b = some ob ∧ ob.dict = none) ∧ (a == sysModules) = false := by
 rcases d with ⟨kvs, e⟩ | ⟨kvs, e⟩
 ·obtain ⟨_, hd, vs, _, dd⟩ := dk_rd I.hok e
  refine ⟨dd.typeIs, fun b q => ?_, hd⟩
  cases q
  obtain ⟨ob, _, _, h1, h2, _⟩ := dd
  exact ⟨ob, h1, h2.2.1⟩
 ·obtain ⟨_, hd, xs, _, dd⟩ := dt_rd I.hok e
  refine ⟨dd.typeIs, fun b q => ?_, hd⟩
  cases q
  obtain ⟨ob, _, _, h1, h2, _⟩ := dd
  exact ⟨ob, h1, h2.2.1⟩
section
variable {X : Cx} {pins : List (Addr × Obj)} {σ : St} {H : Hp} {s : Shared} {a : Addr} {y d : V} {u r : Value} {o : Option V} {A : Around} {E : Value → Shared → Prop}
theorem d_get1 {Q : Value → Shared → Prop} (hu : A.units + 1 < cLine) (I : Inv X pins σ H s) (g : DGet H a y o) (ry : RelV y u) (h : ∀ w' s', Inv X pins σ H s' → RelV (o.getD .non) w' → Q w' s') :
  wpAny (model X.prog X.w) A (call (.builtin "dict.get") [.ref a, u]) Q E s := by
 rcases g with ⟨kvs, k, e, ey, l⟩ | ⟨kvs, k, b, e, ey, eb, l⟩
 ·subst ey
  obtain ⟨z, hd, vs, rel, dd⟩ := dk_rd I.hok e
  refine call_meetsIn PySem.F.slot_dict_get dd.typeIs PySem.F.entry_dict_get (PySem.F.args_dict_get_2 _ _) (meets_dict_get (mixKind X.prog X.w) a (kV_is ry) hd) ⟨_, dd.mapOf, h _ _ (I.tok _) ?_⟩
  rw [l]
  exact (rel.val k).getD rfl
 ·subst ey
  cases (show u = Value.ref b from ry)
  obtain ⟨z, hd, xs, rel, dd⟩ := dt_rd I.hok e
  refine call_meetsIn PySem.F.slot_dict_get dd.typeIs PySem.F.entry_dict_get (PySem.F.args_dict_get_2 _ _) (meetsH_dict_get (tupleKind (mixKind X.prog X.w)) a b hd) ⟨tupleKind_room_in1 hu, k, xs, key_of I.hok eb, dd, h _ _ (I.tok _) ?_⟩
  rw [l]
  exact (rel.val k).getD rfl
end
def tDGet1 (td ty : TE) : TE := fun σ H Q => td σ H fun x H1 => ∃ a, x = .ref a ∧ IsD H1 a ∧ ty σ H1 fun y H2 => ∃ o, DGet H2 a y o ∧ Q (o.getD .non) H2
def tDGet2 (td ty tx : TE) : TE := fun σ H Q => td σ H fun x H1 => ∃ a, x = .ref a ∧ IsD H1 a ∧ ty σ H1 fun y H2 => tx σ H2 fun z H3 => ∃ o, DGet H3 a y o ∧ Q (o.getD z) H3
def tDPop1 (td ty : TE) : TE := fun σ H Q => td σ H fun x H1 => ∃ a, x = .ref a ∧ IsD H1 a ∧ ty σ H1 fun y H2 => ∃ kvs k v, H2 a = some (.dK kvs) ∧ y = kV k ∧ valV kvs k = some v ∧ Q v (upd H2 a (.dK (dropK kvs k)))
def tDPop2 (td ty tx : TE) : TE := fun σ H Q => td σ H fun x H1 => ∃ a, x = .ref a ∧ IsD H1 a ∧ ty σ H1 fun y H2 => tx σ H2 fun z H3 => ∃ kvs k, H3 a = some (.dK kvs) ∧ y = kV k ∧
 (∀ v, valV kvs k = some v → Q v (upd H3 a (.dK (dropK kvs k)))) ∧ (valV kvs k = none → Q z H3)
section
variable {X : Cx} {o e f : Expr} {apos cpos : Pos} {td ty tx : TE}
theorem pe_dget1 (hu : X.A.units + 1 < cLine) (ho : PE X o td) (he : PE X e ty) (m : M1 X o "get" apos e cpos) : PE X (.Call (.Attribute o "get" apos) [e] [] cpos) (tDGet1 td ty) := by
 intro pins s σ H Q I h
 refine wpAny_Call_method m.base m.few m.line PySem.F.plainAttrs_dict PySem.F.slot_dict_get PySem.F.type_dict_get (thn (ho pins s σ H _ I h) fun u s1 ⟨x, H1, I1, rx, a, ex, d, q1⟩ => ?_)
 subst ex
 obtain rfl : u = Value.ref a := rx
 obtain ⟨t1, t2, _⟩ := isD_at I1 d
 refine ⟨t1, t2, ?_⟩
 rw [m.trees]
 refine Calls.callWith_builtin rfl (Calls.evalArgs_plain (Calls.spliced_cons (thn (he pins s1 σ H1 _ I1 q1) fun iv s2 ⟨y, H2, I2, ry, ov, g, q2⟩ => Calls.spliced_nil ?_)))
 exact d_get1 hu I2 g ry fun w' s3 I3 rw' => ⟨_, H2, I3, rw', q2⟩
end
section
variable {X : Cx} {pins : List (Addr × Obj)} {σ : St} {H : Hp} {s : Shared} {a : Addr} {kvs : List (Key × V)} {A : Around} {E : Value → Shared → Prop}
end
section
variable {X : Cx} {pins : List (Addr × Obj)} {σ : St} {H : Hp} {s : Shared} {a : Addr} {y : V} {u : Value} {A : Around} {E : Value → Shared → Prop}
end
end L2
namespace Att
open PySem PySem.W PySem.Calls PyProof.Rows
theorem ints_of_wellAll {P : Params} {h : Heap} : ∀ (ns : List Int) (vs : List Value), WellAll P h vs (ns.map WData.int) → IntsAre vs ns := by
 intro ns
 induction ns with
 | nil =>
  intro vs w
  rw [List.map_nil] at w
  cases w
  exact .nil
 | cons n ns ih =>
  intro vs w
  rw [List.map_cons] at w
  cases w with
  | cons a b =>
   cases a
   exact .cons _ _ (ih _ b)
theorem script_of {l : OpenLaw} {n : Nat} (hn : l.most = some n) {P : Params} {h : Heap} {args : List WData} {vals : List Value}
  (hpre : l.row.toRowW.claim.pre args = true) (hwl : WellAll P h vals args) :
  ∃ a vs ns, vals = [Value.ref a] ∧ args = [WData.list (ns.map WData.int)] ∧ h.get? a = some { cls := .type "list", data := .seq vs.toArray } ∧ IntsAre vs ns ∧ ns.length ≤ n := by
 have hsh : WShape.hasAll [] args [.list .int] = true := (pre_splitW hpre).1
 have hc : l.pre.holds [] { args := args } = true := (pre_splitW hpre).2
 obtain ⟨d, r, rfl, h1, h2⟩ := hasAllW_cons hsh
 obtain rfl := hasAllW_nil h2
 obtain ⟨xs, rfl, h3⟩ := hasW_list h1
 obtain ⟨ns, rfl⟩ := items_int h3
 have hlen : ns.length ≤ n := by
  unfold OpenLaw.pre at hc
  have h4 : (WTm.not (.lt (.lit (.int (n : Int))) (.len (.arg 0)))).holds [] { args := [.list (ns.map .int)] } = true := by
   have h4 := (holds_andW hc).1
   rw [hn] at h4
   exact h4
  have h5 := condW_of h4 (w_not (w_lt w_lit (w_len_list (w_arg rfl))))
  rw [List.length_map] at h5
  refine Nat.le_of_not_lt fun q => ?_
  have q' : (n : Int) < ((ns.length : Nat) : Int) := by omega
  first
   | (rw [decide_eq_true q'] at h5; exact absurd h5 (by decide))
   | (simp at h5; omega)
 cases hwl with
 | cons w1 w2 =>
  cases w2
  cases w1 with
  | list ho hall => exact ⟨_, _, ns, rfl, rfl, ho, ints_of_wellAll ns _ hall, hlen⟩
theorem post_true (l : OpenLaw) (args : List WData) : l.row.toRowW.claim.post args (.bool true) args = true :=
 postW_of (r := l.row.toRowW) (X := (true == true))
  (show WShape.has [] (.bool true) .bool = true by first | rfl | decide | simp [WShape.has, WShape.arms, WShape.armsAll])
  (show (WTm.eq .res (.lit (.bool true))).value [] { args := args, res := some (.bool true), after := args } = some (.bool (true == true)) from w_eq_bool (w_res rfl) w_lit) rfl
theorem attach_call {l : OpenLaw} {n : Nat} {q : Program} {loose : List Str} {XP : (Str → Option Value) → Heap → Prop} {YP : World → Heap → Prop} {d : DefRec}
  (hn : l.most = some n) (hdf : d.params.defaults = [])
  (call : ∀ (w : World) (s₀ s₁ : Shared) (mg mb : Str → Option Value) (fa : Addr) (o : Obj) (pm cd doc : Value) (a : Addr) (vs : List Value) (ns : List Int),
   Ground q loose [] XP w s₀ mg mb s₁.heap → YP w s₁.heap →
   s₁.heap.get? fa = some o → o.data = .func (docDef d.name d.params d.body d.scope pm cd doc) → s₁.heap.CodeRec cd d.name → mg d.name = some (.ref fa) →
   s₁.heap.get? a = some { cls := .type "list", data := .seq vs.toArray } → IntsAre vs ns → ns.length ≤ n → s₁.gens = #[] →
   codeAny (model l.prog w) callerA (.call (.ref fa) ⟨[.ref a], []⟩) (fun r s' => r = .ok (.ret (.bool true)) ∧ OldK s₁.heap s'.heap ∧ s'.os = s₁.os ∧ AllBare s'.gens) s₁) :
  WalkO q loose XP YP l.row.toRowW d [] (fun f vs => PySem.call f vs) := by
 intro w s₀ s₁ mg mb G Y fa o pm cd doc dV kV ho hd hcd hD hmg hg args vals as hpre hlay hrd hwl hlo
 obtain rfl : dV = .none := Dflts.none hD hdf
 obtain rfl : kV = .none := Dflts.noKw hD
 obtain ⟨a, vs, ns, rfl, rfl, hobj, hints, hlen⟩ := script_of hn hpre hwl
 refine enter_call (codeAny_mono (call w s₀ s₁ mg mb fa o pm cd doc a vs ns G Y ho (fd_plain hd) hcd hmg hobj hints hlen hg) fun r s' hq => ?_)
 obtain ⟨rfl, h2, h3, h4⟩ := hq
 exact ⟨.inl ⟨.bool true, .bool true, [], rfl, fun _ => rfl, .bool true, post_true l _, fun _ => ⟨List.Pairwise.nil, fun _ hm => (nomatch hm)⟩⟩, h2, h3, h4⟩
section
variable {prog : Program} {w : World} {A : Around} {E : Value → Shared → Prop} {s : Shared} {K : Frag}
def noObjs (h : Heap) : Heap := { h with objs := #[] }
def ledger (h : Heap) (L d : Addr) : List (Addr × Obj) := (List.range h.objs.size).filterMap fun a => if a = L ∨ a = d then none else (h.get? a).map fun o => (a, o)
end
end Att
namespace L2
open PySem PySem.Spec PyProof.Rows
theorem vals_ints : ∀ {vs : List Value} {ns : List Int}, IntsAre vs ns → Vals (ns.map V.int) vs
 | _, _, .nil => .nil
 | _, _, .cons n t h => .cons ⟨t, rfl⟩ (vals_ints h)
def Only (H : Hp) : Prop := ∀ b, H b = none ∨ ∃ o xs, H b = some (.frz o (.lst xs))
theorem law_call {P : Program} {w : World} {K : PySem.W.Frag} {mg mb : Str → Option Value} {CX : CXT} {k : Nat} {fa a : Addr} {fd : FuncData} {x : Str} {sp : Sp} {s₁ : Shared} {vs : List Value} {ns : List Int}
  (KX : K.In s₁.heap) (hns : s₁.heap.Ns mainGlobals mg) (hb : s₁.heap.Ns builtinsNs mb) (hbb : ∀ x : Str, x ≠ "__name__" → mb x = bootBuiltins x) (hlim : s₁.heap.NoLimit) (hg : s₁.gens = #[])
  (ha : s₁.heap.get? a = some { cls := .type "list", data := .seq vs.toArray }) (hi : IntsAre vs ns) (hl : ns.length ≤ sizeLine) (hr : Room k callerA)
  (F : ∀ base : Heap, K.In base → base.Ns mainGlobals mg → FnOk P w K mg base CX k fa fd [x] sp) (hbind : ∀ (s : Shared) (u : Value), BindsTo s fd ⟨[u], []⟩ [(x, u)])
  (hsp : ∀ H : Hp, Only H → SqL K H a (ns.map V.int) → sp [.ref a] H (fun v _ => v = .bl true) fun _ _ _ => False)
  (hCX : ∀ H e s', CX [] H s₁ (fun _ _ _ => False) e s' → False) :
  codeAny (model P w) callerA (.call (.ref fa) ⟨[.ref a], []⟩) (fun r s' => r = .ok (.ret (.bool true)) ∧ OldK s₁.heap s'.heap ∧ s'.os = s₁.os ∧ AllBare s'.gens) s₁ := by
 have rv := vals_ints hi
 have lenV := hi.length
 have core : ∀ H : Hp, Only H → SqL K H a (ns.map V.int) → HOk P w H s₁.heap → (∀ b, H b ≠ none → b = a) → (H a ≠ none → K.lookup a = none) →
   codeAny (model P w) callerA (.call (.ref fa) ⟨[.ref a], []⟩) (fun r s' => r = .ok (.ret (.bool true)) ∧ OldK s₁.heap s'.heap ∧ s'.os = s₁.os ∧ AllBare s'.gens) s₁ := by
  intro H hO hS hok hA hK
  have base_of : ∀ {b : Addr} {o : Obj}, s₁.heap.get? b = some o → H b = none → (hidT s₁.heap H).get? b = some o := fun e n => hidT_get e n
  have noA : ∀ {b : Addr} {o : Obj} {es : Array DictEntry} {ep : Nat}, s₁.heap.get? b = some o → o.data = .dict es ep → H b = none := fun {b o es ep} e d => by
   cases q : H b with
   | none => rfl
   | some u =>
    have e' : b = a := hA b (by rw [q]; simp)
    subst e'
    rw [ha] at e; cases e
    have d' : Data.seq vs.toArray _ = Data.dict es ep := d
    cases d'
  have nsK : ∀ {b : Addr} {m : Str → Option Value}, s₁.heap.Ns b m → (hidT s₁.heap H).Ns b m := fun {b m} ⟨o, es, ep, e, d, r⟩ => ⟨o, es, ep, base_of e (noA e d), d, r⟩
  have hKb : K.In (hidT s₁.heap H) := fun b o e => base_of (KX b o e) (by
   cases q : H b with
   | none => rfl
   | some u =>
    have e' : b = a := hA b (by rw [q]; simp)
    subst e'
    rw [hK (by rw [q]; simp)] at e; cases e)
  have hM : Mod K mg (hidT s₁.heap H) := ⟨hKb, nsK hns, ⟨mb, nsK hb, hbb⟩, let ⟨mc, h1, h2⟩ := hlim; ⟨mc, nsK h1, h2⟩⟩
  have e0 : Env0 P w K mg (hidT s₁.heap H) callerA [] s₁ H := ⟨rfl, hM, fun b o e => of_hidT e, Nat.le_of_eq (hidT_size _ _), trivial, fun b hb => absurd (show b ∈ ([] : List Addr) from hb) (by simp), hok, .of_eq hg⟩
  refine codeAny_mono ((F _ hKb (nsK hns)).run callerA [] s₁ H ⟨[.ref a], []⟩ [.ref a] [.ref a] _ _ hr e0 (hbind s₁ (.ref a)) (.cons rfl .nil) (hsp H hO hS)) fun r s' h => ?_
  cases r with
  | error e => exact (hCX H e s' h).elim
  | ok fl =>
   cases fl with
   | next => exact False.elim h
   | brk => exact False.elim h
   | cont => exact False.elim h
   | ret u =>
    obtain ⟨v, H', os, bare, un, hok', r', q⟩ := h
    have q' : v = .bl true := q
    subst q'
    obtain rfl : u = Value.bool true := r'
    refine ⟨rfl, OldK.of_keep fun b o e => ?_, os, bare⟩
    cases q : H b with
    | none => exact un.keep b o e q (by intro z; exact absurd (show b ∈ ([] : List Addr) from z) (by simp)) (by simp)
    | some u =>
     rcases hO b with z | ⟨ob, xs, z⟩
     ·rw [q] at z; cases z
     ·have z2 := un.frzs b ob _ z
      obtain ⟨e1, _⟩ := hok b _ z
      obtain ⟨e2, _⟩ := hok' b _ z2
      rw [e] at e1; cases e1
      exact e2
 cases hk : K.lookup a with
 | some o =>
  have e := KX a o hk
  rw [ha] at e
  cases e
  refine core (fun _ => none) (fun _ => .inl rfl) (.inr ⟨_, vs.toArray, _, hk, rfl, rfl, rfl, by rw [List.size_toArray, lenV]; exact hl, by simpa using rv⟩) (fun b u z => by have z' : (none : Option HO) = some u := z; cases z') (fun b z => absurd rfl z) fun z => absurd rfl z
 | none =>
  refine core (fun b => if b = a then some (.frz { cls := .type "list", data := .seq vs.toArray } (.lst (ns.map V.int))) else none) (fun b => ?_) (.inl (.inr ⟨{ cls := .type "list", data := .seq vs.toArray }, if_pos rfl⟩)) (fun b u z => ?_) (fun b z => ?_) fun _ => hk
  ·by_cases hb : b = a
   ·exact .inr ⟨_, _, if_pos hb⟩
   ·exact .inl (if_neg hb)
  ·by_cases hb : b = a
   ·have z' := (if_pos hb).symm.trans z
    cases z'
    subst hb
    exact ⟨ha, by rw [List.length_map]; exact hl, vs, _, rv, ha⟩
   ·have z' := (if_neg hb).symm.trans z
    cases z'
  ·by_cases hb : b = a
   ·exact hb
   ·exact absurd (if_neg hb) z
end L2
namespace L2
open PySem PySem.Spec PyProof.Rows
abbrev KOf {K : PySem.W.Frag} {h : Heap} (_ : K.In h) : PySem.W.Frag := K
theorem walk_of {l : PySem.W.OpenLaw} {n k : Nat} {q : Program} {loose : List Str} {XP : (Str → Option Value) → Heap → Prop} {YP : World → Heap → Prop} {d : DefRec} {K : Params → PySem.W.Frag} {CX : World → CXT} {sp : World → Sp} {x : Str}
  (hn : l.most = some n) (hn2 : n ≤ sizeLine) (hdf : d.params.defaults = []) (hr : Room k callerA)
  (hY : ∀ (w : World) (h : Heap), YP w h → (K w.params).In h)
  (F : ∀ (w : World) (mg : Str → Option Value) (fa : Addr) (h : Heap), (K w.params).In h → h.Ns mainGlobals mg → mg d.name = some (.ref fa) →
   ∃ fd : FuncData, (∀ (s : Shared) (u : Value), BindsTo s fd ⟨[u], []⟩ [(x, u)]) ∧
    ∀ base : Heap, (K w.params).In base → base.Ns mainGlobals mg → FnOk l.prog w (K w.params) mg base (CX w) k fa fd [x] (sp w))
  (hsp : ∀ (w : World) (H : Hp) (a : Addr) (ns : List Int), ns.length ≤ n → Only H → SqL (K w.params) H a (ns.map V.int) → sp w [.ref a] H (fun v _ => v = .bl true) fun _ _ _ => False)
  (hCX : ∀ (w : World) (H : Hp) (s : Shared) (e : Value) (s' : Shared), CX w [] H s (fun _ _ _ => False) e s' → False) :
  PySem.W.WalkO q loose XP YP l.row.toRowW d [] (fun f vs => PySem.call f vs) := by
 refine Att.attach_call hn hdf fun w s₀ s₁ mg mb fa o pm cd doc a vs ns G Y ho hd hcd hmg hobj hints hlen hg => ?_
 have KX := hY w _ Y
 obtain ⟨fd, hb, hF⟩ := F w mg fa _ KX G.T.g hmg
 exact law_call KX G.T.g G.T.b G.T.builtins G.T.nolimit hg hobj hints (Nat.le_trans hlen hn2) hr hF hb (fun H hO hS => hsp w H a ns hlen hO hS) fun H e s' => hCX w H s₁ e s'
end L2
namespace L2
open PySem PySem.Spec PyProof.Rows
def inClass (s : Stmt) (j : Nat) : Stmt := match s with
 | .ClassDef _ _ _ body _ _ _ _ _ _ _ => body.getD j (.Pass ⟨0, 0, 0, 0⟩)
 | _ => .Pass ⟨0, 0, 0, 0⟩
def defArgs (s : Stmt) : Arguments := match s with
 | .FunctionDef _ a _ _ _ _ _ _ _ _ => a
 | _ => { posonlyargs := [], args := [], vararg := none, kwonlyargs := [], kw_defaults := [], kwarg := none, defaults := [] }
def defBody (s : Stmt) : List Stmt := match s with
 | .FunctionDef _ _ b _ _ _ _ _ _ _ => b
 | _ => []
def defScope (s : Stmt) : Scope := match s with
 | .FunctionDef _ _ _ _ _ _ sc _ _ _ => sc
 | _ => { kind := .function, names := [], isGenerator := false, isCoroutine := false }
abbrev CX0 : CXT := fun _ _ _ _ _ _ => False
abbrev E0 : XK := fun _ _ _ => False
theorem pass0 {X : Cx} : Passes CX0 X E0 := fun _ _ _ _ _ _ _ h => h.elim
structure Fun (K : PySem.W.Frag) (x qual : Str) (st : Stmt) (f : Addr) (fd : FuncData) : Prop where
 ex : ∃ (oc : Value) (od : Option Addr) (kV doc pm : Value) (an : Option Addr) (cdv ct : Value) (osl : Array (Option Value)),
  fd = PySem.W.fnOf x qual (defArgs st) (defBody st) (defScope st) .none kV doc pm an cdv ct ∧ K.lookup f = some ⟨oc, od, .func fd, osl⟩ ∧ PySem.W.codeIn K cdv qual = true
 kp : PySem.W.keepIn K (.ref f) = true
section
variable {P : Program} {w : World} {K : PySem.W.Frag} {mg : Str → Option Value} {base : Heap}
theorem Fun.ok {x qual : Str} {st : Stmt} {f : Addr} {fd : FuncData} {N ps : List Str} {k : Nat} {sp : Sp} (F : Fun K x qual st f fd) (S : FnScope N ps (defScope st)) (len : ∀ vs H Q E, sp vs H Q E → vs.length = ps.length)
  (hbody : ∀ (cdv : Value) (A : Around) (outer : List Env) (s : Shared) (H : Hp) (vs : List V) (Q : VK) (E : XK), Room k (A.deeper (envOfC qual (defScope st) s.heap.objs.size f cdv)) → sp vs H Q E →
   ∃ t, PSs (cxOf CX0 P w K mg base N qual (defScope st) f cdv A outer s H E).nox (defBody st) t ∧ t { nx := fun _ H' => Q .non H', rt := Q } (start N vs) H) : FnOk P w K mg base CX0 (k + 1) f fd ps sp := by
 obtain ⟨oc, od, kV, doc, pm, an, cdv, ct, osl, rfl, lk, hcd⟩ := F.ex
 refine fn_of lk hcd S len fun A outer s H vs Q E hr hsp => ?_
 obtain ⟨t, h, q⟩ := hbody cdv A outer s H vs Q E hr hsp
 exact ⟨t, h.nox, q⟩
theorem Fun.binds {x qual : Str} {st : Stmt} {f : Addr} {fd : FuncData} {ps : List Str} (F : Fun K x qual st f fd)
  (h : ∀ (kV doc pm : Value) (an : Option Addr) (cdv ct : Value) (us : List Value), us.length = ps.length → bindArgs (PySem.W.fnOf x qual (defArgs st) (defBody st) (defScope st) .none kV doc pm an cdv ct) ⟨us, []⟩ = pure (ps.zip us)) : Binds K fd ps [] := by
 obtain ⟨oc, od, kV, doc, pm, an, cdv, ct, osl, rfl, lk, hcd⟩ := F.ex
 exact .all (h kV doc pm an cdv ct)
theorem fun_mk {x qual : Str} {st : Stmt} {f : Addr} {oc : Value} {od an : Option Addr} {osl : Array (Option Value)} {kV doc pm cdv ct : Value} (l : K.lookup f = some ⟨oc, od, .func (PySem.W.fnOf x qual (defArgs st) (defBody st) (defScope st) .none kV doc pm an cdv ct), osl⟩)
  (c : PySem.W.codeIn K cdv qual = true) (k : PySem.W.keepIn K (.ref f) = true) : Fun K x qual st f (PySem.W.fnOf x qual (defArgs st) (defBody st) (defScope st) .none kV doc pm an cdv ct) := ⟨⟨oc, od, kV, doc, pm, an, cdv, ct, osl, rfl, l, c⟩, k⟩
end
theorem hu_of {A : Around} {k : Nat} (hr : Room k A) : A.units + 1 < cLine := Nat.lt_of_le_of_lt (Nat.add_le_add_left (by decide : 1 ≤ 64) _) hr.units
theorem small1000 {n : Nat} (h : n ≤ 1000) : n < sizeLine := Nat.lt_of_le_of_lt h (by decide)
section
variable {X : Cx}
theorem pv (i : Nat) {x : Str} {pos : Pos} (hN : X.N[i]? = some x := by rfl) (hv : Vis X.env.scope x := by first | exact Or.inl rfl | exact Or.inr (Or.inl rfl) | exact Or.inr (Or.inr rfl)) (hd : (x == ("__debug__" : Str)) = false := by decide)
  (hcd : (x == ("__classdict__" : Str)) = false := by decide) : PE X (.Name x pos) (tVar i) := pe_var hN hv hd hcd
end
theorem iteF {A B : Prop} (h : B) : if false = true then A else B := by
 rw [if_neg Bool.false_ne_true]
 exact h
theorem iteT {A B : Prop} (h : A) : if true = true then A else B := by
 rw [if_pos rfl]
 exact h
def Same (H H' : Hp) : Prop := ∀ b o, H b = some o → H' b = some o
theorem Same.refl (H : Hp) : Same H H := fun _ _ h => h
theorem Same.trans {H H1 H2 : Hp} (a : Same H H1) (b : Same H1 H2) : Same H H2 := fun c o h => b c o (a c o h)
theorem Same.free {H H' : Hp} (e : Same H H') {l : Addr} (h : H' l = Option.none) : H l = Option.none := by
 cases q : H l with
 | none => rfl
 | some o =>
  rw [e l o q] at h
  cases h
end L2
namespace L2
open PySem PySem.Spec PyProof.Rows
section
variable {X : Cx}
end
section
variable {κ : Type} [DecidableEq κ]
end
end L2
namespace TX
open PySem PySem.Spec PyProof.Rows L2
theorem Same.upd {H H' : Hp} {l : Addr} {o : HO} (e : Same H H') (h : H l = none) : Same H (upd H' l o) := fun b u q => by
 rw [upd_ne (ne_of_none q h)]; exact e b u q
theorem upd_old {H : Hp} {b l : Addr} {o u : HO} (q : H b = some u) (h : H l = none) : upd H l o b = some u := by
 rw [upd_ne (ne_of_none q h)]; exact q
theorem upd_oth {H : Hp} {b l : Addr} {o : HO} {u : Option HO} (q : H b = u) (h : b ≠ l) : upd H l o b = u := by
 rw [upd_ne h]; exact q
section
variable {X : Cx} {a : Expr} {ta : TA} {p pos : Pos}
def tRng1 (ta : TA) : TE := fun σ H Q => ta σ H fun vs H1 => ∃ j : Int, vs = [.int j] ∧ ∀ q, H1 q = none → Q (.ref q) (upd H1 q (.rng 0 j))
theorem pe_range1 (hg : Gl X "range") (hm : X.mg "range" = none) (ha : PA X [a] ta) (hs : starEach [a] X.env = [(false, eval a X.env)] := by rfl) : PE X (.Call (.Name "range" p) [a] [] pos) (tRng1 ta) := by
 intro pins s σ H Q I h
 refine Call_ (ld_blt I hg hm boot_range (PyProof.Rows.callWith_type1 (thn (ha pos pins s σ H _ I h) fun us s1 ⟨vs, H1, I1, r1, q1⟩ => ?_) hs rfl))
 obtain ⟨j, e, q⟩ := q1
 subst e
 cases r1 with
 | cons r rr =>
  cases rr
  obtain ⟨t, rfl⟩ := r
  exact call_range_1 ⟨.ref s1.heap.objs.size, _, I1.laid (fun b o e => Heap.get?_push_of_some _ e) (Nat.le_refl _) (show ObjOk X.prog X.w _ _ _ (.rng 0 j) from ⟨_, _, _, Heap.get?_push_size _ rfl⟩), rfl, q _ (I1.hok.fresh (Nat.le_refl _))⟩
def rngV (lo hi : Int) : List V := (List.range (hi - lo).toNat).map fun k => V.int (lo + (k : Nat))
theorem call_list_rng (hc : X.calm = true) : CallR X (.type "list") (fun xs H Q => ∃ p lo hi, xs = [.ref p] ∧ H p = some (.rng lo hi) ∧ (-(2 ^ 62) ≤ lo ∧ lo < 2 ^ 62 ∧ -(2 ^ 62) ≤ hi ∧ hi < 2 ^ 62) ∧ (hi - lo).toNat ≤ 1000 ∧
  ∀ l, H l = none → Q (.ref l) (upd H l (.lst (rngV lo hi)))) := by
 intro pins s σ H xs us Q I r h
 obtain ⟨p, lo, hi, rfl, hp, ⟨b1, b2, b3, b4⟩, hn, q⟩ := h
 obtain ⟨u, rfl, rx⟩ := vals1 r
 cases rx
 obtain ⟨t, u, v, ho⟩ := (show ObjOk X.prog X.w H s.heap p (.rng lo hi) from I.hok p _ hp)
 have e2 : Builtin.Range.rangeSize lo hi 1 = (((hi - lo).toNat : Nat) : Int) := by rw [rangeSize_one]; split <;> omega
 refine call_list_range (I.ok.hd hc) (show IsRange s.heap p lo hi 1 t u v from ho) (small_one b1 b2 b3 b4) e2 (by omega) fun h' tk acc' c' hk hS' hacc => ?_
 refine ⟨.ref s.heap.objs.size, _, I.laid (t' := tk) hk (Nat.le_refl _) (show ObjOk X.prog X.w _ h' _ (.lst (rngV lo hi)) from ⟨?_, acc'.toList, c', ?_, by simpa using hS'⟩), rfl, q _ (I.hok.fresh (Nat.le_refl _))⟩
 ·unfold rngV
  rw [List.length_map, List.length_range]
  exact Nat.le_trans hn (by decide)
 ·obtain ⟨hsz, hall⟩ := hacc
  have gen : ∀ (ys : List V) (us : List Value), ys.length = us.length → (∀ (j : Nat) y u, ys[j]? = some y → us[j]? = some u → RelV y u) → Vals ys us := by
   intro ys
   induction ys with
   | nil => intro us hl _; cases us with | nil => exact .nil | cons _ _ => cases hl
   | cons y ys ih =>
    intro us hl hr
    cases us with
    | nil => cases hl
    | cons u us => exact .cons (hr 0 y u rfl rfl) (ih us (by simpa using hl) fun j y' u' e1 e2 => hr (j + 1) y' u' (by simpa using e1) (by simpa using e2))
  refine gen _ _ (by unfold rngV; rw [List.length_map, List.length_range, Array.length_toList, hsz]) fun j y u e1 e2 => ?_
  have e2' : acc'[j]? = some u := by simpa using e2
  obtain ⟨t, rfl⟩ := hall j u e2'
  unfold rngV at e1
  rw [List.getElem?_map] at e1
  cases e : (List.range (hi - lo).toNat)[j]? with
  | none => rw [e] at e1; cases e1
  | some k =>
   rw [e] at e1
   have hk : k = j := by
    obtain ⟨h1, h2⟩ := List.getElem?_eq_some_iff.mp e
    simpa using h2.symm
   subst hk
   cases e1
   exact ⟨t, by rw [Int.mul_one]⟩
end
section
variable {X : Cx}
def rIndex (K : PySem.W.Frag) : V → List V → Hp → VK → Prop := fun x vs H Q => ∃ (l : Addr) (ns : List Int) (k : Int), x = .ref l ∧ vs = [.int k] ∧ SqL K H l (ns.map V.int) ∧ k ∈ ns ∧ ns.length ≤ 1000 ∧ Q (.int (ns.idxOf k : Nat)) H
theorem mt_index : MtM X "list.index" (rIndex X.K) := by
 intro pins s σ H x vs v us Q I rx rv h
 obtain ⟨l, ns, k, rfl, rfl, hH, hk, hz, q⟩ := h
 cases rx
 obtain ⟨u, rfl, ru⟩ := rv.one
 obtain ⟨t, rfl⟩ := ru
 obtain ⟨its, r, p, hz'⟩ := I.list hH
 have hi := intsAre_of r
 have hlen := hi.length
 obtain ⟨⟨cls, dd, data, sl⟩, ho, hc, n, hd⟩ := id p.isList
 simp only at hc hd
 subst hc hd
 have hj : ns.idxOf k < ns.length := List.idxOf_lt_length_iff.mpr hk
 refine call_meets PySem.F.slot_list_index ⟨_, ho, rfl⟩ PySem.F.entry_list_index (PySem.F.args_list_index_2 _ _)
  (SeqAt.list_indexAt l its.toArray n dd sl (.int k t) (isInt k) (ns.idxOf k) (by simpa [hlen] using hj) (by omega) ?_ ?_) ⟨ho, fun y hy => (eq_isInt k t hi y (by simpa using hy)).at _ _, ⟨.int (ns.idxOf k : Nat), H, I.tok _, ⟨_, rfl⟩, q⟩⟩
 ·show isInt k its[ns.idxOf k] = true
  rw [isInt_at k hi _ (by omega) hj]
  simpa using List.getElem_idxOf hj
 ·intro j hjs hlt
  show isInt k its[j] = false
  rw [isInt_at k hi j (by simpa using hjs) (by omega)]
  exact ne_of_lt_idxOf hlt _
end
def rListOf (K : PySem.W.Frag) : List V → Hp → VK → Prop := fun xs H Q => ∃ (p : Addr) (ys : List V), xs = [.ref p] ∧ (SqL K H p ys ∨ SqT K H p ys) ∧ ∀ l, H l = none → Q (.ref l) (upd H l (.lst ys))
theorem call_listOf {X : Cx} : CallR X (.type "list") (rListOf X.K) := call_list_of
section
variable {X : Cx}
def rIsi (K : PySem.W.Frag) : List V → Hp → VK → Prop := fun xs H Q => ∃ x c cv t b, xs = [x, c] ∧ (∀ u, RelV c u → u = cv) ∧ TyOf K H x t ∧ PySem.W.kitOne K t cv = some b ∧ Q (.bl b) H
theorem call_isinst : CallR X (.builtin "isinstance") (rIsi X.K) := by
 intro pins s σ H xs us Q I r h
 obtain ⟨x, c, cv, t, b, rfl, hc, ty, e, q⟩ := h
 obtain ⟨u, w, rfl, rx, rc⟩ := vals2 r
 rw [hc w rc]
 exact isinst_ok I rx ty e fun tk => ⟨.bl b, H, I.tok tk, rfl, q⟩
theorem ty_only {n : String} : ∀ u, RelV (.ty n) u → u = Value.type n := fun _ h => h
theorem ref_only {a : Addr} : ∀ u, RelV (.ref a) u → u = Value.ref a := fun _ h => h
end
section
variable {X : Cx}
theorem truth_bools {prog : Program} {w : World} {A : Around} {bs : List Bool} {its : List Value} (r : Vals (bs.map V.bl) its) : TruthOf prog w A (fun i v => its.toArray[i]? = some v) (fun i => bs.getD i false) := by
 intro i v s Q E hP hQ
 have hl := r.length
 rw [List.length_map] at hl
 have hv : its[i]? = some v := by simpa using hP
 have hi : i < bs.length := by rw [hl]; exact (List.getElem?_eq_some_iff.mp hv).1
 obtain ⟨u, hu, ru⟩ := r.get (i := i) (x := V.bl bs[i]) (by simp [hi])
 rw [hv] at hu
 cases hu
 cases (show v = Value.bool bs[i] from ru)
 have hQ : Q (bs.getD i false) s := hQ
 rw [show bs.getD i false = bs[i] by simp [List.getD, hi]] at hQ
 exact wpAny_truthy_bool hQ
theorem any_range (bs : List Bool) : (List.range bs.length).any (fun i => bs.getD i false) = bs.any id := by
 rw [Bool.eq_iff_iff, List.any_eq_true, List.any_eq_true]
 constructor
 ·rintro ⟨i, hi, e⟩
  have hi' : i < bs.length := by simpa using hi
  refine ⟨bs[i], List.getElem_mem hi', ?_⟩
  simpa [List.getD, hi'] using e
 ·rintro ⟨b, hb, e⟩
  obtain ⟨i, hi, rfl⟩ := List.getElem_of_mem hb
  exact ⟨i, by simpa using hi, by simpa [List.getD, hi] using e⟩
theorem all_range (bs : List Bool) : (List.range bs.length).all (fun i => bs.getD i false) = bs.all id := by
 rw [Bool.eq_iff_iff, List.all_eq_true, List.all_eq_true]
 constructor
 ·intro h b hb
  obtain ⟨i, hi, rfl⟩ := List.getElem_of_mem hb
  simpa [List.getD, hi] using h i (by simpa using hi)
 ·intro h i hi
  have hi' : i < bs.length := by simpa using hi
  simpa [List.getD, hi'] using h bs[i] (List.getElem_mem hi')
theorem call_any (hc : X.calm = true) : CallR X (.builtin "any") (fun xs H Q => ∃ (p : Addr) (bs : List Bool), xs = [.ref p] ∧ SqL X.K H p (bs.map V.bl) ∧ Q (.bl (bs.any id)) H) := by
 intro pins s σ H xs us Q I r h
 obtain ⟨p, bs, rfl, hq, q⟩ := h
 obtain ⟨u, rfl, rx⟩ := vals1 r
 cases rx
 obtain ⟨its, r', pl, hz⟩ := I.list hq
 have hlt : p < s.heap.objs.size := by obtain ⟨o, e, _⟩ := pl.isList; exact Heap.lt_size e
 have hl := r'.length
 rw [List.length_map] at hl
 refine call_any_walk (wpAny_pyIter_list pl.isList ?_)
 refine ⟨s.heap.objs.size, _, [s.heap.objs.size], _, _, _, fun i => bs.getD i false, rfl, Walks.list (A := X.A.in1) (I.ok.hd hc) s.heap.objs.size p (Nat.ne_of_lt hlt) its.toArray, ⟨⟨_, Heap.get?_push_size _ rfl, rfl, rfl⟩, pl.isList.push _⟩, truth_bools r', fun h' tk hk => ?_⟩
 have e : (List.range its.toArray.size).any (fun i => bs.getD i false) = bs.any id := by
  rw [List.size_toArray, ← hl]; exact any_range bs
 rw [e]
 exact ⟨.bl _, H, I.kept (t' := tk) fun b o eb => hk b o (by simpa using Nat.ne_of_lt (Heap.lt_size eb)) (Heap.get?_push_of_some _ eb), rfl, q⟩
theorem call_all (hc : X.calm = true) : CallR X (.builtin "all") (fun xs H Q => ∃ (p : Addr) (bs : List Bool), xs = [.ref p] ∧ SqL X.K H p (bs.map V.bl) ∧ Q (.bl (bs.all id)) H) := by
 intro pins s σ H xs us Q I r h
 obtain ⟨p, bs, rfl, hq, q⟩ := h
 obtain ⟨u, rfl, rx⟩ := vals1 r
 cases rx
 obtain ⟨its, r', pl, hz⟩ := I.list hq
 have hlt : p < s.heap.objs.size := by obtain ⟨o, e, _⟩ := pl.isList; exact Heap.lt_size e
 have hl := r'.length
 rw [List.length_map] at hl
 refine call_all_walk (wpAny_pyIter_list pl.isList ?_)
 refine ⟨s.heap.objs.size, _, [s.heap.objs.size], _, _, _, fun i => bs.getD i false, rfl, Walks.list (A := X.A.in1) (I.ok.hd hc) s.heap.objs.size p (Nat.ne_of_lt hlt) its.toArray, ⟨⟨_, Heap.get?_push_size _ rfl, rfl, rfl⟩, pl.isList.push _⟩, truth_bools r', fun h' tk hk => ?_⟩
 have e : (List.range its.toArray.size).all (fun i => bs.getD i false) = bs.all id := by
  rw [List.size_toArray, ← hl]; exact all_range bs
 rw [e]
 exact ⟨.bl _, H, I.kept (t' := tk) fun b o eb => hk b o (by simpa using Nat.ne_of_lt (Heap.lt_size eb)) (Heap.get?_push_of_some _ eb), rfl, q⟩
end
end TX
namespace TX
open PySem PySem.Spec PyProof.Rows L2
open PySem.W (Dat kqdP kqdPs kqdOk kqd_lay kqd_eqv)
inductive Dd (K : PySem.W.Frag) (H : Hp) : V → Dat → Prop where
 | non : Dd K H .non .none
 | int (i : Int) : Dd K H (.int i) (.int i)
 | str (x : Str) : Dd K H (.str x) (.str x)
 | lst {a : Addr} {xs : List V} {ds : List Dat} (h : SqL K H a xs) (hl : xs.length = ds.length) (r : ∀ (i : Nat) x d, xs[i]? = some x → ds[i]? = some d → Dd K H x d) : Dd K H (.ref a) (.list ds)
 | tup {a : Addr} {xs : List V} {ds : List Dat} (h : SqT K H a xs) (hl : xs.length = ds.length) (r : ∀ (i : Nat) x d, xs[i]? = some x → ds[i]? = some d → Dd K H x d) : Dd K H (.ref a) (.tuple ds)
theorem readsAll_of {h : Heap} : ∀ (ds : List Dat) (us : List Value), us.length = ds.length → (∀ (i : Nat) u d, us[i]? = some u → ds[i]? = some d → ∃ as, Reads h u (kqdP d) as) → ∃ as, ReadsAll h us (kqdPs ds) as
 | [], [], _, _ => ⟨_, ReadsAll.nil⟩
 | [], _ :: _, hl, _ => nomatch hl
 | _ :: _, [], hl, _ => nomatch hl
 | d :: ds, u :: us, hl, r => by
  obtain ⟨as, q⟩ := r 0 u d rfl rfl
  obtain ⟨bs, p⟩ := readsAll_of ds us (by simpa using hl) fun i u' d' e1 e2 => r (i + 1) u' d' (by simpa using e1) (by simpa using e2)
  rw [kqdPs]
  exact ⟨_, ReadsAll.cons q p⟩
section
variable {X : Cx} {pins : List (Addr × Obj)} {σ : L2.St} {H : Hp} {s : Shared}
theorem Dd.reads (I : Inv X pins σ H s) {x : V} {d : Dat} (r : Dd X.K H x d) : ∀ {u : Value}, RelV x u → ∃ as, Reads s.heap u (kqdP d) as := by
 induction r with
 | non => intro u ru; cases (show u = Value.none from ru); exact ⟨_, Reads.none⟩
 | int i => intro u ru; obtain ⟨t, e⟩ := (show ∃ t, u = Value.int i t from ru); subst e; exact ⟨_, Reads.int i t⟩
 | str x => intro u ru; obtain ⟨t, e⟩ := (show ∃ t, u = Value.str x t from ru); subst e; exact ⟨_, Reads.str x t⟩
 | @lst a xs ds h hl r ih =>
  intro u ru
  cases (show u = Value.ref a from ru)
  obtain ⟨its, rv, p, hz⟩ := I.list h
  obtain ⟨as, q⟩ := readsAll_of (h := s.heap) ds its (by rw [← rv.length]; exact hl) fun i u d e1 e2 => by
   have hi : i < xs.length := by rw [hl]; exact (List.getElem?_eq_some_iff.mp e2).1
   obtain ⟨u', e3, ru'⟩ := rv.get (i := i) (x := xs[i]) (by simp [hi])
   rw [e1] at e3
   cases e3
   exact ih i xs[i] d (by simp [hi]) e2 ru'
  obtain ⟨o, ho, hc, n, hd⟩ := p.isList
  rw [kqdP]
  exact ⟨_, reads_list_at ho hc hd (by simpa using q)⟩
 | @tup a xs ds h hl r ih =>
  intro u ru
  cases (show u = Value.ref a from ru)
  obtain ⟨its, rv, p, hz⟩ := I.tuple h
  obtain ⟨as, q⟩ := readsAll_of (h := s.heap) ds its (by rw [← rv.length]; exact hl) fun i u d e1 e2 => by
   have hi : i < xs.length := by rw [hl]; exact (List.getElem?_eq_some_iff.mp e2).1
   obtain ⟨u', e3, ru'⟩ := rv.get (i := i) (x := xs[i]) (by simp [hi])
   rw [e1] at e3
   cases e3
   exact ih i xs[i] d (by simp [hi]) e2 ru'
  obtain ⟨o, ho, hc, n, hd⟩ := p
  rw [kqdP]
  exact ⟨_, reads_tuple_at ho hc hd (by simpa using q)⟩
theorem shaped_of {d : Dat} (h : kqdOk 9 d = true) : SeqAt.shaped (kqdP d) = true := by
 have l := kqd_lay 9 d h
 unfold SeqAt.shaped
 rw [l.1, Bool.true_and]
 exact decide_eq_true (Nat.le_trans l.2 (by decide))
open Classical in
theorem eqv_of {d e : Dat} (h : kqdOk 9 d = true) (h' : kqdOk 9 e = true) : PyData.eqv (kqdP d) (kqdP e) = decide (d = e) := by
 have q := kqd_eqv 9 d e 9 h h'
 by_cases hq : d = e
 ·rw [decide_eq_true hq]; exact q.mpr hq
 ·rw [decide_eq_false hq]; exact Bool.eq_false_iff.mpr fun x => hq (q.mp x)
def rEqD (K : PySem.W.Frag) : R2 := fun x y H Q => ∃ d e, Dd K H x d ∧ Dd K H y e ∧ kqdOk 9 d = true ∧ kqdOk 9 e = true ∧ (d = e → Q (.bl true) H) ∧ (d ≠ e → Q (.bl false) H)
def rNeD (K : PySem.W.Frag) : R2 := fun x y H Q => ∃ d e, Dd K H x d ∧ Dd K H y e ∧ kqdOk 9 d = true ∧ kqdOk 9 e = true ∧ (d = e → Q (.bl false) H) ∧ (d ≠ e → Q (.bl true) H)
open Classical in
theorem op_eqD (hu : X.A.units + 64 < cLine) : OpR X (compareOp .Eq) (rEqD X.K) := by
 intro pins s σ H x y v u Q I rx ry h
 obtain ⟨d, e, dx, dy, hd, he, q1, q2⟩ := h
 obtain ⟨as, ra⟩ := dx.reads I rx
 obtain ⟨bs, rb⟩ := dy.reads I ry
 refine eq_dataH ra rb (shaped_of hd) (shaped_of he) hu ?_
 rw [eqv_of hd he]
 by_cases hq : d = e
 ·rw [decide_eq_true hq]; exact ⟨.bl true, H, I, rfl, q1 hq⟩
 ·rw [decide_eq_false hq]; exact ⟨.bl false, H, I, rfl, q2 hq⟩
open Classical in
theorem op_neD (hu : X.A.units + 64 < cLine) : OpR X (compareOp .NotEq) (rNeD X.K) := by
 intro pins s σ H x y v u Q I rx ry h
 obtain ⟨d, e, dx, dy, hd, he, q1, q2⟩ := h
 obtain ⟨as, ra⟩ := dx.reads I rx
 obtain ⟨bs, rb⟩ := dy.reads I ry
 refine ne_dataH ra rb (shaped_of hd) (shaped_of he) hu ?_
 rw [eqv_of hd he]
 by_cases hq : d = e
 ·rw [decide_eq_true hq]; exact ⟨.bl false, H, I, rfl, q1 hq⟩
 ·rw [decide_eq_false hq]; exact ⟨.bl true, H, I, rfl, q2 hq⟩
end
def Ite (K : PySem.W.Frag) (a : Addr) : It :=
 ⟨fun i H => ∃ xs x, SqL K H a xs ∧ xs[i]? = some x, fun i H x H' => ∃ p v, H p = none ∧ x = .ref p ∧ H' = upd H p (.tup [.int i, v]) ∧ ∀ xs, SqL K H a xs → xs[i]? = some v, fun i H => ∃ xs, SqL K H a xs ∧ xs.length ≤ i⟩
theorem turn_enum {P : Program} {w : World} {K : PySem.W.Frag} {elts : List Expr} {k : Nat} {pos : Pos} (a e it : Addr) (hei : e ≠ it) :
  Turn P w K (.Tuple elts k pos) (Ite K a) [e, it] e (fun i h => (∃ old, IsEnum h e it (i : Nat) old) ∧ h.IsListIter it a i) where
 mem := by simp
 obj := fun i h st b hb => by
  obtain ⟨⟨old, he⟩, o, ho, c, d⟩ := st
  rcases List.mem_cons.mp hb with rfl | hb
  ·exact ⟨_, he, fun v z => by
    have z' : Data.fields _ = Data.cell v := z
    cases z'⟩
  ·have e : b = it := by simpa using hb
   subst e
   exact ⟨o, ho, fun v z => by rw [d] at z; cases z⟩
 keep := fun i h h' st k => ⟨let ⟨old, he⟩ := st.1; ⟨old, k e (by simp) _ he⟩, st.2.at fun o q => k it (by simp) o q⟩
 item := by
  intro X hP hw hK hc i pins s σ H E I hf st hg
  subst hP hw hK
  obtain ⟨⟨old, he⟩, hit⟩ := st
  obtain ⟨xs, x, hq, hx⟩ := hg
  obtain ⟨its, rv, p, hz⟩ := I.list hq
  obtain ⟨u, hu, ru⟩ := rv.get hx
  have fe := hf e (by simp)
  have fi := hf it (by simp)
  refine wpAny_pyNext_enum_item he hit p.isList (x := u) (by simpa using hu) hei fun h1 heo hit1 ht1 hsz1 hk1 => ?_
  refine ⟨_, rfl, ?_⟩
  refine wpAny_letOwnedTupleGo_enum (s := { s with heap := h1, toks := s.toks + 1 }) heo fun h2 he2 hs2 => ?_
  have hel : e < s.heap.objs.size := Heap.lt_size he
  have hpn : H s.heap.objs.size = none := I.hok.fresh (Nat.le_refl _)
  have hs2' : Heap.SameBut e h1 h2 := hs2
  have kk : ∀ b o, b ≠ e → b ≠ it → s.heap.get? b = some o → h2.get? b = some o := fun b o h3 h4 q => (hs2'.2 b h3).trans (hk1 b o h3 h4 q)
  have ht2 : h2.get? s.heap.objs.size = some { cls := .type "tuple", data := .seq #[.int i s.toks, u] } := (hs2'.2 _ (Nat.ne_of_gt hel)).trans ht1
  have nit : ∀ b o, H b = some o → b ≠ e ∧ b ≠ it := fun b o q => ⟨fun z => (by rw [z, fe.1] at q; cases q), fun z => (by rw [z, fi.1] at q; cases q)⟩
  have ok2 : HOk X.prog X.w (upd H s.heap.objs.size (.tup [.int i, x])) h2 := fun b o q => by
   by_cases hb : b = s.heap.objs.size
   ·subst hb
    rw [upd_same] at q
    cases q
    exact ⟨by show 2 ≤ sizeLine; decide, [.int i s.toks, u], .cons ⟨_, rfl⟩ (.cons ru .nil), _, ht2, rfl, _, rfl⟩
   ·rw [upd_ne hb] at q
    refine (I.hok b o q).stay (fun c v hc' r => ?_) (fun c r => by rw [upd_ne (ne_of_none r hpn)]; exact r) fun c ys r => by rw [upd_ne (ne_of_none r hpn)]; exact r
    rcases hc' with rfl | r'
    ·exact kk c v (nit c o q).1 (nit c o q).2 r
    ·exact kk c v (nit c _ r').1 (nit c _ r').2 r
  have old' : ∀ b o, s.heap.get? b = some o → b ≠ s.heap.objs.size := fun b o q => Nat.ne_of_lt (Heap.lt_size q)
  have I2 : Inv X pins σ (upd H s.heap.objs.size (.tup [.int i, x])) { s with heap := h2, toks := s.toks + 1 } :=
   I.step (g' := s.gens) (d' := s.drawn) (ch := [e, it]) (fun b hb => by
    rcases List.mem_cons.mp hb with rfl | hb
    ·exact ⟨fe.2.2.2.1, fe.2.1, fe.2.2.2.2.1, fe.2.2.2.2.2⟩
    ·have z : b = it := by simpa using hb
     subst z
     exact ⟨fi.2.2.2.1, fi.2.1, fi.2.2.2.2.1, fi.2.2.2.2.2⟩)
    (fun b o _ _ hc' q _ => kk b o (fun z => hc' (by simp [z])) (fun z => hc' (by simp [z])) q)
    (fun b o _ _ hc' q _ => ⟨o.slots, kk b o (fun z => hc' (by simp [z])) (fun z => hc' (by simp [z])) q⟩)
    (fun b o _ q n => by rw [upd_ne (old' b o q)]; exact n)
    (fun b o hc' q => ⟨o, kk b o (fun z => hc' (by simp [z])) (fun z => hc' (by simp [z])) q⟩)
    (fun b ys r => by rw [upd_ne (ne_of_none r hpn)]; exact r) (fun b o ys r => by rw [upd_ne (ne_of_none r hpn)]; exact r)
    (fun b ps r => ⟨#[], by rw [upd_ne (ne_of_none r hpn), r]; simp⟩)
    (fun m hm => by
     obtain ⟨o, es, ep, ho, r⟩ := hm
     exact ⟨o, es, ep, kk _ o (Ne.symm fe.2.1) (Ne.symm fi.2.1) ho, r⟩) ok2 I.bare
  refine ⟨.ref s.heap.objs.size, _, I2, rfl, ⟨_, x, hpn, rfl, rfl, fun ys hy => by rw [I.list_inj hy hq]; exact hx⟩, ⟨⟨u, by simpa using he2⟩, hit1.at fun o q => (hs2'.2 it (Ne.symm hei)).trans q⟩, fun b hb => ?_⟩
  rcases List.mem_cons.mp hb with rfl | hb
  ·rw [upd_ne (Nat.ne_of_lt hel)]; exact fe.1
  ·have z : b = it := by simpa using hb
   subst z
   obtain ⟨o, ho, _⟩ := hit
   rw [upd_ne (Nat.ne_of_lt (Heap.lt_size ho))]; exact fi.1
 done := by
  intro X hP hw hK hc i pins s σ H E I hf st hg
  subst hP hw hK
  obtain ⟨⟨old, he⟩, hit⟩ := st
  obtain ⟨xs, hq, hx⟩ := hg
  obtain ⟨its, rv, p, hz⟩ := I.list hq
  obtain ⟨f0, f1, f2, f3, f4, f5⟩ := hf it (by simp)
  have hl := rv.length
  exact wpAny_pyNext_enum_end (I.ok.hd hc) he hit p.isList (by simp; omega) fun h' eb => ⟨rfl, I.turned (t' := s.toks) (fun b o hb q => eb b o hb q) f0 f1 f3 f4 f5⟩
 self := fun _ _ _ _ _ st h => let ⟨_, he⟩ := st.1; wpAny_pyIter_enum he h
section
variable {X : Cx} {elts : List Expr} {k : Nat} {tp : Pos}
def iEnum (K : PySem.W.Frag) (ta : TA) : TI := fun σ H R => ta σ H fun vs H1 => ∃ a, vs = [.ref a] ∧ (∃ xs, SqL K H1 a xs) ∧ R (Ite K a) H1
theorem pi_enum {a : Expr} {ta : TA} {p pos : Pos} (hg : Gl X "enumerate") (hm : X.mg "enumerate" = none) (ha : PA X [a] ta) (hs : starEach [a] X.env = [(false, eval a X.env)] := by rfl) :
  PI X (.Tuple elts k tp) (.Call (.Name "enumerate" p) [a] [] pos) (iEnum X.K ta) := by
 intro pins s σ H R I h
 refine Call_ (ld_blt I hg hm boot_enumerate (PyProof.Rows.callWith_type1 (thn (ha pos pins s σ H _ I h) fun us s1 ⟨vs, H1, I1, r1, q1⟩ => ?_) hs rfl))
 obtain ⟨a, e, ⟨xs, hq⟩, q⟩ := q1
 subst e
 cases r1 with
 | cons r rr =>
  cases rr
  cases r
  obtain ⟨its, rv, pl, hz⟩ := I1.list hq
  refine call_enumerate_list pl.isList fun h' he hit hsz hk => ?_
  refine wpAny_pyIter_enum (s := { s1 with heap := h' }) he ?_
  refine ⟨s1.heap.objs.size + 1, [s1.heap.objs.size + 1, s1.heap.objs.size], _, Ite X.K a, H1, rfl, I1.kept (t' := s1.toks) hk, turn_enum a _ _ (Nat.succ_ne_self _), ⟨⟨_, he⟩, hit⟩, fun b hb => ?_, q⟩
  rcases List.mem_cons.mp hb with rfl | hb
  ·exact I1.fpOk (Nat.le_succ _) (I1.hok.fresh (Nat.le_succ _))
  ·have z : b = s1.heap.objs.size := by simpa using hb
   subst z
   exact I1.fpOk (Nat.le_refl _) (I1.hok.fresh (Nat.le_refl _))
end
theorem for_enum {K : PySem.W.Frag} {a : Addr} {xs : List V} {g : TG} {tb : TS} {D : Ends} {σ : L2.St} {H : Hp} (Pv : Nat → L2.St → Hp → Prop) (h0 : Pv 0 σ H) (hl : ∀ i σ H, i ≤ xs.length → Pv i σ H → SqL K H a xs)
  (hs : ∀ i x σ H p, xs[i]? = some x → Pv i σ H → H p = none → g (.ref p) σ (upd H p (.tup [.int (i : Nat), x])) fun σ2 H2 => tb { D with nx := Pv (i + 1), ct := Pv (i + 1), bk := D.nx } σ2 H2) (hd : ∀ σ H, Pv xs.length σ H → D.nx σ H) :
  ∃ W : Nat → Nat → L2.St → Hp → Prop, (∃ m, W 0 m σ H) ∧ ∀ i m σ H, W i m σ H →
   ((Ite K a).stop i H ∧ D.nx σ H) ∨ ((Ite K a).go i H ∧ ∃ N : L2.St → Hp → Prop, (∀ σ' H', N σ' H' → ∃ m', m' < m ∧ W (i + 1) m' σ' H') ∧ ∀ x H', (Ite K a).yld i H x H' → g x σ H' fun σ2 H2 => tb { D with nx := N, ct := N, bk := D.nx } σ2 H2) := by
 refine ⟨fun i m σ H => m = xs.length - i ∧ i ≤ xs.length ∧ Pv i σ H, ⟨xs.length, by simp, Nat.zero_le _, h0⟩, ?_⟩
 rintro i m σ H ⟨rfl, hi, p⟩
 have q := hl i σ H hi p
 by_cases hlt : i < xs.length
 ·refine .inr ⟨⟨xs, xs[i], q, by simp [hlt]⟩, Pv (i + 1), fun σ' H' p' => ⟨xs.length - (i + 1), by omega, rfl, hlt, p'⟩, fun x H' y => ?_⟩
  obtain ⟨b, v, hb, rfl, rfl, hv⟩ := y
  exact hs i v σ _ b (hv xs q) p hb
 ·have e : i = xs.length := by omega
  subst e
  exact .inl ⟨⟨xs, q, Nat.le_refl _⟩, hd σ H p⟩
end TX
namespace TX
open PySem PySem.Spec PyProof.Rows L2
theorem closure_ok {scope : Scope} {env : Env} (h : ∀ y ∈ scope.names, y.2 = .free → ∃ c, env.cells.lookup y.1 = some c) :
  ∃ cl, closureFor scope env = pure cl ∧ (∀ n c, cl.lookup n = some c → env.cells.lookup n = some c) ∧ (∀ y ∈ scope.names, y.2 = .free → ∃ c, cl.lookup y.1 = some c) := by
 have go : ∀ (names : List (Str × NameKind)) (cs : List (Str × Addr)), (∀ y ∈ names, y.2 = .free → ∃ c, env.cells.lookup y.1 = some c) → (∀ n c, cs.lookup n = some c → env.cells.lookup n = some c) →
   ∃ cl, (forIn names cs fun (x : Str × NameKind) (r : List (Str × Addr)) => if (x.snd == NameKind.free) = true then do let c ← cellOf env x.fst; pure (ForInStep.yield ((x.fst, c) :: r)) else pure (ForInStep.yield r)) = (pure cl : Sem (List (Str × Addr))) ∧
    (∀ n c, cl.lookup n = some c → env.cells.lookup n = some c) ∧ (∀ n c, cs.lookup n = some c → cl.lookup n = some c) ∧ (∀ y ∈ names, y.2 = .free → ∃ c, cl.lookup y.1 = some c) := by
  intro names
  induction names with
  | nil => intro cs _ hc; exact ⟨cs, rfl, hc, fun _ _ z => z, fun _ z => nomatch z⟩
  | cons x xs ih =>
   obtain ⟨n, k⟩ := x
   intro cs hn hc
   simp only [List.forIn_cons]
   by_cases hk : (k == NameKind.free) = true
   ·have hk' : k = .free := by simpa using hk
    obtain ⟨c, e⟩ := hn (n, k) List.mem_cons_self hk'
    have e' : cellOf env n = pure c := by unfold cellOf; rw [show env.cells.lookup n = some c from e]
    obtain ⟨cl, h1, h2, h3, h4⟩ := ih ((n, c) :: cs) (fun y hy => hn y (List.mem_cons_of_mem _ hy)) fun m d q => by
     rw [List.lookup_cons] at q
     cases hm : m == n with
     | true => rw [hm] at q; cases q; rw [eq_of_beq hm]; exact e
     | false => rw [hm] at q; exact hc m d q
    refine ⟨cl, ?_, h2, fun m d q => ?_, fun y hy hf => ?_⟩
    ·rw [if_pos hk, e']
     exact h1
    ·cases hm : m == n with
     | true =>
      have q1 := h3 n c (by simp)
      have q2 := h2 n c q1
      have q3 := hc m d q
      rw [eq_of_beq hm] at q3 ⊢
      rw [q1, ← q2, q3]
     | false => exact h3 m d (by rw [List.lookup_cons, hm]; exact q)
    ·rcases List.mem_cons.mp hy with rfl | hy
     ·exact ⟨c, h3 _ c (by simp)⟩
     ·exact h4 y hy hf
   ·obtain ⟨cl, h1, h2, h3, h4⟩ := ih cs (fun y hy => hn y (List.mem_cons_of_mem _ hy)) hc
    refine ⟨cl, ?_, h2, h3, fun y hy hf => ?_⟩
    ·rw [if_neg hk]
     exact h1
    ·rcases List.mem_cons.mp hy with rfl | hy
     ·exact absurd (by rw [show k = NameKind.free from hf]; rfl) hk
     ·exact h4 y hy hf
 obtain ⟨cl, h1, h2, _, h4⟩ := go scope.names [] h (fun _ _ z => nomatch z)
 refine ⟨cl, ?_, h2, h4⟩
 have e : closureFor scope env = (forIn scope.names ([] : List (Str × Addr)) fun (x : Str × NameKind) (r : List (Str × Addr)) => if (x.snd == NameKind.free) = true then do let c ← cellOf env x.fst; pure (ForInStep.yield ((x.fst, c) :: r)) else pure (ForInStep.yield r)) >>= fun r => pure r := rfl
 rw [e, h1]
 rfl
theorem lookup_mem' {α : Type} {x : Str} {v : α} : ∀ {l : List (Str × α)}, l.lookup x = some v → (x, v) ∈ l
 | [], h => nomatch h
 | (n, k) :: r, h => by
  rw [List.lookup_cons] at h
  cases hx : x == n with
  | true => rw [hx] at h; cases h; rw [eq_of_beq hx]; exact List.mem_cons_self
  | false => rw [hx] at h; exact List.mem_cons_of_mem _ (lookup_mem' h)
theorem relabel_free {scope : Scope} {env : Env} {x : Str} (hcell : ∀ y ∈ scope.names, y.2 ≠ .cell) (h : (relabel scope env).names.lookup x = some .cell ∨ (relabel scope env).names.lookup x = some .free) : (x, NameKind.free) ∈ scope.names := by
 have go : ∀ (names : List (Str × NameKind)), (∀ y ∈ names, y.2 ≠ .cell) → ∀ k', (names.map fun (n, k) => if (k == NameKind.free && env.scope.kind == .function && env.kindOf n == some .cell) then (n, NameKind.cell) else (n, k)).lookup x = some k' → (k' = .cell ∨ k' = .free) → (x, NameKind.free) ∈ names := by
  intro names
  induction names with
  | nil => intro _ _ h; exact nomatch h
  | cons y r ih =>
   obtain ⟨n, k⟩ := y
   intro hc k' h hk
   have h' : List.lookup x ((if (k == NameKind.free && env.scope.kind == .function && env.kindOf n == some .cell) = true then (n, NameKind.cell) else (n, k)) :: (r.map fun (n, k) => if (k == NameKind.free && env.scope.kind == .function && env.kindOf n == some .cell) then (n, NameKind.cell) else (n, k))) = some k' := h
   by_cases hq : (k == NameKind.free && env.scope.kind == .function && env.kindOf n == some .cell) = true
   ·rw [if_pos hq, List.lookup_cons] at h'
    have hkf : k = .free := by
     have := hq
     simp only [Bool.and_eq_true] at this
     simpa using this.1.1
    cases hx : x == n with
    | true => rw [eq_of_beq hx, hkf]; exact List.mem_cons_self
    | false => rw [hx] at h'; exact List.mem_cons_of_mem _ (ih (fun y hy => hc y (List.mem_cons_of_mem _ hy)) k' h' hk)
   ·rw [if_neg hq, List.lookup_cons] at h'
    cases hx : x == n with
    | true =>
     rw [hx] at h'
     cases h'
     rcases hk with rfl | rfl
     ·exact absurd rfl (hc _ List.mem_cons_self)
     ·rw [eq_of_beq hx]; exact List.mem_cons_self
    | false => rw [hx] at h'; exact List.mem_cons_of_mem _ (ih (fun y hy => hc y (List.mem_cons_of_mem _ hy)) k' h' hk)
 rcases h with h | h
 ·exact go _ hcell _ h (.inl rfl)
 ·exact go _ hcell _ h (.inr rfl)
theorem relabel_of_free {scope : Scope} {env : Env} {x : Str} (h : scope.names.lookup x = some .free) : (relabel scope env).names.lookup x = some .cell ∨ (relabel scope env).names.lookup x = some .free := by
 have go : ∀ (names : List (Str × NameKind)), names.lookup x = some .free → (names.map fun (n, k) => if (k == NameKind.free && env.scope.kind == .function && env.kindOf n == some .cell) then (n, NameKind.cell) else (n, k)).lookup x = some .cell ∨ (names.map fun (n, k) => if (k == NameKind.free && env.scope.kind == .function && env.kindOf n == some .cell) then (n, NameKind.cell) else (n, k)).lookup x = some .free := by
  intro names
  induction names with
  | nil => intro h; exact nomatch h
  | cons y r ih =>
   obtain ⟨n, k⟩ := y
   intro h
   show List.lookup x ((if (k == NameKind.free && env.scope.kind == .function && env.kindOf n == some .cell) = true then (n, NameKind.cell) else (n, k)) :: _) = _ ∨ List.lookup x ((if (k == NameKind.free && env.scope.kind == .function && env.kindOf n == some .cell) = true then (n, NameKind.cell) else (n, k)) :: _) = _
   rw [List.lookup_cons] at h
   by_cases hq : (k == NameKind.free && env.scope.kind == .function && env.kindOf n == some .cell) = true
   ·rw [if_pos hq, List.lookup_cons]
    cases hx : x == n with
    | true => exact .inl rfl
    | false => rw [hx] at h; exact ih h
   ·rw [if_neg hq, List.lookup_cons]
    cases hx : x == n with
    | true => rw [hx] at h; exact .inr h
    | false => rw [hx] at h; exact ih h
 exact go _ h
def subSt (σ : L2.St) (ixs : List (Option Nat)) : L2.St := ixs.map fun o => o.bind fun i => (σ[i]?).join
def Kps (σ σ' : L2.St) : Prop := σ'.length = σ.length ∧ ∀ (k : Nat) v, σ[k]? = some (some v) → σ'[k]? = some (some v)
theorem Kps.own {r : L2.St} {v : V} : Kps (none :: r) (some v :: r) := ⟨rfl, fun k u h => by
 cases k with
 | zero => cases h
 | succ k => simpa using h⟩
abbrev cxC (X : Cx) (N' : List Str) (scope : Scope) (cl : List (Str × Addr)) (C : Addr) (fp : List Addr) (s₂ : Shared) (H₂ : Hp) : Cx where
 prog := X.prog
 w := X.w
 K := X.K
 mg := X.mg
 base := X.base
 A := X.A
 N := N'
 s₀ := s₂
 H₀ := H₂
 env := compEnvC scope cl C X.env
 outer := X.stack
 stack := X.stack
 ex := fp
 fn := fun _ => false
 calm := X.calm
 pn := X.pn
 xe := fun _ _ => False
def PTs (X : Cx) (ifs : List Expr) (t : TT) : Prop :=
 ∀ (pins : List (Addr × Obj)) (s : Shared) (σ : L2.St) (H : Hp) (Q : Bool → Hp → Prop), Inv X pins σ H s → t σ H Q →
  wpAny (model X.prog X.w) X.A (forIn ifs true fun c r => if r = true then do let ok ← isTrue c X.env (eval c X.env); pure (ForInStep.yield ok) else pure (ForInStep.yield r)) (TP X pins σ Q) X.xe s
def tYes : TT := fun _ H Q => Q true H
theorem pts_nil {X : Cx} : PTs X [] tYes := fun _ _ _ H _ I h => wpAny_tests_nil ⟨H, I, h⟩
theorem pts_one {X : Cx} {c : Expr} {t : TT} (h : PT X c t) : PTs X [c] t := fun pins s σ H Q I q => wpAny_tests_one (h pins s σ H Q I q)
def tComp (ixs : List (Option Nat)) (wi : TI) (g : TG) (tc : TT) (te : TE) : TE := fun σ H Q => wi σ H fun J H1 => ∃ W : Nat → Nat → List V → Hp → Prop, (∃ m, W 0 m [] H1) ∧ ∀ i m ys H, W i m ys H →
 (J.stop i H ∧ ∀ p, H p = none → Q (.ref p) (upd H p (.lst ys))) ∨
 (J.go i H ∧ ys.length < sizeLine ∧ ∀ x H', J.yld i H x H' → g x (subSt σ ixs) H' fun σ2 H2 => Kps (subSt σ ixs) σ2 ∧ tc σ2 H2 fun b H3 =>
  if b = true then te σ2 H3 fun y H4 => ∃ m', m' < m ∧ W (i + 1) m' (ys ++ [y]) H4 else ∃ m', m' < m ∧ W (i + 1) m' ys H3)
section
variable {prog : Program} {w : World} {A : Around} {R : Result → Shared → Prop} {s : Shared}
theorem compLoop_any {elt target iter : Expr} {ifs : List Expr} {scope : Scope} {pos : Pos} {it acc : Value} {env : Env} (I : Nat → Shared → Prop)
  (turn : ∀ n s, I n s → wpAny (model prog w) A (pyNext it) (fun r s₁ => match r with
   | none => R (.ok .next) s₁
   | some v => wpAny (model prog w) A (letOwnedTupleGo target it v) (fun _ s' => wpAny (model prog w) A (assign target env v) (fun _ s₂ =>
     wpAny (model prog w) A (forIn ifs true fun c r => if r = true then do let ok ← isTrue c env (eval c env); pure (ForInStep.yield ok) else pure (ForInStep.yield r)) (fun ok s₃ =>
      if ok = true then wpAny (model prog w) A (eval elt env) (fun x s₄ =>
       wpAny (model prog w) A (call (.builtin "list.append") [acc, x]) (fun _ s₅ => ∃ m, m < n ∧ I m s₅) (fun _ _ => False) s₄) (fun _ _ => False) s₃
      else ∃ m, m < n ∧ I m s₃) (fun _ _ => False) s₂) (fun _ _ => False) s') (fun _ _ => False) s₁) (fun _ _ => False) s)
  (n : Nat) (h : I n s) : codeAny (model prog w) A (.compLoop (.ListComp elt [⟨target, iter, ifs, 0⟩] scope pos) 0 it acc env) R s := by
 refine codeAny_loop rfl I (fun n s hI => ?_) n h
 show wpAny _ A ((compTurn (.ListComp elt [⟨target, iter, ifs, 0⟩] scope pos) 0 it acc env).onRaise (fun x => do noteFrame x env; theTreesLotGoes x)) _ _ s
 refine wpAny_noted ?_
 rw [compTurn_list]
 refine wpAny_bind (wpAny_standAt (wpAny_bind (wpAny_mono (turn n s hI) (fun r s₁ h₁ => ?_) fun _ _ f => f.elim)))
 cases r with
 | none => exact wpAny_pure h₁
 | some v =>
  refine wpAny_bind (wpAny_mono h₁ (fun _ s' h' => ?_) fun _ _ f => f.elim)
  refine wpAny_bind (wpAny_mono h' (fun _ s₂ h₂ => wpAny_bind (wpAny_mono h₂ (fun ok s₃ h₃ => ?_) fun _ _ f => f.elim)) fun _ _ f => f.elim)
  cases ok with
  | false => exact wpAny_pure ⟨rfl, h₃⟩
  | true =>
   exact wpAny_bind (wpAny_bind (wpAny_mono h₃ (fun x s₄ h₄ => wpAny_bind (wpAny_mono h₄ (fun _ s₅ h₅ => wpAny_pure (wpAny_pure ⟨rfl, h₅⟩)) fun _ _ f => f.elim)) fun _ _ f => f.elim))
end
section
variable {X : Cx} {pins : List (Addr × Obj)} {σ : L2.St} {H : Hp} {s : Shared}
theorem Inv.cxOk {N' : List Str} {scope : Scope} {cl : List (Str × Addr)} {C : Addr} {fp : List Addr} (I : Inv X pins σ H s) (hf : ∀ b ∈ fp, FpOk X pins H b) (hob : ∀ b ∈ fp, b < s.heap.objs.size) (hC : s.heap.objs.size ≤ C)
  (hcl : ∀ n c, cl.lookup n = some c → X.env.cells.lookup n = some c) (hcl2 : ∀ y ∈ scope.names, y.2 = .free → ∃ c, cl.lookup y.1 = some c) (hkind : scope.kind = .function) (hcell : ∀ y ∈ scope.names, y.2 ≠ .cell) :
  (cxC X N' scope cl C fp s H).Ok where
 mod := I.mod
 kind := hkind
 glob := I.ok.glob
 blt := I.ok.blt
 above := hC
 inj := fun x y c e1 e2 => I.ok.inj x y c (hcl x c e1) (hcl y c e2)
 has := fun x h => hcl2 _ (relabel_free hcell h) rfl
 cab := fun _ _ h => nomatch h
 hd := I.ok.hd
 frames := I.ok.frames
 stk := .inl rfl
 exf := fun b hb => ⟨Nat.ne_of_lt (Nat.lt_of_lt_of_le (hob b hb) hC), fun x c e => (hf b hb).2.2.2.2.1 x c (hcl x c e)⟩
 bs := I.bs
 bsz := Nat.le_trans I.ok.bsz I.sz
 noex := fun b o e hb => by
  rcases (hf b hb).2.2.2.1 with z | z
  ·exact I.ok.noex b o e z
  ·exact absurd (Nat.lt_of_lt_of_le (Heap.lt_size e) (Nat.le_trans I.ok.bsz z)) (Nat.lt_irrefl _)
 exfs := fun b hb z => by
  rcases List.mem_cons.mp (I.stkSub b z) with e | z
  ·exact (hf b hb).2.1 e
  ·exact (hf b hb).2.2.1 z
 funs := I.stack
 frf := I.stkFree
theorem comp_core {target iter elt : Expr} {ifs : List Expr} {scope : Scope} {pos p2 : Pos} {N' : List Str} {ixs : List (Option Nat)} {wi : TI} {g : TG} {tc : TT} {te : TE} {use : Option (Value → Sem Unit)} {Qf : Value → Shared → Prop} {Q : VK}
  (hc : X.calm = true) (hi : PI X target iter wi)
  (hg : ∀ cl C fp s₂ H₂, PG (cxC X N' scope cl C fp s₂ H₂) target g)
  (hts : ∀ cl C fp s₂ H₂, PTs (cxC X N' scope cl C fp s₂ H₂) ifs tc)
  (he : ∀ cl C fp s₂ H₂, PE (cxC X N' scope cl C fp s₂ H₂) elt te)
  (hkind : scope.kind = .function) (hcell : ∀ y ∈ scope.names, y.2 ≠ .cell) (hnames : ∀ y ∈ scope.names, y.2 = .local → scope.names.lookup y.1 = some .local)
  (hfree : ∀ y ∈ scope.names, y.2 = .free → X.env.kindOf y.1 = some .cell ∨ X.env.kindOf y.1 = some .free)
  (hlen : N'.length = ixs.length) (hix : ∀ (k i : Nat) (y : Str), N'[k]? = some y → ixs[k]? = some (some i) → X.N[i]? = some y ∧ scope.names.lookup y = some .free)
  (hs : ∀ x, foldedSetIterable iter X.env x = pure x) (I : Inv X pins σ H s) (h : tComp ixs wi g tc te σ H Q)
  (fin : ∀ (C D : Addr) (oC : Obj) (m : Str → Option Value) (H' : Hp) (s' : Shared), Inv X (pins ++ [(C, oC)]) σ H' s' → (∀ h : Heap, h.get? C = some oC → h.Ns C m) → C ≠ D → (C ∈ X.ex ∨ X.s₀.heap.objs.size ≤ C) → (∀ x c, X.env.cells.lookup x = some c → c ≠ C) →
   (∀ p ∈ X.pn ++ pins, p.1 ≠ C) → Q (.ref D) H' → compPost (model X.prog X.w) X.A X.xe use Qf (.ref D) C (.ok .next) s') :
  wpAny (model X.prog X.w) X.A (comprehension (.ListComp elt [⟨target, iter, ifs, 0⟩] scope pos) scope X.env p2 (newList []) false (eval iter X.env) use) Qf X.xe s := by
 obtain ⟨cl, hclos, hcl, hcl2⟩ := closure_ok (scope := scope) (env := X.env) fun y hy hf => I.ok.has y.1 (hfree y hy hf)
 refine wpAny_comprehension_free (g := ⟨target, iter, ifs, 0⟩) (gs := []) rfl hs hclos hkind hnames (thn (hi pins s σ H _ I h) fun xv s1 h1 => thn h1 fun itv s2 h2 => ?_)
 obtain ⟨it, fp, tn, J, H2, e, I2, T, st2, f2, W, ⟨m0, w0⟩, turn⟩ := h2
 subst e
 have hob : ∀ b ∈ fp, b < s2.heap.objs.size := fun b hb => let ⟨o, e, _⟩ := T.obj _ _ st2 b hb; Heap.lt_size e
 refine wpAny_newObj_type (wpAny_newFunctionEnv hcell (by intro y hy; simp at hy) (fun h₁ hns₁ hsb₁ => ?_) hkind)
 dsimp only at hns₁ hsb₁ ⊢
 generalize hH2 : s2.heap.push { cls := .type "list", dict := none, data := .seq ([] : List Value).toArray } = G2 at hns₁ hsb₁ ⊢
 have hC : G2.objs.size = s2.heap.objs.size + 1 := by rw [← hH2, Heap.size_push]
 have hDC : s2.heap.objs.size ≠ G2.objs.size := by rw [hC]; exact Nat.ne_of_lt (Nat.lt_succ_self _)
 have hCle : s2.heap.objs.size ≤ G2.objs.size := by rw [hC]; exact Nat.le_succ _
 generalize hCC : G2.objs.size = C at hns₁ hsb₁ hDC hCle hC ⊢
 generalize hDD : s2.heap.objs.size = D at hDC ⊢
 have hDle : s2.heap.objs.size ≤ D := Nat.le_of_eq hDD
 have below : ∀ b, b < s2.heap.objs.size → b ≠ C ∧ b ≠ D := fun b hb => ⟨Nat.ne_of_lt (Nat.lt_of_lt_of_le hb hCle), Nat.ne_of_lt (Nat.lt_of_lt_of_le hb hDle)⟩
 have old : ∀ b o, s2.heap.get? b = some o → h₁.get? b = some o := fun b o e => hsb₁.extBut b o (below b (Heap.lt_size e)).1 (Heap.get?_push_of_some _ (hH2 ▸ Heap.get?_push_of_some _ e))
 have hacc : h₁.get? D = some { cls := .type "list", data := .seq ([] : List Value).toArray } := hsb₁.extBut _ _ hDC (Heap.get?_push_of_some _ (hH2 ▸ (by rw [← hDD]; exact Heap.get?_push_size _ rfl)))
 have hCn : H2 C = none := I2.hok.fresh hCle
 have hDn : H2 D = none := I2.hok.fresh hDle
 have okX : (cxC X N' scope cl C fp s2 H2).Ok := Inv.cxOk I2 f2 hob hCle hcl hcl2 hkind hcell
 have cellLt : ∀ x c, X.env.cells.lookup x = some c → c < s2.heap.objs.size := fun x c e => let ⟨v, o, ho, _⟩ := I2.cell x c e; Heap.lt_size ho
 have notFs : ∀ b, s2.heap.objs.size ≤ b → b ∉ frs X.stack := fun b hb z => by
  rcases List.mem_cons.mp (I2.stkSub b z) with e | z
  ·exact absurd (Nat.lt_of_lt_of_le I2.lt (e ▸ hb)) (Nat.lt_irrefl _)
  ·exact I2.nofs hb z
 have pinOld : ∀ p ∈ X.pn ++ pins, p.1 < s2.heap.objs.size := fun p hp => Heap.lt_size (I2.pin p hp).1
 have pinFs : ∀ p ∈ X.pn ++ pins, p.1 ∉ frs X.stack := fun p hp z => by
  obtain ⟨_, _, n1, n2, _⟩ := I2.pin p hp
  rcases List.mem_cons.mp (I2.stkSub _ z) with e | z
  ·exact n1 e
  ·exact n2 z
 have I0 : Inv (cxC X N' scope cl C fp s2 H2) (pins ++ [(D, { cls := .type "list", data := .seq ([] : List Value).toArray })]) (subSt σ ixs) H2 { s2 with heap := h₁, toks := s2.toks + ([] : List (Str × Value)).length } := by
  refine ⟨okX, rfl, I2.bare, Un.kept old, ⟨_, hns₁, fun k y v e1 e2 e3 => ?_⟩, fun x c e => ?_, hCn, fun x c e => I2.freeC x c (hcl x c e), fun p hp => ?_, I2.hok.kept old, by unfold subSt; rw [List.length_map]; exact hlen.symm⟩
  ·unfold subSt at e2
   rw [List.getElem?_map] at e2
   cases ek : ixs[k]? with
   | none => rw [ek] at e2; cases e2
   | some o =>
    cases o with
    | none => rw [ek] at e2; cases e2
    | some i =>
     rw [ek] at e2
     have e2' : (σ[i]?).join = some v := by simpa using e2
     have e4 : σ[i]? = some (some v) := by
      cases eq : σ[i]? with
      | none => rw [eq] at e2'; cases e2'
      | some z => rw [eq] at e2'; cases z with
       | none => cases e2'
       | some z => cases e2'; rfl
     obtain ⟨hNi, hsf⟩ := hix k i y e1 ek
     have hk := hfree (y, .free) (lookup_mem' hsf) rfl
     obtain ⟨m, hn, hl⟩ := I2.loc
     have hvis : Vis X.env.scope y := by
      rcases hk with hk | hk
      ·exact .inr (.inl hk)
      ·exact .inr (.inr hk)
     obtain ⟨u, ru, lk⟩ := hl i y v hNi e4 hvis
     refine ⟨u, ru, .inr ⟨relabel_of_free hsf, ?_⟩⟩
     rcases lk with ⟨z, _⟩ | ⟨_, c, ec, zc⟩
     ·rcases hk with hk | hk <;> (rw [show X.env.kindOf y = some .local from z] at hk; cases hk)
     ·obtain ⟨c', ec'⟩ := hcl2 (y, .free) (lookup_mem' hsf) rfl
      have := hcl _ _ ec'
      rw [ec] at this
      cases this
      obtain ⟨o, ho, hd⟩ := zc
      exact ⟨c, ec', o, old _ _ ho, hd⟩
  ·obtain ⟨v, o, ho, hd⟩ := I2.cell x c (hcl x c e)
   exact ⟨v, o, old _ _ ho, hd⟩
  ·have hp' : p ∈ X.pn ++ (pins ++ [(D, { cls := .type "list", data := .seq ([] : List Value).toArray })]) := hp
   rw [← List.append_assoc] at hp'
   rcases List.mem_append.mp hp' with hp' | hp'
   ·obtain ⟨a1, a2, a3, a4, a5⟩ := I2.pin p hp'
    exact ⟨old _ _ a1, a2, (below _ (pinOld p hp')).1, pinFs p hp', a5⟩
   ·have e : p = (D, { cls := .type "list", data := .seq ([] : List Value).toArray }) := by simpa using hp'
    subst e
    exact ⟨hacc, hDn, hDC, notFs D hDle, fun v z => nomatch z⟩
 have statE : ∀ {H' : Hp} {ob : Obj}, (∀ b ∈ fp, H' b = none) → ∀ b ∈ fp, FpOk (cxC X N' scope cl C fp s2 H2) (pins ++ [(D, ob)]) H' b := fun {H' ob} hn b hb => by
  refine ⟨hn b hb, (below b (hob b hb)).1, okX.exfs b hb, .inl hb, fun x c e => (f2 b hb).2.2.2.2.1 x c (hcl x c e), fun p hp => ?_⟩
  have hp' : p ∈ X.pn ++ (pins ++ [(D, ob)]) := hp
  rw [← List.append_assoc] at hp'
  rcases List.mem_append.mp hp' with hp' | hp'
  ·exact (f2 b hb).2.2.2.2.2 p hp'
  ·have e : p = (D, ob) := by simpa using hp'
   subst e
   exact Ne.symm (below b (hob b hb)).2
 have loop : ∀ s₃ : Shared, s₃ = { s2 with heap := h₁, toks := s2.toks + ([] : List (Str × Value)).length } →
   codeAny (model X.prog X.w) X.A (.compLoop (.ListComp elt [⟨target, iter, ifs, 0⟩] scope pos) 0 (.ref it) (.ref D) (compEnvC scope cl C X.env)) (compPost (model X.prog X.w) X.A X.xe use Qf (.ref D) C) s₃ := by
  rintro s₃ rfl
  refine compLoop_any (fun n s' => ∃ (i : Nat) (ys : List V) (us : List Value) (c : Nat) (H' : Hp), Inv (cxC X N' scope cl C fp s2 H2) (pins ++ [(D, { cls := .type "list", data := .seq us.toArray c })]) (subSt σ ixs) H' s' ∧
    tn i s'.heap ∧ (∀ b ∈ fp, H' b = none) ∧ Vals ys us ∧ ys.length ≤ sizeLine ∧ W i n ys H') ?_ m0 ⟨0, [], [], _, H2, I0, T.keep _ _ _ st2 fun b _ o e => old b o e, fun b hb => (f2 b hb).1, .nil, Nat.zero_le _, w0⟩
  rintro n s3 ⟨i, ys, us, c, H3, I3, st3, fr3, rv3, hz3, w3⟩
  rcases turn i n ys H3 w3 with ⟨stop, qn⟩ | ⟨go, hz, step⟩
  ·refine thn (T.done (cxC X N' scope cl C fp s2 H2) rfl rfl rfl hc i _ s3 _ H3 (fun _ _ => False) I3 (statE fr3) st3 stop) fun r s4 ⟨hr, I4⟩ => ?_
   subst hr
   obtain ⟨p1, p2, p3, p4, p5⟩ := I4.pin (D, { cls := .type "list", data := .seq us.toArray c }) (List.mem_append_right _ (List.mem_append_right _ (by simp)))
   obtain ⟨m, hnC, _⟩ := I4.loc
   obtain ⟨oC, es, ep, eC, dC, rC⟩ := id hnC
   have HDn : H3 D = none := p2
   have HCn : H3 C = none := I4.free
   have u4 : Un (frs X.stack) fp H2 H3 s2.heap s4.heap := I4.base
   have u5 : Un (frs X.stack) fp H2 (upd H3 D (.lst ys)) s2.heap s4.heap := by
    have nD : ∀ b o, s2.heap.get? b = some o → b ≠ D := fun b o e => (below b (Heap.lt_size e)).2
    have nH : ∀ b o, H2 b = some o → b ≠ D := fun b o e => (below b (I2.hok.lt e)).2
    exact ⟨u4.keep, u4.slot, fun b o e n hx => by rw [upd_ne (nD b o e)]; exact u4.free b o e n hx, u4.there, fun b xs e => by rw [upd_ne (nH b _ e)]; exact u4.tups b xs e,
     fun b o xs e => by rw [upd_ne (nH b _ e)]; exact u4.frzs b o xs e, fun b ps e => by rw [upd_ne (nH b _ e)]; exact u4.tbls b ps e⟩
   have ok5 : HOk X.prog X.w (upd H3 D (.lst ys)) s4.heap := fun b o q => by
    by_cases hb : b = D
    ·subst hb
     rw [upd_same] at q
     cases q
     exact ⟨hz3, us, c, rv3, p1⟩
    ·rw [upd_ne hb] at q
     exact (I4.hok b o q).stay (fun c v _ r => r) (fun c r => by rw [upd_ne (ne_of_none r HDn)]; exact r) fun c xs r => by rw [upd_ne (ne_of_none r HDn)]; exact r
   have I5 : Inv X pins σ (upd H3 D (.lst ys)) s4 := I2.call' I4.os u5 ok5 I4.bare fun b hb => ⟨(f2 b hb).2.2.2.1, (f2 b hb).2.1, (f2 b hb).2.2.2.2.1, (f2 b hb).2.2.2.2.2⟩
   have I6 : Inv X (pins ++ [(C, oC)]) σ (upd H3 D (.lst ys)) s4 := I5.pins_of fun p hp => by
    rcases List.mem_append.mp hp with hp | hp
    ·exact I5.pin p (List.mem_append_right _ hp)
    ·have e : p = (C, oC) := by simpa using hp
     subst e
     refine ⟨eC, by rw [upd_ne (Ne.symm hDC)]; exact HCn, Ne.symm (below _ I2.lt).1, fun z => I2.nofs hCle z, fun v z => ?_⟩
     rw [dC] at z
     cases z
   exact fin C D oC m _ s4 I6 (fun h e => ⟨oC, es, ep, e, dC, rC⟩) (Ne.symm hDC) (.inr (Nat.le_trans I2.sz hCle)) (fun x c e => (below _ (cellLt x c e)).1) (fun p hp => (below _ (pinOld p hp)).1) (qn D HDn)
  ·refine thn (T.item (cxC X N' scope cl C fp s2 H2) rfl rfl rfl hc i _ s3 _ H3 (fun _ _ => False) I3 (statE fr3) st3 go) fun r s4 ⟨u, hr, h4⟩ => ?_
   subst hr
   refine thn h4 fun _ s5 ⟨x, H5, I5, r5, y5, st5, fr5⟩ => ?_
   have I5' := I5.pinned (statE fr5) (T.obj _ _ st5)
   refine thn (hg _ _ _ _ _ _ s5 _ H5 x u _ I5' r5 (step x H5 y5)) fun _ s6 ⟨σ6, H6, I6, kp, q6⟩ => ?_
   refine thn (hts _ _ _ _ _ _ s6 σ6 H6 _ I6 q6) fun ok s7 ⟨H7, I7, q7⟩ => ?_
   have keepTn : ∀ {H8 : Hp} {s8 : Shared} {σ8 : L2.St}, Inv (cxC X N' scope cl C fp s2 H2) (pins ++ [(D, { cls := .type "list", data := .seq us.toArray c })] ++ pinsAt fp s5.heap) σ8 H8 s8 → tn (i + 1) s8.heap ∧ ∀ b ∈ fp, H8 b = none := fun {H8 s8 σ8} I8 =>
    ⟨T.keep _ _ _ st5 fun b hb o e => (I8.pin (b, o) (List.mem_append_right _ (List.mem_append_right _ (mem_pinsAt hb e)))).1, fun b hb => by
     obtain ⟨o, e, d⟩ := T.obj _ _ st5 b hb
     exact (I8.pin (b, o) (List.mem_append_right _ (List.mem_append_right _ (mem_pinsAt hb e)))).2.1⟩
   cases ok with
   | false =>
    simp only [Bool.false_eq_true, if_false] at q7 ⊢
    obtain ⟨m', hm, w7⟩ := q7
    obtain ⟨t7, f7⟩ := keepTn I7
    exact ⟨m', hm, i + 1, ys, us, c, H7, I7.unpinned.weak kp.1.symm kp.2, t7, f7, rv3, hz3, w7⟩
   | true =>
    simp only [if_true] at q7 ⊢
    refine thn (he _ _ _ _ _ _ s7 σ6 H7 _ I7 q7) fun yv s8 ⟨y, H8, I8, r8, m', hm, w8⟩ => ?_
    obtain ⟨t8, f8⟩ := keepTn I8
    have I8' := I8.unpinned
    obtain ⟨p1, p2, p3, p4, p5⟩ := I8'.pin (D, { cls := .type "list", data := .seq us.toArray c }) (List.mem_append_right _ (List.mem_append_right _ (by simp)))
    refine append_at (hsz := by rw [List.size_toArray, ← rv3.length]; exact hz3) p1 fun h9 hs9 hD9 => ?_
    have I8o : Inv (cxC X N' scope cl C fp s2 H2) pins σ6 H8 s8 := I8'.unpinned
    have I9 : Inv (cxC X N' scope cl C fp s2 H2) pins σ6 H8 { s8 with heap := h9 } :=
     I8o.turned (t' := s8.toks) (it := D) (fun b o hb e => hs9.extBut b o hb e) p2 hDC (.inr hDle) (fun x c e => (below _ (cellLt x c (hcl x c e))).2) fun p hp => (below _ (pinOld p hp)).2
    have I9' : Inv (cxC X N' scope cl C fp s2 H2) (pins ++ [(D, { cls := .type "list", data := .seq (us ++ [yv]).toArray (c + 1) })]) σ6 H8 { s8 with heap := h9 } := I9.pins_of fun p hp => by
     rcases List.mem_append.mp hp with hp | hp
     ·exact I9.pin p (List.mem_append_right _ hp)
     ·have e : p = (D, { cls := .type "list", data := .seq (us ++ [yv]).toArray (c + 1) }) := by simpa using hp
      subst e
      refine ⟨?_, p2, hDC, notFs D hDle, fun v z => nomatch z⟩
      rw [← List.push_toArray]
      exact hD9
    refine ⟨m', hm, i + 1, ys ++ [y], us ++ [yv], c + 1, H8, I9'.weak kp.1.symm kp.2, T.keep _ _ _ t8 fun b hb o e => hs9.extBut b o (below b (hob b hb)).2 e, f8, rv3.append (.cons r8 .nil), ?_, w8⟩
    rw [List.length_append, List.length_singleton]
    exact hz
 exact codeAny_compStart_list (loop _ rfl) (T.self _ 0 _ _ _ (T.keep _ _ _ st2 fun b _ o e => old b o e) (loop _ rfl))
end
def ixOk (N' : List Str) (ixs : List (Option Nat)) (No : List Str) (scope : Scope) : Bool :=
 (N'.zip ixs).all fun p => match p.2 with
  | none => true
  | some i => decide (No[i]? = some p.1) && decide (scope.names.lookup p.1 = some .free)
theorem ixOk_at {N' : List Str} {ixs : List (Option Nat)} {No : List Str} {scope : Scope} (h : ixOk N' ixs No scope = true) : ∀ (k i : Nat) (y : Str), N'[k]? = some y → ixs[k]? = some (some i) → No[i]? = some y ∧ scope.names.lookup y = some .free := by
 intro k i y e1 e2
 have hm : (y, some i) ∈ N'.zip ixs := by
  refine List.mem_iff_getElem?.mpr ⟨k, ?_⟩
  rw [List.getElem?_zip_eq_some]
  exact ⟨e1, e2⟩
 have := List.all_eq_true.mp h _ hm
 simpa using this
section
variable {X : Cx}
theorem pe_comp {target iter elt : Expr} {ifs : List Expr} {scope : Scope} {pos : Pos} {wi : TI} {g : TG} {tc : TT} {te : TE} {No : List Str} {sc : Scope}
  (N' : List Str) (ixs : List (Option Nat)) (hc : X.calm = true) (hi : PI X target iter wi)
  (hg : ∀ cl C fp s₂ H₂, PG (cxC X N' scope cl C fp s₂ H₂) target g)
  (hts : ∀ cl C fp s₂ H₂, PTs (cxC X N' scope cl C fp s₂ H₂) ifs tc)
  (he : ∀ cl C fp s₂ H₂, PE (cxC X N' scope cl C fp s₂ H₂) elt te)
  (hkind : scope.kind = .function) (hcell : ∀ y ∈ scope.names, y.2 ≠ .cell) (hnames : ∀ y ∈ scope.names, y.2 = .local → scope.names.lookup y.1 = some .local)
  (hNo : X.N = No) (hsc : X.env.scope = sc) (hfree : ∀ y ∈ scope.names, y.2 = .free → sc.names.lookup y.1 = some .cell ∨ sc.names.lookup y.1 = some .free)
  (hlen : N'.length = ixs.length) (hix : ixOk N' ixs No scope = true)
  (hs : ∀ x, foldedSetIterable iter X.env x = pure x := by intro _; rfl) :
  PE X (.ListComp elt [⟨target, iter, ifs, 0⟩] scope pos) (tComp ixs wi g tc te) := by
 intro pins s σ H Q I h
 rw [eval_ListComp]
 refine comp_core (use := none) hc hi hg hts he hkind hcell hnames (fun y hy hf => by have := hfree y hy hf; rw [← hsc] at this; exact this) hlen (hNo ▸ ixOk_at hix) hs I h fun C D oC m H' s' I' hn hCD h1 h2 h3 q => ?_
 have pC := I'.pin (C, oC) (List.mem_append_right _ (List.mem_append_right _ (by simp)))
 exact ⟨m, hn _ pC.1, fun h' hs' => ⟨.ref D, H', I'.unpinned.turned (t' := s'.toks) (it := C) (fun b o hb e => hs'.extBut b o hb e) pC.2.1 pC.2.2.1 h1 h2 h3, rfl, q⟩⟩
def tSetC (j : Nat) (t : TE) : TS := fun D σ H => t σ H fun x H1 => D.nx (σ.set j (some x)) H1
theorem ps_setC {target iter elt : Expr} {ifs : List Expr} {scope : Scope} {pos spos py : Pos} {y : Str} {j : Nat} {wi : TI} {g : TG} {tc : TT} {te : TE} {No : List Str} {sc : Scope}
  (N' : List Str) (ixs : List (Option Nat)) (hN : X.N.Nodup) (hj : X.N[j]? = some y) (hy : Loc X.env.scope y) (hc : X.calm = true) (hi : PI X target iter wi)
  (hg : ∀ cl C fp s₂ H₂, PG (cxC X N' scope cl C fp s₂ H₂) target g)
  (hts : ∀ cl C fp s₂ H₂, PTs (cxC X N' scope cl C fp s₂ H₂) ifs tc)
  (he : ∀ cl C fp s₂ H₂, PE (cxC X N' scope cl C fp s₂ H₂) elt te)
  (hkind : scope.kind = .function) (hcell : ∀ y ∈ scope.names, y.2 ≠ .cell) (hnames : ∀ y ∈ scope.names, y.2 = .local → scope.names.lookup y.1 = some .local)
  (hNo : X.N = No) (hsc : X.env.scope = sc) (hfree : ∀ y ∈ scope.names, y.2 = .free → sc.names.lookup y.1 = some .cell ∨ sc.names.lookup y.1 = some .free)
  (hlen : N'.length = ixs.length) (hix : ixOk N' ixs No scope = true)
  (hsw : swapsWith (.ListComp elt [⟨target, iter, ifs, 0⟩] scope pos) (some (.Name y py)) spos.line X.env = pure true := by rfl)
  (hs : ∀ x, foldedSetIterable iter X.env x = pure x := by intro _; rfl)
  (hf : X.fn y = true ∨ X.env.scope.names.lookup y = some .local := by first | exact .inl rfl | exact .inr rfl | assumption) :
  PS X (.Assign [.Name y py] (.ListComp elt [⟨target, iter, ifs, 0⟩] scope pos) spos) (tSetC j (tComp ixs wi g tc te)) := by
 intro pins s σ H D I h
 rw [exec_Assign_Name_used _ _ _ _ hsw]
 refine wpAny_bind (wpAny_standAt (wpAny_bind ?_))
 show wpAny _ _ (do let _ ← comprehension (.ListComp elt [⟨target, iter, ifs, 0⟩] scope pos) scope X.env _ (newList []) false (eval iter X.env) (some (assign (.Name y py) X.env))) _ _ s
 refine wpAny_bind (wpAny_mono (comp_core (use := some (assign (.Name y py) X.env)) (Qf := fun _ s' => SP X pins D .next s') hc hi hg hts he hkind hcell hnames (fun y hy hf => by have := hfree y hy hf; rw [← hsc] at this; exact this) hlen (hNo ▸ ixOk_at hix) hs I h fun C E oC m H' s' I' hn hCD h1 h2 h3 q => ?_)
  (fun _ s' hq => wpAny_pure (wpAny_pure hq)) fun _ _ e => e)
 refine thn (pg_name (pos := py) hN hj hy hf _ s' σ H' (.ref E) (.ref E) (fun σ' H'' => σ' = σ.set j (some (.ref E)) ∧ H'' = H') I' rfl ⟨rfl, rfl⟩) fun _ s'' ⟨σ', H'', I'', e1, e2⟩ => ?_
 subst e1 e2
 have pC := I''.pin (C, oC) (List.mem_append_right _ (List.mem_append_right _ (by simp)))
 exact ⟨m, hn _ pC.1, fun h' hs' => ⟨_, _, I''.unpinned.turned (t' := s''.toks) (it := C) (fun b o hb e => hs'.extBut b o hb e) pC.2.1 pC.2.2.1 h1 h2 h3, q⟩⟩
end
end TX
namespace TM
abbrev Ls := List (List Int)
abbrev Prs := List (Int × Int)
def lof (ls : Ls) (i : Int) : List Int := ls.getD i.toNat []
def would (ls : Ls) (i j : Int) : Bool := decide (j ∈ lof ls i) && decide (i ∈ lof ls j)
structure Valid (ls : Ls) : Prop where
 pos : 1 ≤ ls.length
 le : ls.length ≤ 6
 mem : ∀ (i : Nat) (l : List Int), ls[i]? = some l → (∀ x ∈ l, 0 ≤ x ∧ x < ls.length ∧ x ≠ (i : Int)) ∧ l.Nodup
def rather (ls : Ls) (c a b : Int) : Bool := if a = c ∨ a = b then false else decide (b = c) || decide ((lof ls c).idxOf a < (lof ls c).idxOf b)
def wr (ls : Ls) (c a : Int) : Option Int → Bool
 | none => true
 | some h => decide ((lof ls c).idxOf a < (lof ls c).idxOf h)
def row (f : Int → Int → Bool) (i k : Nat) : Prs := ((List.range k).map fun (d : Nat) => ((i : Int), (i : Int) + 1 + (d : Int))).filter fun p => f p.1 p.2
def rows (f : Int → Int → Bool) (n i : Nat) : Prs := (List.range i).flatMap fun a => row f a (n - (a + 1))
theorem row_succ (f : Int → Int → Bool) (i k : Nat) : row f i (k + 1) = row f i k ++ (if f i (i + 1 + k) then [((i : Int), (i : Int) + 1 + (k : Int))] else []) := by
 unfold row
 rw [List.range_succ, List.map_append, List.filter_append]
 congr 1
 simp only [List.map_cons, List.map_nil, List.filter_cons, List.filter_nil]
theorem rows_succ (f : Int → Int → Bool) (n i : Nat) : rows f n (i + 1) = rows f n i ++ row f i (n - (i + 1)) := by
 unfold rows
 rw [List.range_succ, List.flatMap_append]
 simp
theorem rows_zero (f : Int → Int → Bool) (n : Nat) : rows f n 0 = [] := rfl
theorem row_zero (f : Int → Int → Bool) (i : Nat) : row f i 0 = [] := rfl
theorem row_filter (f g : Int → Int → Bool) (i k : Nat) : (row f i k).filter (fun p => g p.1 p.2) = row (fun a b => f a b && g a b) i k := by
 unfold row
 rw [List.filter_filter]
 congr 1
 funext p
 exact Bool.and_comm _ _
theorem rows_filter (f g : Int → Int → Bool) (n i : Nat) : (rows f n i).filter (fun p => g p.1 p.2) = rows (fun a b => f a b && g a b) n i := by
 unfold rows
 rw [List.filter_flatMap]
 congr 1
 funext a
 exact row_filter f g a _
theorem row_mem {f : Int → Int → Bool} {i k : Nat} {p : Int × Int} (h : p ∈ row f i k) : p.1 = (i : Int) ∧ (i : Int) < p.2 ∧ p.2 < (i : Int) + 1 + (k : Int) ∧ f p.1 p.2 = true := by
 unfold row at h
 rw [List.mem_filter, List.mem_map] at h
 obtain ⟨⟨d, hd, e⟩, hf⟩ := h
 have hd' : d < k := by simpa using hd
 subst e
 refine ⟨rfl, ?_, ?_, hf⟩
 ·show (i : Int) < (i : Int) + 1 + (d : Int)
  omega
 ·show (i : Int) + 1 + (d : Int) < (i : Int) + 1 + (k : Int)
  omega
theorem rows_mem {f : Int → Int → Bool} {n i : Nat} {p : Int × Int} (h : p ∈ rows f n i) (hi : i ≤ n) : 0 ≤ p.1 ∧ p.1 < p.2 ∧ p.2 < (n : Int) ∧ f p.1 p.2 = true := by
 unfold rows at h
 rw [List.mem_flatMap] at h
 obtain ⟨a, ha, hp⟩ := h
 have ha' : a < i := by simpa using ha
 obtain ⟨h1, h2, h3, h4⟩ := row_mem hp
 refine ⟨by omega, by omega, by omega, h4⟩
theorem row_congr {f g : Int → Int → Bool} {i k : Nat} (h : ∀ j : Int, (i : Int) < j → j < (i : Int) + 1 + (k : Int) → f i j = g i j) : row f i k = row g i k := by
 unfold row
 apply List.filter_congr
 intro p hp
 rw [List.mem_map] at hp
 obtain ⟨d, hd, e⟩ := hp
 have hd' : d < k := by simpa using hd
 subst e
 exact h _ (by omega) (by omega)
theorem rows_congr {f g : Int → Int → Bool} {n i : Nat} (hi : i ≤ n) (h : ∀ a b : Int, 0 ≤ a → a < b → b < n → f a b = g a b) : rows f n i = rows g n i := by
 unfold rows
 have : ∀ l : List Nat, (∀ a ∈ l, a < n) → (l.flatMap fun a => row f a (n - (a + 1))) = l.flatMap fun a => row g a (n - (a + 1)) := by
  intro l
  induction l with
  | nil => intro _; rfl
  | cons a l ih =>
   intro hl
   rw [List.flatMap_cons, List.flatMap_cons, ih fun b hb => hl b (List.mem_cons_of_mem _ hb)]
   have ha := hl a List.mem_cons_self
   rw [row_congr (f := f) (g := g)]
   intro j h1 h2
   exact h a j (by omega) h1 (by omega)
 exact this _ fun a ha => by
  have : a < i := by simpa using ha
  omega
def openP (ls : Ls) : Prs := rows (would ls) ls.length ls.length
theorem openP_mem {ls : Ls} {p : Int × Int} (h : p ∈ openP ls) : 0 ≤ p.1 ∧ p.1 < p.2 ∧ p.2 < (ls.length : Int) ∧ would ls p.1 p.2 = true := rows_mem h (Nat.le_refl _)
def step (f : Int → Option Int) (p : Int × Int) : Int → Option Int := fun i => if i = p.2 then some p.1 else if i = p.1 then some p.2 else f i
def mate (ps : Prs) : Int → Option Int := ps.foldl step fun _ => none
theorem mate_snoc (ps : Prs) (p : Int × Int) (i : Int) : mate (ps ++ [p]) i = if i = p.2 then some p.1 else if i = p.1 then some p.2 else mate ps i := by
 unfold mate
 rw [List.foldl_append]
 rfl
def setH (h : List Int) (p : Int × Int) : List Int := (h.set p.1.toNat p.2).set p.2.toNat p.1
def rng (n : Nat) : List Int := (List.range n).map fun (k : Nat) => (k : Int)
def haveOf (n : Nat) (ps : Prs) : List Int := ps.foldl setH (rng n)
theorem rng_length (n : Nat) : (rng n).length = n := by simp [rng]
structure Pairs (ls : Ls) (ps : Prs) : Prop where
 each : ∀ p ∈ ps, 0 ≤ p.1 ∧ p.1 < ls.length ∧ 0 ≤ p.2 ∧ p.2 < ls.length ∧ p.1 ≠ p.2 ∧ would ls p.1 p.2 = true
 apart : (ps.flatMap fun p => [p.1, p.2]).Nodup
theorem Pairs.nil (ls : Ls) : Pairs ls [] := Pairs.mk (fun _ h => nomatch h) (show ([] : List Int).Nodup from List.nodup_nil)
theorem mate_mem {i : Int} : ∀ {ps : Prs} {h : Int}, mate ps i = some h → (i, h) ∈ ps ∨ (h, i) ∈ ps := by
 intro ps
 suffices hh : ∀ (rs : Prs) (h : Int), mate rs.reverse i = some h → (i, h) ∈ rs.reverse ∨ (h, i) ∈ rs.reverse by
  intro h e
  have := hh ps.reverse h (by rw [List.reverse_reverse]; exact e)
  rwa [List.reverse_reverse] at this
 intro rs
 induction rs with
 | nil => intro h e; cases e
 | cons p rs ih =>
  intro h e
  rw [List.reverse_cons, mate_snoc] at e
  rw [List.reverse_cons]
  split at e
  ·rename_i h1
   cases e
   exact .inr (List.mem_append_right _ (by rw [h1]; exact List.mem_singleton.mpr rfl))
  ·split at e
   ·rename_i h1
    cases e
    exact .inl (List.mem_append_right _ (by rw [h1]; exact List.mem_singleton.mpr rfl))
   ·rcases ih h e with h2 | h2
    ·exact .inl (List.mem_append_left _ h2)
    ·exact .inr (List.mem_append_left _ h2)
theorem mate_none {i : Int} : ∀ {ps : Prs}, (¬ i ∈ ps.flatMap fun p => [p.1, p.2]) → mate ps i = none := by
 intro ps h
 cases e : mate ps i with
 | none => rfl
 | some j =>
  exfalso
  apply h
  rw [List.mem_flatMap]
  rcases mate_mem e with h1 | h1
  ·exact ⟨_, h1, by simp⟩
  ·exact ⟨_, h1, by simp⟩
theorem mate_some {i : Int} : ∀ {ps : Prs}, (i ∈ ps.flatMap fun p => [p.1, p.2]) → ∃ j, mate ps i = some j := by
 intro ps
 suffices hh : ∀ (rs : Prs), (i ∈ rs.reverse.flatMap fun p => [p.1, p.2]) → ∃ j, mate rs.reverse i = some j by
  intro h
  have := hh ps.reverse (by rw [List.reverse_reverse]; exact h)
  rwa [List.reverse_reverse] at this
 intro rs
 induction rs with
 | nil => intro h; simp at h
 | cons p rs ih =>
  intro h
  rw [List.reverse_cons, List.flatMap_append, List.mem_append] at h
  rw [List.reverse_cons, mate_snoc]
  split
  ·exact ⟨_, rfl⟩
  ·rename_i h1
   split
   ·exact ⟨_, rfl⟩
   ·rename_i h2
    rcases h with h | h
    ·exact ih h
    ·simp at h
     rcases h with h | h
     ·exact absurd h h2
     ·exact absurd h h1
theorem Pairs.has {ls : Ls} {ps : Prs} (P : Pairs ls ps) {i h : Int} (e : mate ps i = some h) : 0 ≤ i ∧ i < ls.length ∧ 0 ≤ h ∧ h < ls.length ∧ i ≠ h ∧ would ls i h = true := by
 rcases mate_mem e with h1 | h1
 ·exact P.each _ h1
 ·obtain ⟨a1, a2, a3, a4, a5, a6⟩ := P.each _ h1
  refine ⟨a3, a4, a1, a2, fun z => a5 z.symm, ?_⟩
  unfold would at a6 ⊢
  rw [Bool.and_comm]
  exact a6
theorem set_getD (h : List Int) (a : Nat) (v : Int) (i : Nat) (d : Int) (ha : a < h.length) : (h.set a v).getD i d = if i = a then v else h.getD i d := by
 by_cases e : i = a
 ·subst e
  simp [List.getD, List.getElem?_set_self ha]
 ·simp [List.getD, List.getElem?_set_ne (Ne.symm e), e]
def who (ps : Prs) : List Int := ps.flatMap fun p => [p.1, p.2]
theorem who_snoc (ps : Prs) (p : Int × Int) : who (ps ++ [p]) = who ps ++ [p.1, p.2] := by simp [who]
theorem Pairs.snoc {ls : Ls} {ps : Prs} (P : Pairs ls ps) {a b : Int} (h : 0 ≤ a ∧ a < ls.length ∧ 0 ≤ b ∧ b < ls.length ∧ a ≠ b ∧ would ls a b = true) (ha : mate ps a = none) (hb : mate ps b = none) : Pairs ls (ps ++ [(a, b)]) := by
 refine ⟨fun p hp => ?_, ?_⟩
 ·rcases List.mem_append.mp hp with hp | hp
  ·exact P.each p hp
  ·rw [List.mem_singleton.mp hp]; exact h
 ·have na : ¬ a ∈ who ps := fun z => by obtain ⟨j, e⟩ := mate_some z; rw [ha] at e; cases e
  have nb : ¬ b ∈ who ps := fun z => by obtain ⟨j, e⟩ := mate_some z; rw [hb] at e; cases e
  show (who (ps ++ [(a, b)])).Nodup
  rw [who_snoc, List.nodup_append]
  refine ⟨P.apart, by simp [h.2.2.2.2.1], ?_⟩
  intro x hx y hy e
  subst e
  simp at hy
  rcases hy with rfl | rfl
  ·exact na hx
  ·exact nb hx
theorem Pairs.init {ls : Ls} {ps : Prs} {p : Int × Int} (P : Pairs ls (ps ++ [p])) : Pairs ls ps ∧ mate ps p.1 = none ∧ mate ps p.2 = none := by
 have ap : (who (ps ++ [p])).Nodup := P.apart
 rw [who_snoc, List.nodup_append] at ap
 obtain ⟨n1, n2, n3⟩ := ap
 refine ⟨⟨fun q hq => P.each q (List.mem_append_left _ hq), n1⟩, mate_none fun z => n3 _ z p.1 (by simp) rfl, mate_none fun z => n3 _ z p.2 (by simp) rfl⟩
theorem Pairs.prefix {ls : Ls} {ps rs : Prs} (P : Pairs ls (ps ++ rs)) : Pairs ls ps := by
 refine ⟨fun q hq => P.each q (List.mem_append_left _ hq), ?_⟩
 have := P.apart
 rw [List.flatMap_append, List.nodup_append] at this
 exact this.1
theorem Pairs.take {ls : Ls} {ps : Prs} (P : Pairs ls ps) (i : Nat) : Pairs ls (ps.take i) := Pairs.prefix (rs := ps.drop i) (by rw [List.take_append_drop]; exact P)
theorem Pairs.at {ls : Ls} {ps : Prs} (P : Pairs ls ps) {i : Nat} {p : Int × Int} (h : ps[i]? = some p) : Pairs ls (ps.take i) ∧ ps.take (i + 1) = ps.take i ++ [p] ∧ mate (ps.take i) p.1 = none ∧ mate (ps.take i) p.2 = none ∧
  (0 ≤ p.1 ∧ p.1 < ls.length ∧ 0 ≤ p.2 ∧ p.2 < ls.length ∧ p.1 ≠ p.2 ∧ would ls p.1 p.2 = true) := by
 have e : ps.take (i + 1) = ps.take i ++ [p] := by rw [List.take_add_one, h]; rfl
 have q := P.take (i + 1)
 rw [e] at q
 exact ⟨q.init.1, e, q.init.2.1, q.init.2.2, P.each p (List.mem_of_getElem? h)⟩
def brk (ls : Ls) (ps : Prs) (i j : Int) : Bool := would ls i j && (wr ls i j (mate ps i) && wr ls j i (mate ps j))
def brkL (ls : Ls) (h : List Int) (i j : Int) : Bool := rather ls i j (h.getD i.toNat 0) && rather ls j i (h.getD j.toNat 0)
def broken (ls : Ls) (h : List Int) : Prs := (openP ls).filter fun p => brkL ls h p.1 p.2
def breaking (ls : Ls) (ps : Prs) : Prs := rows (brk ls ps) ls.length ls.length
end TM
namespace TM
def OkAt (n : Nat) (i : Int) (l : List Int) : Prop := (∀ x ∈ l, 0 ≤ x ∧ x < n ∧ x ≠ i) ∧ l.Nodup
theorem rng_nodup (n : Nat) : (rng n).Nodup := by
 unfold rng List.Nodup
 rw [List.pairwise_map]
 exact List.Pairwise.imp (fun h e => h (by omega)) (List.nodup_range (n := n))
def AllOk (n : Nat) (ls : Ls) : Prop := ∀ (j : Nat) l, ls[j]? = some l → OkAt n j l
theorem lof_ok {ls : Ls} (V : Valid ls) {i : Int} (h0 : 0 ≤ i) (h1 : i < ls.length) : OkAt ls.length i (lof ls i) := by
 have hi : i.toNat < ls.length := by omega
 have := V.mem i.toNat (ls[i.toNat]) (by simp [hi])
 rw [show ((i.toNat : Nat) : Int) = i by omega] at this
 unfold lof
 rw [show ls.getD i.toNat [] = ls[i.toNat] by simp [List.getD, hi]]
 exact this
theorem lof_at {ls : Ls} {i : Int} (h0 : 0 ≤ i) (h1 : i < ls.length) : ls[i.toNat]? = some (lof ls i) := by
 have hi : i.toNat < ls.length := by omega
 unfold lof
 simp [List.getD, hi]
theorem nodup_len {n : Nat} {i : Int} {l : List Int} (h : OkAt n i l) : l.length ≤ n := by
 have gen : ∀ (m : Nat) (l : List Int), l.Nodup → (∀ x ∈ l, 0 ≤ x ∧ x < m) → l.length ≤ m := by
  intro m
  induction m with
  | zero =>
   intro l _ hm
   cases l with
   | nil => exact Nat.le_refl _
   | cons x l => have := hm x List.mem_cons_self; omega
  | succ m ih =>
   intro l hd hm
   have h1 : (l.erase (m : Int)).length ≤ m := ih _ (hd.erase _) fun x hx => by
    have hx' := List.mem_of_mem_erase hx
    have := hm x hx'
    have hne : x ≠ (m : Int) := fun z => by
     subst z
     exact absurd hx (List.Nodup.not_mem_erase hd)
    omega
   have h2 : l.length ≤ (l.erase (m : Int)).length + 1 := by
    rw [List.length_erase]
    split <;> omega
   omega
 exact gen n l h.2 fun x hx => ⟨(h.1 x hx).1, (h.1 x hx).2.1⟩
theorem would_symm (ls : Ls) (i j : Int) : would ls i j = would ls j i := by unfold would; rw [Bool.and_comm]
theorem would_mem {ls : Ls} {i j : Int} (h : would ls i j = true) : j ∈ lof ls i ∧ i ∈ lof ls j := by
 unfold would at h
 rw [Bool.and_eq_true] at h
 exact ⟨by simpa using h.1, by simpa using h.2⟩
end TM
namespace TM
def InR (ls : Ls) (p : Int × Int) : Prop := 0 ≤ p.1 ∧ p.1 < ls.length ∧ 0 ≤ p.2 ∧ p.2 < ls.length
def hstep (ls : Ls) (o : Option (List Int)) (p : Int × Int) : Option (List Int) := match o with
 | none => none
 | some h => if (h.getD p.1.toNat 0 = p.1 ∧ h.getD p.2.toNat 0 = p.2) ∧ would ls p.1 p.2 = true then some (setH h p) else none
def haveG (ls : Ls) (ps : Prs) : Option (List Int) := ps.foldl (hstep ls) (some (rng ls.length))
def steadyB (ls : Ls) (ps : Prs) : Bool := match haveG ls ps with
 | none => false
 | some h => decide (broken ls h = [])
def ra (ring : List Int) (k : Nat) : Int := ring.getD k 0
def rp (ring : List Int) (k : Nat) : Int := ring.getD (if k = 0 then ring.length - 1 else k - 1) 0
def ok1 (ls : Ls) (ring : List Int) (k : Nat) : Bool := !(decide (1 < ring.length) && !would ls (ra ring k) (rp ring k))
def lastR (ring : List Int) (h : List Int) (k : Nat) : List Int := (List.range k).foldl (fun h j => h.set (ra ring j).toNat (rp ring j)) h
theorem lastR_succ (ring h : List Int) (k : Nat) : lastR ring h (k + 1) = (lastR ring h k).set (ra ring k).toNat (rp ring k) := by
 unfold lastR
 rw [List.range_succ, List.foldl_append]
 rfl
theorem lastR_length (ring h : List Int) : ∀ k, (lastR ring h k).length = h.length
 | 0 => rfl
 | k + 1 => by rw [lastR_succ, List.length_set, lastR_length ring h k]
def lastA (n : Nat) (rings : List (List Int)) : List Int := rings.foldl (fun h ring => lastR ring h ring.length) (rng n)
theorem lastA_snoc (n : Nat) (rings : List (List Int)) (ring : List Int) : lastA n (rings ++ [ring]) = lastR ring (lastA n rings) ring.length := by
 unfold lastA
 rw [List.foldl_append]
 rfl
theorem lastA_length (n : Nat) (rings : List (List Int)) : (lastA n rings).length = n := by
 unfold lastA
 suffices h : ∀ (rs : List (List Int)) (h : List Int), (rs.foldl (fun h ring => lastR ring h ring.length) h).length = h.length by rw [h, rng_length]
 intro rs
 induction rs with
 | nil => intro h; rfl
 | cons r rs ih => intro h; rw [List.foldl_cons, ih, lastR_length]
def ok2 (ls : Ls) (last ring : List Int) (k : Nat) : Bool := !(decide (2 < ring.length) && !rather ls (rp ring k) (ra ring k) (last.getD (rp ring k).toNat 0))
def ins (x : Int) : List Int → List Int
 | [] => [x]
 | y :: l => if x ≤ y then x :: y :: l else y :: ins x l
def isort : List Int → List Int
 | [] => []
 | x :: l => ins x (isort l)
theorem ins_perm (x : Int) : ∀ l, (ins x l).Perm (x :: l)
 | [] => List.Perm.refl _
 | y :: l => by
  unfold ins
  split
  ·exact List.Perm.refl _
  ·exact ((ins_perm x l).cons y).trans (List.Perm.swap x y l)
theorem isort_perm : ∀ l, (isort l).Perm l
 | [] => List.Perm.refl _
 | x :: l => (ins_perm x _).trans ((isort_perm l).cons x)
theorem ins_sorted (x : Int) : ∀ l : List Int, l.Pairwise (· ≤ ·) → (ins x l).Pairwise (· ≤ ·)
 | [], _ => List.pairwise_singleton _ _
 | y :: l, h => by
  unfold ins
  rw [List.pairwise_cons] at h
  split
  ·rename_i hx
   rw [List.pairwise_cons]
   refine ⟨fun z hz => ?_, List.pairwise_cons.mpr h⟩
   rcases List.mem_cons.mp hz with rfl | hz
   ·exact hx
   ·exact Int.le_trans hx (h.1 z hz)
  ·rename_i hx
   rw [List.pairwise_cons]
   refine ⟨fun z hz => ?_, ins_sorted x l h.2⟩
   rcases List.mem_cons.mp ((ins_perm x l).mem_iff.mp hz) with rfl | hz
   ·omega
   ·exact h.1 z hz
theorem isort_sorted : ∀ l : List Int, (isort l).Pairwise (· ≤ ·)
 | [] => List.Pairwise.nil
 | x :: l => ins_sorted x _ (isort_sorted l)
theorem sorted_uniq : ∀ {a b : List Int}, a.Perm b → a.Pairwise (· ≤ ·) → b.Pairwise (· ≤ ·) → a = b
 | [], b, p, _, _ => (List.Perm.nil_eq p)
 | x :: a, [], p, _, _ => absurd p.length_eq (by simp)
 | x :: a, y :: b, p, ha, hb => by
  rw [List.pairwise_cons] at ha hb
  have hx : x ∈ y :: b := p.mem_iff.mp List.mem_cons_self
  have hy : y ∈ x :: a := p.mem_iff.mpr List.mem_cons_self
  have e : x = y := by
   rcases List.mem_cons.mp hx with h | h
   ·exact h
   ·rcases List.mem_cons.mp hy with h' | h'
    ·exact h'.symm
    ·have h1 := ha.1 y h'
     have h2 := hb.1 x h
     omega
  subst e
  rw [sorted_uniq (List.Perm.cons_inv p) ha.2 hb.2]
def oddR (rings : List (List Int)) : List (List Int) := rings.filter fun ring => decide ((ring.length : Int) = 3) || decide ((ring.length : Int) = 5)
def goodB (ls : Ls) (rings : List (List Int)) : Bool :=
 (decide (isort rings.flatten = rng ls.length) && !decide (oddR rings = [])) &&
 ((rings.all fun ring => (List.range ring.length).all (ok1 ls ring)) && ((rings.all fun ring => (List.range ring.length).all (ok2 ls (lastA ls.length rings) ring)) && decide (broken ls (lastA ls.length rings) = [])))
end TM
namespace TK
open PySem PySem.Spec PyProof.Rows L2 TX TM
open PySem.W (Dat kqdP kqdPs kqdOk)
abbrev Rel (α : Type) := Hp → V → α → Prop
def Mono {α : Type} (R : Rel α) : Prop := ∀ H H' v d, Same H H' → R H v d → R H' v d
theorem Paired.at1 {α β : Type} {F : α → β → Prop} : ∀ {l₁ : List α} {l₂ : List β} {i : Nat} {a : α}, Paired F l₁ l₂ → l₁[i]? = some a → ∃ b, l₂[i]? = some b ∧ F a b
 | _, _, _, _, .nil, e => by simp at e
 | _, _, 0, _, .cons r _, e => by simp at e; subst e; exact ⟨_, rfl, r⟩
 | _, _, i + 1, a, .cons _ t, e => by
  obtain ⟨u, h1, h2⟩ := Paired.at1 (i := i) (a := a) t (by simpa using e)
  exact ⟨u, by simpa using h1, h2⟩
theorem Paired.at2 {α β : Type} {F : α → β → Prop} : ∀ {l₁ : List α} {l₂ : List β} {i : Nat} {b : β}, Paired F l₁ l₂ → l₂[i]? = some b → ∃ a, l₁[i]? = some a ∧ F a b
 | _, _, _, _, .nil, e => by simp at e
 | _, _, 0, _, .cons r _, e => by simp at e; subst e; exact ⟨_, rfl, r⟩
 | _, _, i + 1, a, .cons _ t, e => by
  obtain ⟨u, h1, h2⟩ := Paired.at2 (i := i) (b := a) t (by simpa using e)
  exact ⟨u, by simpa using h1, h2⟩
theorem Paired.app {α β : Type} {F : α → β → Prop} : ∀ {l₁ m₁ : List α} {l₂ m₂ : List β}, Paired F l₁ l₂ → Paired F m₁ m₂ → Paired F (l₁ ++ m₁) (l₂ ++ m₂)
 | _, _, _, _, .nil, q => q
 | _, _, _, _, .cons r t, q => .cons r (Paired.app t q)
theorem Paired.impl {α β : Type} {F G : α → β → Prop} (h : ∀ a b, F a b → G a b) : ∀ {l₁ : List α} {l₂ : List β}, Paired F l₁ l₂ → Paired G l₁ l₂
 | _, _, .nil => .nil
 | _, _, .cons r t => .cons (h _ _ r) (Paired.impl h t)
def Of {α : Type} (R : Rel α) (H : Hp) (a : Addr) (ds : List α) : Prop := ∃ xs : List V, H a = some (.lst xs) ∧ Paired (R H) xs ds
section
variable {α : Type} {R : Rel α} {H H' : Hp} {a : Addr} {ds : List α}
theorem Of.same (m : Mono R) (h : Of R H a ds) (e : Same H H') : Of R H' a ds := by
 obtain ⟨xs, h1, h2⟩ := h
 exact ⟨xs, e _ _ h1, Paired.impl (fun _ _ r => m _ _ _ _ e r) h2⟩
end
def RZ : Rel Int := fun _ v i => v = .int i
def RI : Rel (List Int) := fun H v l => ∃ p, v = .ref p ∧ H p = some (.lst (l.map V.int))
theorem mI : Mono RI := fun _ _ _ _ e h => let ⟨p, h1, h2⟩ := h; ⟨p, h1, e _ _ h2⟩
def RP : Rel (Int × Int) := fun H v q => ∃ p, v = .ref p ∧ H p = some (.tup [.int q.1, .int q.2])
theorem mP : Mono RP := fun _ _ _ _ e h => let ⟨p, h1, h2⟩ := h; ⟨p, h1, e _ _ h2⟩
abbrev LL : Hp → Addr → Ls → Prop := Of RI
abbrev PL : Hp → Addr → Prs → Prop := Of RP
theorem atI_of {α : Type} {xs : List α} {i : Int} {v : α} (h0 : 0 ≤ i) (h : xs[i.toNat]? = some v) : atI xs i = some v := by
 have := atI_nat (j := i.toNat) h
 rw [show ((i.toNat : Nat) : Int) = i by omega] at this
 exact this
theorem LL.at {H : Hp} {a : Addr} {ls : Ls} (h : LL H a ls) {i : Int} (h0 : 0 ≤ i) (h1 : i < ls.length) : ∃ xs p, H a = some (.lst xs) ∧ atI xs i = some (.ref p) ∧ H p = some (.lst ((lof ls i).map V.int)) := by
 obtain ⟨xs, e, r⟩ := h
 obtain ⟨v, e2, p, rfl, hp⟩ := Paired.at2 r (lof_at h0 h1)
 exact ⟨xs, p, e, atI_of h0 e2, hp⟩
def dZ (l : List Int) : Dat := .list (l.map Dat.int)
def dLL (ls : Ls) : Dat := .list (ls.map dZ)
def dP (q : Int × Int) : Dat := .tuple [.int q.1, .int q.2]
def dPL (ps : Prs) : Dat := .list (ps.map dP)
theorem dd_ints {K : PySem.W.Frag} {H : Hp} {p : Addr} {l : List Int} (h : H p = some (.lst (l.map V.int))) : Dd K H (.ref p) (dZ l) := by
 refine .lst (SqL.of h) (by simp) fun i x d e1 e2 => ?_
 rw [List.getElem?_map] at e1 e2
 cases e : l[i]? with
 | none => rw [e] at e1; cases e1
 | some z => rw [e] at e1 e2; cases e1; cases e2; exact .int z
theorem LL.dd {K : PySem.W.Frag} {H : Hp} {a : Addr} {ls : Ls} (h : LL H a ls) : Dd K H (.ref a) (dLL ls) := by
 obtain ⟨xs, e, r⟩ := h
 refine .lst (SqL.of e) (by rw [List.length_map]; exact r.length) fun i x d e1 e2 => ?_
 obtain ⟨l, e3, p, rfl, hp⟩ := Paired.at1 r e1
 rw [List.getElem?_map, e3] at e2
 cases e2
 exact dd_ints hp
theorem PL.dd {K : PySem.W.Frag} {H : Hp} {a : Addr} {ps : Prs} (h : PL H a ps) : Dd K H (.ref a) (dPL ps) := by
 obtain ⟨xs, e, r⟩ := h
 refine .lst (SqL.of e) (by rw [List.length_map]; exact r.length) fun i x d e1 e2 => ?_
 obtain ⟨q, e3, p, rfl, hp⟩ := Paired.at1 r e1
 rw [List.getElem?_map, e3] at e2
 cases e2
 refine .tup (SqT.of hp) rfl fun j y f e4 e5 => ?_
 match j with
 | 0 => cases e4; cases e5; exact .int _
 | 1 => cases e4; cases e5; exact .int _
 | j + 2 => simp at e4
theorem ok_dZ (l : List Int) (n : Nat) : kqdOk (n + 1) (dZ l) = true := by
 unfold dZ
 rw [kqdOk, List.all_map, List.all_eq_true]
 intro x _
 cases n <;> simp [kqdOk]
theorem ok_dLL (ls : Ls) : kqdOk 9 (dLL ls) = true := by
 unfold dLL
 rw [kqdOk, List.all_map, List.all_eq_true]
 intro l _
 exact ok_dZ l 7
theorem ok_dPL (ps : Prs) : kqdOk 9 (dPL ps) = true := by
 unfold dPL
 rw [kqdOk, List.all_map, List.all_eq_true]
 intro q _
 simp [dP, kqdOk]
theorem dZ_inj {l m : List Int} : dZ l = dZ m ↔ l = m := by
 unfold dZ
 constructor
 ·intro h
  have h' : l.map Dat.int = m.map Dat.int := by injection h
  exact (List.map_inj_right (fun a b e => by injection e)).mp h'
 ·rintro rfl; rfl
theorem dd_nil {K : PySem.W.Frag} {H : Hp} {p : Addr} (h : H p = some (.lst [])) : Dd K H (.ref p) (.list []) :=
 .lst (SqL.of h) rfl fun i x d e => by simp at e
theorem flat_ints (l : List Int) : (l.map V.int).all flatV = true := by
 rw [List.all_map, List.all_eq_true]
 intro x _
 rfl
theorem inV_ints (x : Int) (l : List Int) : inV (.int x) (l.map V.int) = decide (x ∈ l) := by
 unfold inV
 rw [List.any_map]
 induction l with
 | nil => rfl
 | cons y l ih =>
  rw [List.any_cons, ih]
  show ((y == x) || decide (x ∈ l)) = _
  by_cases h : y = x
  ·subst h; simp
  ·rw [show (y == x) = false by simpa using h, Bool.false_or]
   by_cases h2 : x ∈ l
   ·simp [h2]
   ·have : ¬ x ∈ y :: l := by simp [h2]; exact fun z => h z.symm
    rw [decide_eq_false h2, decide_eq_false this]
theorem iteB {A B : Prop} {b : Bool} (h1 : b = true → A) (h2 : b = false → B) : if b = true then A else B := by
 cases b with
 | true => exact h1 rfl
 | false => exact h2 rfl
section
variable {K : PySem.W.Frag} {ta tv te : TE} {f : Str} {D : Ends} {σ : L2.St} {H : Hp} {j : Nat} {Q : VK} {g : TG} {a b : TS}
theorem sFld_of (h : tv σ H fun y H1 => ta σ H1 fun x H2 => ∃ a C dx fs, x = .ref a ∧ H2 a = some (.ins C dx fs) ∧ Cls K C ∧ NoAttr K C f ∧ fs.length < 1000 ∧ D.nx σ (upd H2 a (.ins C dx (putF f y fs)))) : sFld K ta tv f D σ H := h
theorem tSetC_of (h : te σ H fun x H1 => D.nx (σ.set j (some x)) H1) : tSetC j te D σ H := h
theorem tRet_of (h : te σ H D.rt) : tRet te D σ H := h
theorem tIfS_of {c : TT} (h : c σ H fun x H1 => if x = true then a D σ H1 else b D σ H1) : tIfS c a b D σ H := h
theorem tB_of {R : Bool → Hp → Prop} (h : te σ H fun x H1 => ∃ c, x = .bl c ∧ R c H1) : tB te σ H R := h
theorem tCB_of {r : List V → Hp → VK → Prop} {tr : TA} (h : tr σ H fun vs H1 => r vs H1 Q) : tCB r tr σ H Q := h
theorem tCons_of {tr : TA} {R : List V → Hp → Prop} (h : te σ H fun x H1 => tr σ H1 fun xs H2 => R (x :: xs) H2) : tCons te tr σ H R := h
theorem gName_of {v : V} {R : L2.St → Hp → Prop} (h : R (σ.set j (some v)) H) : gName j v σ H R := h
theorem tSeq_of (h : a { D with nx := b D } σ H) : tSeq a b D σ H := h
end
structure FnP (K : PySem.W.Frag) (mg : Str → Option Value) (x qual : Str) (st : Stmt) (ps : List Str) (f : Addr) (fd : FuncData) : Prop where
 fn : Fun K x qual st f fd
 b : Binds K fd ps []
 mg : mg x = some (.ref f)
structure MeP (K : PySem.W.Frag) (C : Addr) (x qual : Str) (st : Stmt) (ps : List Str) (f : Addr) (fd : FuncData) : Prop where
 fn : Fun K x qual st f fd
 b : Binds K fd ps []
 me : Meth K C x f
theorem boot_len : bootBuiltins "len" = some (.builtin "len") := by decide +kernel
theorem boot_list : bootBuiltins "list" = some (.type "list") := by decide +kernel
theorem boot_isinstance : bootBuiltins "isinstance" = some (.builtin "isinstance") := by decide +kernel
theorem boot_any : bootBuiltins "any" = some (.builtin "any") := by decide +kernel
theorem boot_all : bootBuiltins "all" = some (.builtin "all") := by decide +kernel
theorem boot_int : bootBuiltins "int" = some (.type "int") := by decide +kernel
theorem boot_bool : bootBuiltins "bool" = some (.type "bool") := by decide +kernel
theorem boot_tuple : bootBuiltins "tuple" = some (.type "tuple") := by decide +kernel
section
variable {K : PySem.W.Frag}
theorem kit_int_bool : PySem.W.kitOne K (.type "int") (.type "bool") = some false := by rfl
theorem kit_int_int : PySem.W.kitOne K (.type "int") (.type "int") = some true := by rfl
theorem kit_list_list : PySem.W.kitOne K (.type "list") (.type "list") = some true := by rfl
theorem kit_tuple_tuple : PySem.W.kitOne K (.type "tuple") (.type "tuple") = some true := by rfl
end
end TK
namespace TX
open PySem PySem.Spec PyProof.Rows L2
theorem cut {X : Cx} {st : List Stmt} {u : TS} {M : TS} (h : PSs X st u) (hM : ∀ D σ H, M D σ H → u D σ H) : PSs X st M := fun pins s σ H D I q => h pins s σ H D I (hM D σ H q)
end TX
namespace TX
open PySem PySem.Spec PyProof.Rows L2
section
variable {X : Cx}
theorem call_sorted : CallR X (.builtin "sorted") (fun xs H Q => ∃ (p : Addr) (ns : List Int), xs = [.ref p] ∧ SqL X.K H p (ns.map V.int) ∧ ns.length < 64 ∧
  ∀ (l : Addr) (ms : List Int), H l = none → ms.Perm ns → ms.Pairwise (· ≤ ·) → Q (.ref l) (upd H l (.lst (ms.map V.int)))) := by
 intro pins s σ H xs us Q I r h
 obtain ⟨p, ns, rfl, hq, hz, q⟩ := h
 obtain ⟨u, rfl, rx⟩ := vals1 r
 cases rx
 obtain ⟨its, r', pl, hz'⟩ := I.list hq
 have hi := intsAre_of r'
 have hlen := hi.length
 refine sorted_ints pl.isList hi (by omega) fun out ms ho hp hs => ?_
 obtain ⟨e, he⟩ := sortedAll_at s.heap its out
 have hml := hp.length_eq
 refine ⟨.ref (s.heap.objs.size + 1), _, I.laid (t' := s.toks) (a := s.heap.objs.size + 1) (o := .lst (ms.map V.int)) (fun b o q => sortedAll_old q) (Nat.le_succ _)
  (show ObjOk X.prog X.w _ _ _ (.lst (ms.map V.int)) from ⟨?_, out.toList, e, vals_ints ho, by simpa [seqObj] using he⟩), rfl, q _ ms (I.hok.fresh (Nat.le_succ _)) hp hs⟩
 rw [List.length_map, hml]
 exact Nat.le_of_lt (small1000 (by omega))
def rLen (K : PySem.W.Frag) : List V → Hp → VK → Prop := fun xs H Q => ∃ (p : Addr) (ys : List V), xs = [.ref p] ∧ (SqL K H p ys ∨ SqT K H p ys) ∧ Q (.int ys.length) H
theorem call_lenS : CallR X (.builtin "len") (rLen X.K) := call_len_seq
end
end TX
namespace TK
open PySem
theorem boot_sorted : bootBuiltins "sorted" = some (.builtin "sorted") := by decide +kernel
end TK
namespace TX
open PySem PySem.Spec PyProof.Rows L2
theorem ObjOk.has {P : Program} {w : World} {H : Hp} {h : Heap} {a : Addr} {o : HO} (x : ObjOk P w H h a o) : ∃ u, h.get? a = some u := by
 cases o with
 | lst xs => obtain ⟨_, _, _, _, e⟩ := x; exact ⟨_, e⟩
 | tup xs => obtain ⟨_, _, _, u, e, _⟩ := x; exact ⟨u, e⟩
 | dK kvs => obtain ⟨_, _, _, _, o, _, _, e, _⟩ := x; exact ⟨o, e⟩
 | dT kvs => obtain ⟨_, _, _, _, o, _, _, e, _⟩ := x; exact ⟨o, e⟩
 | set S n => obtain ⟨o, _, _, _, e, _⟩ := x; exact ⟨o, e⟩
 | ins C dx fs => obtain ⟨_, _, _, e, _⟩ := x; exact ⟨_, e⟩
 | own y => exact x
 | xd fs => obtain ⟨_, ⟨o, _, _, e, _⟩, _⟩ := x; exact ⟨o, e⟩
 | met f y => exact ⟨_, x⟩
 | rng lo hi => obtain ⟨_, _, _, e⟩ := x; exact ⟨_, e⟩
 | frz o u => exact ⟨_, x.1⟩
 | tbl ps => exact ⟨_, x⟩
 | ext φ => exact x.2.1
theorem HOk.none {P : Program} {w : World} {H : Hp} {h : Heap} {a : Addr} (x : HOk P w H h) (e : h.get? a = none) : H a = none := by
 cases q : H a with
 | none => rfl
 | some o => obtain ⟨u, z⟩ := ObjOk.has (x a o q); rw [e] at z; cases z
def Fly (H : Hp) (h₀ h : Heap) (C e : Addr) : Prop := ∃ (a0 : Value) (oe : Obj) (vs : Array Value) (T : Addr) (oT : Obj) (ts : Array Value), h.get? e = some oe ∧ (oe.cls = .ref C ∧ vs[0]? = some a0) ∧ oe.data = .fields vs ∧ vs[1]? = some (.ref T) ∧ T ≠ e ∧
 h.get? T = some oT ∧ oT.data = .fields ts ∧ ts[3]? = some .none ∧ H e = none ∧ H T = none ∧ h₀.get? e = none ∧ h₀.get? T = none
def CX1 (P : Program) (w : World) (C : Addr) : CXT := fun outer H s E ev s' => ∃ (e : Addr) (H' : Hp), ev = .ref e ∧ s'.os = s.os ∧ AllBare s'.gens ∧ Un (frs outer) [] H H' s.heap s'.heap ∧ HOk P w H' s'.heap ∧ Fly H' s.heap s'.heap C e ∧ E (.ref C) none H'
structure Kp (fs ex : List Addr) (h h' : Heap) : Prop where
 keep : ∀ b o, h.get? b = some o → b ∉ fs → b ∉ ex → h'.get? b = some o
 slot : ∀ b o, h.get? b = some o → b ∈ fs → ∃ sl, h'.get? b = some { o with slots := sl }
theorem Kp.of {fs ex : List Addr} {h h' : Heap} (k : (PySem.W.hideAll h (ex ++ fs)).StaysIn h') (u : ∀ b o, h.get? b = some o → b ∈ fs → ∃ sl, h'.get? b = some { o with slots := sl }) : Kp fs ex h h' :=
 ⟨fun b o e n1 n2 => k b o (PySem.W.hideAll_get _ e fun z => (List.mem_append.mp z).elim n2 n1), u⟩
theorem Kp.hok {P : Program} {w : World} {H : Hp} {fs ex : List Addr} {h h' : Heap} (k : Kp fs ex h h') (x : HOk P w H h) (hf : ∀ b ∈ fs, H b = none) (he : ∀ b ∈ ex, H b = none) : HOk P w H h' := fun a o e => by
 refine (x a o e).stay (fun c v hc q => k.keep c v q ?_ ?_) (fun _ q => q) fun _ _ q => q
 ·intro z
  rcases hc with rfl | hc
  ·rw [hf _ z] at e; cases e
  ·rw [hf _ z] at hc; cases hc
 ·intro z
  rcases hc with rfl | hc
  ·rw [he _ z] at e; cases e
  ·rw [he _ z] at hc; cases hc
theorem Kp.un {H H' : Hp} {fs ex : List Addr} {h₀ h h' : Heap} (k : Kp fs ex h h') (u : Un fs [] H H' h₀ h) (he : ∀ b ∈ ex, h₀.get? b = none) : Un fs [] H H' h₀ h' := by
 have nex : ∀ b o, h₀.get? b = some o → b ∉ ex := fun b o q z => by rw [he b z] at q; cases q
 have nil : ∀ b : Addr, b ∉ ([] : List Addr) := fun b z => absurd z (by simp)
 refine ⟨fun b o q n hb _ => k.keep b o (u.keep b o q n hb (nil b)) hb (nex b o q), fun b o q n hb _ => ?_, fun b o q n hx => u.free b o q n hx, fun b o q _ => ?_, u.tups, u.frzs, u.tbls⟩
 ·obtain ⟨sl, e⟩ := u.slot b o q n hb (nil b)
  obtain ⟨sl', e'⟩ := k.slot b _ e hb
  exact ⟨sl', e'⟩
 ·obtain ⟨o', e⟩ := u.there b o q (nil b)
  by_cases hb : b ∈ fs
  ·obtain ⟨sl, e'⟩ := k.slot b o' e hb
   exact ⟨_, e'⟩
  ·exact ⟨o', k.keep b o' e hb (nex b o q)⟩
section
variable {X : Cx} {pins : List (Addr × Obj)} {σ : L2.St} {H H' : Hp} {s s' : Shared} {C e : Addr}
theorem frames_kept {base h h' : Heap} {l : List Env} (f : h.FunFrames base l) (u : h.UpToSlots h') : ∀ b o, h.get? b = some o → b ∈ frs l → ∃ sl, h'.get? b = some { o with slots := sl } := fun b o q hb => by
 obtain ⟨_, o', ho, hn⟩ := f.mem hb
 rw [q] at ho; cases ho
 exact u b o q hn
theorem fly_of {B h h' h₀ : Heap} {ex : List Addr} {l : List Env} (hB : B = PySem.W.hideAll h (ex ++ frs l)) (f : h'.FunFrames B l) {a0 : Value} (t : h'.TracedW B e (.ref C) a0) (he : H e = none) (hex : ∀ b ∈ ex, H b = none ∧ h₀.get? b = none)
  (e0 : h₀.get? e = none) (hn : ∀ b, h.get? b = none → H b = none) (h0 : ∀ b o, h₀.get? b = some o → ∃ o', h.get? b = some o') : Fly H h₀ h' C e := by
 obtain ⟨oe, vs, T, oT, ts, g1, g2, g3, g4, g5, g6, g7, g8, g9⟩ := t
 have hT : ∀ o, h.get? T = some o → T ∈ ex := fun o q => by
  rw [hB] at g5
  refine Classical.byContradiction fun nx => ?_
  by_cases hb : T ∈ frs l
  ·obtain ⟨_, o', ho, hnf⟩ := f.mem hb
   rw [g7] at ho; cases ho
   exact hnf ts g8
  ·rw [PySem.W.hideAll_get _ q fun z => (List.mem_append.mp z).elim nx hb] at g5
   cases g5
 have hTH : H T = none ∧ h₀.get? T = none := by
  cases q : h.get? T with
  | some o => exact hex T (hT o q)
  | none =>
   refine ⟨hn T q, ?_⟩
   cases z : h₀.get? T with
   | none => rfl
   | some o => obtain ⟨o', z'⟩ := h0 T o z; rw [q] at z'; cases z'
 exact ⟨a0, oe, vs, T, oT, ts, g1, g2, g3, g4, g6, g7, g8, g9, he, hTH.1, e0, hTH.2⟩
theorem Inv.after0 (I : Inv X pins σ H s) (ho : s'.os = s.os) (u : Un (frs X.stack) [] H H' s.heap s'.heap) (hok : HOk X.prog X.w H' s'.heap) (hg : AllBare s'.gens) : Inv X pins σ H' s' :=
 I.call' ho u hok hg fun b z => absurd z (by simp)
end
section
variable {P : Program} {w : World} {K : PySem.W.Frag} {mg : Str → Option Value} {base : Heap} {N : List Str} {qual : Str} {scope : Scope} {f : Addr} {cd : Value} {A : Around} {outer : List Env} {s₀ : Shared} {H₀ : Hp} {E : XK} {C : Addr}
abbrev cx1 (C : Addr) (P : Program) (w : World) (K : PySem.W.Frag) (mg : Str → Option Value) (base : Heap) (N : List Str) (qual : Str) (scope : Scope) (f : Addr) (cd : Value) (A : Around) (outer : List Env) (s : Shared) (H : Hp) (E : XK) : Cx :=
 cxOf (CX1 P w C) P w K mg base N qual scope f cd A outer s H E
theorem there0 {pins : List (Addr × Obj)} {σ : L2.St} {H : Hp} {s : Shared} (I : Inv (cx1 C P w K mg base N qual scope f cd A outer s₀ H₀ E) pins σ H s) : ∀ b o, s₀.heap.get? b = some o → ∃ o', s.heap.get? b = some o' := fun b o q =>
 I.base.there b o q fun z => absurd z (by simp [cx1, cxOf])
theorem neLoc {pins : List (Addr × Obj)} {σ : L2.St} {H : Hp} {s : Shared} (I : Inv (cx1 C P w K mg base N qual scope f cd A outer s₀ H₀ E) pins σ H s) {b : Addr} {o : Obj} (q : s₀.heap.get? b = some o) : b ≠ (cx1 C P w K mg base N qual scope f cd A outer s₀ H₀ E).env.locals :=
 Nat.ne_of_lt (Nat.lt_of_lt_of_le (Heap.lt_size q) I.ok.above)
theorem left {pins : List (Addr × Obj)} {σ : L2.St} {H : Hp} {s s'' : Shared} {ex : List Addr} {e : Addr} {h1 : Heap} (I : Inv (cx1 C P w K mg base N qual scope f cd A outer s₀ H₀ E) pins σ H s)
  (hos : s''.os = s.os) (hg : s''.gens = s.gens) (k1 : ∀ b o, s.heap.get? b = some o → b ∉ ex → h1.get? b = some o)
  (kb : (PySem.W.hideAll h1 (ex ++ frs (cx1 C P w K mg base N qual scope f cd A outer s₀ H₀ E).stack)).StaysIn s''.heap) (us : h1.UpToSlots s''.heap) (hex : ∀ b ∈ ex, H b = none ∧ s₀.heap.get? b = none)
  (fl : Fly H s₀.heap s''.heap C e) (hE : E (.ref C) none H) : CX1 P w C outer H₀ s₀ E (.ref e) s'' := by
 have nil : ∀ b : Addr, b ∉ (cx1 C P w K mg base N qual scope f cd A outer s₀ H₀ E).ex := fun b z => absurd (show b ∈ ([] : List Addr) from z) (by simp)
 have nex : ∀ b o, s₀.heap.get? b = some o → b ∉ ex := fun b o q z => by rw [(hex b z).2] at q; cases q
 have hin : ∀ b ∈ frs outer, b ∈ frs (cx1 C P w K mg base N qual scope f cd A outer s₀ H₀ E).stack := fun b hb => by
  show b ∈ frs (_ :: outer)
  unfold frs at hb ⊢
  rw [List.filterMap_cons]
  split
  ·exact hb
  ·exact List.mem_cons_of_mem _ hb
 have keep : ∀ b o, s.heap.get? b = some o → b ∉ ex → b ∉ frs (cx1 C P w K mg base N qual scope f cd A outer s₀ H₀ E).stack → s''.heap.get? b = some o := fun b o q n1 n2 =>
  kb b o (PySem.W.hideAll_get _ (k1 b o q n1) fun z => (List.mem_append.mp z).elim n1 n2)
 have nst : ∀ b o, s₀.heap.get? b = some o → b ∉ frs outer → b ∉ frs (cx1 C P w K mg base N qual scope f cd A outer s₀ H₀ E).stack := fun b o q n z => by
  rcases List.mem_cons.mp (I.stkSub b z) with r | r
  ·exact neLoc I q r
  ·exact n r
 have fr : s.heap.FunFrames base outer := I.funs
 have frk : ∀ b o, s.heap.get? b = some o → b ∉ ex → b ∈ frs outer → ∃ sl, s''.heap.get? b = some { o with slots := sl } := fun b o q n hb => by
  obtain ⟨_, o', ho, hn⟩ := fr.mem hb
  rw [q] at ho; cases ho
  exact us b o (k1 b o q n) hn
 have un : Un (frs outer) [] H₀ H s₀.heap s''.heap := by
  refine ⟨fun b o q n hb _ => keep b o (I.base.keep b o q n hb (nil b)) (nex b o q) (nst b o q hb), fun b o q n hb _ => ?_, fun b o q n _ => I.base.free b o q n (nil b), fun b o q _ => ?_, I.base.tups, I.base.frzs, I.base.tbls⟩
  ·obtain ⟨sl, e1⟩ := I.base.slot b o q n hb (nil b)
   obtain ⟨sl', e2⟩ := frk b _ e1 (nex b o q) hb
   exact ⟨sl', e2⟩
  ·obtain ⟨o', e1⟩ := I.base.there b o q (nil b)
   by_cases hb : b ∈ frs outer
   ·obtain ⟨sl', e2⟩ := frk b _ e1 (nex b o q) hb
    exact ⟨_, e2⟩
   ·exact ⟨o', keep b o' e1 (nex b o q) (nst b o q hb)⟩
 refine ⟨e, H, rfl, hos.trans I.os, by rw [hg]; exact I.bare, un, fun a o q => ?_, fl, hE⟩
 refine (I.hok a o q).stay (fun c v hc r => keep c v r (fun z => ?_) fun z => ?_) (fun _ r => r) fun _ _ r => r
 ·have hz := (hex c z).1
  rcases hc with rfl | hc
  ·rw [hz] at q; cases q
  ·rw [hz] at hc; cases hc
 ·have hz := I.stkFree c z
  rcases hc with rfl | hc
  ·rw [hz] at q; cases q
  ·rw [hz] at hc; cases hc
theorem made_leaves {pins : List (Addr × Obj)} {σ : L2.St} {H : Hp} {s : Shared} {h' : Heap} {e : Addr} {vs : List Value} (I : Inv (cx1 C P w K mg base N qual scope f cd A outer s₀ H₀ E) pins σ H s) (hx : Heap.MadeExcOf s.heap h' e (.ref C) vs) (hE : E (.ref C) none H) :
  (cx1 C P w K mg base N qual scope f cd A outer s₀ H₀ E).xe (.ref e) { s with heap := h' } := by
 have hin : ∀ env ∈ (cx1 C P w K mg base N qual scope f cd A outer s₀ H₀ E).stack, ∀ b, env.frame = some b → b ∈ [] ++ frs (cx1 C P w K mg base N qual scope f cd A outer s₀ H₀ E).stack := fun env he b hb => List.mem_filterMap.mpr ⟨env, he, hb⟩
 have e0 : s₀.heap.get? e = none := by
  cases q : s₀.heap.get? e with
  | none => rfl
  | some o => obtain ⟨o', z⟩ := there0 I e o q; rw [hx.new] at z; cases z
 refine wpAny_leaves_madeW (base := PySem.W.hideAll s.heap ([] ++ frs (cx1 C P w K mg base N qual scope f cd A outer s₀ H₀ E).stack)) I.ok.frames rfl (fun b o q => PySem.W.of_hideAll _ q) (PySem.W.funFrames_hide I.stack hin) hx fun h2 t x1 x2 x3 x4 => ?_
 obtain ⟨y1, y2, y3, y4⟩ := x1
 have us : s.heap.UpToSlots h2 := (Heap.UpToSlots.of_keeps hx.keeps).trans x4
 refine left (ex := []) (h1 := s.heap) I rfl rfl (fun b o q _ => q) y1 us (fun b z => absurd z (by simp)) ?_ hE
 refine fly_of (h := s.heap) (ex := []) (l := (cx1 C P w K mg base N qual scope f cd A outer s₀ H₀ E).stack) rfl ?_ y4 (HOk.none I.hok hx.new) (fun b z => absurd z (by simp)) e0 (fun b q => HOk.none I.hok q) (there0 I)
 exact (PySem.W.funFrames_hide I.stack hin).of_keeps fun b o q hn => by
  obtain ⟨sl, z⟩ := us b o q hn
  exact ⟨_, z, rfl⟩
theorem passes1 : Passes (CX1 P w C) (cx1 C P w K mg base N qual scope f cd A outer s₀ H₀ E) E := by
 intro pins σ H s ev s' I hx
 obtain ⟨e, H', rfl, hos, hg, un, hok, ⟨a0, oe, vs, T, oT, ts, g1, g2, g3, g4, g5, g6, g7, g8, g9, g10, g11, g12⟩, hE⟩ := hx
 have I' : Inv (cx1 C P w K mg base N qual scope f cd A outer s₀ H₀ E) pins σ H' s' := Inv.after0 I hos un hok hg
 have hin : ∀ env ∈ (cx1 C P w K mg base N qual scope f cd A outer s₀ H₀ E).stack, ∀ b, env.frame = some b → b ∈ [e, T] ++ frs (cx1 C P w K mg base N qual scope f cd A outer s₀ H₀ E).stack := fun env he b hb => List.mem_append_right _ (List.mem_filterMap.mpr ⟨env, he, hb⟩)
 have old : ∀ b, s.heap.get? b = none → s₀.heap.get? b = none := fun b q => by
  cases z : s₀.heap.get? b with
  | none => rfl
  | some o => obtain ⟨o', z'⟩ := there0 I b o z; rw [q] at z'; cases z'
 have hex : ∀ b ∈ [e, T], H' b = none ∧ s₀.heap.get? b = none := fun b hb => by
  rcases List.mem_cons.mp hb with rfl | hb
  ·exact ⟨g9, old _ g11⟩
  ·obtain rfl := List.mem_singleton.mp hb
   exact ⟨g10, old _ g12⟩
 have hfl : Heap.FlyingW (PySem.W.hideAll s'.heap ([e, T] ++ frs (cx1 C P w K mg base N qual scope f cd A outer s₀ H₀ E).stack)) (cx1 C P w K mg base N qual scope f cd A outer s₀ H₀ E).stack e (.ref C) a0 s'.heap :=
  ⟨fun b o q => PySem.W.of_hideAll _ q, PySem.W.hideAll_none _ (by simp), PySem.W.funFrames_hide I'.stack hin, oe, vs, T, oT, ts, g1, g2, g3, g4, PySem.W.hideAll_none _ (by simp), g5, g6, g7, g8⟩
 refine wpAny_leaves_onW I'.ok.frames rfl hfl fun h2 y us => ?_
 obtain ⟨y1, y2, y3, y4⟩ := y
 refine left (ex := [e, T]) (h1 := s'.heap) I' rfl rfl (fun b o q _ => q) y1 us hex ?_ hE
 refine fly_of (h := s'.heap) (ex := [e, T]) (l := (cx1 C P w K mg base N qual scope f cd A outer s₀ H₀ E).stack) rfl ?_ y4 g9 hex (old _ g11) (fun b q => HOk.none hok q) (there0 I')
 exact (PySem.W.funFrames_hide I'.stack hin).of_keeps fun b o q hn => by
  obtain ⟨sl, z⟩ := us b o q hn
  exact ⟨_, z, rfl⟩
theorem exc_obj {h : Heap} {bmB : List Value} {newId : String} (kin : K.In h) (q : PySem.W.excIn K C bmB newId = true) :
  ∃ (bm : List Value) (Na : Addr) (nm qn : Str) (bs : List Value) (hdct : Bool) (sn : List Str) (sub : List Value) (ab : Bool) (col : Option Bool) (dd : Option Addr) (k0 k1 k2 k3 k5 : Option Value) (mN : Str → Option Value),
   h.get? C = some (excClassObj nm qn C Na bs bm hdct sn sub ab col dd k0 k1 k2 k3 k5 newId) ∧ h.Ns Na mN ∧ mN "__init__" = none ∧ OwnTail h bmB bm := by
 unfold PySem.W.excIn at q
 split at q
 case h_2 => cases q
 case h_1 dd cl sl look =>
  split at q
  case h_2 => cases q
  case h_1 C2 bm k0 k1 k2 k3 nid k5 mro slots =>
   rw [Bool.and_eq_true, Bool.and_eq_true, Bool.and_eq_true, Bool.and_eq_true, Bool.and_eq_true] at q
   obtain ⟨⟨⟨⟨⟨q1, q2⟩, q3⟩, q4⟩, q5⟩, q6⟩ := q
   have r1 : C2 = C := by simpa using q1
   have r2 : nid = newId := by simpa using q2
   have r6 : PySem.W.nsIn K cl.ns "__init__" = some none := by simpa using q6
   subst r1; subst r2
   have there := kin _ _ look
   have own := PySem.W.tail_of_in kin q4
   have ns : h.Ns cl.ns (h.nsMap cl.ns) := .of_isNs (PySem.W.isNs_of_in kin q5)
   have no := PySem.W.nsMap_none_of_in kin q5 r6
   cases cl
   have esl : sl = #[k0, k1, k2, k3, some (.builtin nid), k5] := Array.toList_inj.mp slots
   simp only [Bool.not_eq_true'] at q3
   simp only at mro q3 own ns no
   subst esl
   rw [mro, q3] at there
   exact ⟨bm, _, _, _, _, _, _, _, _, _, dd, k0, k1, k2, k3, k5, _, there, ns, no, own⟩
def tRaise (E : XK) (C : Addr) (ta : TE) : TS := fun _ σ H => ta σ H fun _ H1 => E (.ref C) none H1
theorem ps_raise {x : Str} {np cpos pos : Pos} {a : Expr} {ta : TE} {bmB bmN : List Value} {B Bn newId nid initId inN : String} (Fn : ExcBaseFacts Bn newId inN bmN) (hBn : bmB.contains (.type Bn) = true) (FB : ExcBaseFacts B nid initId bmB) (q : PySem.W.excIn K C bmB newId = true)
  (hg : Gl (cx1 C P w K mg base N qual scope f cd A outer s₀ H₀ E) x) (hm : mg x = some (.ref C)) (ha : PE (cx1 C P w K mg base N qual scope f cd A outer s₀ H₀ E) a ta) (hc : (cx1 C P w K mg base N qual scope f cd A outer s₀ H₀ E).A.handled = none)
  (hd : (x == ("__debug__" : Str)) = false := by decide) (hs : starEach [a] (cx1 C P w K mg base N qual scope f cd A outer s₀ H₀ E).env = [(false, eval a (cx1 C P w K mg base N qual scope f cd A outer s₀ H₀ E).env)] := by rfl) :
  PS (cx1 C P w K mg base N qual scope f cd A outer s₀ H₀ E) (.Raise (some (.Call (.Name x np) [a] [] cpos)) none pos) (tRaise E C ta) := by
 intro pins s σ H D I h
 obtain ⟨bm, Na, nm, qn, bs, hdct, sn, sub, ab, col, dd, k0, k1, k2, k3, k5, mN, hC, hN, hni, TL⟩ := exc_obj I.mod.kin q
 refine wpAny_Raise_call_subU (C := C) (nm := nm) (q := qn) (N := Na) (bs := bs) (bm := bm) (hdct := hdct) (sn := sn) (sub := sub) (ab := ab) (col := col) (dd := dd) (k0 := k0) (k1 := k1) (k2 := k2) (k3 := k3) (k5 := k5) Fn hBn FB (mN := mN) (TL.hasType FB.hasBase) hc (by rw [hs]; rfl) hni (ld_glob I hg hm ⟨rfl, ?_⟩ hd)
 rw [hs]
 refine Calls.evalArgs_plain (Calls.spliced_cons (thn (ha pins s σ H _ I h) fun v s1 ⟨y, H1, I1, r1, q1⟩ => Calls.spliced_nil ?_))
 exact ⟨rfl, (by show 1 ≤ sizeLine; decide), I1.bk _ _ hC, hN.keeps I1.bk, TL.keeps I1.bk, fun h' e hx => made_leaves I1 hx q1⟩
end
section
variable {X : Cx} {C : Addr}
abbrev cxT (X : Cx) (C : Addr) (pn : List (Addr × Obj)) (E : XK) : Cx := { X with pn := pn, xe := fun ev s' => ∃ (σ : L2.St) (H0 : Hp) (s1 : Shared), Inv { X with pn := pn } [] σ H0 s1 ∧ CX1 X.prog X.w C X.stack H0 s1 E ev s' }
theorem ok_pn {X : Cx} (ok : X.Ok) (pn : List (Addr × Obj)) (xe : Value → Shared → Prop) : Cx.Ok { X with pn := pn, xe := xe } :=
 ⟨ok.mod, ok.kind, ok.glob, ok.blt, ok.above, ok.inj, ok.has, ok.cab, ok.hd, ok.frames, ok.stk, ok.exf, ok.bs, ok.bsz, ok.noex, ok.exfs, ok.funs, ok.frf⟩
theorem ok_unpn {X : Cx} {pn : List (Addr × Obj)} {xe : Value → Shared → Prop} (ok : Cx.Ok { X with pn := pn, xe := xe }) : X.Ok :=
 ⟨ok.mod, ok.kind, ok.glob, ok.blt, ok.above, ok.inj, ok.has, ok.cab, ok.hd, ok.frames, ok.stk, ok.exf, ok.bs, ok.bsz, ok.noex, ok.exfs, ok.funs, ok.frf⟩
theorem inv_pn {pins : List (Addr × Obj)} {σ : L2.St} {H : Hp} {s : Shared} (I : Inv X pins σ H s) (xe : Value → Shared → Prop) : Inv { X with pn := X.pn ++ pins, xe := xe } [] σ H s :=
 ⟨ok_pn I.ok _ _, I.os, I.bare, I.base, I.loc, I.cell, I.free, I.freeC, fun p hp => I.pin p (by rw [List.append_nil] at hp; exact hp), I.hok, I.len⟩
theorem inv_unpn {pins pins2 : List (Addr × Obj)} {σ : L2.St} {H : Hp} {s : Shared} {xe : Value → Shared → Prop} (I : Inv { X with pn := X.pn ++ pins, xe := xe } pins2 σ H s) : Inv X pins σ H s :=
 ⟨ok_unpn I.ok, I.os, I.bare, I.base, I.loc, I.cell, I.free, I.freeC, fun p hp => I.pin p (List.mem_append_left _ hp), I.hok, I.len⟩
theorem inv_drop {pins : List (Addr × Obj)} {σ : L2.St} {H : Hp} {s : Shared} {pn : List (Addr × Obj)} {xe xe' : Value → Shared → Prop} (I : Inv { X with pn := pn, xe := xe } pins σ H s) : Inv { X with pn := pn, xe := xe' } [] σ H s :=
 ⟨ok_pn (ok_unpn I.ok) _ _, I.os, I.bare, I.base, I.loc, I.cell, I.free, I.freeC, fun p hp => I.pin p (by rw [List.append_nil] at hp; exact List.mem_append_left _ hp), I.hok, I.len⟩
theorem pass2 {pn : List (Addr × Obj)} {E : XK} : Passes (CX1 X.prog X.w C) (cxT X C pn E) E := fun pins σ H s e s' I hx => ⟨σ, H, s, inv_drop I, hx⟩
theorem sp_unpn {pins : List (Addr × Obj)} {D : Ends} {f : Flow} {s' : Shared} {xe : Value → Shared → Prop} (h : SP { X with pn := X.pn ++ pins, xe := xe } [] D f s') : SP X pins D f s' := by
 cases f with
 | next => obtain ⟨σ', H', I, q⟩ := h; exact ⟨σ', H', inv_unpn I, q⟩
 | brk => obtain ⟨σ', H', I, q⟩ := h; exact ⟨σ', H', inv_unpn I, q⟩
 | cont => obtain ⟨σ', H', I, q⟩ := h; exact ⟨σ', H', inv_unpn I, q⟩
 | ret u => obtain ⟨v, σ', H', I, r, q⟩ := h; exact ⟨v, σ', H', inv_unpn I, r, q⟩
def tTryF (tb : XK → TS) : TS := fun D σ H => tb (fun _ _ H' => D.rt (.bl false) H') D σ H
end
end TX
namespace TX
open PySem PySem.Spec PyProof.Rows L2
open PySem.W (Dat kqdP kqdPs kqdOk)
section
variable {X : Cx}
theorem kqdPs_map : ∀ ds : List Dat, kqdPs ds = ds.map kqdP
 | [] => by rw [kqdPs]; rfl
 | d :: ds => by rw [kqdPs, kqdPs_map ds]; rfl
def rInD (K : PySem.W.Frag) : R2 := fun x y H Q => ∃ (d : Dat) (ds : List Dat), Dd K H x d ∧ Dd K H y (.list ds) ∧ kqdOk 8 d = true ∧ kqdOk 9 (.list ds) = true ∧ (d ∈ ds → Q (.bl true) H) ∧ (¬ d ∈ ds → Q (.bl false) H)
open Classical in
theorem op_inD (hu : X.A.units + 64 < cLine) : OpR X (compareOp .In) (rInD X.K) := by
 intro pins s σ H x y v u Q I rx ry h
 obtain ⟨d, ds, dx, dy, hd, hds, q1, q2⟩ := h
 obtain ⟨as, ra⟩ := dx.reads I rx
 obtain ⟨bs, rb⟩ := dy.reads I ry
 have lay := PySem.W.kqd_lay 8 d hd
 have hall : ∀ z ∈ ds, kqdOk 8 z = true := by
  rw [kqdOk, List.all_eq_true] at hds
  exact hds
 have layL := PySem.W.kqd_layL hall
 rw [kqdP] at rb
 refine SeqAt.in_list_reads rb ra layL.1 lay.1 (by have := lay.2; have : min (PyData.depthAll (kqdPs ds)) (kqdP d).depth ≤ 8 := Nat.le_trans (Nat.min_le_right _ _) lay.2; omega) ?_
 have e : ((kqdPs ds).any fun z => PyData.eqv z (kqdP d)) = decide (d ∈ ds) := by
  rw [kqdPs_map, List.any_map, Bool.eq_iff_iff, List.any_eq_true, decide_eq_true_iff]
  constructor
  ·rintro ⟨z, hz, q⟩
   rw [← (PySem.W.kqd_eqv 8 z d 8 (hall z hz) hd).mp q]; exact hz
  ·intro hm
   exact ⟨d, hm, (PySem.W.kqd_eqv 8 d d 8 hd hd).mpr rfl⟩
 rw [e]
 by_cases hq : d ∈ ds
 ·rw [decide_eq_true hq]; exact ⟨.bl true, H, I, rfl, q1 hq⟩
 ·rw [decide_eq_false hq]; exact ⟨.bl false, H, I, rfl, q2 hq⟩
end
def pLt : List (Int × Int) → List (Int × Int) → Bool
 | [], [] => false
 | [], _ :: _ => true
 | _ :: _, [] => false
 | p :: ps, q :: qs => if p = q then pLt ps qs else HT.lexLt [p.1, p.2] [q.1, q.2]
def LtAt (A : Around) (s : Shared) (x y : Value) (b : Bool) : Prop := ∀ (prog : Program) (w : World) (E : Value → Shared → Prop) (Q : Value → Shared → Prop), Q (.bool b) s → wpAny (model prog w) A (richCompare .Lt x y) Q E s
def ltFrom (e lt : Nat → Bool) (n m : Nat) : Nat → Nat → Bool
 | 0, _ => decide (n < m)
 | k + 1, i => if e i = true then ltFrom e lt n m k (i + 1) else lt i
section
open PySem.SeqAt
open PySem.AutoSeq1 (wpAny_loadPart')
theorem ltLoop (a b : Addr) (us ws : Array Value) (p q : Nat) (e lt : Nat → Bool) : ∀ (left place : Nat), min us.size ws.size - place = left →
  Meets (Builtin.«list.__eq__.loop» ⟨[.ref a, .ref b, rawInt place, rawInt 0], []⟩) (fun A R s => s.heap.get? a = some { cls := .type "list", data := .seq us p } ∧ s.heap.get? b = some { cls := .type "list", data := .seq ws q } ∧
   (∀ j (h1 : j < us.size) (h2 : j < ws.size), EqAt A.in1 s us[j] ws[j] (e j)) ∧ (∀ j (h1 : j < us.size) (h2 : j < ws.size), LtAt A.in1 s us[j] ws[j] (lt j)) ∧ R (.ok (.ret (.bool (ltFrom e lt us.size ws.size left place)))) s) := by
 intro left
 induction left with
 | zero =>
  intro place hk prog w A R s goal
  obtain ⟨hh, g, d, tk, os⟩ := s
  obtain ⟨ha, hb, _, _, fin⟩ := goal
  wp_walk using wpAny_loadPart' ha, wpAny_loadPart' hb
  have hend : us[((place : Nat) : Int).toNat]? = none ∨ ws[((place : Nat) : Int).toNat]? = none := by
   simp only [Int.toNat_natCast, Array.getElem?_eq_none_iff]
   omega
  rcases hend with z | z
  ·rw [z]
   wp_walk using wpAny_loadPart' ha, wpAny_loadPart' hb
   exact fin
  ·rw [z]
   cases us[((place : Nat) : Int).toNat]? with
   | none =>
    wp_walk using wpAny_loadPart' ha, wpAny_loadPart' hb
    exact fin
   | some _ =>
    wp_walk using wpAny_loadPart' ha, wpAny_loadPart' hb
    exact fin
 | succ left again_ =>
  intro place hk prog w A R s goal
  obtain ⟨hh, g, d, tk, os⟩ := s
  obtain ⟨ha, hb, he, hlt, fin⟩ := goal
  have p1 : place < us.size := by omega
  have p2 : place < ws.size := by omega
  wp_walk using wpAny_loadPart' ha, wpAny_loadPart' hb
  have u1 : us[((place : Nat) : Int).toNat]? = some us[place] := by simp [p1]
  have u2 : ws[((place : Nat) : Int).toNat]? = some ws[place] := by simp [p2]
  rw [u1, u2]
  refine wpAny_bind (he place p1 p2 prog w _ _ ?_)
  rw [ltFrom] at fin
  cases hb' : e place with
  | true =>
   rw [hb', if_pos rfl] at fin
   wp_walk
   rw [show ((place : Int) + 1) = ((place + 1 : Nat) : Int) by omega]
   refine ⟨plainId_quiet MeetsSeq3.plain_eq_loop _, codeAny_builtin MeetsSeq3.entry_eq_loop ?_⟩
   rw [Around.under_plainId MeetsSeq3.plain_eq_loop _]
   exact again_ (place + 1) (by omega) prog w A R _ ⟨ha, hb, he, hlt, fin⟩
  | false =>
   rw [hb', if_neg (by decide)] at fin
   wp_walk using wpAny_loadPart' ha, wpAny_loadPart' hb
   rw [u1, u2]
   have less := hlt place p1 p2 prog w
   wp_walk using less
   exact fin
theorem list_less (a b : Addr) (us ws : Array Value) (p q : Nat) (e lt : Nat → Bool) :
  Meets (Builtin.«list.__lt__» ⟨[.ref a, .ref b], []⟩) (fun A R s => s.heap.get? a = some { cls := .type "list", data := .seq us p } ∧ s.heap.get? b = some { cls := .type "list", data := .seq ws q } ∧
   (∀ j (h1 : j < us.size) (h2 : j < ws.size), EqAt A.in1 s us[j] ws[j] (e j)) ∧ (∀ j (h1 : j < us.size) (h2 : j < ws.size), LtAt A.in1 s us[j] ws[j] (lt j)) ∧ R (.ok (.ret (.bool (ltFrom e lt us.size ws.size (min us.size ws.size) 0)))) s) := by
 intro prog w A R s goal
 obtain ⟨hh, g, d, tk, os⟩ := s
 obtain ⟨ha, hb, he, hlt, fin⟩ := goal
 have isl := AutoSeq1.sub_list_list
 wp_walk using wpAny_loadPart' ha, wpAny_loadPart' hb
 refine ⟨plainId_quiet MeetsSeq3.plain_eq_loop _, codeAny_builtin MeetsSeq3.entry_eq_loop ?_⟩
 rw [Around.under_plainId MeetsSeq3.plain_eq_loop _]
 exact ltLoop a b us ws p q e lt _ 0 rfl prog w A R _ ⟨ha, hb, he, hlt, fin⟩
end
section
variable {prog : Program} {w : World} {A : Around} {E : Value → Shared → Prop} {s : Shared}
open PySem.SeqAt
theorem one_less {a b : Addr} {us ws : Array Value} {p q : Nat} {e lt : Nat → Bool} {Q : Bool → Shared → Prop} (hu : A.units < cLine) (ha : s.heap.get? a = some { cls := .type "list", data := .seq us p }) (hb : s.heap.get? b = some { cls := .type "list", data := .seq ws q })
  (he : ∀ A', A'.units ≤ A.units + 4 → ∀ j (h1 : j < us.size) (h2 : j < ws.size), EqAt A' s us[j] ws[j] (e j)) (hlt : ∀ A', A'.units ≤ A.units + 4 → ∀ j (h1 : j < us.size) (h2 : j < ws.size), LtAt A' s us[j] ws[j] (lt j)) (fin : Q (ltFrom e lt us.size ws.size (min us.size ws.size) 0) s) :
  wpAny (model prog w) A (oneLt' true (.ref a) (.ref b)) Q E s := by
 rw [oneLt'_eq]
 simp only [if_true]
 refine wpAny_bind (wpAny_cRoomFor hu ?_)
 refine wpAny_bind (wpAny_callSpecialIfBound?_slot (T := "list") ⟨_, ha, rfl⟩ PySem.F.slot_list_lt ?_)
 refine call_meets PySem.F.slot_list_lt ⟨_, ha, rfl⟩ PySem.F.entry_list_lt (PySem.F.args_list_lt_2 _ _) (list_less a b us ws p q e lt) ⟨ha, hb, fun j h1 h2 => he _ (by show _ + _ ≤ _; omega) j h1 h2, fun j h1 h2 => hlt _ (by show _ + _ ≤ _; omega) j h1 h2, ?_⟩
 exact wpAny_truthy_bool fin
end
end TX
namespace TQ
open PySem PySem.W PyProof.Rows
def Runs (b : Nat → Nat → Bool) (V : Nat → Prop) {α : Type} : KasT α → α → Prop
 | .ret a, c => a = c
 | .ask i j k, c => V i ∧ V j ∧ Runs b V (k (b i j)) c
theorem Runs.bind {b : Nat → Nat → Bool} {V : Nat → Prop} {α β : Type} {f : α → KasT β} {a : α} {c : β} : ∀ {t : KasT α}, Runs b V t a → Runs b V (f a) c → Runs b V (t.bind f) c
 | .ret x, h, q => by
  have h : x = a := h
  subst h; exact q
 | .ask i j k, h, q => ⟨h.1, h.2.1, Runs.bind h.2.2 q⟩
theorem Runs.wp {b : Nat → Nat → Bool} {V : Nat → Prop} {α : Type} {cmp : Nat → Nat → (Bool → Shared → Prop) → Shared → Prop} {s : Shared} {Q : α → Shared → Prop} (hc : ∀ i j C, V i → V j → C (b i j) s → cmp i j C s) {a : α} (q : Q a s) :
  ∀ {t : KasT α}, Runs b V t a → t.kasWp cmp Q s
 | .ret x, h => by
  have h : x = a := h
  subst h; exact q
 | .ask i j k, h => hc i j _ h.1 h.2.1 (Runs.wp hc q h.2.2)
section
variable {n : Nat} {r : Nat → Int}
structure Ord (n : Nat) (p : Array Nat) : Prop where
 size : p.size = n
 perm : p.toList.Perm (List.range n)
theorem Ord.lt {p : Array Nat} (o : Ord n p) {i : Nat} (h : i < n) : p.getD i 0 < n := by
 have hi : i < p.size := by rw [o.size]; exact h
 have : p.getD i 0 ∈ p.toList := by
  simp [Array.getD, hi]
 exact List.mem_range.mp (o.perm.mem_iff.mp this)
theorem Ord.inj {p : Array Nat} (o : Ord n p) {i j : Nat} (hi : i < n) (hj : j < n) (e : p.getD i 0 = p.getD j 0) : i = j := by
 have hi : i < p.toList.length := by simpa [o.size] using hi
 have hj : j < p.toList.length := by simpa [o.size] using hj
 have nd : p.toList.Nodup := o.perm.nodup_iff.mpr List.nodup_range
 have e' : p.toList[i] = p.toList[j] := by
  have hi' : i < p.size := by simpa using hi
  have hj' : j < p.size := by simpa using hj
  simpa [Array.getD, hi', hj'] using e
 exact (List.getElem_inj nd).mp e'
abbrev B (r : Nat → Int) : Nat → Nat → Bool := fun i j => decide (r i < r j)
abbrev V (n : Nat) : Nat → Prop := fun i => i < n
def Up (r : Nat → Int) (p : Array Nat) (m : Nat) : Prop := ∀ i j, i < j → j < m → r (p.getD i 0) < r (p.getD j 0)
def Dn (r : Nat → Int) (p : Array Nat) (m : Nat) : Prop := ∀ i j, i < j → j < m → r (p.getD j 0) < r (p.getD i 0)
theorem Up.one (p : Array Nat) : Up r p 1 := fun i j h1 h2 => by omega
theorem Up.next {p : Array Nat} {m : Nat} (h : Up r p m) (hm : 1 ≤ m) (q : r (p.getD (m - 1) 0) < r (p.getD m 0)) : Up r p (m + 1) := fun i j h1 h2 => by
 by_cases e : j = m
 ·subst e
  by_cases e2 : i = j - 1
  ·subst e2; exact q
  ·exact Int.lt_trans (h i (j - 1) (by omega) (by omega)) q
 ·exact h i j h1 (by omega)
theorem Dn.next {p : Array Nat} {m : Nat} (h : Dn r p m) (hm : 1 ≤ m) (q : r (p.getD m 0) < r (p.getD (m - 1) 0)) : Dn r p (m + 1) := fun i j h1 h2 => by
 by_cases e : j = m
 ·subst e
  by_cases e2 : i = j - 1
  ·subst e2; exact q
  ·exact Int.lt_trans q (h i (j - 1) (by omega) (by omega))
 ·exact h i j h1 (by omega)
variable (hr : ∀ i j, i < n → j < n → r i = r j → i = j)
include hr
theorem ne_lt {p : Array Nat} (o : Ord n p) {i j : Nat} (hi : i < n) (hj : j < n) (h : i ≠ j) (q : ¬ r (p.getD i 0) < r (p.getD j 0)) : r (p.getD j 0) < r (p.getD i 0) := by
 have : r (p.getD i 0) ≠ r (p.getD j 0) := fun e => h (o.inj hi hj (hr _ _ (o.lt hi) (o.lt hj) e))
 omega
theorem asc_runs {p : Array Nat} (o : Ord n p) : ∀ (f m : Nat), 1 ≤ m → m + f ≤ n → Up r p m → ∃ k, Runs (B r) (V n) (kas_asc p f m) k ∧ m ≤ k ∧ k ≤ m + f ∧ Up r p k ∧ (k < m + f → r (p.getD k 0) < r (p.getD (k - 1) 0))
 | 0, m, _, _, h => ⟨m, rfl, Nat.le_refl _, Nat.le_refl _, h, fun z => by omega⟩
 | f + 1, m, h1, h2, h => by
  by_cases q : r (p.getD m 0) < r (p.getD (m - 1) 0)
  ·refine ⟨m, ⟨o.lt (by omega), o.lt (by omega), ?_⟩, Nat.le_refl _, by omega, h, fun _ => q⟩
   show Runs _ _ (if decide _ = true then KasT.ret m else _) m
   rw [if_pos (decide_eq_true q)]
   rfl
  ·obtain ⟨k, g1, g2, g3, g4, g5⟩ := asc_runs o f (m + 1) (by omega) (by omega) (h.next h1 (ne_lt hr o (by omega) (by omega) (by omega) q))
   refine ⟨k, ⟨o.lt (by omega), o.lt (by omega), ?_⟩, by omega, by omega, g4, fun z => g5 (by omega)⟩
   show Runs _ _ (if decide _ = true then KasT.ret m else _) k
   rw [if_neg (by simpa using q)]
   exact g1
theorem desc_runs {p : Array Nat} (o : Ord n p) : ∀ (f m : Nat), 1 ≤ m → m + f ≤ n → Dn r p m → ∃ k, Runs (B r) (V n) (kas_desc f p m 0) (p, k, 0) ∧ m ≤ k ∧ k ≤ m + f ∧ Dn r p k
 | 0, m, _, _, h => ⟨m, rfl, Nat.le_refl _, Nat.le_refl _, h⟩
 | f + 1, m, h1, h2, h => by
  by_cases q : r (p.getD m 0) < r (p.getD (m - 1) 0)
  ·obtain ⟨k, g1, g2, g3, g4⟩ := desc_runs o f (m + 1) (by omega) (by omega) (h.next h1 q)
   refine ⟨k, ⟨o.lt (by omega), o.lt (by omega), ?_⟩, by omega, by omega, g4⟩
   show Runs _ _ (if decide _ = true then (if (0 : Nat) > 0 then _ else kas_desc f p (m + 1) 0) else _) _
   rw [if_pos (decide_eq_true q), if_neg (by omega)]
   exact g1
  ·have q2 := ne_lt hr o (i := m) (j := m - 1) (by omega) (by omega) (by omega) q
   refine ⟨m, ⟨o.lt (by omega), o.lt (by omega), ?_⟩, Nat.le_refl _, by omega, h⟩
   show Runs _ _ (if decide _ = true then _ else KasT.ask (p.getD (m - 1) 0) (p.getD m 0) _) _
   rw [if_neg (by simpa using q)]
   refine ⟨o.lt (by omega), o.lt (by omega), ?_⟩
   show Runs _ _ (if decide _ = true then KasT.ret (p, m, 0) else _) _
   rw [if_pos (decide_eq_true q2)]
   rfl
omit hr in
theorem ord_perm {p q : Array Nat} (o : Ord n p) (h : q.Perm p) : Ord n q := ⟨h.size_eq.trans o.size, (Array.perm_iff_toList_perm.mp h).trans o.perm⟩
omit hr in
theorem getD_of {p q : Array Nat} {i j : Nat} (h : p[i]? = q[j]?) : p.getD i 0 = q.getD j 0 := by
 rw [Array.getD_eq_getD_getElem?, Array.getD_eq_getD_getElem?, h]
omit hr in
theorem rev_up {p : Array Nat} (o : Ord n p) {m : Nat} (hm : m ≤ n) (h : Dn r p m) : Ord n (kas_rev p 0 m) ∧ Up r (kas_rev p 0 m) m := by
 refine ⟨ord_perm o (mirror_perm _ _ _ _), fun i j h1 h2 => ?_⟩
 have g : ∀ k, k < m → (kas_rev p 0 m).getD k 0 = p.getD (m - 1 - k) 0 := fun k hk => by
  refine getD_of ?_
  have := getElem?_mirror_all (xs := p) (i := 0) (j := m) (by rw [o.size]; exact hm) k
  rw [if_pos ⟨Nat.zero_le _, hk⟩, Nat.zero_add] at this
  exact this
 rw [g i (by omega), g j h2]
 exact h _ _ (by omega) (by omega)
theorem tail_runs {p : Array Nat} (o : Ord n p) {m : Nat} (h1 : 1 ≤ m) (hm : m ≤ n) (h : Dn r p m) : ∃ k p', Runs (B r) (V n) (kas_tail3 m n p) (k, p') ∧ 1 ≤ k ∧ k ≤ n ∧ Ord n p' ∧ Up r p' k := by
 obtain ⟨o', u'⟩ := rev_up o hm h
 obtain ⟨k, g1, g2, g3, g4, _⟩ := asc_runs hr o' (n - m) m h1 (by omega) u'
 exact ⟨k, _, Runs.bind g1 rfl, by omega, by omega, o', g4⟩
theorem count_runs {p : Array Nat} (o : Ord n p) (hn : 2 ≤ n) : ∃ k p', Runs (B r) (V n) (kas_count n p) (k, p') ∧ 1 ≤ k ∧ k ≤ n ∧ Ord n p' ∧ Up r p' k := by
 obtain ⟨m, g1, g2, g3, g4, g5⟩ := asc_runs hr o (n - 1) 1 (Nat.le_refl _) (by omega) (Up.one p)
 by_cases e : m = n
 ·refine ⟨m, p, Runs.bind g1 ?_, by omega, by omega, o, g4⟩
  rw [if_pos (by simpa using e)]
  rfl
 ·by_cases e1 : 1 < m
  ·refine ⟨m, p, Runs.bind g1 ?_, by omega, by omega, o, g4⟩
   rw [if_neg (by simpa using e), if_pos e1]
   refine ⟨o.lt (by omega), o.lt (by omega), ?_⟩
   show Runs _ _ (if decide _ = true then KasT.ret (m, p) else _) _
   rw [if_pos (decide_eq_true (g4 0 (m - 1) (by omega) (by omega)))]
   rfl
  ·have em : m = 1 := by omega
   subst em
   have d2 : Dn r p 2 := fun i j h1 h2 => by
    have e1 : i = 0 := by omega
    have e2 : j = 1 := by omega
    subst e1; subst e2
    exact g5 (by omega)
   obtain ⟨k, q1, q2, q3, q4⟩ := desc_runs hr o (n - 2) 2 (by omega) (by omega) d2
   obtain ⟨k', p', t1, t2, t3, t4, t5⟩ := tail_runs hr o (m := k) (by omega) (by omega) q4
   refine ⟨k', p', Runs.bind g1 ?_, t2, t3, t4, t5⟩
   rw [if_neg (by simpa using e), if_neg (by omega)]
   refine Runs.bind (a := (p, k, 0)) q1 ?_
   show Runs _ _ (if (0 : Nat) > 0 then _ else kas_tail3 k n p) _
   rw [if_neg (by omega)]
   exact t1
theorem place_runs {p : Array Nat} (o : Ord n p) {k : Nat} (hk : k < n) (up : Up r p k) : ∀ (f l u : Nat), l ≤ u → u ≤ k → u - l ≤ f → (∀ i, i < l → r (p.getD i 0) < r (p.getD k 0)) → (∀ i, u ≤ i → i < k → r (p.getD k 0) < r (p.getD i 0)) →
  ∃ c, Runs (B r) (V n) (kas_place p k f l u) c ∧ c ≤ k ∧ (∀ i, i < c → r (p.getD i 0) < r (p.getD k 0)) ∧ ∀ i, c ≤ i → i < k → r (p.getD k 0) < r (p.getD i 0)
 | 0, l, u, h1, h2, h3, a1, a2 => ⟨l, rfl, by omega, a1, fun i q1 q2 => a2 i (by omega) q2⟩
 | f + 1, l, u, h1, h2, h3, a1, a2 => by
  by_cases e : l ≥ u
  ·refine ⟨l, ?_, by omega, a1, fun i q1 q2 => a2 i (by omega) q2⟩
   show Runs _ _ (if l ≥ u then KasT.ret l else _) l
   rw [if_pos e]
   rfl
  ·have hm : (l + u) / 2 < u := by omega
   have hm2 : l ≤ (l + u) / 2 := by omega
   generalize hd : (l + u) / 2 = d at hm hm2
   by_cases q : r (p.getD k 0) < r (p.getD d 0)
   ·obtain ⟨c, g1, g2⟩ := place_runs o hk up f l d hm2 (by omega) (by omega) a1 (fun i q1 q2 => by
     by_cases z : i = d
     ·rw [z]; exact q
     ·exact Int.lt_trans q (up d i (by omega) q2))
    refine ⟨c, ?_, g2⟩
    show Runs _ _ (if l ≥ u then KasT.ret l else _) c
    rw [if_neg e, hd]
    refine ⟨o.lt hk, o.lt (by omega), ?_⟩
    show Runs _ _ (if decide _ = true then kas_place p k f l d else _) c
    rw [if_pos (decide_eq_true q)]
    exact g1
   ·have q' := ne_lt hr o hk (show d < n by omega) (by omega) q
    obtain ⟨c, g1, g2⟩ := place_runs o hk up f (d + 1) u (by omega) h2 (by omega) (fun i q1 => by
     by_cases z : i = d
     ·rw [z]; exact q'
     ·exact Int.lt_trans (up i d (by omega) (by omega)) q') a2
    refine ⟨c, ?_, g2⟩
    show Runs _ _ (if l ≥ u then KasT.ret l else _) c
    rw [if_neg e, hd]
    refine ⟨o.lt hk, o.lt (by omega), ?_⟩
    show Runs _ _ (if decide _ = true then _ else kas_place p k f (d + 1) u) c
    rw [if_neg (by simpa using q)]
    exact g1
theorem bin_runs : ∀ (f k : Nat) {p : Array Nat}, k + f = n → 1 ≤ k → Ord n p → Up r p k → ∃ p', Runs (B r) (V n) (kas_bin f p k) p' ∧ Ord n p' ∧ Up r p' n
 | 0, k, p, h1, h2, o, u => ⟨p, rfl, o, by rw [← h1]; exact u⟩
 | f + 1, k, p, h1, h2, o, u => by
  have hk : k < n := by omega
  obtain ⟨c, g1, g2, g3, g4⟩ := place_runs hr o hk u k 0 k (Nat.zero_le _) (Nat.le_refl _) (by omega) (fun i z => by omega) (fun i z1 z2 => by omega)
  have o' : Ord n (bubble p k (k - c)) := ord_perm o (bubble_perm _ _ _)
  have g : ∀ i, (bubble p k (k - c)).getD i 0 = if i = c then p.getD k 0 else if c < i ∧ i ≤ k then p.getD (i - 1) 0 else p.getD i 0 := fun i => by
   have := getElem?_bubble (xs := p) (src := k) (by rw [o.size]; exact hk) (k - c) (by omega) i
   rw [show k - (k - c) = c by omega] at this
   by_cases e1 : i = c
   ·rw [if_pos e1] at this ⊢; exact getD_of this
   ·rw [if_neg e1] at this ⊢
    by_cases e2 : c < i ∧ i ≤ k
    ·rw [if_pos e2] at this ⊢; exact getD_of this
    ·rw [if_neg e2] at this ⊢; exact getD_of this
  have u' : Up r (bubble p k (k - c)) (k + 1) := fun i j q1 q2 => by
   rw [g i, g j]
   by_cases i1 : i = c
   ·rw [if_pos i1, if_neg (by omega), if_pos ⟨by omega, by omega⟩]
    exact g4 _ (by omega) (by omega)
   ·rw [if_neg i1]
    by_cases j1 : j = c
    ·rw [if_pos j1, if_neg (by omega)]
     exact g3 i (by omega)
    ·rw [if_neg j1]
     by_cases i2 : c < i ∧ i ≤ k
     ·rw [if_pos i2, if_pos ⟨by omega, by omega⟩]
      exact u _ _ (by omega) (by omega)
     ·rw [if_neg i2]
      by_cases j2 : c < j ∧ j ≤ k
      ·rw [if_pos j2]
       by_cases z : i = j - 1
       ·omega
       ·exact u _ _ (by omega) (by omega)
      ·rw [if_neg j2]
       exact u _ _ q1 (by omega)
  obtain ⟨p', t1, t2, t3⟩ := bin_runs f (k + 1) (by omega) (by omega) o' u'
  exact ⟨p', Runs.bind g1 t1, t2, t3⟩
theorem sort_runs (hn : 2 ≤ n) : ∃ p, Runs (B r) (V n) (kas_sort n) p ∧ Ord n p ∧ Up r p n := by
 have o : Ord n (List.toArray (List.range n)) := ⟨by simp, by simp⟩
 obtain ⟨k, p, g1, g2, g3, g4, g5⟩ := count_runs hr o hn
 by_cases e : k < n
 ·obtain ⟨p', t1, t2, t3⟩ := bin_runs hr (n - k) k (by omega) g2 g4 g5
  refine ⟨p', Runs.bind g1 ?_, t2, t3⟩
  show Runs _ _ (if k < n then kas_bin (n - max k 1) p (max k 1) else _) _
  rw [if_pos e, show max k 1 = k by omega]
  exact t1
 ·have ek : k = n := by omega
  subst ek
  refine ⟨p, Runs.bind g1 ?_, g4, g5⟩
  show Runs _ _ (if k < k then _ else KasT.ret p) _
  rw [if_neg e]
  rfl
end
end TQ
namespace TN
structure G (n : Nat) (r : Nat → Nat → Nat) (E : Nat → Nat → Bool) : Prop where
 lt : ∀ i j, E i j = true → i < n ∧ j < n
 irr : ∀ i, E i i = false
 sym : ∀ i j, E i j = E j i
 inj : ∀ i j k, E i j = true → E i k = true → r i j = r i k → j = k
def Btr (r : Nat → Nat → Nat) (i j k : Nat) : Prop := k = i ∨ r i j < r i k
structure Stb (n : Nat) (r : Nat → Nat → Nat) (E : Nat → Nat → Bool) (nx ls : Nat → Nat) : Prop where
 nlt : ∀ i, i < n → nx i < n
 llt : ∀ i, i < n → ls i < n
 nl : ∀ i, i < n → nx (ls i) = i
 ln : ∀ i, i < n → ls (nx i) = i
 acc : ∀ i, i < n → nx i ≠ i → E i (nx i) = true
 pref : ∀ i, i < n → nx i ≠ ls i → r i (nx i) < r i (ls i)
 stab : ∀ i j, E i j = true → ¬ (Btr r i j (ls i) ∧ Btr r j i (ls j))
theorem reduce {n : Nat} {r : Nat → Nat → Nat} {E E' : Nat → Nat → Bool} {nx ls : Nat → Nat} (g : G n r E) (sub : ∀ i j, E' i j = true → E i j = true) (sym' : ∀ i j, E' i j = E' j i)
  (wit : ∀ i j, E i j = true → E' i j = false → (∃ p, E' i p = true ∧ r i p < r i j ∧ ∀ z, E' p z = true → r p i ≤ r p z) ∨ (∃ p, E' j p = true ∧ r j p < r j i ∧ ∀ z, E' p z = true → r p j ≤ r p z))
  (s : Stb n r E' nx ls) : Stb n r E nx ls := by
 have one : ∀ q y p, E q y = true → E' q p = true → r q p < r q y → (∀ z, E' p z = true → r p q ≤ r p z) → ¬ Btr r q y (ls q) := by
  intro q y p hqy hqp hlt hf hb
  have hq := (g.lt _ _ (sub _ _ hqp)).1
  have hp := (g.lt _ _ (sub _ _ hqp)).2
  have hpq : E' p q = true := by rw [sym']; exact hqp
  have b1 : Btr r q p (ls q) := by
   rcases hb with h | h
   ·exact .inl h
   ·exact .inr (Nat.lt_trans hlt h)
  have nb : ¬ Btr r p q (ls p) := fun h => s.stab q p hqp ⟨b1, h⟩
  have l1 : ls p ≠ p := fun h => nb (.inl h)
  have l2 : r p (ls p) ≤ r p q := Nat.le_of_not_lt fun h => nb (.inr h)
  have np : nx p ≠ p := fun h => l1 (by have := s.ln p hp; rw [h] at this; exact this)
  have e1 : E' p (ls p) = true := by
   have := s.acc (ls p) (s.llt p hp) (by rw [s.nl p hp]; exact fun h => l1 h.symm)
   rw [s.nl p hp] at this
   rw [sym']; exact this
  have e2 : ls p = q := g.inj p _ _ (sub _ _ e1) (sub _ _ hpq) (Nat.le_antisymm l2 (hf _ e1))
  have e3 : nx p = ls p := by
   apply Classical.byContradiction
   intro h
   have h1 := s.pref p hp h
   have h2 := hf _ (s.acc p hp np)
   rw [e2] at h1
   omega
  have e4 : ls q = p := by rw [← e2, ← e3]; exact s.ln p hp
  rw [e4] at hb
  rcases hb with h | h
  ·have := sub _ _ hqp
   rw [h, g.irr] at this
   cases this
  ·omega
 refine ⟨s.nlt, s.llt, s.nl, s.ln, fun i h1 h2 => sub _ _ (s.acc i h1 h2), s.pref, fun i j hij => ?_⟩
 cases he : E' i j with
 | true => exact s.stab i j he
 | false =>
  rintro ⟨h1, h2⟩
  rcases wit i j hij he with ⟨p, a1, a2, a3⟩ | ⟨p, a1, a2, a3⟩
  ·exact one i j p hij a1 a2 a3 h1
  ·exact one j i p (by rw [g.sym]; exact hij) a1 a2 a3 h2
def prs (n : Nat) : List (Nat × Nat) := (List.range n).flatMap fun i => (List.range n).map fun j => (i, j)
theorem mem_prs {n i j : Nat} : (i, j) ∈ prs n ↔ i < n ∧ j < n := by
 unfold prs
 rw [List.mem_flatMap]
 constructor
 ·rintro ⟨a, ha, hb⟩
  rw [List.mem_map] at hb
  obtain ⟨b, hb, e⟩ := hb
  cases e
  exact ⟨by simpa using ha, by simpa using hb⟩
 ·rintro ⟨h1, h2⟩
  exact ⟨i, by simpa using h1, List.mem_map.mpr ⟨j, by simpa using h2, rfl⟩⟩
def cnt (n : Nat) (E : Nat → Nat → Bool) : Nat := (prs n).countP fun p => E p.1 p.2
theorem countP_lt {α : Type} {p q : α → Bool} : ∀ {l : List α}, (∀ x ∈ l, q x = true → p x = true) → (∃ x ∈ l, p x = true ∧ q x = false) → l.countP q < l.countP p
 | [], _, h => by obtain ⟨_, h, _⟩ := h; exact nomatch h
 | a :: l, h1, h2 => by
  have le : ∀ m : List α, (∀ x ∈ m, q x = true → p x = true) → m.countP q ≤ m.countP p := fun m hm => List.countP_mono_left hm
  obtain ⟨x, hx, hp, hq⟩ := h2
  rw [List.countP_cons, List.countP_cons]
  rcases List.mem_cons.mp hx with e | hx
  ·subst e
   rw [hp, hq]
   have := le l fun y hy => h1 y (List.mem_cons_of_mem _ hy)
   simp
   omega
  ·have := countP_lt (fun y hy => h1 y (List.mem_cons_of_mem _ hy)) ⟨x, hx, hp, hq⟩
   have h3 := h1 a List.mem_cons_self
   by_cases e : q a = true
   ·rw [e, h3 e]; simp; omega
   ·rw [show q a = false by simpa using e]
    simp
    omega
theorem cnt_lt {n : Nat} {E E' : Nat → Nat → Bool} (lt : ∀ i j, E i j = true → i < n ∧ j < n) (sub : ∀ i j, E' i j = true → E i j = true) {i j : Nat} (h1 : E i j = true) (h2 : E' i j = false) : cnt n E' < cnt n E := by
 refine countP_lt (fun x _ h => sub _ _ h) ⟨(i, j), mem_prs.mpr (lt i j h1), h1, h2⟩
theorem least {P : Nat → Prop} (r : Nat → Nat) (h : ∃ j, P j) : ∃ j, P j ∧ ∀ k, P k → r j ≤ r k := by
 have go : ∀ m j, P j → r j ≤ m → ∃ j, P j ∧ ∀ k, P k → r j ≤ r k := by
  intro m
  induction m with
  | zero => intro j hj h0; exact ⟨j, hj, fun k _ => by omega⟩
  | succ m ih =>
   intro j hj hm
   by_cases h : ∃ k, P k ∧ r k < r j
   ·obtain ⟨k, hk, hkj⟩ := h
    exact ih k hk (by omega)
   ·exact ⟨j, hj, fun k hk => Nat.le_of_not_lt fun z => h ⟨k, hk, z⟩⟩
 obtain ⟨j, hj⟩ := h
 exact go (r j) j hj (Nat.le_refl _)
theorem greatest {P : Nat → Prop} (r : Nat → Nat) : ∀ n : Nat, (∃ j, j < n ∧ P j) → ∃ j, j < n ∧ P j ∧ ∀ k, k < n → P k → r k ≤ r j := by
 intro n
 induction n with
 | zero => rintro ⟨j, h, _⟩; omega
 | succ n ih =>
  rintro ⟨j, hj, hp⟩
  by_cases h : ∃ j, j < n ∧ P j
  ·obtain ⟨m, hm, hpm, hmax⟩ := ih h
   by_cases hn : P n ∧ r m ≤ r n
   ·refine ⟨n, by omega, hn.1, fun k hk hpk => ?_⟩
    by_cases e : k = n
    ·subst e; exact Nat.le_refl _
    ·exact Nat.le_trans (hmax k (by omega) hpk) hn.2
   ·refine ⟨m, by omega, hpm, fun k hk hpk => ?_⟩
    by_cases e : k = n
    ·subst e
     exact Nat.le_of_not_lt fun z => hn ⟨hpk, by omega⟩
    ·exact hmax k (by omega) hpk
  ·have e : j = n := by
    apply Classical.byContradiction
    intro e
    exact h ⟨j, by omega, hp⟩
   subst e
   refine ⟨j, by omega, hp, fun k hk hpk => ?_⟩
   by_cases e : k = j
   ·subst e; exact Nat.le_refl _
   ·exact absurd ⟨k, by omega, hpk⟩ h
theorem len_sub : ∀ {l m : List Nat}, l.Nodup → (∀ x ∈ l, x ∈ m) → l.length ≤ m.length
 | [], _, _, _ => Nat.zero_le _
 | a :: l, m, hn, hs => by
  rw [List.nodup_cons] at hn
  have ha := hs a List.mem_cons_self
  have h1 : l.length ≤ (m.erase a).length := len_sub hn.2 fun x hx => by
   have hne : x ≠ a := fun e => hn.1 (e ▸ hx)
   exact (List.mem_erase_of_ne hne).mpr (hs x (List.mem_cons_of_mem _ hx))
  rw [List.length_erase_of_mem ha] at h1
  have : 0 < m.length := List.length_pos_of_mem ha
  simp
  omega
theorem all_of {l m : List Nat} (hn : l.Nodup) (hs : ∀ x ∈ l, x ∈ m) (hl : m.length ≤ l.length) : ∀ x ∈ m, x ∈ l := by
 intro x hx
 apply Classical.byContradiction
 intro hno
 have h1 : l.length ≤ (m.erase x).length := len_sub hn fun y hy => by
  have hne : y ≠ x := fun e => hno (e ▸ hy)
  exact (List.mem_erase_of_ne hne).mpr (hs y hy)
 rw [List.length_erase_of_mem hx] at h1
 have : 0 < m.length := List.length_pos_of_mem hx
 omega
theorem nodup_map {f : Nat → Nat} : ∀ {l : List Nat}, l.Nodup → (∀ x ∈ l, ∀ y ∈ l, f x = f y → x = y) → (l.map f).Nodup
 | [], _, _ => List.nodup_nil
 | a :: l, hn, hi => by
  rw [List.nodup_cons] at hn
  rw [List.map_cons, List.nodup_cons]
  refine ⟨fun h => ?_, nodup_map hn.2 fun x hx y hy => hi x (List.mem_cons_of_mem _ hx) y (List.mem_cons_of_mem _ hy)⟩
  rw [List.mem_map] at h
  obtain ⟨b, hb, e⟩ := h
  have := hi b (List.mem_cons_of_mem _ hb) a List.mem_cons_self e
  subst this
  exact hn.1 hb
open Classical in
theorem onto {n : Nat} {S : Nat → Prop} {f : Nat → Nat} (hb : ∀ i, S i → i < n) (hf : ∀ i, S i → S (f i)) (hi : ∀ i j, S i → S j → f i = f j → i = j) : ∀ j, S j → ∃ i, S i ∧ f i = j := by
 intro j hj
 have hl : ∀ x, x ∈ (List.range n).filter (fun i => decide (S i)) ↔ S x := fun x => by
  rw [List.mem_filter]
  constructor
  ·rintro ⟨_, h⟩; exact of_decide_eq_true h
  ·intro h; exact ⟨by simpa using hb x h, decide_eq_true h⟩
 have hnd : ((List.range n).filter fun i => decide (S i)).Nodup := List.nodup_range.sublist List.filter_sublist
 have := all_of (l := ((List.range n).filter fun i => decide (S i)).map f) (m := (List.range n).filter fun i => decide (S i)) (nodup_map hnd fun x hx y hy => hi x y ((hl x).mp hx) ((hl y).mp hy))
  (fun x hx => by
   rw [List.mem_map] at hx
   obtain ⟨y, hy, rfl⟩ := hx
   exact (hl _).mpr (hf y ((hl y).mp hy))) (by rw [List.length_map]; exact Nat.le_refl _) j ((hl j).mpr hj)
 rw [List.mem_map] at this
 obtain ⟨i, hi', e⟩ := this
 exact ⟨i, (hl i).mp hi', e⟩
def iter (f : Nat → Nat) : Nat → Nat → Nat
 | 0, x => x
 | k + 1, x => f (iter f k x)
theorem iter_add (f : Nat → Nat) (a b x : Nat) : iter f (a + b) x = iter f a (iter f b x) := by
 induction a with
 | zero => rw [Nat.zero_add]; rfl
 | succ a ih => rw [Nat.succ_add]; show f (iter f (a + b) x) = f (iter f a (iter f b x)); rw [ih]
theorem iter_in {S : Nat → Prop} {f : Nat → Nat} (hf : ∀ i, S i → S (f i)) {x : Nat} (hx : S x) : ∀ k, S (iter f k x)
 | 0 => hx
 | k + 1 => hf _ (iter_in hf hx k)
theorem round {n : Nat} {S : Nat → Prop} {f : Nat → Nat} (hb : ∀ i, S i → i < n) (hf : ∀ i, S i → S (f i)) {x : Nat} (hx : S x) : ∃ a m, 0 < m ∧ iter f m (iter f a x) = iter f a x := by
 apply Classical.byContradiction
 intro hno
 have inj : ∀ i j, iter f i x = iter f j x → i = j := by
  have one : ∀ i j, i < j → iter f i x ≠ iter f j x := fun i j hij e => hno ⟨i, j - i, by omega, by rw [← iter_add, show j - i + i = j by omega]; exact e.symm⟩
  intro i j e
  rcases Nat.lt_trichotomy i j with h | h | h
  ·exact absurd e (one i j h)
  ·exact h
  ·exact absurd e.symm (one j i h)
 have nd : ((List.range (n + 1)).map fun k => iter f k x).Nodup := nodup_map List.nodup_range fun a _ b _ e => inj a b e
 have := len_sub (m := List.range n) nd fun y hy => by
  rw [List.mem_map] at hy
  obtain ⟨k, _, rfl⟩ := hy
  simpa using hb _ (iter_in hf hx k)
 simp at this
 omega
end TN
namespace TN
section
variable {n : Nat} {r : Nat → Nat → Nat} {E : Nat → Nat → Bool}
def Fav (r : Nat → Nat → Nat) (E : Nat → Nat → Bool) (i j : Nat) : Prop := E i j = true ∧ ∀ z, E i z = true → r i j ≤ r i z
def Lst (r : Nat → Nat → Nat) (E : Nat → Nat → Bool) (i j : Nat) : Prop := E i j = true ∧ ∀ z, E i z = true → r i z ≤ r i j
def Sec (r : Nat → Nat → Nat) (E : Nat → Nat → Bool) (i j : Nat) : Prop := E i j = true ∧ ∃ f, Fav r E i f ∧ j ≠ f ∧ ∀ z, E i z = true → z ≠ f → r i j ≤ r i z
theorem fav_ex {i : Nat} (h : ∃ j, E i j = true) : ∃ j, Fav r E i j := by
 obtain ⟨j, h1, h2⟩ := least (P := fun j => E i j = true) (r i) h
 exact ⟨j, h1, h2⟩
theorem lst_ex (g : G n r E) {i : Nat} (h : ∃ j, E i j = true) : ∃ j, Lst r E i j := by
 obtain ⟨j, hj⟩ := h
 obtain ⟨l, _, h1, h2⟩ := greatest (P := fun j => E i j = true) (r i) n ⟨j, (g.lt i j hj).2, hj⟩
 exact ⟨l, h1, fun z hz => h2 z (g.lt i z hz).2 hz⟩
theorem sec_ex {i j k : Nat} (hj : E i j = true) (hk : E i k = true) (hne : j ≠ k) : ∃ s, Sec r E i s := by
 obtain ⟨f, hf⟩ := fav_ex (r := r) (E := E) (i := i) ⟨j, hj⟩
 have : ∃ z, E i z = true ∧ z ≠ f := by
  by_cases e : j = f
  ·exact ⟨k, hk, fun z => hne (e.trans z.symm)⟩
  ·exact ⟨j, hj, e⟩
 obtain ⟨s, ⟨h1, h2⟩, h3⟩ := least (P := fun z => E i z = true ∧ z ≠ f) (r i) this
 exact ⟨s, h1, f, hf, h2, fun z hz hzf => h3 z ⟨hz, hzf⟩⟩
theorem Fav.uniq (g : G n r E) {i j k : Nat} (h1 : Fav r E i j) (h2 : Fav r E i k) : j = k := g.inj i j k h1.1 h2.1 (Nat.le_antisymm (h1.2 k h2.1) (h2.2 j h1.1))
theorem Lst.uniq (g : G n r E) {i j k : Nat} (h1 : Lst r E i j) (h2 : Lst r E i k) : j = k := g.inj i j k h1.1 h2.1 (Nat.le_antisymm (h2.2 j h1.1) (h1.2 k h2.1))
theorem G.sub (g : G n r E) {E' : Nat → Nat → Bool} (sub : ∀ i j, E' i j = true → E i j = true) (sym' : ∀ i j, E' i j = E' j i) : G n r E' :=
 ⟨fun i j h => g.lt i j (sub i j h), fun i => (by
  cases h : E' i i with
  | false => rfl
  | true => exact absurd (sub i i h) (by rw [g.irr]; exact Bool.false_ne_true)), sym', fun i j k h1 h2 => g.inj i j k (sub _ _ h1) (sub _ _ h2)⟩
end
theorem but_iff {a : Bool} {P Q : Prop} [Decidable P] [Decidable Q] : (a && !(decide P || decide Q)) = true ↔ a = true ∧ ¬ P ∧ ¬ Q := by
 cases a <;> by_cases h1 : P <;> by_cases h2 : Q <;> simp [h1, h2]
open Classical in
theorem exists_stable (n : Nat) (r : Nat → Nat → Nat) : ∀ (c : Nat) (E : Nat → Nat → Bool), G n r E → cnt n E ≤ c → ∃ nx ls, Stb n r E nx ls := by
 intro c
 induction c with
 | zero =>
  intro E g hc
  have no : ∀ i j, E i j = false := fun i j => by
   cases h : E i j with
   | false => rfl
   | true =>
    have hl := g.lt i j h
    have : 0 < cnt n E := List.countP_pos_iff.mpr ⟨(i, j), mem_prs.mpr hl, h⟩
    omega
  exact ⟨id, id, fun i h => h, fun i h => h, fun _ _ => rfl, fun _ _ => rfl, fun i _ h => absurd rfl h, fun i _ h => absurd rfl h, fun i j h => by rw [no] at h; cases h⟩
 | succ c ih =>
  intro E g hc
  by_cases R1 : ∃ i j y, Fav r E i j ∧ E j y = true ∧ r j i < r j y
  ·-- whom j likes less than i is left out
   obtain ⟨i, j, y, hf, hy, hlt⟩ := R1
   have hji : E j i = true := by rw [g.sym]; exact hf.1
   have hiy : i ≠ y := fun e => by subst e; omega
   have hjy : j ≠ y := fun e => by rw [e, g.irr] at hy; cases hy
   let E' : Nat → Nat → Bool := fun a b => E a b && !(decide (a = j ∧ b = y) || decide (a = y ∧ b = j))
   have hE' : ∀ a b, E' a b = true ↔ E a b = true ∧ ¬ (a = j ∧ b = y) ∧ ¬ (a = y ∧ b = j) := fun a b => by
    exact but_iff
   have sub : ∀ a b, E' a b = true → E a b = true := fun a b h => ((hE' a b).mp h).1
   have sym' : ∀ a b, E' a b = E' b a := fun a b => by
    rw [Bool.eq_iff_iff, hE', hE', g.sym a b]
    constructor
    ·rintro ⟨h1, h2, h3⟩; exact ⟨h1, fun h => h3 ⟨h.2, h.1⟩, fun h => h2 ⟨h.2, h.1⟩⟩
    ·rintro ⟨h1, h2, h3⟩; exact ⟨h1, fun h => h3 ⟨h.2, h.1⟩, fun h => h2 ⟨h.2, h.1⟩⟩
   have hd : E' j y = false := by
    cases h : E' j y with
    | false => rfl
    | true => exact absurd ⟨rfl, rfl⟩ ((hE' j y).mp h).2.1
   have hlt' : cnt n E' < cnt n E := cnt_lt g.lt sub hy hd
   obtain ⟨nx, ls, s⟩ := ih E' (g.sub sub sym') (by omega)
   refine ⟨nx, ls, reduce g sub sym' (fun a b hab hno => ?_) s⟩
   have wit : ∃ p, E' j p = true ∧ r j p < r j y ∧ ∀ z, E' p z = true → r p j ≤ r p z :=
    ⟨i, (hE' j i).mpr ⟨hji, fun h => hiy h.2, fun h => hjy h.1⟩, hlt, fun z hz => hf.2 z (sub _ _ hz)⟩
   have : (a = j ∧ b = y) ∨ (a = y ∧ b = j) := by
    apply Classical.byContradiction
    intro h
    have : E' a b = true := (hE' a b).mpr ⟨hab, fun z => h (.inl z), fun z => h (.inr z)⟩
    rw [hno] at this; cases this
   rcases this with ⟨rfl, rfl⟩ | ⟨rfl, rfl⟩
   ·exact .inl wit
   ·exact .inr wit
  ·-- each is the last of its favourite
   have P1 : ∀ i j, Fav r E i j → Lst r E j i := fun i j hf => ⟨by rw [g.sym]; exact hf.1, fun z hz => Nat.le_of_not_lt fun h => R1 ⟨i, j, z, hf, hz, h⟩⟩
   let S : Nat → Prop := fun i => ∃ j, E i j = true
   have Sb : ∀ i, S i → i < n := fun i ⟨j, h⟩ => (g.lt i j h).1
   have fE : ∀ i, ∃ j, S i → Fav r E i j := fun i => by
    by_cases h : S i
    ·obtain ⟨j, hj⟩ := fav_ex (r := r) h; exact ⟨j, fun _ => hj⟩
    ·exact ⟨0, fun h' => absurd h' h⟩
   obtain ⟨f, hf⟩ : ∃ f : Nat → Nat, ∀ i, S i → Fav r E i (f i) := ⟨fun i => Classical.choose (fE i), fun i => Classical.choose_spec (fE i)⟩
   have lE : ∀ i, ∃ j, S i → Lst r E i j := fun i => by
    by_cases h : S i
    ·obtain ⟨j, hj⟩ := lst_ex g h; exact ⟨j, fun _ => hj⟩
    ·exact ⟨0, fun h' => absurd h' h⟩
   obtain ⟨l, hl⟩ : ∃ l : Nat → Nat, ∀ i, S i → Lst r E i (l i) := ⟨fun i => Classical.choose (lE i), fun i => Classical.choose_spec (lE i)⟩
   have fS : ∀ i, S i → S (f i) := fun i h => ⟨i, by rw [g.sym]; exact (hf i h).1⟩
   have lS : ∀ i, S i → S (l i) := fun i h => ⟨i, by rw [g.sym]; exact (hl i h).1⟩
   have lf : ∀ i, S i → l (f i) = i := fun i h => Lst.uniq g (hl _ (fS i h)) (P1 _ _ (hf i h))
   have finj : ∀ i j, S i → S j → f i = f j → i = j := fun i j hi hj e => by rw [← lf i hi, ← lf j hj, e]
   have fl : ∀ i, S i → f (l i) = i := fun i h => by
    obtain ⟨k, hk, e⟩ := onto Sb fS finj i h
    rw [← e, lf k hk]
   by_cases S2 : ∃ i j k, E i j = true ∧ E i k = true ∧ j ≠ k
   ·let D : Nat → Prop := fun i => ∃ j k, E i j = true ∧ E i k = true ∧ j ≠ k
    have DS : ∀ i, D i → S i := fun i ⟨j, _, h, _⟩ => ⟨j, h⟩
    have sE : ∀ i, ∃ j, D i → Sec r E i j := fun i => by
     by_cases h : D i
     ·obtain ⟨j, k, h1, h2, h3⟩ := h
      obtain ⟨s, hs⟩ := sec_ex (r := r) h1 h2 h3
      exact ⟨s, fun _ => hs⟩
     ·exact ⟨0, fun h' => absurd h' h⟩
    obtain ⟨s, hs⟩ : ∃ s : Nat → Nat, ∀ i, D i → Sec r E i (s i) := ⟨fun i => Classical.choose (sE i), fun i => Classical.choose_spec (sE i)⟩
    have sS : ∀ i, D i → S (s i) := fun i h => ⟨i, by rw [g.sym]; exact (hs i h).1⟩
    have sf : ∀ i, D i → s i ≠ f i := fun i h e => by
     obtain ⟨_, k, hk, hne, _⟩ := hs i h
     exact hne (e.trans (Fav.uniq g (hf i (DS i h)) hk))
    have sle : ∀ i, D i → ∀ z, E i z = true → z ≠ f i → r i (s i) ≤ r i z := fun i h z hz hzf => by
     obtain ⟨_, k, hk, _, h2⟩ := hs i h
     exact h2 z hz fun e => hzf (e.trans (Fav.uniq g hk (hf i (DS i h))))
    have phne : ∀ i, D i → l (s i) ≠ i := fun i h e => sf i h (by rw [← fl _ (sS i h), e])
    have phD : ∀ i, D i → D (l (s i)) := fun i h => by
     have hq := sS i h
     have e1 : E (l (s i)) (s i) = true := by rw [g.sym]; exact (hl _ hq).1
     apply Classical.byContradiction
     intro hno
     have only : ∀ z, E (l (s i)) z = true → z = s i := fun z hz => by
      apply Classical.byContradiction
      intro hne
      exact hno ⟨z, s i, hz, e1, hne⟩
     have hlS := lS _ hq
     have e2 : l (l (s i)) = s i := only _ (hl _ hlS).1
     have e3 : f (s i) = l (s i) := by have := fl _ hlS; rw [e2] at this; exact this
     have h1 : r (s i) i ≤ r (s i) (l (s i)) := (hl _ hq).2 i (by rw [g.sym]; exact (hs i h).1)
     have h2 : r (s i) (f (s i)) ≤ r (s i) i := (hf _ hq).2 i (by rw [g.sym]; exact (hs i h).1)
     rw [e3] at h2
     exact phne i h (g.inj (s i) _ _ (hl _ hq).1 (by rw [g.sym]; exact (hs i h).1) (by omega))
    obtain ⟨a, j, k, h1, h2, h3⟩ := S2
    have Da : D a := ⟨j, k, h1, h2, h3⟩
    obtain ⟨a0, m, hm, hround⟩ := round (f := fun i => l (s i)) (fun i h => Sb i (DS i h)) phD Da
    let p := iter (fun i => l (s i)) a0 a
    have Dp : D p := iter_in phD Da a0
    let R : Nat → Prop := fun x => ∃ k, x = iter (fun i => l (s i)) k p
    have RD : ∀ x, R x → D x := fun x ⟨k, e⟩ => by rw [e]; exact iter_in phD Dp k
    have Rph : ∀ x, R x → R (l (s x)) := fun x ⟨k, e⟩ => ⟨k + 1, by rw [e]; rfl⟩
    have Rback : ∀ x, R x → ∃ y, R y ∧ l (s y) = x := fun x ⟨k, e⟩ => by
     refine ⟨iter (fun i => l (s i)) (k + m - 1) p, ⟨_, rfl⟩, ?_⟩
     have : iter (fun i => l (s i)) (k + m) p = x := by
      rw [iter_add, show iter (fun i => l (s i)) m p = p from hround]
      exact e.symm
     rw [← this, show k + m = (k + m - 1) + 1 by omega]
     rfl
    have Rinj : ∀ x y, R x → R y → l (s x) = l (s y) → x = y := by
     have hon := onto (S := R) (f := fun i => l (s i)) (fun i h => Sb i (DS i (RD i h))) Rph
     have back : ∀ x, R x → iter (fun i => l (s i)) (m - 1) (l (s x)) = x := fun x ⟨k, e⟩ => by
      have : iter (fun i => l (s i)) (m - 1) (l (s x)) = iter (fun i => l (s i)) (m - 1 + (k + 1)) p := by
       rw [iter_add, e]; rfl
      rw [this, show m - 1 + (k + 1) = k + m by omega, iter_add, show iter (fun i => l (s i)) m p = p from hround]
      exact e.symm
     intro x y hx hy e
     rw [← back x hx, ← back y hy, e]
    by_cases bad : ∃ x x', R x ∧ R x' ∧ s x' = x ∧ r x x' < r x (s x)
    ·-- an odd ring
     obtain ⟨x, x', hx, hx', hsx, hlt⟩ := bad
     have Exx : E x x' = true := by rw [g.sym, ← hsx]; exact (hs x' (RD x' hx')).1
     have ex' : x' = f x := by
      apply Classical.byContradiction
      intro h
      have := sle x (RD x hx) x' Exx h
      omega
     let B : Nat → Prop := fun y => R y ∧ R (f y) ∧ s (f y) = y
     have Bx : B x := ⟨hx, by rw [← ex']; exact hx', by rw [← ex']; exact hsx⟩
     have two : ∀ y, B y → ∀ z, E (f y) z = true → z = f (f y) ∨ z = y := fun y ⟨hy, hfy, hsy⟩ z hz => by
      have hSy := DS y (RD y hy)
      have hSfy := fS y hSy
      apply Classical.byContradiction
      intro h
      have h1 : r (f y) (s (f y)) ≤ r (f y) z := sle (f y) (RD _ hfy) z hz fun e => h (.inl e)
      have h2 : r (f y) z ≤ r (f y) (l (f y)) := (hl _ hSfy).2 z hz
      rw [lf y hSy] at h2
      rw [hsy] at h1
      exact h (.inr (g.inj (f y) z y hz (by rw [g.sym]; exact (hf y hSy).1) (by omega)))
     have Bf : ∀ y, B y → B (f y) := fun y hB => by
      obtain ⟨hy, hfy, hsy⟩ := id hB
      obtain ⟨w, hw, ew⟩ := Rback y hy
      have hSy := DS y (RD y hy)
      have hDw := RD w hw
      have e1 : s w = f y := by rw [← ew, fl _ (sS w hDw)]
      have e2 : E (f y) w = true := by rw [g.sym, ← e1]; exact (hs w hDw).1
      have hne : w ≠ y := fun e => phne w hDw (by rw [ew]; exact e.symm)
      have e3 : w = f (f y) := by
       rcases two y hB w e2 with h | h
       ·exact h
       ·exact absurd h hne
      exact ⟨hfy, by rw [← e3]; exact hw, by rw [← e3]; exact e1⟩
     have BS : ∀ y, B y → S y := fun y h => DS y (RD y h.1)
     obtain ⟨b0, m', hm', hr'⟩ := round (f := f) (fun i h => Sb i (BS i h)) Bf Bx
     let z0 := iter f b0 x
     have Bz : B z0 := iter_in Bf Bx b0
     let Z : Nat → Prop := fun y => ∃ k, y = iter f k z0
     have ZB : ∀ y, Z y → B y := fun y ⟨k, e⟩ => by rw [e]; exact iter_in Bf Bz k
     have Zf : ∀ y, Z y → Z (f y) := fun y ⟨k, e⟩ => ⟨k + 1, by rw [e]; rfl⟩
     have Zb : ∀ y, Z y → ∃ w, Z w ∧ f w = y := fun y ⟨k, e⟩ => by
      refine ⟨iter f (k + m' - 1) z0, ⟨_, rfl⟩, ?_⟩
      have : iter f (k + m') z0 = y := by
       rw [iter_add, show iter f m' z0 = z0 from hr']
       exact e.symm
      rw [← this, show k + m' = (k + m' - 1) + 1 by omega]
      rfl
     have Zl : ∀ y, Z y → Z (l y) := fun y h => by
      obtain ⟨w, hw, e⟩ := Zb y h
      rw [← e, lf w (BS w (ZB w hw))]
      exact hw
     have Zn : ∀ y, Z y → ∀ z, E y z = true → z = f y ∨ z = l y := fun y h z hz => by
      obtain ⟨w, hw, e⟩ := Zb y h
      rw [← e] at hz ⊢
      rw [lf w (BS w (ZB w hw))]
      exact two w (ZB w hw) z hz
     let E' : Nat → Nat → Bool := fun u v => E u v && !(decide (Z u) || decide (Z v))
     have hE' : ∀ u v, E' u v = true ↔ E u v = true ∧ ¬ Z u ∧ ¬ Z v := fun u v => by
      exact but_iff
     have sub : ∀ u v, E' u v = true → E u v = true := fun u v h => ((hE' u v).mp h).1
     have sym' : ∀ u v, E' u v = E' v u := fun u v => by
      rw [Bool.eq_iff_iff, hE', hE', g.sym u v]
      constructor
      ·rintro ⟨h1, h2, h3⟩; exact ⟨h1, h3, h2⟩
      ·rintro ⟨h1, h2, h3⟩; exact ⟨h1, h3, h2⟩
     have Zz : Z z0 := ⟨0, rfl⟩
     have hz1 : E z0 (f z0) = true := (hf _ (BS _ (ZB _ Zz))).1
     have hd : E' z0 (f z0) = false := by
      cases h : E' z0 (f z0) with
      | false => rfl
      | true => exact absurd Zz ((hE' _ _).mp h).2.1
     have hlt' : cnt n E' < cnt n E := cnt_lt g.lt sub hz1 hd
     obtain ⟨nx, ls, st⟩ := ih E' (g.sub sub sym') (by omega)
     have alone : ∀ z, z < n → Z z → nx z = z := fun z hz h => by
      apply Classical.byContradiction
      intro hne
      exact ((hE' _ _).mp (st.acc z hz hne)).2.1 h
     have lalone : ∀ z, z < n → Z z → ls z = z := fun z hz h => by
      have := st.ln z hz
      rw [alone z hz h] at this
      exact this
     have ZS : ∀ z, Z z → S z := fun z h => BS z (ZB z h)
     have nxZ : ∀ i, i < n → ¬ Z i → ¬ Z (nx i) := fun i hi hn h => by
      have h1 := st.ln i hi
      rw [lalone _ (st.nlt i hi) h] at h1
      rw [h1] at h
      exact hn h
     have lsZ : ∀ i, i < n → ¬ Z i → ¬ Z (ls i) := fun i hi hn h => by
      have h1 := st.nl i hi
      rw [alone _ (st.llt i hi) h] at h1
      rw [h1] at h
      exact hn h
     refine ⟨fun i => if Z i then f i else nx i, fun i => if Z i then l i else ls i, ?_⟩
     have irr : ∀ i j, E i j = true → i ≠ j := fun i j h e => by rw [e, g.irr] at h; cases h
     constructor
     ·intro i hi
      by_cases h : Z i
      ·rw [if_pos h]; exact Sb _ (ZS _ (Zf i h))
      ·rw [if_neg h]; exact st.nlt i hi
     ·intro i hi
      by_cases h : Z i
      ·rw [if_pos h]; exact Sb _ (ZS _ (Zl i h))
      ·rw [if_neg h]; exact st.llt i hi
     ·intro i hi
      by_cases h : Z i
      ·simp only [if_pos h, if_pos (Zl i h)]; exact fl i (ZS i h)
      ·simp only [if_neg h, if_neg (lsZ i hi h)]; exact st.nl i hi
     ·intro i hi
      by_cases h : Z i
      ·simp only [if_pos h, if_pos (Zf i h)]; exact lf i (ZS i h)
      ·simp only [if_neg h, if_neg (nxZ i hi h)]; exact st.ln i hi
     ·intro i hi hne
      by_cases h : Z i
      ·simp only [if_pos h]; exact (hf i (ZS i h)).1
      ·simp only [if_neg h] at hne ⊢; exact sub _ _ (st.acc i hi hne)
     ·intro i hi hne
      by_cases h : Z i
      ·simp only [if_pos h] at hne ⊢
       have h1 := (hf i (ZS i h)).2 (l i) (hl i (ZS i h)).1
       rcases Nat.lt_or_ge (r i (f i)) (r i (l i)) with h2 | h2
       ·exact h2
       ·exact absurd (g.inj i _ _ (hf i (ZS i h)).1 (hl i (ZS i h)).1 (by omega)) hne
      ·simp only [if_neg h] at hne ⊢; exact st.pref i hi hne
     ·rintro i j hij ⟨b1, b2⟩
      by_cases h : Z i
      ·rcases Zn i h j hij with e | e
       ·subst e
        simp only [if_pos (Zf i h)] at b2
        rw [lf i (ZS i h)] at b2
        rcases b2 with b2 | b2
        ·exact irr _ _ hij b2
        ·omega
       ·subst e
        simp only [if_pos h] at b1
        rcases b1 with b1 | b1
        ·exact irr _ _ hij b1.symm
        ·omega
      ·by_cases h' : Z j
       ·have hji : E j i = true := by rw [g.sym]; exact hij
        rcases Zn j h' i hji with e | e
        ·exact h (e ▸ Zf j h')
        ·exact h (e ▸ Zl j h')
       ·simp only [if_neg h] at b1
        simp only [if_neg h'] at b2
        exact st.stab i j ((hE' i j).mpr ⟨hij, h, h'⟩) ⟨b1, b2⟩
    ·-- whom each one's second likes less than it is left out
     let Dl : Nat → Nat → Prop := fun q y => ∃ x, R x ∧ s x = q ∧ r q x < r q y
     let E' : Nat → Nat → Bool := fun u v => E u v && !(decide (Dl u v) || decide (Dl v u))
     have hE' : ∀ u v, E' u v = true ↔ E u v = true ∧ ¬ Dl u v ∧ ¬ Dl v u := fun u v => by
      exact but_iff
     have sub : ∀ u v, E' u v = true → E u v = true := fun u v h => ((hE' u v).mp h).1
     have sym' : ∀ u v, E' u v = E' v u := fun u v => by
      rw [Bool.eq_iff_iff, hE', hE', g.sym u v]
      constructor
      ·rintro ⟨h1, h2, h3⟩; exact ⟨h1, h3, h2⟩
      ·rintro ⟨h1, h2, h3⟩; exact ⟨h1, h3, h2⟩
     have Esx : ∀ x, D x → E (s x) x = true := fun x h => by rw [g.sym]; exact (hs x h).1
     have gone : ∀ x, R x → Dl (s x) (l (s x)) := fun x hx => by
      refine ⟨x, hx, rfl, ?_⟩
      have h1 := (hl _ (sS x (RD x hx))).2 x (Esx x (RD x hx))
      rcases Nat.lt_or_ge (r (s x) x) (r (s x) (l (s x))) with h2 | h2
      ·exact h2
      ·exact absurd (g.inj (s x) _ _ (hl _ (sS x (RD x hx))).1 (Esx x (RD x hx)) (by omega)) (phne x (RD x hx))
     have Rp : R p := ⟨0, rfl⟩
     have hd1 : E (s p) (l (s p)) = true := (hl _ (sS p Dp)).1
     have hd : E' (s p) (l (s p)) = false := by
      cases h : E' (s p) (l (s p)) with
      | false => rfl
      | true => exact absurd (gone p Rp) ((hE' _ _).mp h).2.1
     have hlt' : cnt n E' < cnt n E := cnt_lt g.lt sub hd1 hd
     obtain ⟨nx, ls, st⟩ := ih E' (g.sub sub sym') (by omega)
     refine ⟨nx, ls, reduce g sub sym' (fun u v huv hno => ?_) st⟩
     have wit : ∀ q y, Dl q y → ∃ p, E' q p = true ∧ r q p < r q y ∧ ∀ z, E' p z = true → r p q ≤ r p z := fun q y ⟨x, hx, hsx, hlt⟩ => by
      subst hsx
      refine ⟨x, (hE' _ _).mpr ⟨Esx x (RD x hx), ?_, ?_⟩, hlt, fun z hz => ?_⟩
      ·rintro ⟨y, hy, hsy, h⟩
       have : y = x := Rinj y x hy hx (by rw [hsy])
       subst this
       omega
      ·rintro ⟨y, hy, hsy, h⟩
       exact bad ⟨x, y, hx, hy, hsy, h⟩
      ·refine sle x (RD x hx) z (sub _ _ hz) fun e => ?_
       obtain ⟨w, hw, ew⟩ := Rback x hx
       have e1 : f x = s w := by rw [← ew, fl _ (sS w (RD w hw))]
       have h1 := gone w hw
       rw [ew, ← e1, ← e] at h1
       exact ((hE' _ _).mp hz).2.2 h1
     have : Dl u v ∨ Dl v u := by
      apply Classical.byContradiction
      intro h
      have : E' u v = true := (hE' u v).mpr ⟨huv, fun z => h (.inl z), fun z => h (.inr z)⟩
      rw [hno] at this; cases this
     rcases this with h | h
     ·exact .inl (wit u v h)
     ·exact .inr (wit v u h)
   ·-- nobody has two
    have one : ∀ i j k, E i j = true → E i k = true → j = k := fun i j k h1 h2 => by
     apply Classical.byContradiction
     intro h
     exact S2 ⟨i, j, k, h1, h2, h⟩
    have ff : ∀ i, S i → f (f i) = i := fun i h => one (f i) _ _ (hf _ (fS i h)).1 (by rw [g.sym]; exact (hf i h).1)
    refine ⟨fun i => if S i then f i else i, fun i => if S i then f i else i, ?_⟩
    have lt' : ∀ i, i < n → (if S i then f i else i) < n := fun i hi => by
     by_cases h : S i
     ·rw [if_pos h]; exact Sb _ (fS i h)
     ·rw [if_neg h]; exact hi
    have inv : ∀ i, (if S (if S i then f i else i) then f (if S i then f i else i) else (if S i then f i else i)) = i := fun i => by
     by_cases h : S i
     ·simp only [if_pos h, if_pos (fS i h)]; exact ff i h
     ·simp only [if_neg h]
    constructor
    ·exact lt'
    ·exact lt'
    ·exact fun i _ => inv i
    ·exact fun i _ => inv i
    ·intro i hi hne
     by_cases h : S i
     ·simp only [if_pos h]; exact (hf i h).1
     ·simp only [if_neg h] at hne; exact absurd rfl hne
    ·exact fun i _ h => absurd rfl h
    ·rintro i j hij ⟨b1, _⟩
     have h : S i := ⟨j, hij⟩
     simp only [if_pos h] at b1
     have e := one i _ _ (hf i h).1 hij
     rw [e] at b1
     rcases b1 with b1 | b1
     ·rw [b1, g.irr] at hij; cases hij
     ·omega
end TN
namespace TN
def Ring (nx : Nat → Nat) (ring : List Nat) : Prop := ring ≠ [] ∧ ∀ k, k < ring.length → nx (ring.getD k 0) = ring.getD (if k + 1 = ring.length then 0 else k + 1) 0
theorem first_back {nx : Nat → Nat} {x : Nat} (h : ∃ m, 0 < m ∧ iter nx m x = x) : ∃ m, 0 < m ∧ iter nx m x = x ∧ ∀ k, 0 < k → k < m → iter nx k x ≠ x := by
 obtain ⟨m, ⟨h1, h2⟩, h3⟩ := least (P := fun m => 0 < m ∧ iter nx m x = x) id h
 exact ⟨m, h1, h2, fun k hk hkm e => absurd (h3 k ⟨hk, e⟩) (by show ¬ m ≤ k; omega)⟩
theorem perm_part {α : Type} [DecidableEq α] : ∀ {l o : List α}, l.Nodup → o.Nodup → (∀ x ∈ o, x ∈ l) → (o ++ l.filter fun x => decide (¬ x ∈ o)).Perm l := by
 intro l o hl ho hs
 rw [List.perm_iff_count]
 intro a
 rw [List.count_append]
 have c1 : ∀ m : List α, m.Nodup → m.count a = if a ∈ m then 1 else 0 := fun m hm => hm.count
 rw [c1 o ho, c1 l hl, c1 _ (hl.sublist List.filter_sublist)]
 by_cases h1 : a ∈ o
 ·have h2 := hs a h1
  simp [h1, h2]
 ·by_cases h2 : a ∈ l
  ·simp [h1, h2]
  ·simp [h1, h2]
end TN
namespace TN
open TM
def cE (ls : Ls) (i j : Nat) : Bool := decide (i < ls.length) && (decide (j < ls.length) && would ls i j)
def cr (ls : Ls) (i j : Nat) : Nat := (lof ls (i : Int)).idxOf (j : Int)
theorem cE_iff {ls : Ls} {i j : Nat} : cE ls i j = true ↔ i < ls.length ∧ j < ls.length ∧ would ls i j = true := by
 unfold cE
 rw [Bool.and_eq_true, Bool.and_eq_true, decide_eq_true_iff, decide_eq_true_iff]
theorem idx_inj {l : List Int} {x y : Int} (hx : x ∈ l) (hy : y ∈ l) (e : l.idxOf x = l.idxOf y) : x = y := by
 have h1 : l.idxOf x < l.length := List.idxOf_lt_length_iff.mpr hx
 have h2 : l.idxOf y < l.length := List.idxOf_lt_length_iff.mpr hy
 have e1 : l[l.idxOf x] = x := List.getElem_idxOf h1
 have e2 : l[l.idxOf y] = y := List.getElem_idxOf h2
 rw [← e1, ← e2]
 congr 1
theorem camp_graph {ls : Ls} (hV : Valid ls) : G ls.length (cr ls) (cE ls) where
 lt := fun i j h => ⟨(cE_iff.mp h).1, (cE_iff.mp h).2.1⟩
 irr := fun i => by
  cases h : cE ls i i with
  | false => rfl
  | true =>
   obtain ⟨h1, _, h2⟩ := cE_iff.mp h
   exact absurd rfl ((lof_ok hV (show (0 : Int) ≤ (i : Int) by omega) (by omega)).1 _ (would_mem h2).1).2.2
 sym := fun i j => by
  rw [Bool.eq_iff_iff, cE_iff, cE_iff, would_symm]
  constructor
  ·rintro ⟨a, b, c⟩; exact ⟨b, a, c⟩
  ·rintro ⟨a, b, c⟩; exact ⟨b, a, c⟩
 inj := fun i j k h1 h2 e => by
  have := idx_inj (would_mem (cE_iff.mp h1).2.2).1 (would_mem (cE_iff.mp h2).2.2).1 e
  omega
def cast (l : List Nat) : List Int := l.map fun (k : Nat) => (k : Int)
theorem cast_getD (l : List Nat) (k : Nat) : (cast l).getD k 0 = ((l.getD k 0 : Nat) : Int) := by
 unfold cast
 by_cases h : k < l.length
 ·simp [List.getD, h]
 ·simp [List.getD, List.getElem?_eq_none (Nat.le_of_not_lt h)]
theorem cast_len (l : List Nat) : (cast l).length = l.length := by simp [cast]
theorem cast_mem {l : List Nat} {x : Int} : x ∈ cast l ↔ ∃ k ∈ l, x = (k : Int) := by
 unfold cast
 rw [List.mem_map]
 constructor
 ·rintro ⟨k, h, e⟩; exact ⟨k, h, e.symm⟩
 ·rintro ⟨k, h, e⟩; exact ⟨k, h, e.symm⟩
theorem getD_mem {l : List Nat} {k : Nat} (h : k < l.length) : l.getD k 0 ∈ l := by
 have : l.getD k 0 = l[k] := by simp [List.getD, h]
 rw [this]; exact List.getElem_mem _
theorem getD_inj {l : List Nat} (hn : l.Nodup) {i j : Nat} (hi : i < l.length) (hj : j < l.length) (e : l.getD i 0 = l.getD j 0) : i = j := by
 have e1 : l.getD i 0 = l[i] := by simp [List.getD, hi]
 have e2 : l.getD j 0 = l[j] := by simp [List.getD, hj]
 rw [e1, e2] at e
 exact (List.getElem_inj hn).mp e
section
variable {ls : Ls} {nx la : Nat → Nat} {rings : List (List Nat)}
theorem ring_prev (st : Stb ls.length (cr ls) (cE ls) nx la) {ring : List Nat} (hr : Ring nx ring) (hb : ∀ x ∈ ring, x < ls.length) {k : Nat} (hk : k < ring.length) :
  ring.getD (if k = 0 then ring.length - 1 else k - 1) 0 = la (ring.getD k 0) := by
 have hj : (if k = 0 then ring.length - 1 else k - 1) < ring.length := by split <;> omega
 have h := hr.2 _ hj
 have e : (if (if k = 0 then ring.length - 1 else k - 1) + 1 = ring.length then 0 else (if k = 0 then ring.length - 1 else k - 1) + 1) = k := by
  by_cases h0 : k = 0
  ·rw [if_pos h0, if_pos (by omega)]; exact h0.symm
  ·rw [if_neg h0, if_neg (by omega)]; omega
 rw [e] at h
 rw [← h]
 exact (st.ln _ (hb _ (getD_mem hj))).symm
theorem ra_cast (ring : List Nat) (k : Nat) : ra (cast ring) k = ((ring.getD k 0 : Nat) : Int) := cast_getD ring k
theorem rp_cast (st : Stb ls.length (cr ls) (cE ls) nx la) {ring : List Nat} (hr : Ring nx ring) (hb : ∀ x ∈ ring, x < ls.length) {k : Nat} (hk : k < ring.length) : rp (cast ring) k = ((la (ring.getD k 0) : Nat) : Int) := by
 unfold rp
 rw [cast_getD, cast_len, ring_prev st hr hb hk]
theorem lastR_at (st : Stb ls.length (cr ls) (cE ls) nx la) {ring : List Nat} (hr : Ring nx ring) (hb : ∀ x ∈ ring, x < ls.length) {h : List Int} (hh : h.length = ls.length) :
  ∀ k, k ≤ ring.length → ∀ i, (lastR (cast ring) h k).getD i 0 = if i ∈ ring.take k then ((la i : Nat) : Int) else h.getD i 0
 | 0, _, i => by rw [List.take_zero]; simp [lastR]
 | k + 1, hk, i => by
  have hlt : ring.getD k 0 < ls.length := hb _ (getD_mem (by omega))
  rw [lastR_succ, ra_cast, rp_cast st hr hb (by omega), set_getD _ _ _ _ _ (by rw [lastR_length, hh]; omega), lastR_at st hr hb hh k (by omega) i]
  have et : ring.take (k + 1) = ring.take k ++ [ring.getD k 0] := by
   rw [List.take_add_one]
   simp [List.getD, show k < ring.length by omega]
  rw [et, Int.toNat_natCast]
  by_cases e : i = ring.getD k 0
  ·rw [if_pos e, if_pos (List.mem_append_right _ (by rw [e]; exact List.mem_singleton.mpr rfl)), e]
  ·rw [if_neg e]
   by_cases h1 : i ∈ ring.take k
   ·rw [if_pos h1, if_pos (List.mem_append_left _ h1)]
   ·rw [if_neg h1, if_neg (by rw [List.mem_append, List.mem_singleton]; rintro (z | z); exact h1 z; exact e z)]
theorem lastA_at (st : Stb ls.length (cr ls) (cE ls) nx la) : ∀ (rings : List (List Nat)), (∀ ring ∈ rings, Ring nx ring) → (∀ ring ∈ rings, ∀ x ∈ ring, x < ls.length) →
  ∀ i, (lastA ls.length (rings.map cast)).getD i 0 = if i ∈ rings.flatten then ((la i : Nat) : Int) else (rng ls.length).getD i 0 := by
 suffices hh : ∀ rs : List (List Nat), (∀ ring ∈ rs.reverse, Ring nx ring) → (∀ ring ∈ rs.reverse, ∀ x ∈ ring, x < ls.length) →
   ∀ i, (lastA ls.length (rs.reverse.map cast)).getD i 0 = if i ∈ rs.reverse.flatten then ((la i : Nat) : Int) else (rng ls.length).getD i 0 by
  intro rings h1 h2
  have := hh rings.reverse (by rw [List.reverse_reverse]; exact h1) (by rw [List.reverse_reverse]; exact h2)
  rwa [List.reverse_reverse] at this
 intro rs
 induction rs with
 | nil => intro _ _ i; simp [lastA]
 | cons r rs ih =>
  intro h1 h2 i
  rw [List.reverse_cons] at h1 h2 ⊢
  have hr := h1 r (List.mem_append_right _ (List.mem_singleton.mpr rfl))
  have hb := h2 r (List.mem_append_right _ (List.mem_singleton.mpr rfl))
  rw [List.map_append, List.map_cons, List.map_nil, lastA_snoc, cast_len, lastR_at st hr hb (lastA_length _ _) r.length (Nat.le_refl _), List.take_length,
   ih (fun q hq => h1 q (List.mem_append_left _ hq)) fun q hq => h2 q (List.mem_append_left _ hq), List.flatten_append]
  by_cases e : i ∈ r
  ·rw [if_pos e, if_pos (List.mem_append_right _ (by simpa using e))]
  ·rw [if_neg e]
   by_cases e2 : i ∈ rs.reverse.flatten
   ·rw [if_pos e2, if_pos (List.mem_append_left _ e2)]
   ·rw [if_neg e2, if_neg (by rw [List.mem_append]; rintro (z | z); exact e2 z; exact e (by simpa using z))]
theorem flat_cast (rings : List (List Nat)) : (rings.map cast).flatten = cast rings.flatten := by
 induction rings with
 | nil => rfl
 | cons r rs ih => rw [List.map_cons, List.flatten_cons, List.flatten_cons, ih]; simp [cast]
theorem rng_sorted (n : Nat) : (rng n).Pairwise (· ≤ ·) := by
 unfold rng
 rw [List.pairwise_map]
 exact List.Pairwise.imp (fun h => by omega) (List.pairwise_lt_range (n := n))
theorem good_of (st : Stb ls.length (cr ls) (cE ls) nx la) (hp : rings.flatten.Perm (List.range ls.length)) (hr : ∀ ring ∈ rings, Ring nx ring) (hodd : ∃ ring ∈ rings, ring.length = 3 ∨ ring.length = 5) : goodB ls (rings.map cast) = true := by
 have hb : ∀ ring ∈ rings, ∀ x ∈ ring, x < ls.length := fun ring h x hx => by
  have : x ∈ List.range ls.length := hp.mem_iff.mp (List.mem_flatten.mpr ⟨ring, h, hx⟩)
  simpa using this
 have hnd : rings.flatten.Nodup := hp.nodup_iff.mpr List.nodup_range
 have rnd : ∀ ring ∈ rings, ring.Nodup := fun ring h => hnd.sublist (List.sublist_flatten_of_mem h)
 have hla : ∀ i, i < ls.length → (lastA ls.length (rings.map cast)).getD i 0 = ((la i : Nat) : Int) := fun i hi => by
  rw [lastA_at st rings hr hb i, if_pos (hp.mem_iff.mpr (by simpa using hi))]
 have hw : ∀ i, i < ls.length → nx i ≠ i → would ls i (nx i) = true := fun i hi h => (cE_iff.mp (st.acc i hi h)).2.2
 have other : ∀ ring ∈ rings, ∀ k, k < ring.length → 1 < ring.length → la (ring.getD k 0) ≠ ring.getD k 0 := fun ring h k hk h1 e => by
  have e1 := ring_prev st (hr ring h) (hb ring h) hk
  rw [e] at e1
  have := getD_inj (rnd ring h) (by split <;> omega) hk e1
  split at this <;> omega
 have other2 : ∀ ring ∈ rings, ∀ k, k < ring.length → 2 < ring.length → la (la (ring.getD k 0)) ≠ ring.getD k 0 := fun ring h k hk h1 e => by
  have e1 := ring_prev st (hr ring h) (hb ring h) hk
  have hj : (if k = 0 then ring.length - 1 else k - 1) < ring.length := by split <;> omega
  have hjk : (k = 0 → (if k = 0 then ring.length - 1 else k - 1) = ring.length - 1) ∧ (k ≠ 0 → (if k = 0 then ring.length - 1 else k - 1) = k - 1) := ⟨fun z => if_pos z, fun z => if_neg z⟩
  generalize (if k = 0 then ring.length - 1 else k - 1) = j at e1 hj hjk
  have e2 := ring_prev st (hr ring h) (hb ring h) hj
  have hj2 : (if j = 0 then ring.length - 1 else j - 1) < ring.length := by split <;> omega
  rw [e1, e] at e2
  have e3 := getD_inj (rnd ring h) hj2 hk e2
  by_cases h0 : k = 0
  ·have := hjk.1 h0
   split at e3 <;> omega
  ·have := hjk.2 h0
   split at e3 <;> omega
 unfold goodB
 rw [Bool.and_eq_true, Bool.and_eq_true, Bool.and_eq_true, Bool.and_eq_true]
 refine ⟨⟨?_, ?_⟩, ?_, ?_, ?_⟩
 ·refine decide_eq_true (sorted_uniq ((isort_perm _).trans ?_) (isort_sorted _) (rng_sorted _))
  rw [flat_cast]
  exact hp.map _
 ·obtain ⟨ring, h, hl⟩ := hodd
  rw [Bool.not_eq_true', decide_eq_false_iff_not]
  intro he
  have : cast ring ∈ oddR (rings.map cast) := by
   unfold oddR
   rw [List.mem_filter]
   refine ⟨List.mem_map.mpr ⟨ring, h, rfl⟩, ?_⟩
   rw [cast_len]
   rcases hl with e | e <;> rw [e] <;> decide
  rw [he] at this
  exact nomatch this
 ·rw [List.all_eq_true]
  intro R hR
  obtain ⟨ring, h, rfl⟩ := List.mem_map.mp hR
  rw [List.all_eq_true]
  intro k hk
  rw [cast_len] at hk
  have hk : k < ring.length := by simpa using hk
  unfold ok1
  rw [cast_len, ra_cast, rp_cast st (hr ring h) (hb ring h) hk]
  by_cases h1 : 1 < ring.length
  ·have hx := hb ring h _ (getD_mem hk)
   have hne := other ring h k hk h1
   have hy := st.llt _ hx
   have e := st.nl _ hx
   have := hw _ hy (by rw [e]; exact fun z => hne z.symm)
   rw [e] at this
   rw [would_symm, this]
   simp
  ·rw [decide_eq_false h1]; rfl
 ·rw [List.all_eq_true]
  intro R hR
  obtain ⟨ring, h, rfl⟩ := List.mem_map.mp hR
  rw [List.all_eq_true]
  intro k hk
  rw [cast_len] at hk
  have hk : k < ring.length := by simpa using hk
  unfold ok2
  rw [cast_len, ra_cast, rp_cast st (hr ring h) (hb ring h) hk]
  by_cases h1 : 2 < ring.length
  ·have hx := hb ring h _ (getD_mem hk)
   have hne := other ring h k hk (by omega)
   have hne2 := other2 ring h k hk h1
   have hy := st.llt _ hx
   have e := st.nl _ hx
   rw [Int.toNat_natCast, hla _ hy]
   have hpf := st.pref _ hy (by rw [e]; exact fun z => hne2 z.symm)
   rw [e] at hpf
   unfold rather
   rw [if_neg (by rintro (z | z) <;> omega)]
   have : (lof ls ((la (ring.getD k 0) : Nat) : Int)).idxOf ((ring.getD k 0 : Nat) : Int) < (lof ls ((la (ring.getD k 0) : Nat) : Int)).idxOf ((la (la (ring.getD k 0)) : Nat) : Int) := hpf
   rw [decide_eq_true this]
   simp
  ·rw [decide_eq_false h1]; rfl
 ·refine decide_eq_true ?_
  unfold broken
  rw [List.filter_eq_nil_iff]
  intro p hp' hbk
  obtain ⟨o1, o2, o3, o4⟩ := openP_mem hp'
  unfold brkL at hbk
  rw [Bool.and_eq_true] at hbk
  have ea : ((p.1.toNat : Nat) : Int) = p.1 := by omega
  have eb : ((p.2.toNat : Nat) : Int) = p.2 := by omega
  rw [hla p.1.toNat (by omega), hla p.2.toNat (by omega)] at hbk
  have btr : ∀ i j : Nat, rather ls (i : Int) (j : Int) ((la i : Nat) : Int) = true → Btr (cr ls) i j (la i) := fun i j h => by
   unfold rather at h
   split at h
   ·cases h
   ·rw [Bool.or_eq_true] at h
    rcases h with h | h
    ·exact .inl (by have := of_decide_eq_true h; omega)
    ·exact .inr (of_decide_eq_true h)
  rw [← ea, ← eb] at hbk
  rw [Int.toNat_natCast, Int.toNat_natCast] at hbk
  refine st.stab p.1.toNat p.2.toNat (cE_iff.mpr ⟨by omega, by omega, by rw [ea, eb]; exact o4⟩) ⟨btr _ _ hbk.1, btr _ _ hbk.2⟩
end
end TN
namespace TN
open TM
def prOf : List Nat → Prs
 | a :: b :: l => ((a : Int), (b : Int)) :: prOf l
 | _ => []
theorem prOf_mem : ∀ {l : List Nat} {p : Int × Int}, p ∈ prOf l → ∃ t, t + 1 < l.length ∧ p = (((l.getD t 0 : Nat) : Int), ((l.getD (t + 1) 0 : Nat) : Int))
 | [], _, h => nomatch h
 | [_], _, h => nomatch h
 | a :: b :: l, p, h => by
  rcases List.mem_cons.mp h with rfl | h
  ·exact ⟨0, by simp, rfl⟩
  ·obtain ⟨t, h1, h2⟩ := prOf_mem h
   exact ⟨t + 2, by simp; omega, by rw [h2]; rfl⟩
theorem prOf_who : ∀ l : List Nat, (who (prOf l)).Sublist (cast l)
 | [] => List.Sublist.refl _
 | [a] => List.nil_sublist _
 | a :: b :: l => by
  show ([(a : Int), (b : Int)] ++ who (prOf l)).Sublist ([(a : Int), (b : Int)] ++ cast l)
  exact List.Sublist.append_left (prOf_who l) _
theorem prOf_all : ∀ l : List Nat, l.length % 2 = 0 → who (prOf l) = cast l
 | [], _ => rfl
 | [a], h => by simp at h
 | a :: b :: l, h => by
  show [(a : Int), (b : Int)] ++ who (prOf l) = [(a : Int), (b : Int)] ++ cast l
  rw [prOf_all l (by simp at h; omega)]
theorem flatMap_sub {α β : Type} {f g : α → List β} : ∀ {l : List α}, (∀ x, (f x).Sublist (g x)) → (l.flatMap f).Sublist (l.flatMap g)
 | [], _ => List.Sublist.refl _
 | a :: l, h => by
  rw [List.flatMap_cons, List.flatMap_cons]
  exact (h a).append (flatMap_sub h)
theorem who_flatMap {α : Type} (f : α → Prs) : ∀ l : List α, who (l.flatMap f) = l.flatMap fun x => who (f x)
 | [] => rfl
 | a :: l => by
  rw [List.flatMap_cons, List.flatMap_cons, ← who_flatMap f l]
  unfold who
  rw [List.flatMap_append]
section
variable {ls : Ls} {nx la : Nat → Nat} {rings : List (List Nat)}
theorem pairs_of (st : Stb ls.length (cr ls) (cE ls) nx la) (hp : rings.flatten.Perm (List.range ls.length)) (hr : ∀ ring ∈ rings, Ring nx ring) (hev : ∀ ring ∈ rings, ring.length = 1 ∨ ring.length % 2 = 0) :
  Pairs ls (rings.flatMap prOf) ∧ breaking ls (rings.flatMap prOf) = [] := by
 have hb : ∀ ring ∈ rings, ∀ x ∈ ring, x < ls.length := fun ring h x hx => by
  have : x ∈ List.range ls.length := hp.mem_iff.mp (List.mem_flatten.mpr ⟨ring, h, hx⟩)
  simpa using this
 have hnd : rings.flatten.Nodup := hp.nodup_iff.mpr List.nodup_range
 have rnd : ∀ ring ∈ rings, ring.Nodup := fun ring h => hnd.sublist (List.sublist_flatten_of_mem h)
 have each : ∀ p ∈ rings.flatMap prOf, ∃ x, x < ls.length ∧ nx x ≠ x ∧ p = ((x : Int), ((nx x : Nat) : Int)) := fun p hpm => by
  rw [List.mem_flatMap] at hpm
  obtain ⟨ring, h, hpr⟩ := hpm
  obtain ⟨t, h1, e⟩ := prOf_mem hpr
  have hn := (hr ring h).2 t (by omega)
  rw [if_neg (by omega)] at hn
  refine ⟨ring.getD t 0, hb ring h _ (getD_mem (by omega)), fun z => ?_, by rw [hn]; exact e⟩
  rw [hn] at z
  have := getD_inj (rnd ring h) (by omega) (by omega) z
  omega
 have P : Pairs ls (rings.flatMap prOf) := by
  refine Pairs.mk (fun p hpm => ?_) ?_
  ·obtain ⟨x, hx, hne, rfl⟩ := each p hpm
   have h1 := st.acc x hx hne
   obtain ⟨a1, a2, a3⟩ := cE_iff.mp h1
   refine ⟨?_, ?_, ?_, ?_, ?_, a3⟩
   ·show (0 : Int) ≤ (x : Int); omega
   ·show (x : Int) < _; omega
   ·show (0 : Int) ≤ ((nx x : Nat) : Int); omega
   ·show ((nx x : Nat) : Int) < _; omega
   ·show (x : Int) ≠ ((nx x : Nat) : Int); omega
  ·show (who (rings.flatMap prOf)).Nodup
   rw [who_flatMap]
   have h1 : (rings.flatMap fun x => who (prOf x)).Sublist (rings.flatMap cast) := flatMap_sub prOf_who
   have h2 : rings.flatMap cast = cast rings.flatten := by rw [← flat_cast, List.flatMap_def]
   rw [h2] at h1
   refine List.Nodup.sublist h1 ?_
   unfold cast List.Nodup
   rw [List.pairwise_map]
   exact List.Pairwise.imp (fun h e => h (by omega)) hnd
 refine ⟨P, ?_⟩
 have hm : ∀ (i : Nat) (h : Int), i < ls.length → mate (rings.flatMap prOf) (i : Int) = some h → h = ((nx i : Nat) : Int) ∨ h = ((la i : Nat) : Int) := fun i h hi e => by
  rcases mate_mem e with hmem | hmem
  ·obtain ⟨x, hx, _, e2⟩ := each _ hmem
   have e3 : (i : Int) = (x : Int) := congrArg Prod.fst e2
   have e4 : h = ((nx x : Nat) : Int) := congrArg Prod.snd e2
   have : i = x := by omega
   subst this
   exact .inl e4
  ·obtain ⟨x, hx, _, e2⟩ := each _ hmem
   have e3 : h = (x : Int) := congrArg Prod.fst e2
   have e4 : (i : Int) = ((nx x : Nat) : Int) := congrArg Prod.snd e2
   have e5 : i = nx x := by omega
   refine .inr ?_
   rw [e3, e5, st.ln x hx]
 have hno : ∀ i : Nat, i < ls.length → mate (rings.flatMap prOf) (i : Int) = none → la i = i := fun i hi e => by
  have hmem : i ∈ rings.flatten := hp.mem_iff.mpr (by simpa using hi)
  obtain ⟨ring, h, hx⟩ := List.mem_flatten.mp hmem
  rcases hev ring h with h1 | h2
  ·match ring, h1 with
   | [x], _ =>
    have hn := (hr [x] h).2 0 (by simp)
    have ex : i = x := by simpa using hx
    subst ex
    have hn : nx i = i := hn
    have := st.ln i hi
    rw [hn] at this
    exact this
  ·exfalso
   have hw : (i : Int) ∈ who (rings.flatMap prOf) := by
    rw [who_flatMap, List.mem_flatMap]
    exact ⟨ring, h, by rw [prOf_all ring h2]; exact cast_mem.mpr ⟨i, hx, rfl⟩⟩
   obtain ⟨j, e2⟩ := mate_some hw
   rw [e] at e2
   cases e2
 have better : ∀ i j : Nat, i < ls.length → wr ls (i : Int) (j : Int) (mate (rings.flatMap prOf) (i : Int)) = true → Btr (cr ls) i j (la i) := fun i j hi h => by
  cases e : mate (rings.flatMap prOf) (i : Int) with
  | none => exact .inl (hno i hi e)
  | some k =>
   rw [e] at h
   have h : (lof ls (i : Int)).idxOf (j : Int) < (lof ls (i : Int)).idxOf k := of_decide_eq_true h
   by_cases hla : la i = i
   ·exact .inl hla
   ·rcases hm i k hi e with rfl | rfl
    ·by_cases e2 : nx i = la i
     ·rw [e2] at h; exact .inr h
     ·exact .inr (Nat.lt_trans h (st.pref i hi e2))
    ·exact .inr h
 unfold breaking
 have : rows (brk ls (rings.flatMap prOf)) ls.length ls.length = rows (fun _ _ => false) ls.length ls.length := by
  refine rows_congr (Nat.le_refl _) fun a b h0 h1 h2 => ?_
  cases e : brk ls (rings.flatMap prOf) a b with
  | false => rfl
  | true =>
   exfalso
   unfold brk at e
   rw [Bool.and_eq_true, Bool.and_eq_true] at e
   obtain ⟨w1, w2, w3⟩ := e
   have ea : ((a.toNat : Nat) : Int) = a := by omega
   have eb : ((b.toNat : Nat) : Int) = b := by omega
   rw [← ea, ← eb] at w1 w2 w3
   exact st.stab a.toNat b.toNat (cE_iff.mpr ⟨by omega, by omega, w1⟩) ⟨better _ _ (by omega) w2, better _ _ (by omega) w3⟩
 rw [this]
 unfold rows row
 simp
end
theorem steady_brk {ls : Ls} {ps : Prs} (h : breaking ls ps = []) {i j : Int} (hi : 0 ≤ i ∧ i < ls.length) (hj : 0 ≤ j ∧ j < ls.length) (hw : would ls i j = true) (hV : Valid ls) : ¬ (wr ls i j (mate ps i) = true ∧ wr ls j i (mate ps j) = true) := by
 have core : ∀ a b : Int, 0 ≤ a → a < b → b < ls.length → brk ls ps a b = false := fun a b h0 h1 h2 => by
  cases e : brk ls ps a b with
  | false => rfl
  | true =>
   exfalso
   have hm : (a, b) ∈ breaking ls ps := by
    unfold breaking rows
    rw [List.mem_flatMap]
    refine ⟨a.toNat, by simpa using (by omega : a.toNat < ls.length), ?_⟩
    unfold row
    rw [List.mem_filter, List.mem_map]
    refine ⟨⟨(b - a - 1).toNat, by simpa using (by omega : (b - a - 1).toNat < ls.length - (a.toNat + 1)), ?_⟩, e⟩
    rw [show ((a.toNat : Nat) : Int) = a by omega, show (((b - a - 1).toNat : Nat) : Int) = b - a - 1 by omega, show a + 1 + (b - a - 1) = b by omega]
   rw [h] at hm
   exact nomatch hm
 rintro ⟨h1, h2⟩
 rcases Int.lt_trichotomy i j with hl | hl | hl
 ·have := core i j hi.1 hl hj.2
  unfold brk at this
  rw [hw, h1, h2] at this
  cases this
 ·subst hl
  exact ((lof_ok hV hi.1 hi.2).1 _ (would_mem hw).1).2.2 rfl
 ·have := core j i hj.1 hl hi.2
  unfold brk at this
  rw [would_symm, hw, h1, h2] at this
  cases this
theorem mate_pair {ls : Ls} : ∀ {ps : Prs}, Pairs ls ps → ∀ {a b : Int}, (a, b) ∈ ps → mate ps a = some b ∧ mate ps b = some a := by
 suffices hh : ∀ rs : Prs, Pairs ls rs.reverse → ∀ {a b : Int}, (a, b) ∈ rs.reverse → mate rs.reverse a = some b ∧ mate rs.reverse b = some a by
  intro ps P a b h
  have := hh ps.reverse (by rw [List.reverse_reverse]; exact P) (a := a) (b := b) (by rw [List.reverse_reverse]; exact h)
  rwa [List.reverse_reverse] at this
 intro rs
 induction rs with
 | nil => intro _ a b h; exact nomatch h
 | cons p rs ih =>
  intro P a b h
  rw [List.reverse_cons] at P h ⊢
  obtain ⟨P0, m1, m2⟩ := P.init
  have hp := P.each p (List.mem_append_right _ (List.mem_singleton.mpr rfl))
  rw [mate_snoc, mate_snoc]
  rcases List.mem_append.mp h with h | h
  ·obtain ⟨e1, e2⟩ := ih P0 h
   have a1 : a ≠ p.2 := fun z => by rw [z, m2] at e1; cases e1
   have a2 : a ≠ p.1 := fun z => by rw [z, m1] at e1; cases e1
   have b1 : b ≠ p.2 := fun z => by rw [z, m2] at e2; cases e2
   have b2 : b ≠ p.1 := fun z => by rw [z, m1] at e2; cases e2
   rw [if_neg a1, if_neg a2, if_neg b1, if_neg b2]
   exact ⟨e1, e2⟩
  ·have e := List.mem_singleton.mp h
   subst e
   have hne : a ≠ b := hp.2.2.2.2.1
   rw [if_neg hne, if_pos rfl, if_pos rfl]
   exact ⟨rfl, rfl⟩
theorem mate_symm {ls : Ls} {ps : Prs} (P : Pairs ls ps) {i j : Int} (h : mate ps i = some j) : mate ps j = some i := by
 rcases mate_mem h with h | h
 ·exact (mate_pair P h).2
 ·exact (mate_pair P h).1
def Ahead (ls : Ls) (ps qs : Prs) (i : Nat) : Prop := i < ls.length ∧ ∃ j : Int, mate ps (i : Int) = some j ∧ wr ls i j (mate qs i) = true
theorem ahead_mate {ls : Ls} (hV : Valid ls) {ps qs : Prs} (P : Pairs ls ps) (Q : Pairs ls qs) (hq : breaking ls qs = []) {i : Nat} (h : Ahead ls ps qs i) : ∃ j : Nat, mate ps (i : Int) = some (j : Int) ∧ Ahead ls qs ps j := by
 obtain ⟨hi, j, hm, hw⟩ := h
 obtain ⟨b1, b2, b3, b4, b5, b6⟩ := P.has hm
 have ej : ((j.toNat : Nat) : Int) = j := by omega
 have hjm := mate_symm P hm
 refine ⟨j.toNat, by rw [ej]; exact hm, by omega, ?_⟩
 have nb := steady_brk hq (i := (i : Int)) (j := j) ⟨b1, b2⟩ ⟨b3, b4⟩ b6 hV
 have n2 : wr ls j i (mate qs j) = false := by
  cases e : wr ls j i (mate qs j) with
  | false => rfl
  | true => exact absurd ⟨hw, e⟩ nb
 rw [ej]
 cases e : mate qs j with
 | none => rw [e] at n2; cases n2
 | some k =>
  refine ⟨k, rfl, ?_⟩
  rw [hjm]
  rw [e] at n2
  have n3 : ¬ (lof ls j).idxOf (i : Int) < (lof ls j).idxOf k := of_decide_eq_false n2
  obtain ⟨_, _, _, _, _, c6⟩ := Q.has e
  have hne : k ≠ (i : Int) := fun z => by
   subst z
   rw [mate_symm Q e] at hw
   have : (lof ls (i : Int)).idxOf j < (lof ls (i : Int)).idxOf j := of_decide_eq_true hw
   omega
  have hne2 : (lof ls j).idxOf k ≠ (lof ls j).idxOf (i : Int) := fun z => hne (idx_inj (would_mem c6).1 (would_mem b6).2 z)
  refine decide_eq_true ?_
  omega
theorem ahead_has {ls : Ls} (hV : Valid ls) {ps qs : Prs} (P : Pairs ls ps) (Q : Pairs ls qs) (hp : breaking ls ps = []) (hq : breaking ls qs = []) {i : Nat} (h : Ahead ls ps qs i) : mate qs (i : Int) ≠ none := by
 let m1 : Nat → Nat := fun i => ((mate ps (i : Int)).getD 0).toNat
 let m2 : Nat → Nat := fun i => ((mate qs (i : Int)).getD 0).toNat
 have f1 : ∀ i, Ahead ls ps qs i → mate ps (i : Int) = some ((m1 i : Nat) : Int) ∧ Ahead ls qs ps (m1 i) := fun i h => by
  obtain ⟨j, e, h2⟩ := ahead_mate hV P Q hq h
  have : m1 i = j := by show ((mate ps (i : Int)).getD 0).toNat = j; rw [e]; rfl
  rw [this]; exact ⟨e, h2⟩
 have f2 : ∀ i, Ahead ls qs ps i → mate qs (i : Int) = some ((m2 i : Nat) : Int) ∧ Ahead ls ps qs (m2 i) := fun i h => by
  obtain ⟨j, e, h2⟩ := ahead_mate hV Q P hp h
  have : m2 i = j := by show ((mate qs (i : Int)).getD 0).toNat = j; rw [e]; rfl
  rw [this]; exact ⟨e, h2⟩
 obtain ⟨j, hj, e⟩ := onto (n := ls.length) (S := Ahead ls ps qs) (f := fun i => m2 (m1 i)) (fun i h => h.1) (fun i h => (f2 _ (f1 i h).2).2) (fun a b ha hb e => by
  have a1 := f1 a ha
  have b1 := f1 b hb
  have a2 := f2 _ a1.2
  have b2 := f2 _ b1.2
  have e : m2 (m1 a) = m2 (m1 b) := e
  have a3 := mate_symm Q a2.1
  have b3 := mate_symm Q b2.1
  rw [e, b3] at a3
  have e2 : m1 b = m1 a := by injection a3 with z; omega
  have a4 := mate_symm P a1.1
  have b4 := mate_symm P b1.1
  rw [e2, a4] at b4
  injection b4 with z
  omega) i h
 have e : m2 (m1 j) = i := e
 have h2 := f2 _ (f1 j hj).2
 rw [e] at h2
 rw [mate_symm Q h2.1]
 exact fun z => nomatch z
theorem same_alone {ls : Ls} (hV : Valid ls) {ps qs : Prs} (P : Pairs ls ps) (Q : Pairs ls qs) (hp : breaking ls ps = []) (hq : breaking ls qs = []) {i : Nat} (hi : i < ls.length) (h : mate ps (i : Int) = none) : mate qs (i : Int) = none := by
 cases e : mate qs (i : Int) with
 | none => rfl
 | some j =>
  have : Ahead ls qs ps i := ⟨hi, j, e, by rw [h]; rfl⟩
  exact absurd h (ahead_has hV Q P hq hp this)
end TN
namespace TN
open TM
def pv' (n k : Nat) : Nat := if k = 0 then n - 1 else k - 1
theorem pv_lt {n k : Nat} (h : k < n) : pv' n k < n := by unfold pv'; split <;> omega
theorem rp_eq (ring : List Int) (k : Nat) : rp ring k = ra ring (pv' ring.length k) := rfl
def rpp (ring : List Int) (k : Nat) : Int := rp ring (pv' ring.length k)
def shareAll (ls : Ls) (ring : List Int) : Bool := (List.range ring.length).all fun k => would ls (rp ring k) (ra ring k)
def ratherAll (ls : Ls) (ring : List Int) : Bool := (List.range ring.length).all fun k => wr ls (rp ring k) (ra ring k) (some (rpp ring k))
def goodRing (ls : Ls) (ring : List Int) : Bool := decide (ring.length = 1) || (shareAll ls ring && (decide (ring.length = 2) || ratherAll ls ring))
def lstep (ring : List Int) (f : Int → Option Int) (k : Nat) : Int → Option Int := fun i => if i = ra ring k then (if 1 < ring.length then some (rp ring k) else none) else f i
def lastRF (ring : List Int) (f : Int → Option Int) (k : Nat) : Int → Option Int := (List.range k).foldl (lstep ring) f
theorem lastRF_succ (ring : List Int) (f : Int → Option Int) (k : Nat) : lastRF ring f (k + 1) = lstep ring (lastRF ring f k) k := by
 unfold lastRF
 rw [List.range_succ, List.foldl_append]
 rfl
def lastF (rings : List (List Int)) : Int → Option Int := rings.foldl (fun f ring => lastRF ring f ring.length) fun _ => none
theorem lastF_snoc (rings : List (List Int)) (ring : List Int) : lastF (rings ++ [ring]) = lastRF ring (lastF rings) ring.length := by
 unfold lastF
 rw [List.foldl_append]
 rfl
def brkF (ls : Ls) (hv : Int → Option Int) (i j : Int) : Bool := would ls i j && (wr ls i j (hv i) && wr ls j i (hv j))
def breakers (ls : Ls) (hv : Int → Option Int) : Prs := rows (brkF ls hv) ls.length ls.length
def oddB (ring : List Int) : Bool := decide ((ring.length : Int) = 3) || decide ((ring.length : Int) = 5)
def areGood (ls : Ls) (rings : List (List Int)) : Bool := decide (isort rings.flatten = rng ls.length) && (rings.all (goodRing ls) && decide (breakers ls (lastF rings) = []))
def tellB (ls : Ls) (rings : List (List Int)) : Bool := rings.any oddB && areGood ls rings
theorem snoc_ind {α : Type} {P : List α → Prop} (h0 : P []) (h1 : ∀ l x, P l → P (l ++ [x])) : ∀ l, P l := by
 intro l
 have : ∀ r : List α, P r.reverse := by
  intro r
  induction r with
  | nil => exact h0
  | cons x r ih => rw [List.reverse_cons]; exact h1 _ _ ih
 have := this l.reverse
 rwa [List.reverse_reverse] at this
theorem lastR_F {n : Nat} {ring h : List Int} {f : Int → Option Int} (hl : h.length = n) (hr : ∀ x ∈ ring, 0 ≤ x ∧ x < (n : Int)) (hh : ∀ i : Nat, i < n → h.getD i 0 = (f i).getD i) :
  ∀ k, k ≤ ring.length → ∀ i : Nat, i < n → (lastR ring h k).getD i 0 = (lastRF ring f k i).getD i
 | 0, _ => hh
 | k + 1, hk => by
  intro i hi
  have ih := lastR_F hl hr hh k (by omega) i hi
  have hra : ra ring k ∈ ring := by unfold ra; simp [List.getD, show k < ring.length by omega]
  obtain ⟨a1, a2⟩ := hr _ hra
  rw [lastR_succ, lastRF_succ, set_getD _ _ _ _ _ (by rw [lastR_length, hl]; omega)]
  unfold lstep
  by_cases e : i = (ra ring k).toNat
  ·have ei : (i : Int) = ra ring k := by omega
   rw [if_pos e, if_pos ei]
   by_cases h1 : 1 < ring.length
   ·rw [if_pos h1]; rfl
   ·rw [if_neg h1]
    have e1 : k = 0 := by omega
    subst e1
    show rp ring 0 = (i : Int)
    rw [ei]
    unfold rp ra
    rw [if_pos rfl, show ring.length - 1 = 0 by omega]
  ·have ei : ¬ (i : Int) = ra ring k := by omega
   rw [if_neg e, if_neg ei]; exact ih
theorem lastA_F {n : Nat} : ∀ {rings : List (List Int)}, (∀ ring ∈ rings, ∀ x ∈ ring, 0 ≤ x ∧ x < (n : Int)) → ∀ i : Nat, i < n → (lastA n rings).getD i 0 = (lastF rings i).getD i := by
 intro rings
 refine snoc_ind (P := fun rings => (∀ ring ∈ rings, ∀ x ∈ ring, 0 ≤ x ∧ x < (n : Int)) → ∀ i : Nat, i < n → (lastA n rings).getD i 0 = (lastF rings i).getD i) ?_ ?_ rings
 ·intro _ i hi
  show (rng n).getD i 0 = _
  simp [rng, List.getD, hi, lastF]
 ·intro rs r ih hr i hi
  rw [lastA_snoc, lastF_snoc]
  exact lastR_F (lastA_length n rs) (hr r (by simp)) (ih fun ring h => hr ring (by simp [h])) _ (Nat.le_refl _) i hi
theorem lastRF_would {ls : Ls} {ring : List Int} {f : Int → Option Int} (hs : 1 < ring.length → shareAll ls ring = true) (hf : ∀ i x, f i = some x → would ls i x = true) :
  ∀ k, k ≤ ring.length → ∀ i x, lastRF ring f k i = some x → would ls i x = true
 | 0, _ => hf
 | k + 1, hk => by
  intro i x h
  rw [lastRF_succ] at h
  unfold lstep at h
  by_cases e : i = ra ring k
  ·rw [if_pos e] at h
   by_cases h1 : 1 < ring.length
   ·rw [if_pos h1] at h
    have := List.all_eq_true.mp (hs h1) k (List.mem_range.mpr hk)
    rw [would_symm] at this
    rw [e, ← Option.some.inj h]
    exact this
   ·rw [if_neg h1] at h; cases h
  ·rw [if_neg e] at h
   exact lastRF_would hs hf k (by omega) i x h
theorem good_share {ls : Ls} {ring : List Int} (h : goodRing ls ring = true) (h1 : 1 < ring.length) : shareAll ls ring = true := by
 unfold goodRing at h
 rw [decide_eq_false (by omega), Bool.false_or, Bool.and_eq_true] at h
 exact h.1
theorem lastF_would {ls : Ls} : ∀ {rings : List (List Int)}, (∀ ring ∈ rings, 1 < ring.length → shareAll ls ring = true) → ∀ i x, lastF rings i = some x → would ls i x = true := by
 intro rings
 refine snoc_ind (P := fun rings => (∀ ring ∈ rings, 1 < ring.length → shareAll ls ring = true) → ∀ i x, lastF rings i = some x → would ls i x = true) ?_ ?_ rings
 ·intro _ i x h; cases h
 ·intro rs r ih hr i x h
  rw [lastF_snoc] at h
  exact lastRF_would (hr r (by simp)) (ih fun ring h => hr ring (by simp [h])) _ (Nat.le_refl _) i x h
theorem lastRF_oth {ring : List Int} {f : Int → Option Int} {i : Int} (h : ¬ i ∈ ring) : ∀ k, k ≤ ring.length → lastRF ring f k i = f i
 | 0, _ => rfl
 | k + 1, hk => by
  rw [lastRF_succ]
  unfold lstep
  have hra : ra ring k ∈ ring := by unfold ra; simp [List.getD, show k < ring.length by omega]
  have ne : ¬ i = ra ring k := fun e => h (by rw [e]; exact hra)
  rw [if_neg ne, lastRF_oth h k (by omega)]
theorem ra_inj {ring : List Int} (hn : ring.Nodup) {i j : Nat} (hi : i < ring.length) (hj : j < ring.length) (e : ra ring i = ra ring j) : i = j := by
 unfold ra at e
 simp only [List.getD, List.getElem?_eq_getElem hi, List.getElem?_eq_getElem hj, Option.getD_some] at e
 exact (List.getElem_inj hn).mp e
theorem lastRF_at {ring : List Int} {f : Int → Option Int} (hn : ring.Nodup) (h1 : 1 < ring.length) {j : Nat} : ∀ k, k ≤ ring.length → j < k → lastRF ring f k (ra ring j) = some (rp ring j)
 | 0, _, h => absurd h (by omega)
 | k + 1, hk, h => by
  rw [lastRF_succ]
  unfold lstep
  by_cases e : j = k
  ·subst e
   rw [if_pos rfl, if_pos h1]
  ·rw [if_neg (fun z => e (ra_inj hn (by omega) (by omega) z)), lastRF_at hn h1 k (by omega) (by omega)]
theorem lastF_at : ∀ {rings : List (List Int)}, rings.flatten.Nodup → ∀ ring ∈ rings, 1 < ring.length → ∀ j, j < ring.length → lastF rings (ra ring j) = some (rp ring j) := by
 intro rings
 refine snoc_ind (P := fun rings => rings.flatten.Nodup → ∀ ring ∈ rings, 1 < ring.length → ∀ j, j < ring.length → lastF rings (ra ring j) = some (rp ring j)) ?_ ?_ rings
 ·intro _ ring h; cases h
 ·intro rs r ih hn ring h h1 j hj
  rw [List.flatten_append, List.flatten_singleton] at hn
  obtain ⟨n1, n2, n3⟩ := List.nodup_append.mp hn
  rw [lastF_snoc]
  rcases List.mem_append.mp h with h | h
  ·have hm : ra ring j ∈ ring := by unfold ra; simp [List.getD, hj]
   rw [lastRF_oth (fun z => n3 _ (List.mem_flatten.mpr ⟨ring, h, hm⟩) _ z rfl) _ (Nat.le_refl _)]
   exact ih n1 ring h h1 j hj
  ·obtain rfl := List.mem_singleton.mp h
   exact lastRF_at n2 h1 _ (Nat.le_refl _) hj
theorem all_range_iff {n : Nat} {p : Nat → Bool} : (List.range n).all p = true ↔ ∀ k, k < n → p k = true := by
 rw [List.all_eq_true]
 exact ⟨fun h k hk => h k (by simpa using hk), fun h k hk => h k (by simpa using hk)⟩
theorem self_not {ls : Ls} (hV : Valid ls) {i : Int} (hi : 0 ≤ i ∧ i < ls.length) : would ls i i = false := by
 cases h : would ls i i with
 | false => rfl
 | true =>
  have := (lof_ok hV hi.1 hi.2).1 i (would_mem h).1
  exact absurd rfl this.2.2
theorem tell_good {ls : Ls} (hV : Valid ls) {rings : List (List Int)} (hw : ∀ ring ∈ rings, ring ≠ [] ∧ ∀ x ∈ ring, 0 ≤ x ∧ x < (ls.length : Int)) : tellB ls rings = goodB ls rings := by
 have hb : ∀ ring ∈ rings, ∀ x ∈ ring, 0 ≤ x ∧ x < (ls.length : Int) := fun ring h => (hw ring h).2
 have rin : ∀ ring ∈ rings, ∀ k, k < ring.length → ra ring k ∈ ring := fun ring h k hk => by unfold ra; simp [List.getD, hk]
 unfold tellB areGood goodB
 have eo : rings.any oddB = !decide (oddR rings = []) := by
  unfold oddR
  rw [Bool.eq_iff_iff, List.any_eq_true, Bool.not_eq_true', decide_eq_false_iff_not]
  constructor
  ·rintro ⟨r, h1, h2⟩ e
   have : r ∈ rings.filter oddB := List.mem_filter.mpr ⟨h1, h2⟩
   rw [show rings.filter oddB = [] from e] at this
   cases this
  ·intro h
   cases hq : rings.filter oddB with
   | nil => exact absurd hq h
   | cons r rs =>
    have : r ∈ rings.filter oddB := by rw [hq]; exact List.mem_cons_self
    exact ⟨r, (List.mem_filter.mp this).1, (List.mem_filter.mp this).2⟩
 rw [eo]
 by_cases hp : isort rings.flatten = rng ls.length
 ·rw [decide_eq_true hp, Bool.true_and, Bool.true_and]
  congr 1
  have hperm : rings.flatten.Perm (rng ls.length) := (isort_perm _).symm.trans (by rw [hp])
  have hnd : rings.flatten.Nodup := hperm.nodup_iff.mpr (rng_nodup _)
  have rnd : ∀ ring ∈ rings, ring.Nodup := fun ring h => hnd.sublist (List.sublist_flatten_of_mem h)
  have e1 : ∀ ring ∈ rings, ((List.range ring.length).all (ok1 ls ring) = true ↔ (1 < ring.length → shareAll ls ring = true)) := fun ring h => by
   rw [all_range_iff]
   unfold shareAll
   rw [all_range_iff]
   constructor
   ·intro q h1 k hk
    have := q k hk
    unfold ok1 at this
    rw [decide_eq_true h1, Bool.true_and, Bool.not_not] at this
    rw [would_symm]; exact this
   ·intro q k hk
    unfold ok1
    by_cases h1 : 1 < ring.length
    ·rw [decide_eq_true h1, Bool.true_and, Bool.not_not, would_symm]
     exact q h1 k hk
    ·rw [decide_eq_false h1]; rfl
  have e2 : (∀ ring ∈ rings, 1 < ring.length → shareAll ls ring = true) → ∀ ring ∈ rings, ((List.range ring.length).all (ok2 ls (lastA ls.length rings) ring) = true ↔ (2 < ring.length → ratherAll ls ring = true)) := fun hs ring h => by
   have one : 2 < ring.length → ∀ k, k < ring.length → rather ls (rp ring k) (ra ring k) ((lastA ls.length rings).getD (rp ring k).toNat 0) = wr ls (rp ring k) (ra ring k) (some (rpp ring k)) := fun h2 k hk => by
    have hj := pv_lt hk
    have hin := hb ring h _ (rin ring h _ hj)
    rw [rp_eq, lastA_F hb _ (by omega), show (((ra ring (pv' ring.length k)).toNat : Nat) : Int) = ra ring (pv' ring.length k) by omega, lastF_at hnd ring h (by omega) _ hj]
    show rather ls _ _ (rp ring (pv' ring.length k)) = _
    have hj2 := pv_lt hj
    have n1 : ra ring k ≠ ra ring (pv' ring.length k) := fun e => by
     have := ra_inj (rnd ring h) hk hj e
     unfold pv' at this; split at this <;> omega
    have n2 : ra ring k ≠ rp ring (pv' ring.length k) := fun e => by
     rw [rp_eq] at e
     have := ra_inj (rnd ring h) hk hj2 e
     unfold pv' at this
     split at this <;> split at this <;> omega
    have n3 : rp ring (pv' ring.length k) ≠ ra ring (pv' ring.length k) := fun e => by
     rw [rp_eq] at e
     have := ra_inj (rnd ring h) hj2 hj e
     generalize pv' ring.length k = j at *
     unfold pv' at this; split at this <;> omega
    unfold rather wr rpp
    rw [if_neg (by rintro (e | e); exact n1 e; exact n2 e), decide_eq_false n3, Bool.false_or]
   rw [all_range_iff]
   unfold ratherAll
   rw [all_range_iff]
   constructor
   ·intro q h2 k hk
    have := q k hk
    unfold ok2 at this
    rw [decide_eq_true h2, Bool.true_and, Bool.not_not, one h2 k hk] at this
    exact this
   ·intro q k hk
    unfold ok2
    by_cases h2 : 2 < ring.length
    ·rw [decide_eq_true h2, Bool.true_and, Bool.not_not, one h2 k hk]
     exact q h2 k hk
    ·rw [decide_eq_false h2]; rfl
  have e3 : (∀ ring ∈ rings, 1 < ring.length → shareAll ls ring = true) → breakers ls (lastF rings) = broken ls (lastA ls.length rings) := fun hs => by
   unfold breakers broken openP
   rw [rows_filter (would ls) (brkL ls (lastA ls.length rings))]
   refine rows_congr (Nat.le_refl _) fun a b h0 h1 h2 => ?_
   unfold brkF brkL
   cases hwd : would ls a b with
   | false => rfl
   | true =>
    have half : ∀ x y : Int, 0 ≤ x → x < ls.length → x ≠ y → rather ls x y ((lastA ls.length rings).getD x.toNat 0) = wr ls x y (lastF rings x) := fun x y x0 x1 ne => by
     rw [lastA_F hb _ (by omega), show ((x.toNat : Nat) : Int) = x by omega]
     cases e : lastF rings x with
     | none =>
      show rather ls x y x = true
      unfold rather
      rw [if_neg (by rintro (z | z) <;> exact ne z.symm), decide_eq_true rfl]; rfl
     | some z =>
      show rather ls x y z = decide _
      have hz := lastF_would hs x z e
      have nz : z ≠ x := fun q => by rw [q, self_not hV ⟨x0, x1⟩] at hz; cases hz
      unfold rather
      by_cases q : y = z
      ·subst q
       rw [if_pos (.inr rfl)]
       simp
      ·rw [if_neg (by rintro (q' | q'); exact ne q'.symm; exact q q'), decide_eq_false nz, Bool.false_or]
    rw [half a b h0 (by omega) (by omega), half b a (by omega) h2 (by omega)]
  rw [Bool.eq_iff_iff, Bool.and_eq_true, Bool.and_eq_true, Bool.and_eq_true, decide_eq_true_iff, decide_eq_true_iff, List.all_eq_true, List.all_eq_true, List.all_eq_true]
  have hg : (∀ ring ∈ rings, goodRing ls ring = true) ↔ (∀ ring ∈ rings, 1 < ring.length → shareAll ls ring = true) ∧ ∀ ring ∈ rings, 2 < ring.length → ratherAll ls ring = true := by
   constructor
   ·intro h
    refine ⟨fun ring hm h1 => good_share (h ring hm) h1, fun ring hm h2 => ?_⟩
    have := h ring hm
    unfold goodRing at this
    rw [decide_eq_false (by omega), Bool.false_or, Bool.and_eq_true, decide_eq_false (by omega), Bool.false_or] at this
    exact this.2
   ·rintro ⟨h1, h2⟩ ring hm
    have hne := (hw ring hm).1
    have hpos : 0 < ring.length := List.length_pos_iff.mpr hne
    unfold goodRing
    by_cases q1 : ring.length = 1
    ·rw [decide_eq_true q1]; rfl
    ·rw [decide_eq_false q1, Bool.false_or, h1 ring hm (by omega), Bool.true_and]
     by_cases q2 : ring.length = 2
     ·rw [decide_eq_true q2]; rfl
     ·rw [decide_eq_false q2, Bool.false_or, h2 ring hm (by omega)]
  constructor
  ·rintro ⟨h1, h2⟩
   obtain ⟨g1, g2⟩ := hg.mp h1
   exact ⟨fun ring h => (e1 ring h).mpr (g1 ring h), fun ring h => (e2 g1 ring h).mpr (g2 ring h), by rw [← e3 g1]; exact h2⟩
  ·rintro ⟨h1, h2, h3⟩
   have g1 := fun ring h => (e1 ring h).mp (h1 ring h)
   exact ⟨hg.mpr ⟨g1, fun ring h => (e2 g1 ring h).mp (h2 ring h)⟩, by rw [e3 g1]; exact h3⟩
 ·rw [decide_eq_false hp, Bool.false_and, Bool.false_and, Bool.and_false]; rfl
end TN
namespace TN
open TM
abbrev Rs := List (List Int)
inductive Ext (ls : Ls) : Rs → Option (List Int) → List Int → Rs → Prop
 | done (c : Rs) : Ext ls c none [] c
 | begin_ {c : Rs} {x : Int} {f : List Int} {R : Rs} (h : Ext ls c (some [x]) f R) : Ext ls c none (x :: f) R
 | close {c : Rs} {r f : List Int} {R : Rs} (g : goodRing ls r = true) (h : Ext ls (c ++ [r]) none f R) : Ext ls c (some r) f R
 | more {c : Rs} {r f : List Int} {o : Int} {R : Rs} (m : o ∈ f) (g : would ls (r.getLastD 0) o = true) (h : Ext ls c (some (r ++ [o])) (f.filter fun x => decide (x ≠ o)) R) : Ext ls c (some r) f R
def Wf (n : Nat) (rings : Rs) : Prop := ∀ ring ∈ rings, ring ≠ [] ∧ ∀ x ∈ ring, 0 ≤ x ∧ x < (n : Int)
theorem Ext.wf {ls : Ls} {n : Nat} {c : Rs} {o : Option (List Int)} {f : List Int} {R : Rs} (h : Ext ls c o f R) : Wf n c → (∀ r, o = some r → r ≠ [] ∧ ∀ x ∈ r, 0 ≤ x ∧ x < (n : Int)) → (∀ x ∈ f, 0 ≤ x ∧ x < (n : Int)) → Wf n R := by
 induction h with
 | done c => intro h _ _; exact h
 | begin_ h ih =>
  intro h1 _ h3
  refine ih h1 (fun r e => ?_) fun x hx => h3 x (List.mem_cons_of_mem _ hx)
  cases e
  exact ⟨by simp, fun y hy => by rw [List.mem_singleton.mp hy]; exact h3 _ List.mem_cons_self⟩
 | close g h ih =>
  intro h1 h2 h3
  refine ih (fun ring hm => ?_) (fun r e => nomatch e) h3
  rcases List.mem_append.mp hm with hm | hm
  ·exact h1 ring hm
  ·rw [List.mem_singleton.mp hm]; exact h2 _ rfl
 | more m g h ih =>
  intro h1 h2 h3
  refine ih h1 (fun r e => ?_) fun x hx => h3 x (List.mem_filter.mp hx).1
  cases e
  refine ⟨by simp, fun y hy => ?_⟩
  rcases List.mem_append.mp hy with hy | hy
  ·exact (h2 _ rfl).2 y hy
  ·rw [List.mem_singleton.mp hy]; exact h3 _ m
inductive Canon (nx : Nat → Nat) : List Nat → List (List Nat) → Prop
 | nil : Canon nx [] []
 | cons {x : Nat} {l o : List Nat} {rs : List (List Nat)} (hr : Ring nx (x :: o)) (hn : (x :: o).Nodup) (hs : ∀ y ∈ x :: o, y ∈ x :: l) (h : Canon nx ((x :: l).filter fun y => decide (¬ y ∈ x :: o)) rs) : Canon nx (x :: l) ((x :: o) :: rs)
theorem canon_of {nx : Nat → Nat} : ∀ (c : Nat) (l : List Nat), l.length ≤ c → l.Nodup → (∀ x ∈ l, nx x ∈ l) → (∀ x ∈ l, ∀ y ∈ l, nx x = nx y → x = y) →
  ∃ rings : List (List Nat), rings.flatten.Perm l ∧ (∀ ring ∈ rings, Ring nx ring) ∧ Canon nx l rings := by
 intro c
 induction c with
 | zero =>
  intro l hc _ _ _
  have : l = [] := List.length_eq_zero_iff.mp (by omega)
  subst this
  exact ⟨[], List.Perm.refl _, fun _ h => (nomatch h), .nil⟩
 | succ c ih =>
  intro l hc hn hx hi
  cases l with
  | nil => exact ⟨[], List.Perm.refl _, fun _ h => (nomatch h), .nil⟩
  | cons x0 l0 =>
   generalize hl : x0 :: l0 = l at *
   have hx0 : x0 ∈ l := by rw [← hl]; exact List.mem_cons_self
   obtain ⟨n, hlt⟩ : ∃ n, ∀ x ∈ l, x < n := by
    clear hl hn hx hi hc hx0 ih
    induction l with
    | nil => exact ⟨0, fun _ h => nomatch h⟩
    | cons y l ih =>
     obtain ⟨n, h⟩ := ih
     refine ⟨max n (y + 1), fun z hz => ?_⟩
     rcases List.mem_cons.mp hz with rfl | hz
     ·omega
     ·have := h z hz; omega
   have inS : ∀ k, iter nx k x0 ∈ l := iter_in (S := fun x => x ∈ l) (fun x h => hx x h) hx0
   obtain ⟨a, m, hm, hr⟩ := round (S := fun x => x ∈ l) (fun x h => hlt x h) (fun x h => hx x h) hx0
   have canc : ∀ a, iter nx (m + a) x0 = iter nx a x0 → iter nx m x0 = x0 := by
    intro a
    induction a with
    | zero => intro h; exact h
    | succ a iha =>
     intro h
     exact iha (hi _ (inS _) _ (inS _) (by show iter nx (m + a + 1) x0 = iter nx (a + 1) x0; exact h))
   have back : ∃ m, 0 < m ∧ iter nx m x0 = x0 := ⟨m, hm, canc a (by rw [iter_add]; exact hr)⟩
   clear canc hr hm a m
   obtain ⟨m, hm, hr, hmin⟩ := first_back back
   let o := (List.range m).map fun k => iter nx k x0
   have ol : o.length = m := by simp [o]
   have og : ∀ k, k < m → o.getD k 0 = iter nx k x0 := fun k hk => by simp [o, List.getD, hk]
   have oinj : ∀ i j, i < m → j < m → iter nx i x0 = iter nx j x0 → i = j := by
    have one : ∀ i j, i < j → j < m → iter nx i x0 ≠ iter nx j x0 := by
     intro i
     induction i with
     | zero => intro j h1 h2 e; exact hmin j h1 h2 e.symm
     | succ i ihi =>
      intro j h1 h2 e
      obtain ⟨j', rfl⟩ : ∃ j', j = j' + 1 := ⟨j - 1, by omega⟩
      exact ihi j' (by omega) (by omega) (hi _ (inS _) _ (inS _) e)
    intro i j h1 h2 e
    rcases Nat.lt_trichotomy i j with h | h | h
    ·exact absurd e (one i j h h2)
    ·exact h
    ·exact absurd e.symm (one j i h h1)
   have ond : o.Nodup := nodup_map List.nodup_range fun i hi' j hj' e => oinj i j (by simpa using hi') (by simpa using hj') e
   have osub : ∀ x ∈ o, x ∈ l := fun x hxo => by
    rw [List.mem_map] at hxo
    obtain ⟨k, _, rfl⟩ := hxo
    exact inS k
   have omem : ∀ k, iter nx k x0 ∈ o := by
    intro k
    induction k using Nat.strongRecOn with
    | ind k ihk =>
     by_cases h : k < m
     ·exact List.mem_map.mpr ⟨k, by simpa using h, rfl⟩
     ·have : iter nx k x0 = iter nx (k - m) x0 := by
       rw [show k = (k - m) + m by omega, iter_add, hr, show k - m + m - m = k - m by omega]
      rw [this]
      exact ihk _ (by omega)
   have oring : Ring nx o := by
    refine ⟨fun h => ?_, fun k hk => ?_⟩
    ·rw [h] at ol; simp at ol; omega
    ·rw [ol] at hk ⊢
     rw [og k hk]
     by_cases e : k + 1 = m
     ·rw [if_pos e, og 0 hm]
      show iter nx (k + 1) x0 = x0
      rw [e]; exact hr
     ·rw [if_neg e, og (k + 1) (by omega)]
      rfl
   have ohd : ∃ o', o = x0 :: o' := by
    obtain ⟨m', rfl⟩ : ∃ m', m = m' + 1 := ⟨m - 1, by omega⟩
    refine ⟨(List.range m').map fun k => iter nx (k + 1) x0, ?_⟩
    show (List.range (m' + 1)).map _ = _
    rw [List.range_succ_eq_map, List.map_cons, List.map_map]
    rfl
   let l' := l.filter fun x => decide (¬ x ∈ o)
   have l'm : ∀ x, x ∈ l' ↔ x ∈ l ∧ ¬ x ∈ o := fun x => by
    show x ∈ l.filter _ ↔ _
    rw [List.mem_filter]
    simp
   have pp : (o ++ l').Perm l := perm_part hn ond osub
   have hlen := pp.length_eq
   rw [List.length_append, ol] at hlen
   obtain ⟨rings, hp, hrings, hcan⟩ := ih l' (by omega) (hn.sublist List.filter_sublist) (fun x h => by
     obtain ⟨h1, h2⟩ := (l'm x).mp h
     refine (l'm _).mpr ⟨hx x h1, fun h3 => h2 ?_⟩
     rw [List.mem_map] at h3
     obtain ⟨k, hk, e⟩ := h3
     have e : iter nx k x0 = nx x := e
     cases k with
     | zero =>
      have e1 : nx (iter nx (m - 1) x0) = nx x := by
       rw [← e]
       show iter nx (m - 1 + 1) x0 = x0
       rw [show m - 1 + 1 = m by omega]; exact hr
      rw [← hi _ (inS _) _ h1 e1]
      exact omem _
     | succ k =>
      rw [← hi (iter nx k x0) (inS k) x h1 e]
      exact omem _) fun x h1 y h2 => hi x ((l'm x).mp h1).1 y ((l'm y).mp h2).1
   obtain ⟨o', ho'⟩ := ohd
   refine ⟨o :: rings, ?_, fun ring h => ?_, ?_⟩
   ·rw [List.flatten_cons]
    exact (List.Perm.append_left o hp).trans pp
   ·rcases List.mem_cons.mp h with rfl | h
    ·exact oring
    ·exact hrings ring h
   ·have hcan : Canon nx (l.filter fun x => decide (¬ x ∈ o)) rings := hcan
    rw [← hl] at hcan osub ⊢
    rw [ho'] at oring ond osub hcan ⊢
    exact .cons oring ond osub hcan
theorem cast_filter (l o : List Nat) : cast (l.filter fun y => decide (¬ y ∈ o)) = (cast l).filter fun y => decide (¬ y ∈ cast o) := by
 unfold cast
 rw [List.filter_map]
 congr 1
 apply List.filter_congr
 intro x _
 show decide (¬ x ∈ o) = decide (¬ ((x : Nat) : Int) ∈ o.map _)
 rw [decide_eq_decide]
 rw [List.mem_map]
 constructor
 ·rintro h ⟨k, hk, e⟩; exact h (by rw [show x = k by omega]; exact hk)
 ·intro h hx; exact h ⟨x, hx, rfl⟩
theorem filter_step (l o : List Int) (x : Int) : (l.filter fun y => decide (¬ y ∈ o)).filter (fun y => decide (y ≠ x)) = l.filter fun y => decide (¬ y ∈ o ++ [x]) := by
 rw [List.filter_filter]
 apply List.filter_congr
 intro y _
 rw [Bool.eq_iff_iff, Bool.and_eq_true, decide_eq_true_iff, decide_eq_true_iff, decide_eq_true_iff]
 simp only [List.mem_append, List.mem_singleton]
 constructor
 ·rintro ⟨h1, h2⟩ (h | h)
  ·exact h2 h
  ·exact h1 h
 ·intro h; exact ⟨fun e => h (.inr e), fun e => h (.inl e)⟩
theorem ext_of {ls : Ls} {nx : Nat → Nat} (hw : ∀ x, x < ls.length → nx x ≠ x → would ls (x : Int) (nx x : Int) = true) {l : List Nat} {rings : List (List Nat)} (h : Canon nx l rings) :
  ∀ (c : Rs), l.Nodup → (∀ x ∈ l, x < ls.length) → (∀ ring ∈ rings, goodRing ls (cast ring) = true) → Ext ls c none (cast l) (c ++ rings.map cast) := by
 induction h with
 | nil => intro c _ _ _; rw [List.map_nil, List.append_nil]; exact .done c
 | @cons x l o rs hr hn hs h ih =>
  intro c nd hb hg
  have ihh := ih (c ++ [cast (x :: o)]) (nd.sublist List.filter_sublist) (fun y hy => hb y (List.mem_filter.mp hy).1) fun ring hm => hg ring (List.mem_cons_of_mem _ hm)
  have hb' : ∀ y ∈ x :: o, y < ls.length := fun y hy => hb y (hs y hy)
  rw [List.append_assoc, List.singleton_append, ← List.map_cons] at ihh
  generalize hR : c ++ ((x :: o) :: rs).map cast = R at ihh
  rw [List.map_cons] at hR
  have hR' : c ++ cast (x :: o) :: rs.map cast = R := hR
  have nx1 : ¬ x ∈ l := (List.nodup_cons.mp nd).1
  have go : ∀ k, k ≤ o.length → Ext ls c (some (cast ((x :: o).take (o.length - k + 1)))) ((cast l).filter fun y => decide (¬ y ∈ cast ((x :: o).take (o.length - k + 1)))) R := by
   intro k
   induction k with
   | zero =>
    intro _
    rw [Nat.sub_zero, show (x :: o).take (o.length + 1) = x :: o from by rw [← List.length_cons (a := x), List.take_length]]
    refine .close (hg _ List.mem_cons_self) ?_
    rw [← cast_filter]
    have e : (x :: l).filter (fun y => decide (¬ y ∈ x :: o)) = l.filter fun y => decide (¬ y ∈ x :: o) := by
     rw [List.filter_cons, if_neg (by simp)]
    rw [e] at ihh
    exact ihh
   | succ k ihk =>
    intro hk
    have hj : o.length - (k + 1) + 1 < (x :: o).length := by rw [List.length_cons]; omega
    have ihk' := ihk (by omega)
    have et : (x :: o).take (o.length - k + 1) = (x :: o).take (o.length - (k + 1) + 1) ++ [(x :: o)[o.length - (k + 1) + 1]] := by
     rw [show o.length - k + 1 = (o.length - (k + 1) + 1) + 1 by omega, List.take_add_one, List.getElem?_eq_getElem hj]
     rfl
    have hprev : o.length - (k + 1) < (x :: o).length := by rw [List.length_cons]; omega
    have hring := hr.2 (o.length - (k + 1)) hprev
    rw [if_neg (by rw [List.length_cons]; omega)] at hring
    have g1 : (x :: o).getD (o.length - (k + 1)) 0 = (x :: o)[o.length - (k + 1)] := by simp [List.getD, List.getElem?_eq_getElem hprev]
    have g2 : (x :: o).getD (o.length - (k + 1) + 1) 0 = (x :: o)[o.length - (k + 1) + 1] := by simp only [List.getD, List.getElem?_eq_getElem hj, Option.getD_some]
    rw [g1, g2] at hring
    have hlast : (cast ((x :: o).take (o.length - (k + 1) + 1))).getLastD 0 = (((x :: o)[o.length - (k + 1)] : Nat) : Int) := by
     rw [List.take_add_one, List.getElem?_eq_getElem hprev]
     unfold cast
     rw [Option.toList_some, List.map_append, List.map_singleton, List.getLastD_concat]
    rw [et] at ihk'
    have ec : cast ((x :: o).take (o.length - (k + 1) + 1) ++ [(x :: o)[o.length - (k + 1) + 1]]) = cast ((x :: o).take (o.length - (k + 1) + 1)) ++ [(((x :: o)[o.length - (k + 1) + 1] : Nat) : Int)] := by
     unfold cast; rw [List.map_append]; rfl
    rw [ec, ← filter_step] at ihk'
    have hmem : (x :: o)[o.length - (k + 1) + 1] ∈ x :: o := List.getElem_mem hj
    have nin : ¬ (x :: o)[o.length - (k + 1) + 1] ∈ (x :: o).take (o.length - (k + 1) + 1) := fun hm => by
     obtain ⟨i, hi, e⟩ := List.mem_iff_getElem.mp hm
     rw [List.getElem_take] at e
     rw [List.length_take] at hi
     have := (List.getElem_inj hn).mp e
     omega
    refine .more (o := (((x :: o)[o.length - (k + 1) + 1] : Nat) : Int)) ?_ ?_ ihk'
    ·rw [List.mem_filter]
     refine ⟨?_, decide_eq_true fun hm => ?_⟩
     ·have hin : (x :: o)[o.length - (k + 1) + 1] ∈ l := by
       rcases List.mem_cons.mp (hs _ hmem) with e | e
       ·refine absurd ?_ nin
        rw [e]
        rw [List.take_succ_cons]
        exact List.mem_cons_self
       ·exact e
      exact cast_mem.mpr ⟨_, hin, rfl⟩
     ·obtain ⟨q, hq, e⟩ := cast_mem.mp hm
      exact nin (by rw [show (x :: o)[o.length - (k + 1) + 1] = q by omega]; exact hq)
    ·rw [hlast, ← hring]
     refine hw _ (hb' _ (List.getElem_mem hprev)) fun e => ?_
     rw [hring] at e
     have := (List.getElem_inj hn).mp e
     omega
  have g0 := go o.length (Nat.le_refl _)
  rw [Nat.sub_self, Nat.zero_add, List.take_succ_cons, List.take_zero] at g0
  have e0 : (cast l).filter (fun y => decide (¬ y ∈ cast [x])) = cast l := by
   rw [← cast_filter]
   congr 1
   rw [List.filter_eq_self]
   intro y hy
   exact decide_eq_true fun hm => nx1 (by rw [← List.mem_singleton.mp hm]; exact hy)
  rw [e0] at g0
  exact .begin_ g0
theorem cast_range (n : Nat) : cast (List.range n) = rng n := rfl
theorem ext_ex {ls : Ls} (hV : Valid ls) (hno : ¬ ∃ ps, Pairs ls ps ∧ breaking ls ps = []) : ∃ R, Ext ls [] none (rng ls.length) R ∧ tellB ls R = true := by
 obtain ⟨nx, la, st⟩ := exists_stable ls.length (cr ls) _ _ (camp_graph hV) (Nat.le_refl _)
 obtain ⟨rings, hp, hr, hcan⟩ := canon_of (nx := nx) ls.length (List.range ls.length) (by simp) List.nodup_range (fun x hx => by simpa using st.nlt x (by simpa using hx)) fun x hx y hy e => by
  have hx : x < ls.length := by simpa using hx
  have hy : y < ls.length := by simpa using hy
  rw [← st.ln x hx, ← st.ln y hy, e]
 have hb : ∀ ring ∈ rings, ∀ x ∈ ring, x < ls.length := fun ring h x hx => by
  have : x ∈ List.range ls.length := hp.mem_iff.mp (List.mem_flatten.mpr ⟨ring, h, hx⟩)
  simpa using this
 have hodd : ∃ ring ∈ rings, ring.length = 3 ∨ ring.length = 5 := by
  refine Classical.byContradiction fun hodd => hno ⟨_, pairs_of st hp hr fun ring h => ?_⟩
  have h1 : ring.length ≤ rings.flatten.length := (List.sublist_flatten_of_mem h).length_le
  have h2 := hp.length_eq
  rw [List.length_range] at h2
  have h3 := hV.le
  have h4 : ring.length ≠ 0 := fun z => (hr ring h).1 (List.length_eq_zero_iff.mp z)
  have h5 : ring.length ≠ 3 := fun z => hodd ⟨ring, h, .inl z⟩
  have h6 : ring.length ≠ 5 := fun z => hodd ⟨ring, h, .inr z⟩
  omega
 have hgood := good_of st hp hr hodd
 have hwf : ∀ R ∈ rings.map cast, R ≠ [] ∧ ∀ x ∈ R, 0 ≤ x ∧ x < (ls.length : Int) := fun R hR => by
  obtain ⟨ring, h, rfl⟩ := List.mem_map.mp hR
  refine ⟨fun z => (hr ring h).1 (by have := cast_len ring; rw [z] at this; exact List.length_eq_zero_iff.mp this.symm), fun x hx => ?_⟩
  obtain ⟨k, hk, rfl⟩ := cast_mem.mp hx
  have := hb ring h k hk
  omega
 rw [← tell_good hV hwf] at hgood
 have hall : ∀ R ∈ rings.map cast, goodRing ls R = true := by
  unfold tellB areGood at hgood
  rw [Bool.and_eq_true, Bool.and_eq_true, Bool.and_eq_true] at hgood
  exact List.all_eq_true.mp hgood.2.2.1
 refine ⟨rings.map cast, ?_, hgood⟩
 have := ext_of (fun x hx h => (cE_iff.mp (st.acc x hx h)).2.2) hcan [] List.nodup_range (fun x hx => by simpa using hx) fun ring h => hall _ (List.mem_map.mpr ⟨ring, h, rfl⟩)
 rw [List.nil_append, cast_range] at this
 exact this
theorem range_lt {ls : Ls} {x : Int} (h : x ∈ rng ls.length) : 0 ≤ x ∧ x < (ls.length : Int) := by
 unfold rng at h
 obtain ⟨k, hk, rfl⟩ := List.mem_map.mp h
 have := List.mem_range.mp hk
 omega
end TN
namespace TN
open TM
def ways (ls : Ls) : Nat → List Int → List Prs
 | _, [] => [[]]
 | 0, _ :: _ => []
 | n + 1, x :: others => ways ls n others ++ others.flatMap fun m => if would ls x m = true then (ways ls n (others.filter fun c => decide (c ≠ m))).map fun ps => (x, m) :: ps else []
theorem ways_room (ls : Ls) : ∀ (n m : Nat) (free : List Int), free.length ≤ n → free.length ≤ m → ways ls n free = ways ls m free
 | n, m, [], _, _ => by cases n <;> cases m <;> rfl
 | 0, _, _ :: _, h, _ => absurd h (by simp)
 | _ + 1, 0, _ :: _, _, h => absurd h (by simp)
 | n + 1, m + 1, x :: others, h1, h2 => by
  rw [List.length_cons] at h1 h2
  unfold ways
  rw [ways_room ls n m others (by omega) (by omega)]
  congr 1
  apply congrArg (List.flatMap · others)
  funext z
  have hl : (others.filter fun c => decide (c ≠ z)).length ≤ others.length := List.length_filter_le _ _
  rw [ways_room ls n m _ (by omega) (by omega)]
def wb : Nat → Nat
 | 0 => 1
 | 1 => 1
 | n + 2 => wb (n + 1) + (n + 1) * wb n
theorem wb_mono1 : ∀ n, wb n ≤ wb (n + 1)
 | 0 => Nat.le_refl _
 | n + 1 => by rw [wb]; omega
theorem wb_mono {n m : Nat} (h : n ≤ m) : wb n ≤ wb m := by
 induction h with
 | refl => exact Nat.le_refl _
 | step _ ih => exact Nat.le_trans ih (wb_mono1 _)
theorem flatMap_len {α β : Type} {f : α → List β} {b : Nat} : ∀ (l : List α), (∀ x ∈ l, (f x).length ≤ b) → (l.flatMap f).length ≤ l.length * b
 | [], _ => by simp
 | x :: l, h => by
  rw [List.flatMap_cons, List.length_append, List.length_cons, Nat.succ_mul]
  have h1 := h x List.mem_cons_self
  have h2 := flatMap_len l fun y hy => h y (List.mem_cons_of_mem _ hy)
  omega
theorem filter_lt {l : List Int} {m : Int} (h : m ∈ l) : (l.filter fun c => decide (c ≠ m)).length + 1 ≤ l.length := by
 induction l with
 | nil => cases h
 | cons x l ih =>
  rw [List.filter_cons]
  by_cases e : x = m
  ·subst e
   rw [if_neg (by simp)]
   have := List.length_filter_le (fun c => decide (c ≠ x)) l
   rw [List.length_cons]; omega
  ·rw [if_pos (decide_eq_true e), List.length_cons, List.length_cons]
   have := ih ((List.mem_cons.mp h).resolve_left fun z => e z.symm)
   omega
theorem ways_len (ls : Ls) : ∀ (n : Nat) (free : List Int), (ways ls n free).length ≤ wb free.length
 | n, [] => by cases n <;> exact Nat.le_refl _
 | 0, _ :: _ => Nat.zero_le _
 | n + 1, x :: others => by
  unfold ways
  rw [List.length_append, List.length_cons]
  have h1 := ways_len ls n others
  cases others with
  | nil => exact Nat.le_trans (by simpa using h1) (wb_mono1 0)
  | cons y o =>
   have h2 : ((y :: o).flatMap fun m => if would ls x m = true then (ways ls n ((y :: o).filter fun c => decide (c ≠ m))).map fun ps => (x, m) :: ps else []).length ≤ (y :: o).length * wb o.length := by
    refine flatMap_len _ fun m hm => ?_
    split
    ·rw [List.length_map]
     have h3 := ways_len ls n ((y :: o).filter fun c => decide (c ≠ m))
     have h4 := filter_lt hm
     rw [List.length_cons] at h4
     exact Nat.le_trans h3 (wb_mono (by omega))
    ·exact Nat.zero_le _
   rw [List.length_cons] at h1 h2 ⊢
   show _ ≤ wb (o.length + 2)
   rw [wb]
   omega
theorem wb6 {n : Nat} (h : n ≤ 6) : wb n ≤ 76 := Nat.le_trans (wb_mono h) (by decide)
theorem fold_mate (f : Int → Option Int) : ∀ (ps : Prs) (i : Int), ps.foldl step f i = (mate ps i).or (f i) := by
 intro ps
 refine snoc_ind (P := fun ps => ∀ i : Int, ps.foldl step f i = (mate ps i).or (f i)) ?_ ?_ ps
 ·intro i; rfl
 ·intro ps p ih i
  rw [mate_snoc, List.foldl_append, List.foldl_cons, List.foldl_nil]
  show (if i = p.2 then some p.1 else if i = p.1 then some p.2 else ps.foldl step f i) = _
  split
  ·rfl
  ·split
   ·rfl
   ·exact ih i
theorem mate_cons (p : Int × Int) (ps : Prs) (i : Int) : mate (p :: ps) i = (mate ps i).or (if i = p.2 then some p.1 else if i = p.1 then some p.2 else none) := fold_mate _ ps i
theorem who_cons (p : Int × Int) (ps : Prs) : who (p :: ps) = p.1 :: p.2 :: who ps := rfl
def Free (ls : Ls) (free : List Int) : Prop := free.Nodup ∧ ∀ x ∈ free, 0 ≤ x ∧ x < (ls.length : Int)
theorem ways_pairs {ls : Ls} (hV : Valid ls) : ∀ (n : Nat) (free : List Int), Free ls free → ∀ ps ∈ ways ls n free, Pairs ls ps ∧ ∀ x ∈ who ps, x ∈ free
 | n, [], _, ps, h => by
  have : ps = [] := by cases n <;> exact List.mem_singleton.mp h
  subst this
  exact ⟨Pairs.nil ls, fun x h => nomatch h⟩
 | 0, _ :: _, _, ps, h => nomatch h
 | n + 1, x :: others, hf, ps, h => by
  have hn := List.nodup_cons.mp hf.1
  unfold ways at h
  rcases List.mem_append.mp h with h | h
  ·obtain ⟨h1, h2⟩ := ways_pairs hV n others ⟨hn.2, fun y hy => hf.2 y (List.mem_cons_of_mem _ hy)⟩ ps h
   exact ⟨h1, fun y hy => List.mem_cons_of_mem _ (h2 y hy)⟩
  ·obtain ⟨m, hm, h⟩ := List.mem_flatMap.mp h
   split at h
   ·rename_i hw
    obtain ⟨qs, hq, rfl⟩ := List.mem_map.mp h
    obtain ⟨h1, h2⟩ := ways_pairs hV n (others.filter fun c => decide (c ≠ m)) ⟨hn.2.sublist List.filter_sublist, fun y hy => hf.2 y (List.mem_cons_of_mem _ (List.mem_filter.mp hy).1)⟩ qs hq
    have hx := hf.2 x List.mem_cons_self
    have hmr := hf.2 m (List.mem_cons_of_mem _ hm)
    have hxm : x ≠ m := fun e => hn.1 (by rw [e]; exact hm)
    have nx : ¬ x ∈ who qs := fun z => hn.1 (List.mem_filter.mp (h2 x z)).1
    have nm : ¬ m ∈ who qs := fun z => of_decide_eq_true (List.mem_filter.mp (h2 m z)).2 rfl
    refine ⟨Pairs.mk (fun p hp => ?_) ?_, fun y hy => ?_⟩
    ·rcases List.mem_cons.mp hp with rfl | hp
     ·exact ⟨hx.1, hx.2, hmr.1, hmr.2, hxm, hw⟩
     ·exact h1.each p hp
    ·show (x :: m :: who qs).Nodup
     rw [List.nodup_cons, List.nodup_cons]
     refine ⟨fun z => ?_, nm, h1.apart⟩
     rcases List.mem_cons.mp z with z | z
     ·exact hxm z
     ·exact nx z
    ·rw [who_cons] at hy
     rcases List.mem_cons.mp hy with rfl | hy
     ·exact List.mem_cons_self
     ·rcases List.mem_cons.mp hy with rfl | hy
      ·exact List.mem_cons_of_mem _ hm
      ·exact List.mem_cons_of_mem _ (List.mem_filter.mp (h2 y hy)).1
   ·exact nomatch h
structure Mt (ls : Ls) (f : Int → Option Int) (free : List Int) : Prop where
 symm : ∀ i j, i ∈ free → f i = some j → f j = some i
 mem : ∀ i j, i ∈ free → f i = some j → j ∈ free
 wd : ∀ i j, i ∈ free → f i = some j → would ls i j = true
 ne : ∀ i j, i ∈ free → f i = some j → i ≠ j
theorem mate_none_who {ps : Prs} {i : Int} (h : ¬ i ∈ who ps) : mate ps i = none := mate_none h
theorem ways_all {ls : Ls} (hV : Valid ls) {f : Int → Option Int} : ∀ (n : Nat) (free : List Int), free.length ≤ n → Free ls free → Mt ls f free → ∃ ps ∈ ways ls n free, ∀ i ∈ free, mate ps i = f i
 | n, [], _, _, _ => ⟨[], by cases n <;> exact List.mem_singleton.mpr rfl, fun i h => nomatch h⟩
 | 0, _ :: _, h, _, _ => absurd h (by simp)
 | n + 1, x :: others, hl, hf, M => by
  have hn := List.nodup_cons.mp hf.1
  rw [List.length_cons] at hl
  have fo : Free ls others := ⟨hn.2, fun y hy => hf.2 y (List.mem_cons_of_mem _ hy)⟩
  cases e : f x with
  | none =>
   obtain ⟨ps, hp, he⟩ := ways_all hV (f := f) n others (by omega) fo ⟨fun i j h => M.symm i j (List.mem_cons_of_mem _ h), fun i j h q => by
     have := M.mem i j (List.mem_cons_of_mem _ h) q
     rcases List.mem_cons.mp this with z | z
     ·have s := M.symm i j (List.mem_cons_of_mem _ h) q
      rw [z, e] at s; cases s
     ·exact z, fun i j h => M.wd i j (List.mem_cons_of_mem _ h), fun i j h => M.ne i j (List.mem_cons_of_mem _ h)⟩
   have hw := (ways_pairs hV n others fo ps hp).2
   refine ⟨ps, ?_, fun i hi => ?_⟩
   ·unfold ways; exact List.mem_append_left _ hp
   ·rcases List.mem_cons.mp hi with rfl | hi
    ·rw [e]; exact mate_none_who fun z => hn.1 (hw _ z)
    ·exact he i hi
  | some m =>
   have hm := M.mem x m List.mem_cons_self e
   have hxm := M.ne x m List.mem_cons_self e
   have hmo : m ∈ others := (List.mem_cons.mp hm).resolve_left fun z => hxm z.symm
   have sm := M.symm x m List.mem_cons_self e
   have fo' : Free ls (others.filter fun c => decide (c ≠ m)) := ⟨hn.2.sublist List.filter_sublist, fun y hy => fo.2 y (List.mem_filter.mp hy).1⟩
   have inn : ∀ {i}, i ∈ others.filter (fun c => decide (c ≠ m)) → i ∈ x :: others ∧ i ≠ m ∧ i ≠ x := fun {i} h => by
    obtain ⟨h1, h2⟩ := List.mem_filter.mp h
    exact ⟨List.mem_cons_of_mem _ h1, of_decide_eq_true h2, fun z => hn.1 (z ▸ h1)⟩
   obtain ⟨ps, hp, he⟩ := ways_all hV (f := f) n (others.filter fun c => decide (c ≠ m)) (by have := filter_lt hmo; omega) fo' ⟨fun i j h => M.symm i j (inn h).1, fun i j h q => by
     have s := M.symm i j (inn h).1 q
     have := M.mem i j (inn h).1 q
     have n1 : j ≠ x := fun z => by rw [z, e] at s; exact (inn h).2.1 (Option.some.inj s).symm
     have n2 : j ≠ m := fun z => by rw [z, sm] at s; exact (inn h).2.2 (Option.some.inj s).symm
     exact List.mem_filter.mpr ⟨(List.mem_cons.mp this).resolve_left n1, decide_eq_true n2⟩, fun i j h => M.wd i j (inn h).1, fun i j h => M.ne i j (inn h).1⟩
   have hw := (ways_pairs hV n _ fo' ps hp).2
   refine ⟨(x, m) :: ps, ?_, fun i hi => ?_⟩
   ·unfold ways
    refine List.mem_append_right _ (List.mem_flatMap.mpr ⟨m, hmo, ?_⟩)
    rw [if_pos (M.wd x m List.mem_cons_self e)]
    exact List.mem_map.mpr ⟨ps, hp, rfl⟩
   ·rw [mate_cons]
    by_cases i1 : i = x
    ·subst i1
     rw [mate_none_who (fun z => hn.1 (List.mem_filter.mp (hw _ z)).1)]
     show (if i = m then some i else if i = i then some m else none) = _
     rw [if_neg hxm, if_pos rfl, e]
    ·by_cases i2 : i = m
     ·subst i2
      rw [mate_none_who (fun z => (inn (hw _ z)).2.1 rfl)]
      show (if i = i then some x else _) = _
      rw [if_pos rfl, sm]
     ·have hio : i ∈ others.filter fun c => decide (c ≠ m) := List.mem_filter.mpr ⟨(List.mem_cons.mp hi).resolve_left i1, decide_eq_true i2⟩
      rw [he i hio]
      show (f i).or (if i = m then some x else if i = x then some m else none) = f i
      rw [if_neg i2, if_neg i1]
      cases f i <;> rfl
theorem breaking_congr {ls : Ls} {ps qs : Prs} (h : ∀ i ∈ rng ls.length, mate ps i = mate qs i) : breaking ls ps = breaking ls qs := by
 unfold breaking
 have mem : ∀ a : Int, 0 ≤ a → a < ls.length → a ∈ rng ls.length := fun a h0 h1 => by
  unfold rng
  exact List.mem_map.mpr ⟨a.toNat, List.mem_range.mpr (by omega), by omega⟩
 refine rows_congr (Nat.le_refl _) fun a b h0 h1 h2 => ?_
 unfold brk
 rw [h a (mem a h0 (by omega)), h b (mem b (by omega) h2)]
theorem free_rng (ls : Ls) : Free ls (rng ls.length) := ⟨rng_nodup _, fun x h => range_lt h⟩
theorem mem_rng {n : Nat} {a : Int} (h0 : 0 ≤ a) (h1 : a < n) : a ∈ rng n := by
 unfold rng
 exact List.mem_map.mpr ⟨a.toNat, List.mem_range.mpr (by omega), by omega⟩
theorem mt_of {ls : Ls} {ps : Prs} (P : Pairs ls ps) : Mt ls (mate ps) (rng ls.length) :=
 ⟨fun i j _ h => mate_symm P h, fun i j _ h => mem_rng (P.has h).2.2.1 (P.has h).2.2.2.1, fun i j _ h => (P.has h).2.2.2.2.2, fun i j _ h => (P.has h).2.2.2.2.1⟩
def steadyWays (ls : Ls) : List Prs := (ways ls 6 (rng ls.length)).filter fun ps => decide (breaking ls ps = [])
theorem steadyWays_none {ls : Ls} (hV : Valid ls) : steadyWays ls = [] ↔ ¬ ∃ ps, Pairs ls ps ∧ breaking ls ps = [] := by
 constructor
 ·rintro h ⟨ps, P, hb⟩
  obtain ⟨qs, hq, he⟩ := ways_all hV 6 (rng ls.length) (by rw [rng_length]; exact hV.le) (free_rng ls) (mt_of P)
  have : qs ∈ steadyWays ls := List.mem_filter.mpr ⟨hq, decide_eq_true ((breaking_congr he).trans hb)⟩
  rw [h] at this
  cases this
 ·intro h
  cases e : steadyWays ls with
  | nil => rfl
  | cons qs r =>
   have : qs ∈ steadyWays ls := by rw [e]; exact List.mem_cons_self
   obtain ⟨h1, h2⟩ := List.mem_filter.mp this
   exact absurd ⟨qs, (ways_pairs hV 6 _ (free_rng ls) qs h1).1, of_decide_eq_true h2⟩ h
end TN
namespace TN
open TM
theorem nodup_flat {α β : Type} {f : α → List β} : ∀ {l : List α}, l.Nodup → (∀ x ∈ l, (f x).Nodup) → (∀ x ∈ l, ∀ y ∈ l, ∀ b, b ∈ f x → b ∈ f y → x = y) → (l.flatMap f).Nodup
 | [], _, _, _ => List.nodup_nil
 | x :: l, hn, h1, h2 => by
  have hn' := List.nodup_cons.mp hn
  rw [List.flatMap_cons, List.nodup_append]
  refine ⟨h1 x List.mem_cons_self, nodup_flat hn'.2 (fun y hy => h1 y (List.mem_cons_of_mem _ hy)) (fun y hy z hz => h2 y (List.mem_cons_of_mem _ hy) z (List.mem_cons_of_mem _ hz)), fun a ha b hb e => ?_⟩
  obtain ⟨y, hy, hb⟩ := List.mem_flatMap.mp hb
  subst e
  have := h2 x List.mem_cons_self y (List.mem_cons_of_mem _ hy) a ha hb
  exact hn'.1 (this ▸ hy)
theorem nodup_mapI {α β : Type} {f : α → β} (hf : ∀ a b, f a = f b → a = b) : ∀ {l : List α}, l.Nodup → (l.map f).Nodup
 | [], _ => List.nodup_nil
 | x :: l, h => by
  have h := List.nodup_cons.mp h
  rw [List.map_cons, List.nodup_cons]
  refine ⟨fun hm => ?_, nodup_mapI hf h.2⟩
  obtain ⟨y, hy, e⟩ := List.mem_map.mp hm
  exact h.1 (hf _ _ e ▸ hy)
theorem ways_nodup {ls : Ls} (hV : Valid ls) : ∀ (n : Nat) (free : List Int), Free ls free → (ways ls n free).Nodup
 | n, [], _ => by cases n <;> exact List.nodup_cons.mpr ⟨fun h => (nomatch h), List.nodup_nil⟩
 | 0, _ :: _, _ => List.nodup_nil
 | n + 1, x :: others, hf => by
  have hn := List.nodup_cons.mp hf.1
  have fo : Free ls others := ⟨hn.2, fun y hy => hf.2 y (List.mem_cons_of_mem _ hy)⟩
  have fl : ∀ m, Free ls (others.filter fun c => decide (c ≠ m)) := fun m => ⟨hn.2.sublist List.filter_sublist, fun y hy => fo.2 y (List.mem_filter.mp hy).1⟩
  unfold ways
  rw [List.nodup_append]
  refine ⟨ways_nodup hV n others fo, nodup_flat hn.2 (fun m _ => ?_) (fun m _ m' _ b hb hb' => ?_), fun a ha b hb e => ?_⟩
  ·split
   ·exact nodup_mapI (fun a b e => by injection e) (ways_nodup hV n _ (fl m))
   ·exact List.nodup_nil
  ·split at hb
   ·split at hb'
    ·obtain ⟨p, _, e⟩ := List.mem_map.mp hb
     obtain ⟨p', _, e'⟩ := List.mem_map.mp hb'
     rw [← e] at e'
     injection e' with e1 _
     injection e1 with _ e1
     exact e1.symm
    ·cases hb'
   ·cases hb
  ·subst e
   obtain ⟨m, hm, hb⟩ := List.mem_flatMap.mp hb
   split at hb
   ·obtain ⟨p, _, e⟩ := List.mem_map.mp hb
    have hw := (ways_pairs hV n others fo a ha).2 x (by rw [← e, who_cons]; exact List.mem_cons_self)
    exact hn.1 hw
   ·cases hb
def pb : Nat → Nat
 | 0 => 1
 | 1 => 1
 | n + 2 => max (pb (n + 1)) ((n + 1) * pb n)
theorem pb_mono1 : ∀ n, pb n ≤ pb (n + 1)
 | 0 => Nat.le_refl _
 | n + 1 => by rw [pb]; exact Nat.le_max_left _ _
theorem pb_mono {n m : Nat} (h : n ≤ m) : pb n ≤ pb m := by
 induction h with
 | refl => exact Nat.le_refl _
 | step _ ih => exact Nat.le_trans ih (pb_mono1 _)
open Classical in
theorem alone_len {ls : Ls} (hV : Valid ls) (A : Int → Prop) : ∀ (n : Nat) (free : List Int), Free ls free → ((ways ls n free).filter fun ps => decide (∀ x ∈ free, mate ps x = none ↔ A x)).length ≤ pb free.length
 | n, [], _ => by
  have : ((ways ls n []).filter fun ps => decide (∀ x ∈ ([] : List Int), mate ps x = none ↔ A x)).length ≤ (ways ls n []).length := List.length_filter_le _ _
  refine Nat.le_trans this ?_
  cases n <;> exact Nat.le_refl _
 | 0, _ :: _, _ => Nat.zero_le _
 | n + 1, x :: others, hf => by
  have hn := List.nodup_cons.mp hf.1
  have fo : Free ls others := ⟨hn.2, fun y hy => hf.2 y (List.mem_cons_of_mem _ hy)⟩
  have fl : ∀ m, Free ls (others.filter fun c => decide (c ≠ m)) := fun m => ⟨hn.2.sublist List.filter_sublist, fun y hy => fo.2 y (List.mem_filter.mp hy).1⟩
  have le : ∀ {α : Type} (l : List α) (p q : α → Bool), (∀ a ∈ l, p a = true → q a = true) → (l.filter p).length ≤ (l.filter q).length := fun l p q h => by
   rw [← List.countP_eq_length_filter, ← List.countP_eq_length_filter]
   exact List.countP_mono_left h
  have zero : ∀ {α : Type} (l : List α) (p : α → Bool), (∀ a ∈ l, p a = false) → (l.filter p).length = 0 := fun l p h => by
   rw [List.length_eq_zero_iff, List.filter_eq_nil_iff]
   intro a ha; rw [h a ha]; decide
  unfold ways
  rw [List.filter_append, List.length_append, List.length_cons]
  by_cases hA : A x
  ·have h2 : ((others.flatMap fun m => if would ls x m = true then (ways ls n (others.filter fun c => decide (c ≠ m))).map fun ps => (x, m) :: ps else []).filter fun ps => decide (∀ y ∈ x :: others, mate ps y = none ↔ A y)).length = 0 := by
    refine zero _ _ fun a ha => decide_eq_false fun hq => ?_
    obtain ⟨m, hm, ha⟩ := List.mem_flatMap.mp ha
    split at ha
    ·obtain ⟨p, _, rfl⟩ := List.mem_map.mp ha
     have := (hq x List.mem_cons_self).mpr hA
     rw [mate_cons] at this
     have hxm : x ≠ m := fun e => hn.1 (e ▸ hm)
     cases e : mate p x with
     | none => rw [e] at this; simp [hxm] at this
     | some j => rw [e] at this; cases this
    ·cases ha
   have h1 : ((ways ls n others).filter fun ps => decide (∀ y ∈ x :: others, mate ps y = none ↔ A y)).length ≤ pb others.length := by
    refine Nat.le_trans (le _ _ (fun ps => decide (∀ y ∈ others, mate ps y = none ↔ A y)) fun a _ h => ?_) (alone_len hV A n others fo)
    exact decide_eq_true fun y hy => of_decide_eq_true h y (List.mem_cons_of_mem _ hy)
   have := pb_mono1 others.length
   omega
  ·have h1 : ((ways ls n others).filter fun ps => decide (∀ y ∈ x :: others, mate ps y = none ↔ A y)).length = 0 := by
    refine zero _ _ fun a ha => decide_eq_false fun hq => ?_
    have hw := (ways_pairs hV n others fo a ha).2
    exact hA ((hq x List.mem_cons_self).mp (mate_none_who fun z => hn.1 (hw _ z)))
   have h2 : ((others.flatMap fun m => if would ls x m = true then (ways ls n (others.filter fun c => decide (c ≠ m))).map fun ps => (x, m) :: ps else []).filter fun ps => decide (∀ y ∈ x :: others, mate ps y = none ↔ A y)).length ≤ others.length * pb (others.length - 1) := by
    rw [List.filter_flatMap]
    refine flatMap_len _ fun m hm => ?_
    split
    ·rw [List.filter_map, List.length_map]
     have hlt := filter_lt hm
     refine Nat.le_trans (le _ _ (fun ps => decide (∀ y ∈ others.filter (fun c => decide (c ≠ m)), mate ps y = none ↔ A y)) fun a _ h => ?_) (Nat.le_trans (alone_len hV A n _ (fl m)) (pb_mono (by omega)))
     refine decide_eq_true fun y hy => ?_
     have hy' := List.mem_filter.mp hy
     have nm : y ≠ m := of_decide_eq_true hy'.2
     have nx : y ≠ x := fun e => hn.1 (e ▸ hy'.1)
     have := of_decide_eq_true h y (List.mem_cons_of_mem _ hy'.1)
     rw [mate_cons] at this
     rw [show (if y = (x, m).2 then some (x, m).1 else if y = (x, m).1 then some (x, m).2 else none) = none by simp [nm, nx], Option.or_none] at this
     exact this
    ·exact Nat.zero_le _
   cases others with
   | nil =>
    rw [h1, Nat.zero_add]
    refine Nat.le_trans h2 ?_
    rw [List.length_nil, Nat.zero_mul]
    exact Nat.zero_le _
   | cons y o =>
    rw [List.length_cons, Nat.add_sub_cancel] at h2
    rw [List.length_cons]
    have : pb (o.length + 2) = max (pb (o.length + 1)) ((o.length + 1) * pb o.length) := by rw [pb]
    show _ ≤ pb (o.length + 2)
    rw [this]
    omega
theorem pb6 {n : Nat} (h : n ≤ 6) : pb n ≤ 15 := Nat.le_trans (pb_mono h) (by decide)
theorem steady_pairs {ls : Ls} (hV : Valid ls) {ps : Prs} (h : ps ∈ steadyWays ls) : Pairs ls ps ∧ breaking ls ps = [] := by
 obtain ⟨h1, h2⟩ := List.mem_filter.mp h
 exact ⟨(ways_pairs hV 6 _ (free_rng ls) ps h1).1, of_decide_eq_true h2⟩
theorem steady_nodup {ls : Ls} (hV : Valid ls) : (steadyWays ls).Nodup := (ways_nodup hV 6 _ (free_rng ls)).sublist List.filter_sublist
open Classical in
theorem steady_few {ls : Ls} (hV : Valid ls) : (steadyWays ls).length ≤ 15 := by
 cases hq : steadyWays ls with
 | nil => exact Nat.zero_le _
 | cons p0 r =>
  have h0 : p0 ∈ steadyWays ls := by rw [hq]; exact List.mem_cons_self
  obtain ⟨P0, b0⟩ := steady_pairs hV h0
  have h1 := alone_len hV (fun x => mate p0 x = none) 6 (rng ls.length) (free_rng ls)
  rw [rng_length] at h1
  refine Nat.le_trans ?_ (Nat.le_trans h1 (pb6 hV.le))
  rw [← hq]
  unfold steadyWays
  rw [← List.countP_eq_length_filter, ← List.countP_eq_length_filter]
  refine List.countP_mono_left fun a ha hb => ?_
  simp only [decide_eq_true_eq]
  intro x hx
  have ha' : a ∈ steadyWays ls := List.mem_filter.mpr ⟨ha, hb⟩
  obtain ⟨Pa, ba⟩ := steady_pairs hV ha'
  obtain ⟨x0, x1⟩ := range_lt hx
  have e : ((x.toNat : Nat) : Int) = x := by omega
  constructor
  ·intro h; have := same_alone hV Pa P0 ba b0 (i := x.toNat) (by omega) (by rw [e]; exact h); rwa [e] at this
  ·intro h; have := same_alone hV P0 Pa b0 ba (i := x.toNat) (by omega) (by rw [e]; exact h); rwa [e] at this
end TN
namespace TX
open PySem PySem.Spec PyProof.Rows L2
theorem lex_irr : ∀ l : List Int, HT.lexLt l l = false
 | [] => rfl
 | x :: l => by rw [HT.lexLt_cons, if_pos rfl, lex_irr l]
theorem lex_trans : ∀ {a b c : List Int}, HT.lexLt a b = true → HT.lexLt b c = true → HT.lexLt a c = true
 | [], [], _, h, _ => by rw [HT.lexLt_nil_nil] at h; cases h
 | [], _ :: _, [], _, h => by rw [HT.lexLt_cons_nil] at h; cases h
 | [], _ :: _, _ :: _, _, _ => rfl
 | _ :: _, [], _, h, _ => by rw [HT.lexLt_cons_nil] at h; cases h
 | _ :: _, _ :: _, [], _, h => by rw [HT.lexLt_cons_nil] at h; cases h
 | x :: a, y :: b, z :: c, h1, h2 => by
  rw [HT.lexLt_cons] at h1 h2 ⊢
  by_cases e1 : x = y
  ·subst e1
   rw [if_pos rfl] at h1
   by_cases e2 : x = z
   ·subst e2
    rw [if_pos rfl] at h2 ⊢
    exact lex_trans h1 h2
   ·rw [if_neg e2] at h2 ⊢; exact h2
  ·rw [if_neg e1] at h1
   have h1 := of_decide_eq_true h1
   by_cases e2 : y = z
   ·subst e2
    rw [if_neg e1]; exact decide_eq_true h1
   ·rw [if_neg e2] at h2
    have h2 := of_decide_eq_true h2
    rw [if_neg (by omega)]
    exact decide_eq_true (by omega)
theorem lex_total : ∀ {a b : List Int}, HT.lexLt a b = false → HT.lexLt b a = false → a = b
 | [], [], _, _ => rfl
 | [], _ :: _, h, _ => by rw [HT.lexLt_nil_cons] at h; cases h
 | _ :: _, [], _, h => by rw [HT.lexLt_nil_cons] at h; cases h
 | x :: a, y :: b, h1, h2 => by
  rw [HT.lexLt_cons] at h1 h2
  by_cases e : x = y
  ·subst e
   rw [if_pos rfl] at h1 h2
   rw [lex_total h1 h2]
  ·rw [if_neg e] at h1
   rw [if_neg (fun z => e z.symm)] at h2
   have h1 := of_decide_eq_false h1
   have h2 := of_decide_eq_false h2
   omega
def flatP (ps : List (Int × Int)) : List Int := ps.flatMap fun p => [p.1, p.2]
theorem flatP_inj : ∀ {a b : List (Int × Int)}, flatP a = flatP b → a = b
 | [], [], _ => rfl
 | [], q :: b, h => by cases h
 | p :: a, [], h => by cases h
 | p :: a, q :: b, h => by
  have h : p.1 :: p.2 :: flatP a = q.1 :: q.2 :: flatP b := h
  injection h with h1 h
  injection h with h2 h
  rw [flatP_inj h, Prod.ext h1 h2]
theorem pLt_flat : ∀ a b : List (Int × Int), pLt a b = HT.lexLt (flatP a) (flatP b)
 | [], [] => rfl
 | [], _ :: _ => rfl
 | _ :: _, [] => rfl
 | p :: a, q :: b => by
  show (if p = q then pLt a b else HT.lexLt [p.1, p.2] [q.1, q.2]) = HT.lexLt (p.1 :: p.2 :: flatP a) (q.1 :: q.2 :: flatP b)
  rw [HT.lexLt_cons, HT.lexLt_cons, HT.lexLt_cons, HT.lexLt_cons, HT.lexLt_nil_nil]
  by_cases e1 : p.1 = q.1
  ·rw [if_pos e1, if_pos e1]
   by_cases e2 : p.2 = q.2
   ·rw [if_pos (Prod.ext e1 e2), if_pos e2, pLt_flat a b]
   ·rw [if_neg (fun z => e2 (by rw [z])), if_neg e2, if_neg e2]
  ·rw [if_neg (fun z => e1 (by rw [z])), if_neg e1, if_neg e1]
theorem pLt_irr (a : List (Int × Int)) : pLt a a = false := by rw [pLt_flat]; exact lex_irr _
theorem pLt_trans {a b c : List (Int × Int)} (h1 : pLt a b = true) (h2 : pLt b c = true) : pLt a c = true := by
 rw [pLt_flat] at *; exact lex_trans h1 h2
theorem pLt_total {a b : List (Int × Int)} (h1 : pLt a b = false) (h2 : pLt b a = false) : a = b := by
 rw [pLt_flat] at *; exact flatP_inj (lex_total h1 h2)
def rank (l : List (List (Int × Int))) (i : Nat) : Int := ((l.countP fun q => pLt q (l.getD i []) : Nat) : Int)
theorem rank_lt {l : List (List (Int × Int))} {i j : Nat} (hi : i < l.length) (hj : j < l.length) : (pLt (l.getD i []) (l.getD j []) = true ↔ rank l i < rank l j) := by
 have up : ∀ {i j : Nat}, i < l.length → pLt (l.getD i []) (l.getD j []) = true → rank l i < rank l j := fun {i j} hi h => by
  unfold rank
  have hm : l.getD i [] ∈ l := by simp [List.getD, hi]
  have := TN.countP_lt (p := fun q => pLt q (l.getD j [])) (q := fun q => pLt q (l.getD i [])) (l := l) (fun x _ hx => pLt_trans hx h) ⟨_, hm, h, pLt_irr _⟩
  omega
 constructor
 ·exact up hi
 ·intro h
  cases e : pLt (l.getD i []) (l.getD j []) with
  | true => rfl
  | false =>
   cases e2 : pLt (l.getD j []) (l.getD i []) with
   | true => have := up hj e2; omega
   | false =>
    have := pLt_total e e2
    unfold rank at h
    rw [this] at h
    omega
theorem rank_inj {l : List (List (Int × Int))} (hn : l.Nodup) {i j : Nat} (hi : i < l.length) (hj : j < l.length) (h : rank l i = rank l j) : i = j := by
 have e1 : pLt (l.getD i []) (l.getD j []) = false := by
  cases e : pLt (l.getD i []) (l.getD j []) with
  | false => rfl
  | true => have := (rank_lt hi hj).mp e; omega
 have e2 : pLt (l.getD j []) (l.getD i []) = false := by
  cases e : pLt (l.getD j []) (l.getD i []) with
  | false => rfl
  | true => have := (rank_lt hj hi).mp e; omega
 have e := pLt_total e1 e2
 simp only [List.getD, List.getElem?_eq_getElem hi, List.getElem?_eq_getElem hj, Option.getD_some] at e
 exact (List.getElem_inj hn).mp e
theorem ltFrom_pLt {e lt : Nat → Bool} : ∀ (a b : List (Int × Int)) (n m i : Nat), (∀ j, j < a.length → j < b.length → e (i + j) = decide (a.getD j (0, 0) = b.getD j (0, 0)) ∧ lt (i + j) = HT.lexLt [(a.getD j (0, 0)).1, (a.getD j (0, 0)).2] [(b.getD j (0, 0)).1, (b.getD j (0, 0)).2]) →
  (n : Int) - m = (a.length : Int) - b.length → ltFrom e lt n m (min a.length b.length) i = pLt a b
 | [], [], n, m, i, _, h => by
  show decide (n < m) = false
  simp at h; exact decide_eq_false (by omega)
 | [], q :: b, n, m, i, _, h => by
  rw [List.length_nil, Nat.zero_min]
  show decide (n < m) = true
  simp at h; exact decide_eq_true (by omega)
 | p :: a, [], n, m, i, _, h => by
  rw [List.length_nil, Nat.min_zero]
  show decide (n < m) = false
  simp at h; exact decide_eq_false (by omega)
 | p :: a, q :: b, n, m, i, hj, h => by
  rw [List.length_cons, List.length_cons, Nat.succ_min_succ]
  have h0 := hj 0 (by simp) (by simp)
  rw [Nat.add_zero] at h0
  show (if e i = true then ltFrom e lt n m (min a.length b.length) (i + 1) else lt i) = if p = q then pLt a b else HT.lexLt [p.1, p.2] [q.1, q.2]
  rw [h0.1, h0.2]
  by_cases z : p = q
  ·rw [if_pos (by simpa using z), if_pos z]
   refine ltFrom_pLt a b n m (i + 1) (fun j h1 h2 => ?_) (by simp at h; omega)
   have := hj (j + 1) (by simpa using h1) (by simpa using h2)
   rw [show i + 1 + j = i + (j + 1) by omega]
   simpa using this
  ·rw [if_neg (by simpa using z), if_neg z]
   rfl
end TX
namespace TX
open PySem PySem.Spec PyProof.Rows L2
section
variable {prog : Program} {w : World} {A : Around} {E : Value → Shared → Prop} {s : Shared}
theorem sorted_one {l : Addr} {v : Value} {Q : Value → Shared → Prop} (hl : s.heap.IsList l [v].toArray) (fin : Q (.ref (s.heap.objs.size + 1)) { s with heap := sortedAll s.heap [v] #[v] }) :
  wpAny (model prog w) A (call (.builtin "sorted") [.ref l]) Q E s := by
 refine Calls.call_function_entry kind_sorted plain_sorted entry_sorted (args_sorted1 _) ?_
 unfold Builtin.«sorted»
 refine wpAny_bind (m := checkCount "sorted" 1 1 _) (wpAny_pure (wpAny_bind (collect_list hl (wpAny_bind (wpAny_newList ?_ (by show 1 ≤ _; decide))) (by show 1 ≤ _; decide))))
 generalize hB : (s.heap.push (seqObj "list" #[] 0)).update s.heap.objs.size (Obj.mapSeq (· ++ [v].toArray)) = B
 have zB : B.objs.size = s.heap.objs.size + 1 := by rw [← hB, Heap.size_update, size_push']
 have at1 : (B.push (seqObj "list" [v].toArray 0)).get? (s.heap.objs.size + 1) = some (seqObj "list" [v].toArray 0) := by rw [← zB]; exact Heap.get?_push_size _ rfl
 show wpAny _ _ _ _ _ { s with heap := B.push (seqObj "list" [v].toArray 0) }
 rw [zB]
 refine wpAny_bind (wpAny_holding (wpAny_call_entry slot_list_sort ⟨_, at1, rfl⟩ entry_list_sort ?_ (args_list_sort _)))
 have lt1 : s.heap.objs.size + 1 < (B.push (seqObj "list" [v].toArray 0)).objs.size := Heap.lt_size at1
 rw [list_sort_plain]
 refine wpAny_bind (listItems_at at1 rfl (wpAny_bind (listUpdate_at at1 rfl ?_ (by show 1 ≤ _; decide) (Nat.zero_le _))))
 obtain ⟨e1, at2⟩ : ∃ e1, ((B.push (seqObj "list" [v].toArray 0)).update (s.heap.objs.size + 1) (Obj.mapSeq fun _ => (#[] : Array Value))).get? (s.heap.objs.size + 1) = some (seqObj "list" #[] e1) := ⟨_, get?_update_seq at1 fun _ => #[]⟩
 refine wpAny_bind (seqEpoch_at at2 rfl (wpAny_bind (wpAny_newTuple (wpAny_bind (wpAny_newList (wpAny_holding ?_) (Nat.zero_le _))) (by show 1 ≤ _; decide))))
 generalize hC : (B.push (seqObj "list" [v].toArray 0)).update (s.heap.objs.size + 1) (Obj.mapSeq fun _ => (#[] : Array Value)) = C at at2
 have zC : C.objs.size = (B.push (seqObj "list" [v].toArray 0)).objs.size := by rw [← hC, Heap.size_update]
 have at3 : ((C.push (seqObj "tuple" [v].toArray 0)).push (seqObj "list" #[] 0)).get? (s.heap.objs.size + 1) = some (seqObj "list" #[] e1) := Heap.get?_push_of_some _ (Heap.get?_push_of_some _ at2)
 show wpAny (model prog w) _ _ _ _ { s with heap := (C.push (seqObj "tuple" [v].toArray 0)).push (seqObj "list" #[] 0) }
 dsimp only
 have two : [v].toArray.size < 2 := by show 1 < 2; omega
 rw [if_pos two, if_pos two]
 refine wpAny_bind (wpAny_pure ?_)
 rw [StateT.run_pure]
 refine wpAny_bind (wpAny_pure ?_)
 dsimp only
 have one : ((arrOf (SortSt.mk' general' ([v].toArray.zip [v].toArray) #[] 7 none)).map fun x => x.2) = #[v] := by
  show ([v].toArray.zip [v].toArray).map _ = #[v]
  simp
 refine wpAny_bind (seqEpoch_at at3 rfl (wpAny_bind (listUpdate_at at3 rfl ?_ (Nat.zero_le _) (by rw [one]; show 1 ≤ _; decide))))
 simp only [bne_self_eq_false, Bool.false_eq_true, if_false]
 refine wpAny_pure ⟨_, rfl, wpAny_pure ⟨_, rfl, ?_⟩⟩
 rw [one, ← hC, ← hB]
 exact fin
end
theorem ns_inj {h : Heap} {a : Addr} {m m' : Str → Option Value} (x : h.Ns a m) (y : h.Ns a m') : m = m' := by
 obtain ⟨o, es, ep, ho, hd, _, hf⟩ := x
 obtain ⟨o', es', ep', ho', hd', _, hf'⟩ := y
 rw [ho] at ho'; cases ho'
 rw [hd] at hd'; cases hd'
 funext z
 rw [← hf, ← hf']
section
variable {X : Cx} {pins : List (Addr × Obj)} {σ : L2.St} {H : Hp} {s : Shared} {h' : Heap}
theorem keptL {t' : Nat} (I : Inv X pins σ H s) (k : ∀ b u, b ≠ X.env.locals → s.heap.get? b = some u → h'.get? b = some u) (ns : ∀ m, s.heap.Ns X.env.locals m → h'.Ns X.env.locals m) : Inv X pins σ H { s with heap := h', toks := t' } := by
 refine I.step (g' := s.gens) (d' := s.drawn) (ch := []) (fun _ z => nomatch z) (fun b o n _ _ e _ => k b o n e) (fun b o n _ _ e _ => ⟨o.slots, k b o n e⟩) (fun _ _ _ _ n => n) (fun b o _ e => ?_) (fun _ _ e => e) (fun _ _ _ e => e) (fun b ps e => ⟨#[], by rw [e]; simp⟩) ns (fun b u e => ?_) I.bare
 ·by_cases hb : b = X.env.locals
  ·obtain ⟨m, hn, _⟩ := I.loc
   obtain ⟨o', _, _, ho', _⟩ := ns m hn
   exact ⟨o', by rw [hb]; exact ho'⟩
  ·exact ⟨o, k b o hb e⟩
 ·refine (I.hok b u e).stay (fun c v hc q => k c v (fun z => ?_) q) (fun _ q => q) fun _ _ q => q
  rcases hc with rfl | hc
  ·rw [z, I.free] at e; cases e
  ·rw [z, I.free] at hc; cases hc
theorem laidL {a : Addr} {o : HO} {t' : Nat} (I : Inv X pins σ H s) (k : ∀ b u, b ≠ X.env.locals → s.heap.get? b = some u → h'.get? b = some u) (ns : ∀ m, s.heap.Ns X.env.locals m → h'.Ns X.env.locals m) (hn : s.heap.get? a = none)
  (new : ObjOk X.prog X.w (upd H a o) h' a o) : Inv X pins σ (upd H a o) { s with heap := h', toks := t' } := by
 have nH : H a = none := HOk.none I.hok hn
 have ne : ∀ b u, s.heap.get? b = some u → b ≠ a := fun b u e z => by rw [z, hn] at e; cases e
 have neH : ∀ b u, H b = some u → b ≠ a := fun b u e z => by rw [z, nH] at e; cases e
 refine I.step (g' := s.gens) (d' := s.drawn) (ch := []) (fun _ z => nomatch z) (fun b o n _ _ e _ => k b o n e) (fun b o n _ _ e _ => ⟨o.slots, k b o n e⟩) (fun b o _ e n => by rw [upd_ne (ne b o e)]; exact n) (fun b o _ e => ?_)
  (fun b xs e => by rw [upd_ne (neH b _ e)]; exact e) (fun b u v e => by rw [upd_ne (neH b _ e)]; exact e) (fun b ps e => ⟨#[], by rw [upd_ne (neH b _ e), e]; simp⟩) ns (fun b u e => ?_) I.bare
 ·by_cases hb : b = X.env.locals
  ·obtain ⟨m, hm, _⟩ := I.loc
   obtain ⟨o', _, _, ho', _⟩ := ns m hm
   exact ⟨o', by rw [hb]; exact ho'⟩
  ·exact ⟨o, k b o hb e⟩
 ·by_cases hb : b = a
  ·subst hb; rw [upd_same] at e; cases e; exact new
  ·rw [upd_ne hb] at e
   refine (I.hok b u e).stay (fun c v hc q => k c v (fun z => ?_) q) (fun c q => by rw [upd_ne (neH c _ q)]; exact q) fun c xs q => by rw [upd_ne (neH c _ q)]; exact q
   rcases hc with rfl | hc
   ·rw [z, I.free] at e; cases e
   ·rw [z, I.free] at hc; cases hc
end
def RPL (H : Hp) (v : V) (ps : List (Int × Int)) : Prop := ∃ b, v = .ref b ∧ TK.PL H b ps
section
variable {X : Cx} {pins : List (Addr × Obj)} {σ : L2.St} {H : Hp} {s : Shared}
theorem paired_perm {α β : Type} {F : α → β → Prop} {xs : List α} {ys : List β} (r : Paired F xs ys) (dx : α) (dy : β) : ∀ {p : List Nat}, (∀ i ∈ p, i < xs.length) → Paired F (p.map fun i => xs.getD i dx) (p.map fun i => ys.getD i dy)
 | [], _ => .nil
 | i :: p, h => by
  have hi := h i List.mem_cons_self
  have hy : i < ys.length := by rw [← r.length]; exact hi
  obtain ⟨y, e, q⟩ := TK.Paired.at1 r (i := i) (a := xs[i]) (by simp [hi])
  refine .cons ?_ (paired_perm r dx dy fun j hj => h j (List.mem_cons_of_mem _ hj))
  simp only [List.getD, List.getElem?_eq_getElem hi, e, Option.getD_some]
  exact q
theorem pl_heap (I : Inv X pins σ H s) {b : Addr} {ps : List (Int × Int)} (h : TK.PL H b ps) : ∃ (us : Array Value) (n : Nat), s.heap.get? b = some { cls := .type "list", data := .seq us n } ∧ us.size = ps.length ∧
  ∀ j (hj : j < us.size), ∃ (t : Addr) (its : List Value), us[j] = .ref t ∧ IsTup s.heap t its.toArray ∧ IntsAre its.toArray.toList [(ps.getD j (0, 0)).1, (ps.getD j (0, 0)).2] ∧ ∃ as, Reads s.heap us[j] (PySem.W.kqdP (TK.dP (ps.getD j (0, 0)))) as := by
 obtain ⟨xs, hb, r⟩ := h
 obtain ⟨z, its, n, rv, hl, e⟩ := I.lstM hb
 have hxl := r.length
 refine ⟨its.toArray, n, e, by rw [List.size_toArray]; omega, fun j hj => ?_⟩
 rw [List.size_toArray] at hj
 have hjx : j < xs.length := by omega
 obtain ⟨q, eq, t, ev, ht⟩ := TK.Paired.at1 r (i := j) (a := xs[j]) (by simp [hjx])
 obtain ⟨u, eu, ru⟩ := rv.get (i := j) (x := xs[j]) (by simp [hjx])
 have eu' : its[j] = u := by simpa [hj] using eu
 rw [ev] at ru
 cases ru
 have eqd : ps.getD j (0, 0) = q := by simp [List.getD, eq]
 obtain ⟨its2, r2, p2, _⟩ := I.tuple (SqT.of (K := X.K) ht)
 have dd : Dd X.K H (.ref t) (TK.dP q) := by
  refine .tup (SqT.of ht) rfl fun k y f e4 e5 => ?_
  match k with
  | 0 => cases e4; cases e5; exact .int _
  | 1 => cases e4; cases e5; exact .int _
  | k + 2 => simp at e4
 obtain ⟨as, rd⟩ := dd.reads I (u := .ref t) rfl
 refine ⟨t, its2, by simpa using eu', p2, ?_, as, ?_⟩
 ·rw [eqd]
  exact intsAre_of (ns := [q.1, q.2]) r2
 ·rw [eqd]
  have : its.toArray[j] = .ref t := by simpa using eu'
  rw [this]
  exact rd
def rSortP : List V → Hp → VK → Prop := fun xs H Q => ∃ (p : Addr) (vs : List V) (pss : List (List (Int × Int))), xs = [.ref p] ∧ H p = some (.lst vs) ∧ Paired (RPL H) vs pss ∧ pss.Nodup ∧ pss.length < 64 ∧
 ∀ (l : Addr) (vs' : List V) (pss' : List (List (Int × Int))), H l = none → pss'.Perm pss → pss'.Pairwise (fun a b => pLt a b = true) → Paired (RPL H) vs' pss' → Q (.ref l) (upd H l (.lst vs'))
end
end TX
namespace TX
open PySem PySem.Spec PyProof.Rows L2
open PySem.W (kqdP)
section
variable {X : Cx}
theorem eqv_pairs (p q : Int × Int) : PyData.eqv (kqdP (TK.dP p)) (kqdP (TK.dP q)) = decide (p = q) := by
 have ok : ∀ r : Int × Int, PySem.W.kqdOk 9 (TK.dP r) = true := fun r => by simp [TK.dP, PySem.W.kqdOk]
 rw [Bool.eq_iff_iff, PySem.W.kqd_eqv 9 _ _ 9 (ok p) (ok q), decide_eq_true_iff]
 constructor
 ·intro e
  unfold TK.dP at e
  injection e with e
  injection e with e1 e2
  injection e1 with e1
  injection e2 with e2 _
  injection e2 with e2
  exact Prod.ext e1 e2
 ·rintro rfl; rfl
theorem less_lists {A' : Around} {pins : List (Addr × Obj)} {σ : L2.St} {H : Hp} {s : Shared} {E : Value → Shared → Prop} (I : Inv X pins σ H s) {a b : Addr} {ps qs : List (Int × Int)} (ha : TK.PL H a ps) (hb : TK.PL H b qs) (hu : A'.units + 20 < cLine) {Q : Bool → Shared → Prop} (fin : Q (pLt ps qs) s) :
  wpAny (model X.prog X.w) A' (oneLt' true (.ref a) (.ref b)) Q E s := by
 obtain ⟨us, n, e1, z1, f1⟩ := pl_heap I ha
 obtain ⟨ws, m, e2, z2, f2⟩ := pl_heap I hb
 have lay : ∀ r : Int × Int, (kqdP (TK.dP r)).canLay0 = true ∧ (kqdP (TK.dP r)).depth ≤ 2 := fun r => PySem.W.kqd_lay 2 _ (by simp [TK.dP, PySem.W.kqdOk])
 refine one_less (e := fun j => decide (ps.getD j (0, 0) = qs.getD j (0, 0))) (lt := fun j => HT.lexLt [(ps.getD j (0, 0)).1, (ps.getD j (0, 0)).2] [(qs.getD j (0, 0)).1, (qs.getD j (0, 0)).2]) (by omega) e1 e2 (fun A2 h2 j h1 h3 => ?_) (fun A2 h2 j h1 h3 => ?_) ?_
 ·obtain ⟨_, _, _, _, _, as, rd⟩ := f1 j h1
  obtain ⟨_, _, _, _, _, bs, rd'⟩ := f2 j h3
  have := SeqAt.eqAt_reads _ _ A2 s _ _ _ _ rd rd' (lay _).1 (lay _).1 (by
   have := (lay (ps.getD j (0, 0))).2
   have : min (kqdP (TK.dP (ps.getD j (0, 0)))).depth (kqdP (TK.dP (qs.getD j (0, 0)))).depth ≤ 2 := Nat.le_trans (Nat.min_le_left _ _) this
   omega)
  rw [eqv_pairs] at this
  exact this
 ·obtain ⟨t1, i1, q1, p1, n1, _⟩ := f1 j h1
  obtain ⟨t2, i2, q2, p2, n2, _⟩ := f2 j h3
  intro prog w E2 Q2 hq
  rw [q1, q2]
  exact (HT.lt_tupInts p1 p2 n1 n2 (by omega) hq : wpAny (model prog w) A2 (compareOp .Lt (.ref t1) (.ref t2)) Q2 E2 s)
 ·rw [z1, z2, ltFrom_pLt ps qs ps.length qs.length 0 (fun j h1 h2 => by rw [Nat.zero_add]; exact ⟨rfl, rfl⟩) rfl]
  exact fin
theorem vals_getD {xs : List V} {us : List Value} (r : Vals xs us) {i : Nat} {b : Addr} (h : xs[i]? = some (.ref b)) : us.getD i Value.none = .ref b := by
 obtain ⟨u, e, q⟩ := r.get h
 cases q
 simp [List.getD, e]
theorem vals_map {xs : List V} {us : List Value} (r : Vals xs us) : ∀ {p : List Nat}, (∀ i ∈ p, i < xs.length) → Vals (p.map fun i => xs.getD i .non) (p.map fun i => us.getD i Value.none) := fun {p} h => paired_perm r _ _ h
theorem call_sortedP (hu : X.A.units + 64 < cLine) : CallR X (.builtin "sorted") rSortP := by
 intro pins s σ H xs us Q I r h
 obtain ⟨l, vs, pss, rfl, hl, rp, nd, h64, q⟩ := h
 obtain ⟨u, rfl, rx⟩ := vals1 r
 cases rx
 obtain ⟨z, its, n, rv, hlen, e⟩ := I.lstM hl
 have hil : s.heap.IsList l its.toArray := ⟨_, e, rfl, n, rfl⟩
 have hpl := rp.length
 by_cases h2 : 2 ≤ its.length
 ·obtain ⟨m, F⟩ := I.fr
  have kept : ∀ h', Fr X.base X.env.locals h' m → News X.base X.env.locals h' (allNews X.base s.heap X.env.locals) → ∀ b o, b ≠ X.env.locals → s.heap.get? b = some o → h'.get? b = some o := fun h' F' N' b o hb hq => by
   cases g : X.base.get? b with
   | some u =>
    have := I.bk b u g
    rw [hq] at this; cases this
    exact F'.keep b _ g
   | none => exact (N' (b, o) (mem_allNews hb g hq)).1
  have nsk : ∀ h', Fr X.base X.env.locals h' m → ∀ m', s.heap.Ns X.env.locals m' → h'.Ns X.env.locals m' := fun h' F' m' hm' => by rw [ns_inj hm' F.ns]; exact F'.ns
  have item : ∀ i, i < its.length → ∃ b ps, vs[i]? = some (.ref b) ∧ pss[i]? = some ps ∧ TK.PL H b ps ∧ its.getD i Value.none = .ref b := fun i hi => by
   obtain ⟨ps, e1, b, e2, hb⟩ := TK.Paired.at1 rp (i := i) (a := vs[i]) (by simp [show i < vs.length by omega])
   have ev : vs[i]? = some (.ref b) := by rw [List.getElem?_eq_getElem (by omega), e2]
   exact ⟨b, ps, ev, e1, hb, vals_getD rv ev⟩
  refine PySem.W.kas_sorted (T := .type "list") F news_all hil h2 (by omega) (fun h' F' N' v hv => ?_) (by rfl) fun D e1 h' F' N' hD => ?_
  ·obtain ⟨i, hi, ei⟩ := List.mem_iff_getElem.mp hv
   obtain ⟨b, ps, e1, e2, hb, e3⟩ := item i hi
   have ev : v = .ref b := by rw [← ei, ← e3]; simp [List.getD, hi]
   obtain ⟨ws, hb1, _⟩ := hb
   obtain ⟨_, its2, n2, _, _, eo⟩ := I.lstM hb1
   have nb : b ≠ X.env.locals := fun z => by rw [z, I.free] at hb1; cases hb1
   have ho := kept h' F' N' b _ nb eo
   rw [ev]
   exact (PySem.W.Looks.ld ho).andThen .now
  ·have N'' : News X.base X.env.locals h' (allNews X.base s.heap X.env.locals) := fun p hp => N' p (.tail _ hp)
   have I' : Inv X pins σ H { s with heap := h', toks := s.toks } := keptL I (kept h' F' N'') (nsk h' F')
   have hDn : s.heap.get? D = none := by
    cases g : s.heap.get? D with
    | none => rfl
    | some o =>
     have nD := N' (D, seqObj "list" #[] e1) (.head _)
     exact absurd (hD (D, o) (mem_allNews nD.2.1 nD.2.2 g)) (Nat.lt_irrefl _)
   obtain ⟨p, runs, ord, up⟩ := TQ.sort_runs (n := its.length) (r := rank pss) (fun i j hi hj => rank_inj nd (by omega) (by omega)) h2
   have pin : ∀ i ∈ p.toList, i < its.length := fun i hi => List.mem_range.mp (ord.perm.mem_iff.mp hi)
   refine TQ.Runs.wp (b := TQ.B (rank pss)) (V := TQ.V its.length) (fun i j C hi hj hC => ?_) ?_ runs
   ·obtain ⟨b1, ps1, a1, a2, a3, a4⟩ := item i hi
    obtain ⟨b2, ps2, c1, c2, c3, c4⟩ := item j hj
    show wpAny _ _ (keyLt' oneType' (its.getD i Value.none) (its.getD j Value.none)) C _ _
    rw [a4, c4, keyLt'_oneType]
    refine less_lists I' a3 c3 (by show X.A.units + 1 + 1 + 20 < cLine; omega) ?_
    have e1 : pss.getD i [] = ps1 := by simp [List.getD, a2]
    have e2 : pss.getD j [] = ps2 := by simp [List.getD, c2]
    have : pLt ps1 ps2 = TQ.B (rank pss) i j := by
     rw [← e1, ← e2, Bool.eq_iff_iff, rank_lt (by omega) (by omega)]
     show _ ↔ decide _ = true
     rw [decide_eq_true_iff]
    rw [this]
    exact hC
   ·refine PySem.W.KasFin.intro F' N' (.head fun p hp => Nat.ne_of_lt (hD p hp)) fun h2' c F2 N2 => ?_
    have N3 : News X.base X.env.locals h2' (allNews X.base s.heap X.env.locals) := fun p hp => N2 p (.tail _ hp)
    have atD := (N2 _ (.head _)).1
    have hv := vals_map rv (p := p.toList) (fun i hi => by have := pin i hi; omega)
    have hr := paired_perm rp .non [] (p := p.toList) (fun i hi => by have := pin i hi; omega)
    have zl : (p.toList.map fun i => vs.getD i V.non).length = its.length := by rw [List.length_map, Array.length_toList, ord.size]
    refine ⟨.ref D, _, laidL (s := s) (a := D) (o := .lst (p.toList.map fun i => vs.getD i .non)) (t' := s.toks) I (kept h2' F2 N3) (nsk h2' F2) hDn ⟨by rw [zl]; omega, _, c, hv, atD⟩, rfl, ?_⟩
    refine q D _ (p.toList.map fun i => pss.getD i []) (HOk.none I.hok hDn) ?_ ?_ hr
    ·have := ord.perm.map fun i => pss.getD i []
     have e : (List.range its.length).map (fun i => pss.getD i []) = pss := by
      apply List.ext_getElem
      ·simp; omega
      ·intro i h1 h3
       simp at h1
       simp [List.getD, show i < pss.length by omega]
     rw [e] at this
     exact this
    ·rw [List.pairwise_map, List.pairwise_iff_getElem]
     intro i j hi hj hij
     have hi' : i < p.size := by simpa using hi
     have hj' : j < p.size := by simpa using hj
     have g : ∀ k (hk : k < p.size), p.toList[k]'(by simpa using hk) = p.getD k 0 := fun k hk => by simp [Array.getD, hk]
     rw [g i hi', g j hj']
     have s1 := ord.size
     exact (rank_lt (by have := ord.lt (i := i) (by omega); omega) (by have := ord.lt (i := j) (by omega); omega)).mpr (up i j hij (by omega))
 ·match its, hlen, hil, rv, h2 with
  | [], hlen, hil, rv, _ =>
   have ev : vs = [] := List.length_eq_zero_iff.mp (by simpa using hlen)
   subst ev
   have ep : pss = [] := List.length_eq_zero_iff.mp (by simpa using hpl.symm)
   subst ep
   refine sorted_ints hil (ns := []) .nil (by decide) fun out ms ho hp hs => ?_
   have em : ms = [] := hp.eq_nil
   subst em
   obtain ⟨ep, he⟩ := sortedAll_at s.heap [] out
   exact ⟨.ref (s.heap.objs.size + 1), _, I.laid (t' := s.toks) (a := s.heap.objs.size + 1) (o := .lst []) (fun b o q => sortedAll_old q) (Nat.le_succ _) (show ObjOk X.prog X.w _ _ _ (.lst []) from ⟨Nat.zero_le _, out.toList, ep, vals_ints (ns := []) ho, by simpa [seqObj] using he⟩), rfl, q _ [] [] (I.hok.fresh (Nat.le_succ _)) (List.Perm.refl _) List.Pairwise.nil .nil⟩
  | [v], hlen, hil, rv, _ =>
   refine sorted_one hil ?_
   obtain ⟨ep, he⟩ := sortedAll_at s.heap [v] #[v]
   have l1 : pss.length = 1 := by simp at hlen; omega
   refine ⟨.ref (s.heap.objs.size + 1), _, I.laid (t' := s.toks) (a := s.heap.objs.size + 1) (o := .lst vs) (fun b o q => sortedAll_old q) (Nat.le_succ _) (show ObjOk X.prog X.w _ _ _ (.lst vs) from ⟨by rw [hlen]; show 1 ≤ _; decide, [v], ep, rv, by simpa [seqObj] using he⟩), rfl, q _ vs pss (I.hok.fresh (Nat.le_succ _)) (List.Perm.refl _) ?_ rp⟩
   match pss, l1 with
   | [a], _ => exact List.pairwise_singleton _ _
  | _ :: _ :: _, _, _, _, h2 => exact absurd (by simp) h2
end
end TX
namespace TX
open PySem PySem.Spec PyProof.Rows L2
structure RoomN (k : Nat) (A : Around) : Prop where
 dp : A.depth + 3 * k + 5 < recursionLimit
 un : A.units + 16 * k + 200 < cLine
theorem RoomN.of {k : Nat} {A : Around} (r : Room k A) : RoomN k A := ⟨r.dp, r.un⟩
theorem RoomN.deeper {k : Nat} {A : Around} (r : RoomN (k + 1) A) (env : Env) : RoomN k (A.deeper env) :=
 ⟨by have := r.dp; show A.depth + 1 + 3 * k + 5 < _; omega, by have := r.un; show A.units + 3 + 16 * k + 200 < _; omega⟩
theorem RoomN.mark {k : Nat} {A : Around} {v : Option Value} (r : RoomN k A) : RoomN k (A.mark v) := ⟨r.dp, r.un⟩
theorem RoomN.depth {k : Nat} {A : Around} (r : RoomN k A) : A.depth < recursionLimit := by have := r.dp; omega
structure FnN (P : Program) (w : World) (K : PySem.W.Frag) (mg : Str → Option Value) (base : Heap) (k : Nat) (f : Addr) (fd : FuncData) (ps : List Str) (sp : Sp) : Prop where
 len : ∀ vs H Q E, sp vs H Q E → vs.length = ps.length
 run : ∀ (A : Around) (outer : List Env) (s : Shared) (H : Hp) (args : Args) (us : List Value) (vs : List V) (Q : VK) (E : XK), RoomN k A → Env0 P w K mg base A outer s H → BindsTo s fd args (ps.zip us) → Vals vs us → sp vs H Q E →
  codeAny (model P w) A (.call (.ref f) args) (CR CX0 outer P w H s Q E) s
abbrev cxN (P : Program) (w : World) (K : PySem.W.Frag) (mg : Str → Option Value) (base : Heap) (N : List Str) (qual : Str) (scope : Scope) (f : Addr) (cd : Value) (A : Around) (outer : List Env) (s : Shared) (H : Hp) (E : XK) : Cx :=
 { cxOf CX0 P w K mg base N qual scope f cd A outer s H E with calm := false }
section
variable {P : Program} {w : World} {K : PySem.W.Frag} {mg : Str → Option Value} {base : Heap} {N ps : List Str} {qual : Str} {scope : Scope} {f : Addr} {cd : Value} {A : Around} {outer : List Env} {s s1 : Shared} {H H' : Hp} {E : XK} {σ : L2.St}
theorem inv_N (I : Inv (cxOf CX0 P w K mg base N qual scope f cd { A with handled := none } outer s H E) [] σ H' s1) : Inv (cxN P w K mg base N qual scope f cd A outer s H E) [] σ H' s1 :=
 ⟨⟨I.ok.mod, I.ok.kind, I.ok.glob, I.ok.blt, I.ok.above, I.ok.inj, I.ok.has, I.ok.cab, fun z => absurd (show false = true from z) (by decide), I.ok.frames, I.ok.stk, I.ok.exf, I.ok.bs, I.ok.bsz, I.ok.noex, I.ok.exfs, I.ok.funs, I.ok.frf⟩,
  I.os, I.bare, I.base, I.loc, I.cell, I.free, I.freeC, I.pin, I.hok, I.len⟩
theorem env0_N (e : Env0 P w K mg base A outer s H) : Env0 P w K mg base { A with handled := none } outer s H := ⟨e.frames, e.mod, e.bs, e.bsz, e.funs, e.frf, e.hok, e.bare⟩
theorem fnN_of {k : Nat} {name : Str} {params : Arguments} {body : List Stmt} {dV kV doc pm cdv ct oc : Value} {an od : Option Addr}
  {osl : Array (Option Value)} {sp : Sp} (lk : K.lookup f = some ⟨oc, od, .func (PySem.W.fnOf name qual params body scope dV kV doc pm an cdv ct), osl⟩) (hcd : PySem.W.codeIn K cdv qual = true) (S : FnScope N ps scope)
  (len : ∀ vs H Q E, sp vs H Q E → vs.length = ps.length)
  (hbody : ∀ (A : Around) (outer : List Env) (s : Shared) (H : Hp) (vs : List V) (Q : VK) (E : XK), RoomN k (A.deeper (envOfC qual scope s.heap.objs.size f cdv)) → sp vs H Q E →
   ∃ t, PSs (cxN P w K mg base N qual scope f cdv A outer s H E) body t ∧ t { nx := fun _ H' => Q .non H', rt := Q } (start N vs) H) :
  FnN P w K mg base (k + 1) f (PySem.W.fnOf name qual params body scope dV kV doc pm an cdv ct) ps sp := by
 refine ⟨len, fun A outer s H args us vs Q E hr e0 hb r hsp => ?_⟩
 have hl := len _ _ _ _ hsp
 have KX : K.In s.heap := e0.mod.kin.keeps fun b o e => (e0.bs b o e).1
 have lim : s.heap.NoLimit := e0.mod.nolimit.keeps fun b o e => (e0.bs b o e).1
 have hkind : ∀ y ∈ ps.zip us, scope.names.lookup y.1 = some .local ∨ (scope.names.lookup y.1 = some .cell ∧ ((cellsFrom (s.heap.objs.size + 1) scope.names []).lookup y.1).isSome = true) := fun ⟨n, v⟩ hy => by
  rcases S.par n (List.of_mem_zip hy).1 with q | q
  ·exact .inl q
  ·exact .inr ⟨q, PySem.W.cellsFrom_some _ _ _ (.inl q)⟩
 refine codeAny_call_function hr.depth (KX _ _ lk) rfl S.co S.gen rfl (PySem.W.codeRec_of KX hcd) (hb _ _ _ _ ?_)
 refine wpAny_newFunctionEnv_cells S.kind hkind fun env he s1 x => ?_
 subst he
 refine ⟨lim.keeps x.toInCall.keep, codeAny_func ?_⟩
 obtain ⟨t, ht, hq⟩ := hbody A outer s H vs Q E (hr.deeper _) hsp
 have I : Inv (cxN P w K mg base N qual scope f cdv A outer s H E) [] (start N vs) H s1 := inv_N (inv_start S rfl (env0_N e0) hl r x)
 refine wpAny_mono (ht [] s1 (start N vs) H _ I hq) (fun fl s' hs => ?_) fun e s' hs => hs
 have fin : ∀ {σ' : L2.St} {H' : Hp} {v : V} {u : Value}, Inv (cxN P w K mg base N qual scope f cdv A outer s H E) [] σ' H' s' → RelV v u → Q v H' → CE outer P w H s Q u s' :=
  fun {σ' H' v u} J rv q => ⟨v, H', J.os, J.bare, J.base, J.hok, rv, q⟩
 cases fl with
 | ret u =>
  obtain ⟨v, σ', H', J, rv, q⟩ := hs
  exact fin J rv q
 | next =>
  obtain ⟨σ', H', J, q⟩ := hs
  exact fin (v := V.non) (u := Value.none) J rfl q
 | brk =>
  obtain ⟨_, _, _, q⟩ := hs
  exact False.elim q
 | cont =>
  obtain ⟨_, _, _, q⟩ := hs
  exact False.elim q
end
section
variable {X : Cx} {k : Nat} {f C : Addr} {fd : FuncData} {ps : List Str} {sp : Sp} {dvs : List V} {ds : List Value} {E : XK} {x m : Str} {p pos apos : Pos} {e o : Expr} {es : List Expr} {ta : TE} {t : TA}
theorem run_fnN {pins : List (Addr × Obj)} {σ : L2.St} {H : Hp} {s : Shared} {Q : VK} {us : List Value} {vs : List V} (F : FnN X.prog X.w X.K X.mg X.base k f fd ps sp) (hr : RoomN k X.A) (hb : Binds X.K fd ps ds) (hd : Vals dvs ds)
  (I : Inv X pins σ H s) (r : Vals vs us) (h : sp (vs ++ dvs) H Q E) : wpAny (model X.prog X.w) X.A (call (.ref f) us) (EP X pins σ Q) X.xe s := by
 have r2 : Vals (vs ++ dvs) (us ++ ds) := r.append hd
 have hl : (us ++ ds).length = ps.length := by rw [← r2.length]; exact F.len _ _ _ _ h
 refine wpAny_call (codeAny_mono (F.run X.A X.stack s H ⟨us, []⟩ (us ++ ds) (vs ++ dvs) Q E hr I.env0 (hb s us I.kIn hl) r2 h) fun r s' hq => ?_)
 cases r with
 | error e => exact False.elim hq
 | ok fl =>
  cases fl with
  | ret u => exact I.after hq
  | next => exact False.elim hq
  | brk => exact False.elim hq
  | cont => exact False.elim hq
theorem pe_callN (F : FnN X.prog X.w X.K X.mg X.base k f fd ps sp) (hr : RoomN k X.A) (hg : Gl X x) (hm : X.mg x = some (.ref f)) (hk : PySem.W.keepIn X.K (.ref f) = true) (hb : Binds X.K fd ps ds) (hd : Vals dvs ds)
  (ha : PA X (e :: es) t) (hdb : (x == ("__debug__" : Str)) = false := by decide) (he : starEach (e :: es) X.env = (false, eval e X.env) :: starEach es X.env := by rfl) (hpl : (backTo pos (starEach es X.env)).any (·.1) = false := by rfl) :
  PE X (.Call (.Name x p) (e :: es) [] pos) (tCall sp dvs E t) := by
 intro pins s σ H Q I h
 refine wpAny_Call_Name_kw (ld_glob I hg hm ?_ hdb)
 refine PySem.W.callWith_K (h₀ := X.base) I.ok.mod.kin hk (thn (ha pos pins s σ H _ I h) fun us s1 ⟨vs, H1, I1, r, q⟩ => ⟨I1.kIn, ?_⟩) he hpl
 exact run_fnN F hr hb hd I1 r q
end
def excO (C e : Addr) : HO := .ext fun h => ∃ o, h.get? e = some o ∧ o.cls = .ref C
theorem excO_ok {P : Program} {w : World} {H : Hp} {h : Heap} {C e : Addr} {o : Obj} (ho : h.get? e = some o) (hc : o.cls = .ref C) : ObjOk P w H h e (excO C e) :=
 ⟨⟨o, ho, hc⟩, ⟨o, ho⟩, fun h1 h2 ⟨u, a, b⟩ k => ⟨u, k _ a, b⟩⟩
theorem excO_look {P : Program} {w : World} {H : Hp} {h : Heap} {C e : Addr} (x : HOk P w H h) (q : H e = some (excO C e)) : ∃ o, h.get? e = some o ∧ o.cls = .ref C := (x e _ q).1
end TX
namespace PySem.W
open PySem PySem.Spec PySem.Calls PyProof.Rows Builtin Builtin.ObjectAttr Builtin.Getset_descriptor
section
variable {prog : Program} {w : World} {A : Around} {E : Value → Shared → Prop} {s : Shared} {K : Frag} {x D : Addr} {o : Obj} {name : Str} {R : Result → Shared → Prop}
theorem tyx {M : Model} {h : Heap} {o : Obj} (h1 : h.get? x = some o) (h2 : o.cls = .ref D) : Looks M h (typeOf (.ref x)) (.ref D) := h2 ▸ (Looks.ld h1).andThen .now
theorem findx {M : Model} {h : Heap} {a g : Value} (X : K.In h) (ha : findIn K (.ref D) name = some (some a)) (hg : specialIn K a "__get__" = some (some g)) (ht : takesIn K a = some true) : Looks M h (find (.ref x) (.ref D) name) (.bind g a) := by
 have L1 := looks_findIn (M := M) X ha
 have L2 : Looks M h (getOf (some a)) (some g) := looks_specialIn X hg
 have L3 := looks_takesIn (M := M) X ht
 refine L1.andThen (L2.andThen ?_)
 exact (show Looks M h (dataDescriptor? (some a) (some g)) (some (g, a)) from L3.andThen .now).andThen (Looks.tag .now)
theorem classx {tp : Value} (X : K.In s.heap) (h1 : s.heap.get? x = some o) (h2 : o.cls = .ref D) (hm : mroIn K D (.type "object") = some true)
  (h : R (.ok (.ret (.ref D))) s) : codeAny (model prog w) A (.call (.builtin "getset_descriptor.__get__") ⟨[.builtin "object.__class__", .ref x, tp], []⟩) R s := by
 obtain ⟨hh, g, dr, t, os⟩ := s
 have L0 := tyx (M := model prog w) h1 h2
 have L1 := looks_mroIn (M := model prog w) X hm
 refine codeAny_call_builtin KF.slot_gs.plain KF.entry_gs (KF.slot_gs.check _ _ _ _ _ _ _ _ KF.type_class (KF.args_gs _ _ _) ?_)
 unfold Builtin.«getset_descriptor.__get__» descrGet
 rw [dga_obj]
 refine wpAny_bind (wpAny_pure ?_)
 unfold descrGetter descrCheckInstance descrNameAndClass isInstance
 simp only [KF.owner_class]
 repeat lk
 refine ⟨Code.quiet_builtin _ (by decide +kernel), codeAny_builtin KF.entry_class ?_⟩
 unfold Builtin.«object.__class__» shownTypeOf
 repeat lk
 exact h
end
end PySem.W
namespace TX
open PySem PySem.Spec PyProof.Rows L2
section
variable {M : Model} {A : Around} {E : Value → Shared → Prop} {h : Heap} {g : Array GenState} {d : Drawn} {t : Nat} {os : OsState}
variable {nm q nm' q' : Str} {C N B N' : Addr} {bs bm bs' bm' : List Value} {hdct hdct' : Bool} {sn sn' : List Str} {sub sub' : List Value} {ab ab' : Bool} {col col' : Option Bool} {dd dd' : Option Addr} {k0 k1 k2 k3 k5 j0 j1 j2 j3 j5 : Option Value} {newId newId' : String}
theorem exc_matches {e : Addr} {oe : Obj} {Q : Bool → Shared → Prop}
  (hC : h.get? C = some (excClassObj nm q C N bs bm hdct sn sub ab col dd k0 k1 k2 k3 k5 newId)) (hB : h.get? B = some (excClassObj nm' q' B N' bs' bm' hdct' sn' sub' ab' col' dd' j0 j1 j2 j3 j5 newId'))
  (he : h.get? e = some oe) (hcls : oe.cls = .ref C) (hbase : bm'.contains (.type "BaseException") = true) (hsub : (Value.ref C :: bm).contains (.ref B) = true)
  (hq : Q true ⟨h, g, d, t, os⟩) : wpAny M A (excMatches (.ref e) (.ref B)) Q E ⟨h, g, d, t, os⟩ := by
 have hcB : (Value.ref B :: bm').contains (.type "BaseException") = true := by rw [List.contains_cons, hbase, Bool.or_true]
 have f := tc_notTuple
 unfold excMatches
 repeat (first | (with_reducible refine wpAny_loadPart_at he ?_; rw [hcls]) | with_reducible refine wpAny_loadPart_at hB ?_ | (with_reducible refine wpAny_isSubtype_exc hB ?_; rw [hcB]) | (with_reducible refine wpAny_isSubtype_exc hC ?_; rw [hsub]) | wp_step)
 exact hq
end
section
variable {X : Cx} {pins : List (Addr × Obj)} {σ : L2.St} {H : Hp} {s : Shared}
theorem gone_ok {M : Model} {A : Around} {E : Value → Shared → Prop} {x : Str} {pos : Pos} {Q : Unit → Shared → Prop} (I : Inv X pins σ H s) (hk : X.env.scope.names.lookup x = some .local)
  (h : ∀ s', Inv X pins (List.replicate X.N.length none) H s' → Q () s') : wpAny M A (do bindName X.env x .none; unbindBehindTheSuite X.env x pos) Q E s := by
 obtain ⟨m, hn, hl⟩ := id I.loc
 have hcls : (X.env.scope.kind == .class || (X.env.scope.kind == .module && X.env.locals != X.env.globals)) = false := by rw [I.ok.kind]; rfl
 have cne := I.cne
 refine wpAny_nameGoes hk hn hcls fun h' m' hn' hs => ?_
 obtain ⟨oL, _, _, hoL, _⟩ := id hn
 have tracked : HOk X.prog X.w H h' := fun b ob e => by
  refine (I.hok b ob e).stay (fun c w' hc q => (hs.2 c ?_).trans q) (fun _ q => q) fun _ _ q => q
  rintro rfl
  rcases hc with rfl | hc
  ·rw [I.free] at e; cases e
  ·rw [I.free] at hc; cases hc
 refine h _ ⟨I.ok, I.os, I.bare, ⟨fun b o e n hb hx => ?_, fun b o e n hb hx => ?_, I.base.free, fun b o e hx => ?_, I.base.tups, I.base.frzs, I.base.tbls⟩, ⟨_, hn', fun j y v' e1 e2 e3 => ?_⟩, fun y c e => ?_, I.free, I.freeC, fun p hp => ?_, tracked, by simp⟩
 ·exact (hs.2 b (Nat.ne_of_lt (Nat.lt_of_lt_of_le (Heap.lt_size e) I.ok.above))).trans (I.base.keep b o e n hb hx)
 ·obtain ⟨sl, e1⟩ := I.base.slot b o e n hb hx
  exact ⟨sl, (hs.2 b (Nat.ne_of_lt (Nat.lt_of_lt_of_le (Heap.lt_size e) I.ok.above))).trans e1⟩
 ·obtain ⟨o', e1⟩ := I.base.there b o e hx
  exact ⟨o', (hs.2 b (Nat.ne_of_lt (Nat.lt_of_lt_of_le (Heap.lt_size e) I.ok.above))).trans e1⟩
 ·rw [List.getElem?_replicate] at e2
  split at e2 <;> cases e2
 ·obtain ⟨w', z⟩ := I.cell y c e
  exact ⟨w', z.sameBut hs (cne y c e)⟩
 ·obtain ⟨e, n, ne, nf, d⟩ := I.pin p hp
  exact ⟨(hs.2 p.1 ne).trans e, n, ne, nf, d⟩
theorem track {σ0 : L2.St} {H0 : Hp} {s0 : Shared} {e : Addr} {o : HO} (I0 : Inv X pins σ0 H0 s0) (I : Inv X pins σ H s) (hex : X.ex = []) (e0 : s0.heap.get? e = none) (hn : H e = none) (ok : ObjOk X.prog X.w (upd H e o) s.heap e o) : Inv X pins σ (upd H e o) s := by
 have ne1 : ∀ b ob, s0.heap.get? b = some ob → b ≠ e := fun b ob q z => by rw [z, e0] at q; cases q
 have ne0 : ∀ b ob, X.s₀.heap.get? b = some ob → b ≠ e := fun b ob q => by
  obtain ⟨o', z⟩ := I0.base.there b ob q (by rw [hex]; simp)
  exact ne1 b o' z
 have neH : ∀ b u, H b = some u → b ≠ e := fun b u q z => by rw [z, hn] at q; cases q
 obtain ⟨m0, ⟨oL, _, _, hoL, _⟩, _⟩ := id I0.loc
 refine ⟨I.ok, I.os, I.bare, ⟨I.base.keep, I.base.slot, fun b ob q n hx => ?_, I.base.there, fun b xs q => ?_, fun b ob u q => ?_, fun b ps q => ?_⟩, I.loc, I.cell, ?_, fun x c q => ?_, fun p hp => ?_, fun b u q => ?_, I.len⟩
 ·rw [upd_ne (ne0 b ob q)]; exact I.base.free b ob q n hx
 ·have z := I.base.tups b xs q
  rw [upd_ne (neH b _ z)]; exact z
 ·have z := I.base.frzs b ob u q
  rw [upd_ne (neH b _ z)]; exact z
 ·obtain ⟨more, z⟩ := I.base.tbls b ps q
  exact ⟨more, by rw [upd_ne (neH b _ z)]; exact z⟩
 ·rw [upd_ne (ne1 _ _ hoL)]; exact I.free
 ·obtain ⟨v, ⟨oc, hoc, _⟩⟩ := I0.cell x c q
  rw [upd_ne (ne1 _ _ hoc)]; exact I.freeC x c q
 ·obtain ⟨a, b, c⟩ := I.pin p hp
  exact ⟨a, by rw [upd_ne (ne1 _ _ (I0.pin p hp).1)]; exact b, c⟩
 ·by_cases hb : b = e
  ·subst hb; rw [upd_same] at q; cases q; exact ok
  ·rw [upd_ne hb] at q
   exact (I.hok b u q).stay (fun c v _ z => z) (fun c z => by rw [upd_ne (neH c _ z)]; exact z) fun c xs z => by rw [upd_ne (neH c _ z)]; exact z
abbrev cxS (X : Cx) (e : Addr) (xe : Value → Shared → Prop) : Cx := { X with A := X.A.mark (some (.ref e)), calm := false, xe := xe }
theorem inv_S {e : Addr} {xe : Value → Shared → Prop} (I : Inv X pins σ H s) : Inv (cxS X e xe) pins σ H s :=
 ⟨⟨I.ok.mod, I.ok.kind, I.ok.glob, I.ok.blt, I.ok.above, I.ok.inj, I.ok.has, I.ok.cab, fun z => absurd (show false = true from z) (by decide), I.ok.frames, I.ok.stk, I.ok.exf, I.ok.bs, I.ok.bsz, I.ok.noex, I.ok.exfs, I.ok.funs, I.ok.frf⟩,
  I.os, I.bare, I.base, I.loc, I.cell, I.free, I.freeC, I.pin, I.hok, I.len⟩
theorem inv_unS {e : Addr} {xe : Value → Shared → Prop} (ok : X.Ok) (I : Inv (cxS X e xe) pins σ H s) : Inv X pins σ H s :=
 ⟨ok, I.os, I.bare, I.base, I.loc, I.cell, I.free, I.freeC, I.pin, I.hok, I.len⟩
end
section
variable {X : Cx} {C B : Addr}
def tTryAs (i n : Nat) (C : Addr) (tb : XK → TS) (tr : TE) : TS := fun D σ H => tb (fun _ _ H' => ∀ (ex : Addr) (σ' : L2.St), H' ex = none → σ'.length = n → tr (σ'.set i (some (.ref ex))) (upd H' ex (excO C ex)) D.rt) D σ H
def belowIn (K : PySem.W.Frag) (C B : Addr) : Bool := (PySem.W.clsIn K C).any fun cd => cd.mro.contains (.ref B)
theorem below_of {K : PySem.W.Frag} {h : Heap} (kin : K.In h) (q : belowIn K C B = true) {nm qn : Str} {Na : Addr} {bs bm : List Value} {hdct : Bool} {sn : List Str} {sub : List Value} {ab : Bool} {col : Option Bool} {dd : Option Addr} {k0 k1 k2 k3 k5 : Option Value} {newId : String}
  (hC : h.get? C = some (excClassObj nm qn C Na bs bm hdct sn sub ab col dd k0 k1 k2 k3 k5 newId)) : (Value.ref C :: bm).contains (.ref B) = true := by
 unfold belowIn at q
 obtain ⟨cd, h1, h2⟩ := PySem.W.any_some q
 unfold PySem.W.clsIn at h1
 split at h1
 ·rename_i c' d' cd' sl' ho
  cases h1
  have z := (kin _ _ ho).symm.trans hC
  unfold excClassObj at z
  cases z
  exact h2
 ·cases h1
theorem ps_tryAs {body : List Stmt} {x y : Str} {re : Expr} {np p2 p3 pos : Pos} {i : Nat} {tb : XK → TS} {tr : TE} (qC : PySem.W.ktsIn X.K C "BaseException" = true) (qB : PySem.W.ktsIn X.K B "BaseException" = true) (hsub : belowIn X.K C B = true) (hg : Gl X x) (hm : X.mg x = some (.ref B))
  (hst : X.stack = X.env :: X.outer ∧ X.env.frame = some X.env.locals) (hex : X.ex = []) (hN : X.N.Nodup) (hi : X.N[i]? = some y) (hly : X.env.scope.names.lookup y = some .local)
  (hb : ∀ (pn : List (Addr × Obj)) (E : XK), PSs (cxT X C pn E) body (tb E)) (hr : ∀ (e : Addr) (xe : Value → Shared → Prop), PE (cxS X e xe) re tr) (hd : (x == ("__debug__" : Str)) = false := by decide) :
  PS X (.Try body [.ExceptHandler (some (.Name x np)) (some y) [.Return (some re) p2] p3] [] [] pos) (tTryAs i X.N.length C tb tr) := by
 intro pins s σ H D I h
 refine wpAny_Try_except (wpAny_mono (hb (X.pn ++ pins) _ [] s σ H D (inv_pn I _) h) (fun f s1 r => ?_) fun ev s1 r => ?_)
 ·have r' := sp_unpn r
  cases f with
  | next => exact wpAny_execs_nil r'
  | ret v => exact r'
  | brk => exact r'
  | cont => exact r'
 ·obtain ⟨σ1, H0, s0, I0, e, H', rfl, hos, hgn, un, hok, ⟨a0, oe, vs, T, oT, ts, g1, g2, g3, g4, g5, g6, g7, g8, g9, g10, g11, g12⟩, hE⟩ := r
  have I0' : Inv X pins σ1 H0 s0 := inv_unpn I0
  have I1 : Inv X pins σ1 H' s1 := Inv.after0 I0' hos un hok hgn
  have hin : ∀ env ∈ X.stack, ∀ b, env.frame = some b → b ∈ [e, T] ++ frs X.stack := fun env he b hb => List.mem_append_right _ (List.mem_filterMap.mpr ⟨env, he, hb⟩)
  have hfr : X.A.frames = some (X.env :: X.outer) := by rw [← hst.1]; exact I1.ok.frames
  have fF := PySem.W.funFrames_hide I1.stack hin
  have hfl : Heap.FlyingW (PySem.W.hideAll s1.heap ([e, T] ++ frs X.stack)) (X.env :: X.outer) e (.ref C) a0 s1.heap :=
   ⟨fun b o q => PySem.W.of_hideAll _ q, PySem.W.hideAll_none _ (by simp), by rw [← hst.1]; exact fF, oe, vs, T, oT, ts, g1, g2, g3, g4, PySem.W.hideAll_none _ (by simp), g5, g6, g7, g8⟩
  have again : ∀ h', (PySem.W.hideAll s1.heap ([e, T] ++ frs X.stack)).StaysIn h' → s1.heap.UpToSlots h' → Inv X pins σ1 H' { s1 with heap := h' } := fun h' k u => by
   have kp : Kp (frs X.stack) [e, T] s1.heap h' := Kp.of k (frames_kept I1.stack u)
   have hex : ∀ b ∈ [e, T], H' b = none ∧ s0.heap.get? b = none := fun b hb => by
    rcases List.mem_cons.mp hb with rfl | hb
    ·exact ⟨g9, g11⟩
    ·obtain rfl := List.mem_singleton.mp hb
     exact ⟨g10, g12⟩
   exact Inv.after0 (s' := { s1 with heap := h' }) I0' hos (kp.un un fun b hb => (hex b hb).2) (kp.hok hok (fun b hb => I1.stkFree b hb) fun b hb => (hex b hb).1) hgn
  refine wpAny_looks_onW hfr hst.2 hfl fun h4 held us4 => ?_
  refine wpAny_landsW held fun h5 fl5 us5 => ?_
  have us := us4.trans us5
  have I5 := again h5 fl5.1 us
  obtain ⟨ob, hob, hobc⟩ := fl5.there
  obtain ⟨nm, q', Na, bs, bm, hdct, sn, sub, ab, col, dd, k0, k1, k2, k3, k5, newId, hC, hbase, hbT⟩ := PySem.W.kts_cls I5.kIn qC
  obtain ⟨nm', q'', Na', bs', bm', hdct', sn', sub', ab', col', dd', j0, j1, j2, j3, j5, newId', hB, hbaseB, hbTB⟩ := PySem.W.kts_cls I5.kIn qB
  refine wpAny_handleBy_cons (codeAny_handlers_test (Calls.Name_function_global I5.ok.kind hg (Calls.loadGlobal_global (by rw [I5.ok.glob]; exact I5.mod.glob.keeps I5.bk) hm ?_) hd)) (by intro z; cases z)
  refine exc_matches hC hB hob hobc hbaseB (below_of I5.kIn hsub hC) (codeAny_handlers_suite_as ?_)
  refine lands_againW fl5 fun h6 fl6 us6 => ?_
  have I6 := again h6 fl6.1 (us.trans us6)
  obtain ⟨ob6, hob6, hobc6⟩ := fl6.there
  have I7 : Inv X pins σ1 (upd H' e (excO C e)) { s1 with heap := h6 } := track I0' I6 hex g11 g9 (excO_ok hob6 hobc6)
  refine store_ok (i := i) (v := .ref e) I7 hN hi (.inl hly) rfl (fun s8 I8 => ?_) (.inr hly)
  refine wpAny_execs_cons (wpAny_Return_some (thn (hr e _ pins s8 _ _ D.rt (inv_S I8) (hE e σ1 g9 I1.len)) fun v s9 ⟨z, H9, I9, r9, q9⟩ => ?_))
  exact gone_ok (inv_unS I.ok I9) hly fun s' I' => ⟨z, _, H9, I', r9, q9⟩
end
end TX
namespace TX
open PySem PySem.Spec PyProof.Rows L2
section
variable {prog : Program} {w : World} {A : Around} {E : Value → Shared → Prop} {h : Heap} {g : Array GenState} {d : Drawn} {t : Nat} {os : OsState}
variable {nm q : Str} {C N : Addr} {bs bm bmB : List Value} {hdct : Bool} {sn : List Str} {sub : List Value} {ab : Bool} {col : Option Bool} {dd : Option Addr} {k0 k1 k2 k3 k5 : Option Value} {B Bn newId nid initId inN : String} {bmN : List Value}
theorem tcall_initU (Fn : ExcBaseFacts Bn newId inN bmN) (hBn : bmB.contains (.type Bn) = true) (F : ExcBaseFacts B nid initId bmB) (T : OwnTail h bmB bm) {mN : Str → Option Value} {rest : List Value} {fI : Addr} {oI : Obj} {Q : Fin → Shared → Prop}
  (hC : h.get? C = some (excClassObj nm q C N bs bm hdct sn sub ab col dd k0 k1 k2 k3 k5 newId)) (hn : h.Ns N mN) (hi : mN "__init__" = some (.ref fI)) (hfI : h.get? fI = some oI) (hfc : oI.cls = .type "function")
  (hq : ∀ h' e, Heap.MadeExcOf h h' e (.ref C) rest → wpAny (model prog w) A (call (.ref fI) (.ref e :: rest)) (fun r s' => r = .none ∧ Q (.done (.ret (.ref e))) s') E ⟨h', g, d, t, os⟩) (hrest : rest.length ≤ sizeLine := by size_fits) :
  wpAny (model prog w) A (Builtin.«type.__call__» ⟨.ref C :: rest, []⟩) Q E ⟨h, g, d, t, os⟩ := by
 repeat (first | with_reducible refine wpAny_loadPart_at hC ?_ | with_reducible refine wpAny_madeBy_exc hC ?_ | wp_step)
 refine codeAny_call_builtin_code (Code.quiet_builtin _ Fn.quiet) (wpAny_check_new_subU Fn hBn T hC ?_)
 refine codeAny_exc_new_subU Fn hBn F T hC ?_ hrest
 show wpAny _ _ _ _ _ _
 have hC₁ := Heap.get?_push_of_some { cls := .ref C, data := .fields #[.ref h.objs.size, .none, .none, .none, .bool false, .none] }
  (Heap.get?_push_of_some { cls := .type "tuple", data := .seq rest.toArray } hC)
 have hfI₁ := Heap.get?_push_of_some { cls := .ref C, data := .fields #[.ref h.objs.size, .none, .none, .none, .bool false, .none] }
  (Heap.get?_push_of_some { cls := .type "tuple", data := .seq rest.toArray } hfI)
 have hn₁ : ((h.push { cls := .type "tuple", data := .seq rest.toArray }).push { cls := .ref C, data := .fields #[.ref h.objs.size, .none, .none, .none, .bool false, .none] }).Ns N mN :=
  let ⟨o, es, ep, e, r⟩ := hn; ⟨o, es, ep, Heap.get?_push_of_some _ (Heap.get?_push_of_some _ e), r⟩
 have hget : ((h.push { cls := .type "tuple", data := .seq rest.toArray }).push
   { cls := .ref C, data := .fields #[.ref h.objs.size, .none, .none, .none, .bool false, .none] }).get? (h.objs.size + 1) = some
   { cls := .ref C, data := .fields #[.ref h.objs.size, .none, .none, .none, .bool false, .none] } := by heap_get
 have hcC : (Value.ref C :: bm).contains (.ref C) = true := by simp
 have T₁ := T.keeps (h' := (h.push { cls := .type "tuple", data := .seq rest.toArray }).push { cls := .ref C, data := .fields #[.ref h.objs.size, .none, .none, .none, .bool false, .none] })
  fun b o e => Heap.get?_push_of_some _ (Heap.get?_push_of_some _ e)
 unfold isInstance
 repeat (first | with_reducible refine wpAny_loadPart_at hget ?_ | (with_reducible refine wpAny_isSubtype_exc hC₁ ?_; rw [hcC]) | wp_step)
 show wpAny _ _ (typeLookup (.ref C) _) _ _ _
 refine wpAny_typeLookup_tail hC₁ hn₁ T₁ F.mroIs F.init.lookup ?_
 rw [hi]
 refine wpAny_holding (wpAny_bind ?_)
 unfold bindSpecial
 refine wpAny_bind (wpAny_typeOf (T := "function") ⟨_, hfI₁, hfc⟩ ?_)
 rw [if_pos (by decide)]
 refine wpAny_pure (wpAny_bind (wpAny_mono (hq _ (h.objs.size + 1) ⟨fun b o hb => Heap.get?_push_of_some _ (Heap.get?_push_of_some _ hb), Heap.get?_none_of_le (Nat.le_succ _), h.objs.size, hget, Heap.get?_none_of_le (Nat.le_refl _), ?_⟩) (fun r s' hr => ?_) fun _ _ x => x))
 ·exact Heap.get?_push_of_some _ (Heap.get?_push_at rfl rfl)
 ·obtain ⟨rfl, hQ⟩ := hr
  wp_walk
  exact hQ
theorem call_initU (Fn : ExcBaseFacts Bn newId inN bmN) (hBn : bmB.contains (.type Bn) = true) (F : ExcBaseFacts B nid initId bmB) (T : OwnTail h bmB bm) {mN : Str → Option Value} {rest : List Value} {fI : Addr} {oI : Obj} {Q : Value → Shared → Prop}
  (hC : h.get? C = some (excClassObj nm q C N bs bm hdct sn sub ab col dd k0 k1 k2 k3 k5 newId)) (hn : h.Ns N mN) (hi : mN "__init__" = some (.ref fI)) (hfI : h.get? fI = some oI) (hfc : oI.cls = .type "function")
  (hq : ∀ h' e, Heap.MadeExcOf h h' e (.ref C) rest → wpAny (model prog w) (A.under (.builtin "type.__call__" ⟨.ref C :: rest, []⟩)) (call (.ref fI) (.ref e :: rest)) (fun r s' => r = .none ∧ Q (.ref e) s') E ⟨h', g, d, t, os⟩) (hrest : rest.length ≤ sizeLine := by size_fits) :
  wpAny (model prog w) A (call (.ref C) rest) Q E ⟨h, g, d, t, os⟩ := by
 have f1 := tc_lookup
 have f2 := tc_bind (.ref C)
 have hT : (⟨h, g, d, t, os⟩ : Shared).TypeIs (.ref C) "type" := ⟨_, hC, rfl⟩
 refine wpAny_call (codeAny_of_tree ?_)
 show wpAny _ _ (callAny (.ref C) _) _ _ _
 repeat (any_goals (first | assumption | with_reducible refine wpAny_loadPart_at hC ?_ | wp_step))
 refine ⟨rfl, ?_⟩
 refine codeAny_call_builtin_at (Code.quiet_builtin _ (by decide +kernel)) entry_typeCall (wpAny_check_type_call_sub hC (tcall_initU (hrest := hrest) Fn hBn F T hC hn hi hfI hfc fun h' e hm => ?_))
 exact hq h' e hm
end
section
variable {prog : Program} {w : World} {A : Around} {E : Value → Shared → Prop} {s : Shared} {env : Env}
variable {nm q : Str} {C N : Addr} {bs bm bmB : List Value} {hdct : Bool} {sn : List Str} {sub : List Value} {ab : Bool} {col : Option Bool} {dd : Option Addr} {k0 k1 k2 k3 k5 : Option Value} {B Bn newId nid initId inN : String} {bmN : List Value}
theorem raised_init {x : Sem Value} {Q : Flow → Shared → Prop} (hbase : bm.contains (.type "BaseException") = true) (hh : A.handled = none)
  (h : wpAny (model prog w) A x (fun v s₁ => ∃ e t oe, v = .ref e ∧ s₁.heap.get? C = some (excClassObj nm q C N bs bm hdct sn sub ab col dd k0 k1 k2 k3 k5 newId) ∧
   s₁.heap.get? e = some oe ∧ oe.cls = .ref C ∧ oe.data = .fields #[.ref t, .none, .none, .none, .bool false, .none] ∧ E (.ref e) s₁) E s) :
  wpAny (model prog w) A (raiseStmt env (some x) none) Q E s := by
 have hcB : (Value.ref C :: bm).contains (.type "BaseException") = true := by rw [List.contains_cons, hbase, Bool.or_true]
 unfold raiseStmt
 refine wpAny_bind (wpAny_mono h (fun v s₁ h₁ => ?_) fun _ _ x => x)
 obtain ⟨e, t, oe, rfl, hC, he, hcl, hda, hE⟩ := h₁
 obtain ⟨hp, g, d, tk, os⟩ := s₁
 obtain ⟨oc, od, oda, osl⟩ := oe
 dsimp only at hcl hda
 subst hcl; subst hda
 repeat (first | with_reducible refine wpAny_loadPart_at he ?_ | with_reducible refine wpAny_loadPart_at hC ?_ | (with_reducible refine wpAny_isSubtype_exc hC ?_; rw [hcB]) | wp_step)
 exact wpAny_raiseNew_none hh hE
theorem raise_init (Fn : ExcBaseFacts Bn newId inN bmN) (hBn : bmB.contains (.type Bn) = true) (F : ExcBaseFacts B nid initId bmB) {mN : Str → Option Value} {x : Str} {np cpos pos : Pos} {args : List Expr} {fI : Addr} {Q : Flow → Shared → Prop}
  (hbase : bm.contains (.type "BaseException") = true) (hh : A.handled = none) (hplain : (backTo cpos (starEach args env)).any (·.1) = false) (hi : mN "__init__" = some (.ref fI))
  (h : wpAny (model prog w) A (eval (.Name x np) env) (fun f s₁ => f = .ref C ∧ wpAny (model prog w) A (evalArgs (.ref C) true (backTo cpos (starEach args env)) [])
   (fun a s₂ => a.kw = [] ∧ a.pos.length ≤ sizeLine ∧ s₂.heap.get? C = some (excClassObj nm q C N bs bm hdct sn sub ab col dd k0 k1 k2 k3 k5 newId) ∧ s₂.heap.Ns N mN ∧ OwnTail s₂.heap bmB bm ∧ (∃ oI, s₂.heap.get? fI = some oI ∧ oI.cls = .type "function") ∧
    ∀ h' e, Heap.MadeExcOf s₂.heap h' e (.ref C) a.pos → wpAny (model prog w) (A.under (.builtin "type.__call__" ⟨.ref C :: a.pos, []⟩)) (call (.ref fI) (.ref e :: a.pos)) (fun r s₃ => r = .none ∧ ∃ t oe,
     s₃.heap.get? C = some (excClassObj nm q C N bs bm hdct sn sub ab col dd k0 k1 k2 k3 k5 newId) ∧ s₃.heap.get? e = some oe ∧ oe.cls = .ref C ∧ oe.data = .fields #[.ref t, .none, .none, .none, .bool false, .none] ∧ E (.ref e) s₃) E { s₂ with heap := h' }) E s₁) E s) :
  wpAny (model prog w) A (exec (.Raise (some (.Call (.Name x np) args [] cpos)) none pos) env) Q E s := by
 rw [arm_exec_Raise]
 refine wpAny_bind (wpAny_standAt (raised_init (C := C) (nm := nm) (q := q) (N := N) (bs := bs) (bm := bm) (hdct := hdct) (sn := sn) (sub := sub) (ab := ab) (col := col) (dd := dd) (k0 := k0) (k1 := k1) (k2 := k2) (k3 := k3) (k5 := k5) (newId := newId) hbase hh (wpAny_bind (wpAny_mono (wpAny_Call_ofName (wpAny_mono h (fun f s₁ h₁ => ?_) fun _ _ x => x)) (fun v s₃ h₃ => wpAny_bind (wpAny_standAt (wpAny_pure h₃))) fun _ _ x => x))))
 obtain ⟨rfl, h₁⟩ := h₁
 unfold callWith
 refine wpAny_bind (wpAny_holding (wpAny_mono h₁ (fun a s₂ h₂ => wpAny_bind (wpAny_standAt ?_)) fun _ _ x => x))
 obtain ⟨apos, akw⟩ := a
 obtain ⟨hkw, hlen, hC, hn, T, ⟨oI, hI, hIc⟩, h₂⟩ := h₂
 obtain rfl : akw = [] := hkw
 obtain ⟨hp, g, d, tk, os⟩ := s₂
 simp only [hplain]
 refine wpAny_bind (wpAny_keeperOf_exc hC ?_)
 refine wpAny_bind (call_initU (hrest := hlen) Fn hBn F T hC hn hi hI hIc fun h' e hm => wpAny_mono (h₂ h' e hm) (fun r s₃ ⟨h1, t, oe, h2, h3, h4, h5, h6⟩ => ⟨h1, wpAny_bind (wpAny_holding (wpAny_point (wpAny_pure ?_)))⟩) fun _ _ z => z)
 exact ⟨e, t, oe, rfl, h2, h3, h4, h5, h6⟩
end
end TX
namespace PySem.W
open PySem PySem.Spec PySem.Calls PyProof.Rows Builtin Builtin.ObjectAttr Builtin.Getset_descriptor
section
variable {prog : Program} {w : World} {A : Around} {E : Value → Shared → Prop} {h : Heap} {g : Array GenState} {d : Drawn} {t : Nat} {os : OsState} {K : Frag}
variable {nm q : Str} {C N e : Addr} {o : Obj} {bs bm : List Value} {hdct : Bool} {sn : List Str} {sub : List Value} {ab : Bool} {col : Option Bool} {dd : Option Addr} {k0 k1 k2 k3 k5 : Option Value} {newId : String} {name : Str} {v : Value}
abbrev bmV : List Value := [.type "ValueError", .type "Exception", .type "BaseException", .type "object"]
theorem xga_check {M : Model} {nameV : Value} {Q : Unit → Shared → Prop} (hC : h.get? C = some (excClassObj nm q C N bs bm hdct sn sub ab col dd k0 k1 k2 k3 k5 newId)) (hb : bm.contains (.type "BaseException") = true)
  (hx : h.get? e = some o) (hc : o.cls = .ref C) (hq : Q () ⟨h, g, d, t, os⟩) : wpAny M A (checkBuiltinCall "BaseException.__getattribute__" ⟨[.ref e, nameV], []⟩) Q E ⟨h, g, d, t, os⟩ := by
 have hk : builtinKind "BaseException.__getattribute__" = some .slot := by decide +kernel
 have hsplit : splitId "BaseException.__getattribute__" = some ("BaseException", "__getattribute__") := by decide +kernel
 have hcB : (Value.ref C :: bm).contains (.type "BaseException") = true := by rw [List.contains_cons, hb]; simp
 have ha := F.args_bexc_ga (.ref e) nameV
 simp only [checkBuiltinCall, hk, hsplit]
 refine wpAny_bind ?_
 unfold isInstance
 repeat (first | (with_reducible refine wpAny_loadPart_at hx ?_; rw [hc]) | (with_reducible refine wpAny_isSubtype_exc hC ?_; rw [hcB]) | wp_step)
 exact hq
theorem xga_by {tk : Tok} {fill expr : Bool} {Q : Value → Shared → Prop} (X : K.In h) (hC : h.get? C = some (excClassObj nm q C N bs bm hdct sn sub ab col dd k0 k1 k2 k3 k5 newId)) (hb : bm.contains (.type "BaseException") = true)
  (hx : h.get? e = some o) (hc : o.cls = .ref C) (hga : findIn K (.ref C) "__getattribute__" = some (some (.builtin "BaseException.__getattribute__"))) (hk : findIn K (.ref C) "__getattr__" = some none)
  (hq : ∀ A' : Around, wpAny (model prog w) A' (Builtin.«object.__getattribute__» ⟨[.ref e, .str name tk], []⟩) (fun fin s' => match fin with | .done (.ret v) => wpAny (model prog w) A (handedOut v) Q E s' | _ => False) (fun _ _ => False) ⟨h, g, d, t, os⟩) :
  wpAny (model prog w) A (getAttrBy (.ref e) (.str name tk) fill expr) Q E ⟨h, g, d, t, os⟩ := by
 have L1 := looks_findIn (M := model prog w) X hga
 have L2 := looks_findIn (M := model prog w) X hk
 have hx0 : (expr && onTheHeap (Value.builtin "BaseException.__getattribute__")) = false := by cases expr <;> rfl
 have hx2 : (Value.builtin "BaseException.__getattribute__" == Value.builtin "object.__getattribute__") = false := by decide +kernel
 have hx1 : (onTheHeap (Value.ref C) && Value.builtin "BaseException.__getattribute__" == Value.builtin "object.__getattribute__") = false := by rw [hx2]; rfl
 have hcB : (Value.ref C :: bm).contains (.type "BaseException") = true := by rw [List.contains_cons, hb]; simp
 have L0 := tyx (M := model prog w) hx hc
 unfold getAttrBy
 refine wpAny_holding (wpAny_bind (L0.at (wpAny_bind (L1.at ?_))))
 dsimp only
 rw [if_neg (by rw [hx1]; decide)]
 unfold getAttrByItsOwn
 refine wpAny_bind ?_
 show wpAny _ _ (typeLookup (.ref C) "__getattr__") _ _ _
 refine L2.at (wpAny_bind (wpAny_attempt (wpAny_holding ?_)))
 unfold callGetattribute
 rw [if_neg (by rw [hx0]; decide)]
 unfold boundAndCalled
 refine wpAny_bind (wpAny_of_eq (F.excAttr_ValueError.ga.bind (.ref e)) ?_)
 refine wpAny_call (codeAny_call_builtin F.excAttr_ValueError.ga.plain F.entry_bexc_ga (xga_check hC hb hx hc ?_))
 refine wpAny_mono (hq _) (fun fin s' z => ?_) fun _ _ z => z.elim
 rcases fin with (_ | _ | _ | _) | _ <;> first | exact z.elim | exact z
theorem oga_bind {tk : Tok} {a gg : Value} {Q : Fin → Shared → Prop} (X : K.In h) (hx : h.get? e = some o) (hc : o.cls = .ref C) (ha : findIn K (.ref C) name = some (some a)) (hg : specialIn K a "__get__" = some (some gg)) (ht : takesIn K a = some true)
  (hq : wpAny (model prog w) A (call gg [a, .ref e, .ref C]) (fun v s' => Q (.done (.ret v)) s') E ⟨h, g, d, t, os⟩) :
  wpAny (model prog w) A (Builtin.«object.__getattribute__» ⟨[.ref e, .str name tk], []⟩) Q E ⟨h, g, d, t, os⟩ := by
 have L0 := tyx (M := model prog w) hx hc
 have L1 := findx (M := model prog w) (x := e) X ha hg ht
 refine wpAny_bind (wpAny_pure (wpAny_bind (wpAny_pure (wpAny_bind (L0.at (wpAny_bind (L1.at ?_)))))))
 show wpAny _ _ (holding [a] (call gg [a, .ref e, .ref C]) >>= ret) _ _ _
 exact wpAny_bind (wpAny_holding (wpAny_mono hq (fun v s' z => wpAny_pure z) fun _ _ z => z))
theorem kitx_xc (qB : ktsIn K C "BaseException" = true) (hga : findIn K (.ref C) "__getattribute__" = some (some (.builtin "BaseException.__getattribute__"))) (hk : findIn K (.ref C) "__getattr__" = some none) (hdct : (clsIn K C).isSome = true) (ha : findIn K (.ref C) "__class__" = some (some (.builtin "object.__class__")))
  (hn : specialIn K (.builtin "object.__class__") "__get__" = some (some (.builtin "getset_descriptor.__get__"))) (htk : takesIn K (.builtin "object.__class__") = some true) (hm : mroIn K C (.type "object") = some true) :
  KitX K (.ref e) (.ref C) (fun h => ∃ o, h.get? e = some o ∧ o.cls = .ref C) where
 ty := fun _ _ _ ⟨_, h1, h2⟩ => tyx h1 h2
 it := fun _ _ X _ => by
  obtain ⟨cdD, hcD⟩ := Option.isSome_iff_exists.mp hdct
  unfold clsIn at hcD
  split at hcD
  ·rename_i c' d' cd' sl' ho
   intro A' Q' E' s' k q
   unfold isType loadHead
   exact wpAny_bind (wpAny_loadPart (k _ _ (X _ _ ho)) (wpAny_pure q))
  ·cases hcD
 ne := fun h tp dd its n sl X htp => by
  obtain ⟨cdD, hcD⟩ := Option.isSome_iff_exists.mp hdct
  refine Bool.eq_false_iff.mpr fun q => ?_
  have e : C = tp := Value.ref.inj (beq_iff_eq.mp q)
  subst e
  unfold clsIn at hcD
  split at hcD
  ·rename_i c' d' cd' sl' ho
   have z := (X _ _ ho).symm.trans htp
   cases z
  ·cases hcD
 ca := fun {prog w A E Q s} X ⟨o, h1, h2⟩ k => by
  obtain ⟨hh, g, d, t, os⟩ := s
  obtain ⟨nm, q', Na, bs, bm, hdct, sn, sub, ab, col, dd, k0, k1, k2, k3, k5, newId, hC, hbase, hbT⟩ := kts_cls X qB
  unfold getAttr? getAttrBy?
  refine wpAny_bind (wpAny_mkText (wpAny_bind (wpAny_attempt ?_)))
  refine xga_by X hC hbT h1 h2 hga hk fun A' => oga_bind X h1 h2 ha hn htk (wpAny_call (classx (s := ⟨hh, g, d, t + 1, os⟩) X h1 h2 hm ?_))
  exact handed_on rfl (wpAny_pure k)
end
end PySem.W
namespace PySem.W
open PySem PySem.Spec PySem.Calls PyProof.Rows Builtin Builtin.ObjectAttr
section
variable {prog : Program} {w : World} {A : Around} {E : Value → Shared → Prop} {h : Heap} {g : Array GenState} {d : Drawn} {t : Nat} {os : OsState} {K : Frag}
variable {nm q : Str} {C N e B : Addr} {o : Obj} {bs bm : List Value} {hdct : Bool} {sn : List Str} {sub : List Value} {ab : Bool} {col : Option Bool} {dd : Option Addr} {k0 k1 k2 k3 k5 : Option Value} {newId : String} {name : Str} {v : Value}
theorem base_init {rest : List Value} {Q : Value → Shared → Prop} {t0 : Addr} (T : OwnTail h bmV bm) (hC : h.get? C = some (excClassObj nm q C N bs bm hdct sn sub ab col dd k0 k1 k2 k3 k5 newId))
  (hx : h.get? e = some o) (hc : o.cls = .ref C) (hd : o.data = .fields #[.ref t0, .none, .none, .none, .bool false, .none]) (hrest : rest.length ≤ sizeLine)
  (hq : ∀ h' tp, (∀ b u, b ≠ e → h.get? b = some u → h'.get? b = some u) → h.get? tp = none → h'.get? e = some { o with data := .fields #[.ref tp, .none, .none, .none, .bool false, .none] } → Q .none ⟨h', g, d, t, os⟩) :
  wpAny (model prog w) A (call (.builtin "ValueError.__init__") (.ref e :: rest)) Q E ⟨h, g, d, t, os⟩ := by
 have F := PySem.F.excBase_ValueError
 obtain ⟨oc, od, oda, osl⟩ := o
 dsimp only at hc hd
 subst hc; subst hd
 refine wpAny_call (codeAny_call_builtin F.init.plain F.initEntry (wpAny_check_init_subU F T hC hx rfl ?_))
 wp_walk
 refine hq _ h.objs.size (fun b u hb hu => ?_) (Heap.get?_none_of_le (Nat.le_refl _)) ?_
 ·rw [Heap.get?_update_other _ _ (Ne.symm hb)]
  exact Heap.get?_push_of_some _ hu
 ·rw [Heap.get?_update_self _ (Heap.get?_push_of_some _ hx) rfl]
  rfl
theorem xset_entry {tk : Tok} {Q : Fin → Shared → Prop} (X : K.In h) (hC : h.get? C = some (excClassObj nm q C N bs (.ref B :: bmV) true sn sub ab col dd k0 k1 k2 k3 k5 newId)) (ha : findIn K (.ref C) name = some none)
  (hx : h.get? e = some o) (hc : o.cls = .ref C) (hnc : ∀ c, o.data ≠ .cls c) (hdn : o.dict = none)
  (hq : ∀ h' dx tk', (∀ b u, b ≠ e → h.get? b = some u → h'.get? b = some u) → h.get? dx = none → dx ≠ e → h'.get? e = some { o with dict := some dx } → h'.Ns1 dx (fun y => if y = name then some v else none) → Q (.done (.ret .none)) ⟨h', g, d, tk', os⟩) :
  wpAny (model prog w) A (Builtin.«object.__setattr__» ⟨[.ref e, .str name tk, v], []⟩) Q E ⟨h, g, d, t, os⟩ := by
 have hpass := PySem.F.store_ValueError.passes (.ref e)
 have L1 := looks_findIn (M := model prog w) X ha
 unfold Builtin.«object.__setattr__»
 repeat (first | rw [refuse_eq] | (rw [refuseLoop_ref, refuseLoop_ref, hpass]) | (with_reducible refine wpAny_loadPart_at hx ?_; rw [hc]) | with_reducible refine wpAny_mroOf_exc hC ?_ | with_reducible refine Looks.at L1 ?_ | wp_step)
 rw [hdn, if_neg (by simp [typeHasDict])]
 split
 ·rename_i hcd
  cases hcd
 split
 ·rename_i c hcd
  exact absurd hcd (hnc c)
 ·have hx₁ : (h.push { cls := .type "dict", data := .dict #[] }).get? e = some o := Heap.get?_push_of_some _ hx
  have hxs : e ≠ h.objs.size := Nat.ne_of_lt (Heap.lt_size hx)
  refine wpAny_bind (wpAny_alloc' ?_)
  refine wpAny_bind (wpAny_update' hx₁ ?_)
  refine wpAny_pure ?_
  have hgd : ((h.push { cls := .type "dict", data := .dict #[] }).update e fun o => { cls := o.cls, dict := some h.objs.size, data := o.data, slots := o.slots }).get? h.objs.size
    = some { cls := .type "dict", data := .dict #[] } :=
   (Heap.get?_update_ne _ _ _ _ hxs.symm).trans (Heap.get?_push_at rfl rfl)
  have hnd : ((h.push { cls := .type "dict", data := .dict #[] }).update e fun o => { cls := o.cls, dict := some h.objs.size, data := o.data, slots := o.slots }).Ns h.objs.size (fun _ => none) :=
   ⟨_, #[], _, hgd, rfl, fun e he => absurd he (by simp), fun _ => rfl⟩
  show wpAny _ _ (storeInDict h.objs.size (.str name tk) name v) _ _ _
  unfold storeInDict newKeyGuard
  refine wpAny_bind (wpAny_pure (wpAny_bind (wpAny_nsSet1 (Heap.Ns1.of_empty hnd) fun h' hn' hs => ?_)))
  obtain ⟨oD, esD, epD, hoD, hdD, hcD⟩ := hn'.count (Within.cons name v Within.nil)
  refine wpAny_bind (wpAny_lookBehind hoD (by rw [hdD]; exact pastItsLine_dict (Nat.le_trans hcD (by rw [List.length_cons, List.length_nil, sizeLine_eq]; omega))) ?_)
  wp_walk
  have hx' : h'.get? e = some { cls := o.cls, dict := some h.objs.size, data := o.data, slots := o.slots } := by
   refine (hs.2 e hxs).trans (Heap.get?_update_self _ hx₁ ?_)
   have hfr := (Heap.get?_some_iff.mp hx).2
   obtain ⟨oc, od, odt, osl⟩ := o
   cases odt <;> first | rfl | exact hfr
  exact hq h' h.objs.size _ (fun b u hb hu => (hs.2 b (Nat.ne_of_lt (Heap.lt_size hu))).trans ((Heap.get?_update_ne _ _ _ _ hb).trans (Heap.get?_push_of_some _ hu))) (Heap.get?_none_of_le (Nat.le_refl _)) hxs.symm hx' hn'
theorem xset_attr {Q : Unit → Shared → Prop} (X : K.In h) (hC : h.get? C = some (excClassObj nm q C N bs (.ref B :: bmV) true sn sub ab col dd k0 k1 k2 k3 k5 newId)) (hsa : findIn K (.ref C) "__setattr__" = some (some (.builtin "object.__setattr__"))) (ha : findIn K (.ref C) name = some none)
  (hx : h.get? e = some o) (hc : o.cls = .ref C) (hnc : ∀ c, o.data ≠ .cls c) (hdn : o.dict = none)
  (hq : ∀ h' dx tk', (∀ b u, b ≠ e → h.get? b = some u → h'.get? b = some u) → h.get? dx = none → dx ≠ e → h'.get? e = some { o with dict := some dx } → h'.Ns1 dx (fun y => if y = name then some v else none) → Q () ⟨h', g, d, tk', os⟩) :
  wpAny (model prog w) A (setAttr (.ref e) name v) Q E ⟨h, g, d, t, os⟩ := by
 have SF := PySem.F.store_ValueError
 have f3 := SF.slot.bind (.ref e)
 have L0 := tyx (M := model prog w) hx hc
 have L1 := looks_findIn (M := model prog w) X hsa
 have hcB : (Value.ref C :: .ref B :: bmV).contains (.type "object") = true := by simp
 have chk : ∀ {M : Model} {A : Around} {E : Value → Shared → Prop} {Q : Unit → Shared → Prop} {nameV : Value} {t : Nat}, Q () ⟨h, g, d, t, os⟩ → wpAny M A (checkBuiltinCall "object.__setattr__" ⟨[.ref e, nameV, v], []⟩) Q E ⟨h, g, d, t, os⟩ := fun {M A E Q nameV t} hq => by
  have ha := SF.args (.ref e) nameV v
  simp only [checkBuiltinCall, SF.kind, SF.split]
  refine wpAny_bind ?_
  unfold isInstance
  repeat (first | (with_reducible refine wpAny_loadPart_at hx ?_; rw [hc]) | (with_reducible refine wpAny_isSubtype_exc hC ?_; rw [hcB]) | wp_step)
  exact hq
 unfold setAttr callSpecial? specialOf
 repeat (any_goals (first | assumption | (with_reducible refine wpAny_loadPart_at hx ?_; rw [hc]) | with_reducible refine Looks.at L1 ?_ | wp_step))
 refine codeAny_call_builtin SF.slot.plain SF.entry (chk (xset_entry X hC ha hx hc hnc hdn fun h' dx tk' h1 h2 h3 h4 h5 => ?_))
 repeat (any_goals (first | assumption | wp_step))
 exact hq h' dx tk' h1 h2 h3 h4 h5
end
end PySem.W
namespace TX
open PySem PySem.Spec PyProof.Rows L2
theorem ns_some {K : PySem.W.Frag} {h : Heap} {N : Addr} {mN : Str → Option Value} {n : Str} {v : Value} (X : K.In h) (G : h.Ns N mN) (e : PySem.W.nsIn K N n = some (some v)) : mN n = some v := by
 obtain ⟨o, es, ep, ho, hd, _, hf⟩ := G
 unfold PySem.W.nsIn at e
 split at e
 ·rename_i c d es' n' sl q
  have := X _ _ q
  rw [ho] at this
  cases this
  cases hd
  split at e
  ·rename_i en he
   cases e
   rw [← hf]
   unfold nsFind findBy
   rw [← Array.find?_toList, he]
   rfl
  ·split at e <;> cases e
 ·cases e
def excN (C e : Addr) : HO := .ext fun h => ∃ o tp, h.get? e = some o ∧ o.cls = .ref C ∧ o.dict = none ∧ o.data = .fields #[.ref tp, .none, .none, .none, .bool false, .none]
def excD (C e dx : Addr) : HO := .ext fun h => ∃ o tp, h.get? e = some o ∧ o.cls = .ref C ∧ o.dict = some dx ∧ o.data = .fields #[.ref tp, .none, .none, .none, .bool false, .none]
theorem excN_ok {P : Program} {w : World} {H : Hp} {h : Heap} {C e : Addr} {o : Obj} {tp : Addr} (ho : h.get? e = some o) (hc : o.cls = .ref C) (hd : o.dict = none) (hf : o.data = .fields #[.ref tp, .none, .none, .none, .bool false, .none]) : ObjOk P w H h e (excN C e) :=
 ⟨⟨o, tp, ho, hc, hd, hf⟩, ⟨o, ho⟩, fun h1 h2 ⟨u, t, a, b⟩ k => ⟨u, t, k _ a, b⟩⟩
theorem excD_ok {P : Program} {w : World} {H : Hp} {h : Heap} {C e dx : Addr} {o : Obj} {tp : Addr} (ho : h.get? e = some o) (hc : o.cls = .ref C) (hd : o.dict = some dx) (hf : o.data = .fields #[.ref tp, .none, .none, .none, .bool false, .none]) : ObjOk P w H h e (excD C e dx) :=
 ⟨⟨o, tp, ho, hc, hd, hf⟩, ⟨o, ho⟩, fun h1 h2 ⟨u, t, a, b⟩ k => ⟨u, t, k _ a, b⟩⟩
def hide (H : Hp) (e : Addr) : Hp := fun b => if b = e then none else H b
theorem hide_same {H : Hp} {e : Addr} : hide H e e = none := if_pos rfl
theorem hide_ne {H : Hp} {e b : Addr} (n : b ≠ e) : hide H e b = H b := if_neg n
def excII (K : PySem.W.Frag) (C B fI : Addr) : Bool := match K.lookup C with
 | some ⟨.type "type", _, .cls cd, sl⟩ => (match cd.mro, sl.toList with
  | .ref C' :: bm, [_, _, _, _, some (.builtin n), _] => C' == C && n == "ValueError.__new__" && !cd.hasDel && (bm == .ref B :: PySem.W.bmV) && cd.hasDict && PySem.W.tailIn K PySem.W.bmV bm && PySem.W.nsOkIn K cd.ns && PySem.W.nsIn K cd.ns "__init__" == some (some (.ref fI))
  | _, _ => false)
 | _ => false
theorem exc_objI {K : PySem.W.Frag} {C B fI : Addr} {h : Heap} (kin : K.In h) (q : excII K C B fI = true) :
  ∃ (Na : Addr) (nm qn : Str) (bs : List Value) (sn : List Str) (sub : List Value) (ab : Bool) (col : Option Bool) (dd : Option Addr) (k0 k1 k2 k3 k5 : Option Value) (mN : Str → Option Value),
   h.get? C = some (excClassObj nm qn C Na bs (.ref B :: PySem.W.bmV) true sn sub ab col dd k0 k1 k2 k3 k5 "ValueError.__new__") ∧ h.Ns Na mN ∧ mN "__init__" = some (.ref fI) ∧ OwnTail h PySem.W.bmV (.ref B :: PySem.W.bmV) := by
 unfold excII at q
 split at q
 case h_2 => cases q
 case h_1 dd cl sl look =>
  split at q
  case h_2 => cases q
  case h_1 C2 bm k0 k1 k2 k3 nid k5 mro slots =>
   simp only [Bool.and_eq_true, beq_iff_eq, Bool.not_eq_true'] at q
   obtain ⟨⟨⟨⟨⟨⟨⟨q1, q2⟩, q3⟩, q4⟩, q5⟩, q6⟩, q7⟩, q8⟩ := q
   subst q1; subst q2; subst q4
   have there := kin _ _ look
   have own := PySem.W.tail_of_in kin q6
   have ns : h.Ns cl.ns (h.nsMap cl.ns) := .of_isNs (PySem.W.isNs_of_in kin q7)
   have no := ns_some kin ns q8
   cases cl
   have esl : sl = #[k0, k1, k2, k3, some (.builtin "ValueError.__new__"), k5] := Array.toList_inj.mp slots
   simp only at mro q3 q5 own ns no
   subst esl
   rw [mro, q3, q5] at there
   exact ⟨_, _, _, _, _, _, _, _, dd, k0, k1, k2, k3, k5, _, there, ns, no, own⟩
section
variable {X : Cx} {pins : List (Addr × Obj)} {σ : L2.St} {H : Hp} {s : Shared}
theorem untrack {e : Addr} {φ : Heap → Prop} (I : Inv X pins σ H s) (q : H e = some (.ext φ)) : Inv X pins σ (hide H e) s := by
 have ne : ∀ b u, H b = some u → u ≠ .ext φ → b ≠ e := fun b u h1 h2 z => by rw [z, q] at h1; exact h2 (Option.some.inj h1).symm
 refine ⟨I.ok, I.os, I.bare, ⟨I.base.keep, I.base.slot, fun b ob e1 n hx => ?_, I.base.there, fun b xs e1 => ?_, fun b ob u e1 => ?_, fun b ps e1 => ?_⟩, I.loc, I.cell, ?_, fun x c e1 => ?_, fun p hp => ?_, fun b u e1 => ?_, I.len⟩
 ·unfold hide; split
  ·rfl
  ·exact I.base.free b ob e1 n hx
 ·have z := I.base.tups b xs e1
  rw [hide_ne (ne b _ z (by intro h; cases h))]; exact z
 ·have z := I.base.frzs b ob u e1
  rw [hide_ne (ne b _ z (by intro h; cases h))]; exact z
 ·obtain ⟨more, z⟩ := I.base.tbls b ps e1
  exact ⟨more, by rw [hide_ne (ne b _ z (by intro h; cases h))]; exact z⟩
 ·unfold hide; split
  ·rfl
  ·exact I.free
 ·unfold hide; split
  ·rfl
  ·exact I.freeC x c e1
 ·obtain ⟨a, b, c⟩ := I.pin p hp
  refine ⟨a, ?_, c⟩
  unfold hide; split
  ·rfl
  ·exact b
 ·by_cases hb : b = e
  ·rw [hb, hide_same] at e1; cases e1
  ·rw [hide_ne hb] at e1
   exact (I.hok b u e1).stay (fun c v _ z => z) (fun c z => by rw [hide_ne (ne c _ z (by intro h; cases h))]; exact z) fun c xs z => by rw [hide_ne (ne c _ z (by intro h; cases h))]; exact z
def tSupI (C : Addr) (t : TA) : TE := fun σ H Q => t σ H fun vs H1 => ∃ e ys, vs = .ref e :: ys ∧ ys.length ≤ 100 ∧ H1 e = some (excN C e) ∧ Q .non H1
theorem upd_id {H : Hp} {e : Addr} {o : HO} (h : H e = some o) : upd H e o = H := by
 funext b
 by_cases hb : b = e
 ·rw [hb, upd_same, h]
 ·rw [upd_ne hb]
theorem pe_supI {C B fI : Addr} {x : Str} {np apos pos : Pos} {a : Expr} {es : List Expr} {t : TA} {pl : Sem Bool} (qC : excII X.K C B fI = true) (hg : Gl X x) (hm : X.mg x = some (.ref B)) (hgB : PySem.W.specialIn X.K (.ref B) "__getattribute__" = some (some (.builtin "type.__getattribute__")))
  (hrB : PySem.W.readsIn X.K B (.type "type") = true) (hfB : PySem.W.findCls X.K (.ref B) (.type "type") "__init__" = some (.val (.builtin "ValueError.__init__"))) (ha : PA X (a :: es) t)
  (hd : (x == ("__debug__" : Str)) = false := by decide) (he : starEach (a :: es) X.env = (false, eval a X.env) :: starEach es X.env := by rfl) (hpl : (backTo pos (starEach es X.env)).any (·.1) = false := by rfl)
  (ht : eval (.Call (.Attribute (.Name x np) "__init__" apos) (a :: es) [] pos) X.env = (do
   let ov ← eval (.Name x np) X.env
   standAt apos.atName
   let (f, first) ← holding [ov] (getMethod ov "__init__" pl)
   callWith pos f first (backTo pos (starEach (a :: es) X.env)) (backToKw pos (keywordEach [] X.env))) := by rfl) :
  PE X (.Call (.Attribute (.Name x np) "__init__" apos) (a :: es) [] pos) (tSupI C t) := by
 intro pins s σ H Q I h
 refine PySem.W.methodCall_KW (pl := pl) (ld_glob I hg hm ?_ hd) ht
 refine PySem.W.method_cls I.kIn hgB (PySem.W.cls_value (mc := .type "type") I.kIn hrB hfB rfl ?_)
 have I0 : Inv X pins σ H { s with toks := s.toks + 1 } := I.tok _
 refine PyProof.Rows.callWith_builtin1 (thn (ha pos pins _ σ H _ I0 h) fun us s1 ⟨vs, H1, I1, r1, q1⟩ => ?_) he hpl
 obtain ⟨e, ys, rfl, hl, h1, hq⟩ := q1
 cases r1 with
 | cons ra rb =>
  obtain rfl := (show _ = Value.ref e from ra)
  obtain ⟨Na, nm, qn, bs, sn, sub, ab, col, dd, k0, k1, k2, k3, k5, mN, hC, hN, hi, TL⟩ := exc_objI I1.kIn qC
  obtain ⟨⟨o, tp, ho, hc, hdn, hf⟩, _⟩ := I1.hok e _ h1
  obtain ⟨hp, g, d, tk, os⟩ := s1
  refine PySem.W.base_init TL hC ho hc hf (by rw [← rb.length, sizeLine_eq]; omega) fun h' tp' k1 k2 k3 => ?_
  have I2 := I1.write (x := e) (e := e) (o := excN C e) (h' := h') (t' := tk) (by rw [h1]; exact True.intro) (.inl rfl) k1 ⟨_, k3⟩ (excN_ok k3 hc hdn rfl)
  rw [upd_id h1] at I2
  exact ⟨.non, H1, I2, rfl, hq⟩
def sFldX (C : Addr) (ta tv : TE) (f : Str) : TS := fun D σ H => tv σ H fun y H1 => ta σ H1 fun x H2 => ∃ e, x = .ref e ∧ H2 e = some (excN C e) ∧ ∀ dx, H2 dx = none → dx ≠ e → D.nx σ (upd (upd H2 e (excD C e dx)) dx (.xd [(f, y)]))
theorem ps_fldX {C B fI : Addr} {o value : Expr} {f : Str} {pos pos' : Pos} {ta tv : TE} (qC : excII X.K C B fI = true) (hsa : PySem.W.findIn X.K (.ref C) "__setattr__" = some (some (.builtin "object.__setattr__"))) (hf : PySem.W.findIn X.K (.ref C) f = some none) (hex : X.ex = [])
  (ha : PE X o ta) (hv : PE X value tv) (hs : swapsWith value (some (.Attribute o f pos')) pos.line X.env = pure false) : PS X (.Assign [.Attribute o f pos'] value pos) (sFldX C ta tv f) := by
 intro pins s σ H D I h
 refine plainObj_wpAny_Assign_Attribute (thn (hv pins s σ H _ I h) fun u s1 ⟨y, H1, I1, ry, q⟩ => thn (ha pins s1 σ H1 _ I1 q) fun ov s2 ⟨x, H2, I2, rx, e, ex, h2, q2⟩ => ?_) hs
 subst ex
 obtain rfl : ov = Value.ref e := rx
 obtain ⟨Na, nm, qn, bs, sn, sub, ab, col, dd, k0, k1, k2, k3, k5, mN, hC, hN, hi, TL⟩ := exc_objI I2.kIn qC
 obtain ⟨⟨ob, tp, ho, hc, hdn, hfl⟩, _⟩ := I2.hok e _ h2
 obtain ⟨hp, g, d, tk, os⟩ := s2
 refine PySem.W.xset_attr I2.kIn hC hsa hf ho hc (fun c z => by rw [hfl] at z; cases z) hdn fun h' dx tk' k1 k2 k3 k4 k5 => ?_
 have I3 := I2.write (x := e) (e := e) (o := excD C e dx) (h' := h') (t' := tk') (by rw [h2]; exact True.intro) (.inl rfl) k1 ⟨_, k4⟩ (excD_ok k4 hc rfl hfl)
 have hnx : H2 dx = none := HOk.none I2.hok k2
 have I4 : Inv X pins σ (upd (upd H2 e (excD C e dx)) dx (.xd [(f, y)])) ⟨h', g, d, tk', os⟩ := track I2 I3 hex k2 (by rw [upd_ne k3]; exact hnx) ⟨_, k5, fun z => by
  show RelO (List.lookup z [(f, y)]) (if z = f then some u else none)
  by_cases hz : z = f
  ·subst hz; rw [if_pos rfl]; simp only [List.lookup, beq_self_eq_true]; exact ry
  ·rw [if_neg hz]
   have : (z == f) = false := by simpa using hz
   simp only [List.lookup, this]; exact True.intro⟩
 exact ⟨σ, _, I4, q2 dx hnx k3⟩
end
end TX
namespace TX
open PySem PySem.Spec PyProof.Rows L2
section
variable {P : Program} {w : World} {K : PySem.W.Frag} {mg : Str → Option Value} {base : Heap} {N : List Str} {qual : Str} {scope : Scope} {f : Addr} {cd : Value} {A : Around} {outer : List Env} {s₀ : Shared} {H₀ : Hp} {E : XK} {C : Addr}
theorem init_leaves {pins : List (Addr × Obj)} {σ : L2.St} {H : Hp} {s : Shared} {e dx : Addr} (I : Inv (cx1 C P w K mg base N qual scope f cd A outer s₀ H₀ E) pins σ H s) (q : H e = some (excD C e dx)) (e0 : s₀.heap.get? e = none) (hE : E (.ref C) none (hide H e)) :
  (cx1 C P w K mg base N qual scope f cd A outer s₀ H₀ E).xe (.ref e) s := by
 have hin : ∀ env ∈ (cx1 C P w K mg base N qual scope f cd A outer s₀ H₀ E).stack, ∀ b, env.frame = some b → b ∈ [e] ++ frs (cx1 C P w K mg base N qual scope f cd A outer s₀ H₀ E).stack := fun env he b hb => List.mem_append_right _ (List.mem_filterMap.mpr ⟨env, he, hb⟩)
 have I' := untrack (φ := _) I q
 obtain ⟨⟨o, tp, ho, hc, hd, hf⟩, _⟩ := I.hok e _ q
 have hex : ∀ b ∈ [e], hide H e b = none ∧ s₀.heap.get? b = none := fun b hb => by
  obtain rfl := List.mem_singleton.mp hb
  exact ⟨hide_same, e0⟩
 refine wpAny_leaving_firstW (base := PySem.W.hideAll s.heap ([e] ++ frs (cx1 C P w K mg base N qual scope f cd A outer s₀ H₀ E).stack)) I.ok.frames (PySem.W.funFrames_hide I.stack hin) rfl ho (fun b o q => PySem.W.of_hideAll _ q) (PySem.W.hideAll_none _ (by simp)) hf rfl rfl fun h2 L => ?_
 obtain ⟨y1, y2, y4, us⟩ := L
 refine left (ex := [e]) (h1 := s.heap) I' rfl rfl (fun b o q _ => q) y1 us hex ?_ hE
 refine fly_of (h := s.heap) (ex := [e]) (l := (cx1 C P w K mg base N qual scope f cd A outer s₀ H₀ E).stack) rfl ?_ (hc ▸ y4) hide_same hex e0 (fun b q => HOk.none I'.hok q) (there0 I')
 exact (PySem.W.funFrames_hide I.stack hin).of_keeps fun b o q hn => by
  obtain ⟨sl, z⟩ := us b o q hn
  exact ⟨_, z, rfl⟩
def tRaiseI (E : XK) (C : Addr) (sp : Sp) (ta : TE) : TS := fun _ σ H => ta σ H fun y H1 => ∀ e, H1 e = none → sp [.ref e, y] (upd H1 e (excN C e)) (fun v H2 => v = .non ∧ ∃ dx, H2 e = some (excD C e dx) ∧ E (.ref C) none (hide H2 e)) fun _ _ _ => False
theorem ps_raiseI {x : Str} {np cpos pos : Pos} {a : Expr} {ta : TE} {k : Nat} {B fI : Addr} {fd : FuncData} {ps : List Str} {sp : Sp} (q : excII K C B fI = true) (hfn : PySem.W.isFn K (.ref fI) = true) (F : FnOk P w K mg base CX0 k fI fd ps sp) (hr : Room (k + 1) (cx1 C P w K mg base N qual scope f cd A outer s₀ H₀ E).A) (hb : Binds K fd ps [])
  (hg : Gl (cx1 C P w K mg base N qual scope f cd A outer s₀ H₀ E) x) (hm : mg x = some (.ref C)) (ha : PE (cx1 C P w K mg base N qual scope f cd A outer s₀ H₀ E) a ta)
  (hd : (x == ("__debug__" : Str)) = false := by decide) (hs : starEach [a] (cx1 C P w K mg base N qual scope f cd A outer s₀ H₀ E).env = [(false, eval a (cx1 C P w K mg base N qual scope f cd A outer s₀ H₀ E).env)] := by rfl) :
  PS (cx1 C P w K mg base N qual scope f cd A outer s₀ H₀ E) (.Raise (some (.Call (.Name x np) [a] [] cpos)) none pos) (tRaiseI E C sp ta) := by
 intro pins s σ H D I h
 obtain ⟨Na, nm, qn, bs, sn, sub, ab, col, dd, k0, k1, k2, k3, k5, mN, hC, hN, hi, TL⟩ := exc_objI I.mod.kin q
 refine raise_init (C := C) (nm := nm) (q := qn) (N := Na) (bs := bs) (bm := .ref B :: PySem.W.bmV) (hdct := true) (sn := sn) (sub := sub) (ab := ab) (col := col) (dd := dd) (k0 := k0) (k1 := k1) (k2 := k2) (k3 := k3) (k5 := k5) (fI := fI) PySem.F.excBase_ValueError (by decide) PySem.F.excBase_ValueError (mN := mN) (by rw [List.contains_cons]; simp) hr.hd (by rw [hs]; rfl) hi (ld_glob I hg hm ⟨rfl, ?_⟩ hd)
 rw [hs]
 refine Calls.evalArgs_plain (Calls.spliced_cons (thn (ha pins s σ H _ I h) fun v s1 ⟨y, H1, I1, r1, q1⟩ => Calls.spliced_nil ?_))
 have hfo : ∃ oI, s1.heap.get? fI = some oI ∧ oI.cls = .type "function" := by
  have z := beq_iff_eq.mp hfn
  obtain ⟨o, ho, hc⟩ := Option.map_eq_some_iff.mp z
  exact ⟨o, I1.kIn _ _ ho, hc⟩
 refine ⟨rfl, (by show 1 ≤ sizeLine; decide), I1.bk _ _ hC, hN.keeps I1.bk, TL.keeps I1.bk, hfo, fun h' e hx => ?_⟩
 have hne : H1 e = none := HOk.none I1.hok hx.new
 obtain ⟨tp, htp, _, _⟩ := hx.there
 have Ik : Inv (cx1 C P w K mg base N qual scope f cd A outer s₀ H₀ E) pins σ H1 { s1 with heap := h' } := I1.kept (t' := s1.toks) hx.keeps
 have I2 : Inv (cx1 C P w K mg base N qual scope f cd A outer s₀ H₀ E) pins σ (upd H1 e (excN C e)) { s1 with heap := h' } := track I1 Ik rfl hx.new hne (excN_ok htp rfl rfl rfl)
 have hsp := q1 e hne
 have e0 : s₀.heap.get? e = none := by
  cases z : s₀.heap.get? e with
  | none => rfl
  | some o => obtain ⟨o', z'⟩ := there0 I1 e o z; rw [hx.new] at z'; cases z'
 have r2 : Vals [.ref e, y] [Value.ref e, v] := .cons rfl (.cons r1 .nil)
 have hl : [Value.ref e, v].length = ps.length := by rw [← r2.length]; exact F.len _ _ _ _ hsp
 refine wpAny_call (codeAny_mono (F.run _ _ _ _ ⟨[Value.ref e, v], []⟩ [Value.ref e, v] _ _ _ (hr.make C [v] []) (I2.env0.make C [v] []) (by simpa using hb _ [Value.ref e, v] I2.kIn (by simpa using hl)) r2 hsp) fun r s3 hq => ?_)
 cases r with
 | error e => exact False.elim hq
 | ok fl =>
  cases fl with
  | next => exact False.elim hq
  | brk => exact False.elim hq
  | cont => exact False.elim hq
  | ret u =>
   obtain ⟨z, H3, I3, r3, rfl, dx, h3, hE⟩ := I2.after hq
   obtain rfl := (show u = Value.none from r3)
   obtain ⟨⟨o, tp', ho, hc, hd', hf⟩, _⟩ := I3.hok e _ h3
   exact ⟨rfl, tp', o, I3.bk _ _ hC, ho, hc, hf, init_leaves I3 h3 e0 hE⟩
end
end TX
namespace TX
open PySem PySem.Spec PyProof.Rows L2
structure XC (K : PySem.W.Frag) (C : Addr) : Prop where
 kt : PySem.W.ktsIn K C "BaseException" = true
 ga : PySem.W.findIn K (.ref C) "__getattribute__" = some (some (.builtin "BaseException.__getattribute__"))
 gt : PySem.W.findIn K (.ref C) "__getattr__" = some none
 cl : (PySem.W.clsIn K C).isSome = true
 ca : PySem.W.findIn K (.ref C) "__class__" = some (some (.builtin "object.__class__"))
 hn : PySem.W.specialIn K (.builtin "object.__class__") "__get__" = some (some (.builtin "getset_descriptor.__get__"))
 tk : PySem.W.takesIn K (.builtin "object.__class__") = some true
 mr : PySem.W.mroIn K C (.type "object") = some true
section
variable {X : Cx}
def rIsX (K : PySem.W.Frag) : List V → Hp → VK → Prop := fun xs H Q => ∃ e c C cv b, xs = [.ref e, c] ∧ (∀ u, RelV c u → u = cv) ∧ H e = some (excO C e) ∧ XC K C ∧ PySem.W.kitOne K (.ref C) cv = some b ∧ Q (.bl b) H
theorem call_isX : CallR X (.builtin "isinstance") (rIsX X.K) := by
 intro pins s σ H xs us Q I r h
 obtain ⟨e, c, C, cv, b, rfl, hc, he, xc, k, q⟩ := h
 obtain ⟨u, w, rfl, rx, rc⟩ := vals2 r
 rw [hc w rc]
 obtain rfl := (show u = Value.ref e from rx)
 exact PySem.W.kia_one (PySem.W.kitx_xc xc.kt xc.ga xc.gt xc.cl xc.ca xc.hn xc.tk xc.mr) I.kIn (excO_look I.hok he) k (fun z => nomatch z) fun tk => ⟨.bl b, H, I.tok tk, rfl, q⟩
theorem bools_of : ∀ {bs : List Bool} {us : List Value}, Vals (bs.map V.bl) us → us = bs.map Value.bool
 | [], _, r => by cases r; rfl
 | b :: bs, _, r => by
  cases r with
  | cons r t => rw [show _ = Value.bool b from r, bools_of t]; rfl
def isB (b : Bool) : Value → Bool
 | .bool a => a == b
 | _ => false
theorem countP_bools (b : Bool) : ∀ bs : List Bool, (bs.map Value.bool).countP (isB b) = bs.count b
 | [] => rfl
 | c :: bs => by rw [List.map_cons, List.countP_cons, List.count_cons, countP_bools b bs]; rfl
def rCountB (K : PySem.W.Frag) : V → List V → Hp → VK → Prop := fun x vs H Q => ∃ (l : Addr) (bs : List Bool) (b : Bool), x = .ref l ∧ vs = [.bl b] ∧ SqL K H l (bs.map V.bl) ∧ Q (.int (bs.count b : Nat)) H
theorem mt_countB : MtM X "list.count" (rCountB X.K) := by
 intro pins s σ H x vs v us Q I rx rv h
 obtain ⟨l, bs, b, rfl, rfl, hH, q⟩ := h
 cases rx
 obtain ⟨u, rfl, ru⟩ := rv.one
 obtain rfl := (show u = Value.bool b from ru)
 obtain ⟨its, r, p, hz'⟩ := I.list hH
 have hi := bools_of r
 obtain ⟨⟨cls, dd, data, sl⟩, ho, hc, n, hd⟩ := id p.isList
 simp only at hc hd
 subst hc hd
 refine call_meets PySem.F.slot_list_count ⟨_, ho, rfl⟩ PySem.F.entry_list_count (PySem.F.args_list_count_2 _ _)
  (SeqAt.list_countAt l its.toArray n dd sl (.bool b) (isB b)) ⟨ho, fun y hy => ?_, ?_⟩
 ·have hy' : y ∈ its := by simpa using hy
  rw [hi] at hy'
  obtain ⟨a, _, rfl⟩ := List.mem_map.mp hy'
  exact SeqAt.EqAt.bool_bool a b
 ·refine ⟨.int (bs.count b : Nat), H, I.tok _, ⟨s.toks, ?_⟩, q⟩
  rw [show its.toArray.toList = its from rfl, hi, countP_bools]
theorem ne_of_lt_idxB : ∀ {bs : List Bool} {b : Bool} {j : Nat} (h : j < bs.idxOf b) (hj : j < bs.length), bs[j] ≠ b
 | [], _, _, h, _ => by cases h
 | c :: bs, b, 0, h, _ => fun z => by
  have z' : c = b := z
  subst z'
  simp at h
 | c :: bs, b, j + 1, h, hj => by
  have hb : (c == b) = false := by
   cases e : (c == b) with
   | false => rfl
   | true => rw [List.idxOf_cons, e] at h; simp at h
  rw [List.idxOf_cons, hb] at h
  have := ne_of_lt_idxB (bs := bs) (b := b) (j := j) (by simpa using h) (by simpa using hj)
  simpa using this
def rIndexB (K : PySem.W.Frag) : V → List V → Hp → VK → Prop := fun x vs H Q => ∃ (l : Addr) (bs : List Bool) (b : Bool), x = .ref l ∧ vs = [.bl b] ∧ SqL K H l (bs.map V.bl) ∧ b ∈ bs ∧ bs.length ≤ 1000 ∧ Q (.int (bs.idxOf b : Nat)) H
theorem mt_indexB : MtM X "list.index" (rIndexB X.K) := by
 intro pins s σ H x vs v us Q I rx rv h
 obtain ⟨l, bs, b, rfl, rfl, hH, hk, hz, q⟩ := h
 cases rx
 obtain ⟨u, rfl, ru⟩ := rv.one
 obtain rfl := (show u = Value.bool b from ru)
 obtain ⟨its, r, p, hz'⟩ := I.list hH
 have hi := bools_of r
 subst hi
 obtain ⟨⟨cls, dd, data, sl⟩, ho, hc, n, hd⟩ := id p.isList
 simp only at hc hd
 subst hc hd
 have hj : bs.idxOf b < bs.length := List.idxOf_lt_length_iff.mpr hk
 refine call_meets PySem.F.slot_list_index ⟨_, ho, rfl⟩ PySem.F.entry_list_index (PySem.F.args_list_index_2 _ _)
  (SeqAt.list_indexAt l (bs.map Value.bool).toArray n dd sl (.bool b) (isB b) (bs.idxOf b) (by simpa using hj) (by omega) ?_ ?_) ⟨ho, fun y hy => ?_, ⟨.int (bs.idxOf b : Nat), H, I.tok _, ⟨_, rfl⟩, q⟩⟩
 ·have : (bs.map Value.bool).toArray[bs.idxOf b]'(by simpa using hj) = Value.bool bs[bs.idxOf b] := by simp
  rw [this]
  show (bs[bs.idxOf b] == b) = true
  simpa using List.getElem_idxOf hj
 ·intro j hjs hlt
  have hjb : j < bs.length := by simpa using hjs
  have : (bs.map Value.bool).toArray[j] = Value.bool bs[j] := by simp
  rw [this]
  show (bs[j] == b) = false
  have := ne_of_lt_idxB hlt hjb
  simpa using this
 ·have hy' : y ∈ bs.map Value.bool := by simpa using hy
  obtain ⟨a, _, rfl⟩ := List.mem_map.mp hy'
  exact SeqAt.EqAt.bool_bool a b
end
end TX
namespace TX
open PySem PySem.Spec PyProof.Rows L2
mutual
inductive ExT (X : Cx) : Expr → TE → Prop where
 | int {i : Int} {k : Nat} {p : Pos} : ExT X (.Constant (.int i) k p) (tC (.int i))
 | str {x : Str} {k : Nat} {p : Pos} : ExT X (.Constant (.str x) k p) (tC (.str x))
 | bl {b : Bool} {k : Nat} {p : Pos} : ExT X (.Constant (.bool b) k p) (tC (.bl b))
 | non {k : Nat} {p : Pos} : ExT X (.Constant .none k p) (tC .non)
 | bin {l r : Expr} {o : Operator} {p : Pos} {te : TE} (h : PE X (.BinOp l o r p) te) : ExT X (.BinOp l o r p) te
 | ls {es : List Expr} {p : Pos} {t : TA} (h : ExA X es t) : ExT X (.List es p) (tLst t)
 | tp {es : List Expr} {c : Nat} {p : Pos} {t : TA} (h : ExA X es t) : ExT X (.Tuple es c p) (tTup t)
inductive ExA (X : Cx) : List Expr → TA → Prop where
 | nil : ExA X [] tNil
 | cons {e : Expr} {es : List Expr} {te : TE} {t : TA} (h : ExT X e te) (r : ExA X es t) : ExA X (e :: es) (tCons te t)
end
theorem ExT.star {X : Cx} {e : Expr} {te : TE} (h : ExT X e te) (es : List Expr) : starEach (e :: es) X.env = (false, eval e X.env) :: starEach es X.env := by
 cases h <;> rfl
mutual
theorem ExT.pe {X : Cx} : ∀ {e : Expr} {te : TE}, ExT X e te → PE X e te
 | _, _, .int => pe_int
 | _, _, .str => pe_str
 | _, _, .bl => pe_bl
 | _, _, .non => pe_non
 | _, _, .bin h => h
 | _, _, .ls h => pe_lst (ExA.pa h)
 | _, _, .tp h => pe_tup (ExA.pa h)
theorem ExA.pa {X : Cx} : ∀ {es : List Expr} {t : TA}, ExA X es t → PA X es t
 | _, _, .nil => pa_nil
 | _, _, .cons h r => pa_cons (ExT.pe h) (ExA.pa r) (h.star _)
end
end TX
namespace TX
open PySem PySem.Spec PyProof.Rows L2
section
variable {M : Model} {A : Around} {E : Value → Shared → Prop} {s : Shared}
theorem newEnv_own {scope : Scope} {globals : Addr} {qual : Str} {env : Env} {y0 : Str} {Q : Env → Shared → Prop} (hcf : ∀ n, cellsFrom n scope.names [] = [(y0, n)]) (hpc : ∀ h : Heap, pushCells h scope.names = h.push { cls := .type "cell", data := .cell none })
  (q : Q { scope := scope, locals := s.heap.objs.size, globals := globals, cells := [(y0, s.heap.objs.size + 1)], qual := qual, func := none, code := env.code, frame := env.frame, builtins := env.builtins } { s with heap := (s.heap.push { cls := .type "dict", data := .dict #[] }).push { cls := .type "cell", data := .cell none } }) :
  wpAny M A (newFunctionEnv scope globals [] [] qual none .none (some env)) Q E s := by
 simp only [newFunctionEnv, Option.isSome_some, if_true]
 refine wpAny_bind (wpAny_alloc ?_)
 refine wpAny_bind (wpAny_layCells _ (fun name kind cells => by cases hkc : kind == NameKind.cell <;> simp [hkc]) _ _ _ _ ?_)
 rw [hcf, hpc]
 rw [show ({ s with heap := s.heap.push { cls := .type "dict", data := .dict #[] } } : Shared).heap.objs.size = s.heap.objs.size + 1 from Heap.size_push ..]
 exact wpAny_bind (wpAny_pure (wpAny_pure q))
end
abbrev cxO (X : Cx) (y0 : Str) (scope : Scope) (q C : Addr) (fp : List Addr) (s₂ : Shared) (H₂ : Hp) : Cx where
 prog := X.prog
 w := X.w
 K := X.K
 mg := X.mg
 base := X.base
 A := X.A
 N := [y0]
 s₀ := s₂
 H₀ := H₂
 env := compEnvC scope [(y0, q)] C X.env
 outer := X.stack
 stack := X.stack
 ex := fp
 fn := fun x => x == y0
 calm := X.calm
 pn := X.pn
 xe := fun _ _ => False
section
variable {X : Cx} {pins : List (Addr × Obj)} {σ : L2.St} {H : Hp} {s : Shared}
theorem relabel_one {scope : Scope} {env : Env} {x y0 : Str} (hone : ∀ y ∈ scope.names, y.2 = .cell → y.1 = y0) (hnf : ∀ y ∈ scope.names, y.2 ≠ .free) (h : (relabel scope env).names.lookup x = some .cell ∨ (relabel scope env).names.lookup x = some .free) : x = y0 := by
 have go : ∀ k', (relabel scope env).names.lookup x = some k' → (k' = .cell ∨ k' = .free) → x = y0 := fun k' hk hc => by
  have hm := lookup_mem' hk
  obtain ⟨⟨n, k⟩, hy, e⟩ := List.mem_map.mp hm
  have hkf : (k == NameKind.free) = false := by simpa using hnf _ hy
  dsimp only at e
  rw [hkf, Bool.false_and, Bool.false_and] at e
  rw [if_neg (by decide)] at e
  cases e
  rcases hc with rfl | rfl
  ·exact hone _ hy rfl
  ·exact absurd rfl (hnf _ hy)
 exact h.elim (fun z => go _ z (.inl rfl)) fun z => go _ z (.inr rfl)
theorem Inv.cxOkO {y0 : Str} {scope : Scope} {q C : Addr} {fp : List Addr} (I : Inv X pins σ H s) (hf : ∀ b ∈ fp, FpOk X pins H b) (hob : ∀ b ∈ fp, b < s.heap.objs.size) (hC : s.heap.objs.size ≤ C) (hq : s.heap.objs.size ≤ q)
  (lq : ∀ x c, ([(y0, q)] : List (Str × Addr)).lookup x = some c → x = y0 ∧ c = q) (hkind : scope.kind = .function) (hone : ∀ y ∈ scope.names, y.2 = .cell → y.1 = y0) (hnf : ∀ y ∈ scope.names, y.2 ≠ .free) :
  (cxO X y0 scope q C fp s H).Ok where
 mod := I.mod
 kind := hkind
 glob := I.ok.glob
 blt := I.ok.blt
 above := hC
 inj := fun x y c e1 e2 => (lq x c e1).1.trans (lq y c e2).1.symm
 has := fun x h => by rw [relabel_one hone hnf h]; exact ⟨q, by show List.lookup y0 [(y0, q)] = _; simp [List.lookup]⟩
 cab := fun x c _ e => by rw [(lq x c e).2]; exact hq
 hd := I.ok.hd
 frames := I.ok.frames
 stk := .inl rfl
 exf := fun b hb => ⟨Nat.ne_of_lt (Nat.lt_of_lt_of_le (hob b hb) hC), fun x c e => by rw [(lq x c e).2]; exact Ne.symm (Nat.ne_of_lt (Nat.lt_of_lt_of_le (hob b hb) hq))⟩
 bs := I.bs
 bsz := Nat.le_trans I.ok.bsz I.sz
 noex := fun b o e hb => by
  rcases (hf b hb).2.2.2.1 with z | z
  ·exact I.ok.noex b o e z
  ·exact absurd (Nat.lt_of_lt_of_le (Heap.lt_size e) (Nat.le_trans I.ok.bsz z)) (Nat.lt_irrefl _)
 exfs := fun b hb z => by
  rcases List.mem_cons.mp (I.stkSub b z) with e | z
  ·exact (hf b hb).2.1 e
  ·exact (hf b hb).2.2.1 z
 funs := I.stack
 frf := I.stkFree
theorem comp_own {target iter elt : Expr} {ifs : List Expr} {scope : Scope} {pos p2 : Pos} {y0 : Str} {wi : TI} {g : TG} {tc : TT} {te : TE} {use : Option (Value → Sem Unit)} {Qf : Value → Shared → Prop} {Q : VK}
  (hc : X.calm = true) (hi : PI X target iter wi)
  (hg : ∀ q C fp s₂ H₂, PG (cxO X y0 scope q C fp s₂ H₂) target g)
  (hts : ∀ q C fp s₂ H₂, PTs (cxO X y0 scope q C fp s₂ H₂) ifs tc)
  (he : ∀ q C fp s₂ H₂, PE (cxO X y0 scope q C fp s₂ H₂) elt te)
  (hkind : scope.kind = .function) (hone : ∀ y ∈ scope.names, y.2 = .cell → y.1 = y0) (hnf : ∀ y ∈ scope.names, y.2 ≠ .free) (hnames : ∀ y ∈ scope.names, y.2 = .local → scope.names.lookup y.1 = some .local)
  (hclos : closureFor scope X.env = pure []) (hcf : ∀ n, cellsFrom n scope.names [] = [(y0, n)]) (hpc : ∀ h : Heap, pushCells h scope.names = h.push { cls := .type "cell", data := .cell none })
  (hs : ∀ x, foldedSetIterable iter X.env x = pure x) (I : Inv X pins σ H s) (h : tComp [none] wi g tc te σ H Q)
  (fin : ∀ (C D : Addr) (oC : Obj) (m : Str → Option Value) (H' : Hp) (s' : Shared), Inv X (pins ++ [(C, oC)]) σ H' s' → (∀ h : Heap, h.get? C = some oC → h.Ns C m) → C ≠ D → (C ∈ X.ex ∨ X.s₀.heap.objs.size ≤ C) → (∀ x c, X.env.cells.lookup x = some c → c ≠ C) →
   (∀ p ∈ X.pn ++ pins, p.1 ≠ C) → Q (.ref D) H' → compPost (model X.prog X.w) X.A X.xe use Qf (.ref D) C (.ok .next) s') :
  wpAny (model X.prog X.w) X.A (comprehension (.ListComp elt [⟨target, iter, ifs, 0⟩] scope pos) scope X.env p2 (newList []) false (eval iter X.env) use) Qf X.xe s := by
 refine wpAny_comprehension_free (g := ⟨target, iter, ifs, 0⟩) (gs := []) rfl hs hclos hkind hnames (thn (hi pins s σ H _ I h) fun xv s1 h1 => thn h1 fun itv s2 h2 => ?_)
 obtain ⟨it, fp, tn, J, H2, e, I2, T, st2, f2, W, ⟨m0, w0⟩, turn⟩ := h2
 subst e
 have hob : ∀ b ∈ fp, b < s2.heap.objs.size := fun b hb => let ⟨o, e, _⟩ := T.obj _ _ st2 b hb; Heap.lt_size e
 refine wpAny_newObj_type (newEnv_own hcf hpc ?_)
 dsimp only
 generalize hH2 : s2.heap.push { cls := .type "list", dict := none, data := .seq ([] : List Value).toArray } = G2
 have hC : G2.objs.size = s2.heap.objs.size + 1 := by rw [← hH2, Heap.size_push]
 have hDC : s2.heap.objs.size ≠ G2.objs.size := by rw [hC]; exact Nat.ne_of_lt (Nat.lt_succ_self _)
 have hCle : s2.heap.objs.size ≤ G2.objs.size := by rw [hC]; exact Nat.le_succ _
 have hns₁ : ((G2.push { cls := .type "dict", data := .dict #[] }).push { cls := .type "cell", data := .cell none }).Ns G2.objs.size (fun _ => none) := (Heap.Ns.new G2 (.type "dict")).keeps fun b o e => Heap.get?_push_of_some _ e
 have hq₁ : ((G2.push { cls := .type "dict", data := .dict #[] }).push { cls := .type "cell", data := .cell none }).get? (G2.objs.size + 1) = some { cls := .type "cell", data := .cell none } := by
  have := Heap.get?_push_size (G2.push { cls := .type "dict", data := .dict #[] }) (o := { cls := .type "cell", data := .cell none }) rfl
  rw [Heap.size_push] at this
  exact this
 have keep₁ : ∀ b o, G2.get? b = some o → ((G2.push { cls := .type "dict", data := .dict #[] }).push { cls := .type "cell", data := .cell none }).get? b = some o := fun b o e => Heap.get?_push_of_some _ (Heap.get?_push_of_some _ e)
 generalize (G2.push { cls := .type "dict", data := .dict #[] }).push { cls := .type "cell", data := .cell none } = h₁ at hns₁ hq₁ keep₁ ⊢
 generalize hCC : G2.objs.size = C at hns₁ hq₁ hDC hCle hC ⊢
 generalize hDD : s2.heap.objs.size = D at hDC ⊢
 have hDle : s2.heap.objs.size ≤ D := Nat.le_of_eq hDD
 have hqle : s2.heap.objs.size ≤ C + 1 := Nat.le_succ_of_le hCle
 have hqD : C + 1 ≠ D := by rw [← hDD]; omega
 have hqC : C + 1 ≠ C := Nat.succ_ne_self _
 generalize hqq : C + 1 = q at hq₁ hqle hqD hqC ⊢
 have below : ∀ b, b < s2.heap.objs.size → b ≠ C ∧ b ≠ D := fun b hb => ⟨Nat.ne_of_lt (Nat.lt_of_lt_of_le hb hCle), Nat.ne_of_lt (Nat.lt_of_lt_of_le hb hDle)⟩
 have belowq : ∀ b, b < s2.heap.objs.size → b ≠ q := fun b hb => Nat.ne_of_lt (Nat.lt_of_lt_of_le hb hqle)
 have old : ∀ b o, s2.heap.get? b = some o → h₁.get? b = some o := fun b o e => keep₁ b o (hH2 ▸ Heap.get?_push_of_some _ e)
 have hacc : h₁.get? D = some { cls := .type "list", data := .seq ([] : List Value).toArray } := keep₁ _ _ (hH2 ▸ (by rw [← hDD]; exact Heap.get?_push_size _ rfl))
 have hCn : H2 C = none := I2.hok.fresh hCle
 have hDn : H2 D = none := I2.hok.fresh hDle
 have hqn : H2 q = none := I2.hok.fresh hqle
 have lq : ∀ x c, ([(y0, q)] : List (Str × Addr)).lookup x = some c → x = y0 ∧ c = q := fun x c e => by
  rw [List.lookup_cons] at e
  cases hx : x == y0 with
  | true => rw [hx] at e; cases e; exact ⟨eq_of_beq hx, rfl⟩
  | false => rw [hx] at e; cases e
 have okX : (cxO X y0 scope q C fp s2 H2).Ok := Inv.cxOkO I2 f2 hob hCle hqle lq hkind hone hnf
 have cellLt : ∀ x c, X.env.cells.lookup x = some c → c < s2.heap.objs.size := fun x c e => let ⟨v, o, ho, _⟩ := I2.cell x c e; Heap.lt_size ho
 have notFs : ∀ b, s2.heap.objs.size ≤ b → b ∉ frs X.stack := fun b hb z => by
  rcases List.mem_cons.mp (I2.stkSub b z) with e | z
  ·exact absurd (Nat.lt_of_lt_of_le I2.lt (e ▸ hb)) (Nat.lt_irrefl _)
  ·exact I2.nofs hb z
 have pinOld : ∀ p ∈ X.pn ++ pins, p.1 < s2.heap.objs.size := fun p hp => Heap.lt_size (I2.pin p hp).1
 have pinFs : ∀ p ∈ X.pn ++ pins, p.1 ∉ frs X.stack := fun p hp z => by
  obtain ⟨_, _, n1, n2, _⟩ := I2.pin p hp
  rcases List.mem_cons.mp (I2.stkSub _ z) with e | z
  ·exact n1 e
  ·exact n2 z
 have I0 : Inv (cxO X y0 scope q C fp s2 H2) (pins ++ [(D, { cls := .type "list", data := .seq ([] : List Value).toArray })]) [none] H2 { s2 with heap := h₁ } := by
  refine ⟨okX, rfl, I2.bare, Un.kept old, ⟨_, hns₁, fun k y v e1 e2 e3 => ?_⟩, fun x c e => ?_, hCn, fun x c e => by rw [(lq x c e).2]; exact hqn, fun p hp => ?_, I2.hok.kept old, rfl⟩
  ·match k with
   | 0 => cases e2
   | k + 1 => cases e2
  ·rw [(lq x c e).2]
   exact ⟨none, _, hq₁, rfl⟩
  ·have hp' : p ∈ X.pn ++ (pins ++ [(D, { cls := .type "list", data := .seq ([] : List Value).toArray })]) := hp
   rw [← List.append_assoc] at hp'
   rcases List.mem_append.mp hp' with hp' | hp'
   ·obtain ⟨a1, a2, a3, a4, a5⟩ := I2.pin p hp'
    exact ⟨old _ _ a1, a2, (below _ (pinOld p hp')).1, pinFs p hp', a5⟩
   ·have e : p = (D, { cls := .type "list", data := .seq ([] : List Value).toArray }) := by simpa using hp'
    subst e
    exact ⟨hacc, hDn, hDC, notFs D hDle, fun v z => nomatch z⟩
 have statE : ∀ {H' : Hp} {ob : Obj}, (∀ b ∈ fp, H' b = none) → ∀ b ∈ fp, FpOk (cxO X y0 scope q C fp s2 H2) (pins ++ [(D, ob)]) H' b := fun {H' ob} hn b hb => by
  refine ⟨hn b hb, (below b (hob b hb)).1, okX.exfs b hb, .inl hb, fun x c e => by rw [(lq x c e).2]; exact Ne.symm (belowq b (hob b hb)), fun p hp => ?_⟩
  have hp' : p ∈ X.pn ++ (pins ++ [(D, ob)]) := hp
  rw [← List.append_assoc] at hp'
  rcases List.mem_append.mp hp' with hp' | hp'
  ·exact (f2 b hb).2.2.2.2.2 p hp'
  ·have e : p = (D, ob) := by simpa using hp'
   subst e
   exact Ne.symm (below b (hob b hb)).2
 have loop : ∀ s₃ : Shared, s₃ = { s2 with heap := h₁ } →
   codeAny (model X.prog X.w) X.A (.compLoop (.ListComp elt [⟨target, iter, ifs, 0⟩] scope pos) 0 (.ref it) (.ref D) (compEnvC scope [(y0, q)] C X.env)) (compPost (model X.prog X.w) X.A X.xe use Qf (.ref D) C) s₃ := by
  rintro s₃ rfl
  refine compLoop_any (fun n s' => ∃ (i : Nat) (ys : List V) (us : List Value) (c : Nat) (H' : Hp), Inv (cxO X y0 scope q C fp s2 H2) (pins ++ [(D, { cls := .type "list", data := .seq us.toArray c })]) [none] H' s' ∧
    tn i s'.heap ∧ (∀ b ∈ fp, H' b = none) ∧ Vals ys us ∧ ys.length ≤ sizeLine ∧ W i n ys H') ?_ m0 ⟨0, [], [], _, H2, I0, T.keep _ _ _ st2 fun b _ o e => old b o e, fun b hb => (f2 b hb).1, .nil, Nat.zero_le _, w0⟩
  rintro n s3 ⟨i, ys, us, c, H3, I3, st3, fr3, rv3, hz3, w3⟩
  rcases turn i n ys H3 w3 with ⟨stop, qn⟩ | ⟨go, hz, step⟩
  ·refine thn (T.done (cxO X y0 scope q C fp s2 H2) rfl rfl rfl hc i _ s3 _ H3 (fun _ _ => False) I3 (statE fr3) st3 stop) fun r s4 ⟨hr, I4⟩ => ?_
   subst hr
   obtain ⟨p1, p2, p3, p4, p5⟩ := I4.pin (D, { cls := .type "list", data := .seq us.toArray c }) (List.mem_append_right _ (List.mem_append_right _ (by simp)))
   obtain ⟨m, hnC, _⟩ := I4.loc
   obtain ⟨oC, es, ep, eC, dC, rC⟩ := id hnC
   have HDn : H3 D = none := p2
   have HCn : H3 C = none := I4.free
   have u4 : Un (frs X.stack) fp H2 H3 s2.heap s4.heap := I4.base
   have u5 : Un (frs X.stack) fp H2 (upd H3 D (.lst ys)) s2.heap s4.heap := by
    have nD : ∀ b o, s2.heap.get? b = some o → b ≠ D := fun b o e => (below b (Heap.lt_size e)).2
    have nH : ∀ b o, H2 b = some o → b ≠ D := fun b o e => (below b (I2.hok.lt e)).2
    exact ⟨u4.keep, u4.slot, fun b o e n hx => by rw [upd_ne (nD b o e)]; exact u4.free b o e n hx, u4.there, fun b xs e => by rw [upd_ne (nH b _ e)]; exact u4.tups b xs e,
     fun b o xs e => by rw [upd_ne (nH b _ e)]; exact u4.frzs b o xs e, fun b ps e => by rw [upd_ne (nH b _ e)]; exact u4.tbls b ps e⟩
   have ok5 : HOk X.prog X.w (upd H3 D (.lst ys)) s4.heap := fun b o q => by
    by_cases hb : b = D
    ·subst hb
     rw [upd_same] at q
     cases q
     exact ⟨hz3, us, c, rv3, p1⟩
    ·rw [upd_ne hb] at q
     exact (I4.hok b o q).stay (fun c v _ r => r) (fun c r => by rw [upd_ne (ne_of_none r HDn)]; exact r) fun c xs r => by rw [upd_ne (ne_of_none r HDn)]; exact r
   have I5 : Inv X pins σ (upd H3 D (.lst ys)) s4 := I2.call' I4.os u5 ok5 I4.bare fun b hb => ⟨(f2 b hb).2.2.2.1, (f2 b hb).2.1, (f2 b hb).2.2.2.2.1, (f2 b hb).2.2.2.2.2⟩
   have I6 : Inv X (pins ++ [(C, oC)]) σ (upd H3 D (.lst ys)) s4 := I5.pins_of fun p hp => by
    rcases List.mem_append.mp hp with hp | hp
    ·exact I5.pin p (List.mem_append_right _ hp)
    ·have e : p = (C, oC) := by simpa using hp
     subst e
     refine ⟨eC, by rw [upd_ne (Ne.symm hDC)]; exact HCn, Ne.symm (below _ I2.lt).1, fun z => I2.nofs hCle z, fun v z => ?_⟩
     rw [dC] at z
     cases z
   exact fin C D oC m _ s4 I6 (fun h e => ⟨oC, es, ep, e, dC, rC⟩) (Ne.symm hDC) (.inr (Nat.le_trans I2.sz hCle)) (fun x c e => (below _ (cellLt x c e)).1) (fun p hp => (below _ (pinOld p hp)).1) (qn D HDn)
  ·refine thn (T.item (cxO X y0 scope q C fp s2 H2) rfl rfl rfl hc i _ s3 _ H3 (fun _ _ => False) I3 (statE fr3) st3 go) fun r s4 ⟨u, hr, h4⟩ => ?_
   subst hr
   refine thn h4 fun _ s5 ⟨x, H5, I5, r5, y5, st5, fr5⟩ => ?_
   have I5' := I5.pinned (statE fr5) (T.obj _ _ st5)
   refine thn (hg _ _ _ _ _ _ s5 _ H5 x u _ I5' r5 (step x H5 y5)) fun _ s6 ⟨σ6, H6, I6, kp, q6⟩ => ?_
   refine thn (hts _ _ _ _ _ _ s6 σ6 H6 _ I6 q6) fun ok s7 ⟨H7, I7, q7⟩ => ?_
   have keepTn : ∀ {H8 : Hp} {s8 : Shared} {σ8 : L2.St}, Inv (cxO X y0 scope q C fp s2 H2) (pins ++ [(D, { cls := .type "list", data := .seq us.toArray c })] ++ pinsAt fp s5.heap) σ8 H8 s8 → tn (i + 1) s8.heap ∧ ∀ b ∈ fp, H8 b = none := fun {H8 s8 σ8} I8 =>
    ⟨T.keep _ _ _ st5 fun b hb o e => (I8.pin (b, o) (List.mem_append_right _ (List.mem_append_right _ (mem_pinsAt hb e)))).1, fun b hb => by
     obtain ⟨o, e, d⟩ := T.obj _ _ st5 b hb
     exact (I8.pin (b, o) (List.mem_append_right _ (List.mem_append_right _ (mem_pinsAt hb e)))).2.1⟩
   cases ok with
   | false =>
    simp only [Bool.false_eq_true, if_false] at q7 ⊢
    obtain ⟨m', hm, w7⟩ := q7
    obtain ⟨t7, f7⟩ := keepTn I7
    exact ⟨m', hm, i + 1, ys, us, c, H7, I7.unpinned.weak kp.1.symm kp.2, t7, f7, rv3, hz3, w7⟩
   | true =>
    simp only [if_true] at q7 ⊢
    refine thn (he _ _ _ _ _ _ s7 σ6 H7 _ I7 q7) fun yv s8 ⟨y, H8, I8, r8, m', hm, w8⟩ => ?_
    obtain ⟨t8, f8⟩ := keepTn I8
    have I8' := I8.unpinned
    obtain ⟨p1, p2, p3, p4, p5⟩ := I8'.pin (D, { cls := .type "list", data := .seq us.toArray c }) (List.mem_append_right _ (List.mem_append_right _ (by simp)))
    refine append_at (hsz := by rw [List.size_toArray, ← rv3.length]; exact hz3) p1 fun h9 hs9 hD9 => ?_
    have I8o : Inv (cxO X y0 scope q C fp s2 H2) pins σ6 H8 s8 := I8'.unpinned
    have I9 : Inv (cxO X y0 scope q C fp s2 H2) pins σ6 H8 { s8 with heap := h9 } :=
     I8o.turned (t' := s8.toks) (it := D) (fun b o hb e => hs9.extBut b o hb e) p2 hDC (.inr hDle) (fun x c e => by rw [(lq x c e).2]; exact hqD) fun p hp => (below _ (pinOld p hp)).2
    have I9' : Inv (cxO X y0 scope q C fp s2 H2) (pins ++ [(D, { cls := .type "list", data := .seq (us ++ [yv]).toArray (c + 1) })]) σ6 H8 { s8 with heap := h9 } := I9.pins_of fun p hp => by
     rcases List.mem_append.mp hp with hp | hp
     ·exact I9.pin p (List.mem_append_right _ hp)
     ·have e : p = (D, { cls := .type "list", data := .seq (us ++ [yv]).toArray (c + 1) }) := by simpa using hp
      subst e
      refine ⟨?_, p2, hDC, notFs D hDle, fun v z => nomatch z⟩
      rw [← List.push_toArray]
      exact hD9
    refine ⟨m', hm, i + 1, ys ++ [y], us ++ [yv], c + 1, H8, I9'.weak kp.1.symm kp.2, T.keep _ _ _ t8 fun b hb o e => hs9.extBut b o (below b (hob b hb)).2 e, f8, rv3.append (.cons r8 .nil), ?_, w8⟩
    rw [List.length_append, List.length_singleton]
    exact hz
 exact codeAny_compStart_list (loop _ rfl) (T.self _ 0 _ _ _ (T.keep _ _ _ st2 fun b _ o e => old b o e) (loop _ rfl))
end
section
variable {X : Cx}
theorem ps_setO {target iter elt : Expr} {ifs : List Expr} {scope : Scope} {pos spos py : Pos} {y y0 : Str} {j : Nat} {wi : TI} {g : TG} {tc : TT} {te : TE} (hN : X.N.Nodup) (hj : X.N[j]? = some y) (hy : Loc X.env.scope y) (hc : X.calm = true) (hi : PI X target iter wi)
  (hg : ∀ q C fp s₂ H₂, PG (cxO X y0 scope q C fp s₂ H₂) target g)
  (hts : ∀ q C fp s₂ H₂, PTs (cxO X y0 scope q C fp s₂ H₂) ifs tc)
  (he : ∀ q C fp s₂ H₂, PE (cxO X y0 scope q C fp s₂ H₂) elt te)
  (hkind : scope.kind = .function) (hone : ∀ y ∈ scope.names, y.2 = .cell → y.1 = y0) (hnf : ∀ y ∈ scope.names, y.2 ≠ .free) (hnames : ∀ y ∈ scope.names, y.2 = .local → scope.names.lookup y.1 = some .local)
  (hclos : closureFor scope X.env = pure []) (hcf : ∀ n, cellsFrom n scope.names [] = [(y0, n)]) (hpc : ∀ h : Heap, pushCells h scope.names = h.push { cls := .type "cell", data := .cell none })
  (hsw : swapsWith (.ListComp elt [⟨target, iter, ifs, 0⟩] scope pos) (some (.Name y py)) spos.line X.env = pure true := by rfl)
  (hs : ∀ x, foldedSetIterable iter X.env x = pure x := by intro _; rfl)
  (hf : X.fn y = true ∨ X.env.scope.names.lookup y = some .local := by first | exact .inl rfl | exact .inr rfl | assumption) :
  PS X (.Assign [.Name y py] (.ListComp elt [⟨target, iter, ifs, 0⟩] scope pos) spos) (tSetC j (tComp [none] wi g tc te)) := by
 intro pins s σ H D I h
 rw [exec_Assign_Name_used _ _ _ _ hsw]
 refine wpAny_bind (wpAny_standAt (wpAny_bind ?_))
 show wpAny _ _ (do let _ ← comprehension (.ListComp elt [⟨target, iter, ifs, 0⟩] scope pos) scope X.env _ (newList []) false (eval iter X.env) (some (assign (.Name y py) X.env))) _ _ s
 refine wpAny_bind (wpAny_mono (comp_own (use := some (assign (.Name y py) X.env)) (Qf := fun _ s' => SP X pins D .next s') hc hi hg hts he hkind hone hnf hnames hclos hcf hpc hs I h fun C E oC m H' s' I' hn hCD h1 h2 h3 q => ?_)
  (fun _ s' hq => wpAny_pure (wpAny_pure hq)) fun _ _ e => e)
 refine thn (pg_name (pos := py) hN hj hy hf _ s' σ H' (.ref E) (.ref E) (fun σ' H'' => σ' = σ.set j (some (.ref E)) ∧ H'' = H') I' rfl ⟨rfl, rfl⟩) fun _ s'' ⟨σ', H'', I'', e1, e2⟩ => ?_
 subst e1 e2
 have pC := I''.pin (C, oC) (List.mem_append_right _ (List.mem_append_right _ (by simp)))
 exact ⟨m, hn _ pC.1, fun h' hs' => ⟨_, _, I''.unpinned.turned (t' := s''.toks) (it := C) (fun b o hb e => hs'.extBut b o hb e) pC.2.1 pC.2.2.1 h1 h2 h3, q⟩⟩
end
end TX
namespace Tp
open PySem PySem.Spec PyProof.Rows L2 TX TM TK
def top (i : Nat) : Stmt := PySem.Challenge.pw_tentpairs_k07_refused.main.body.getD i (.Pass ⟨0, 0, 0, 0⟩)
abbrev s_NoneSteady___init__ : Stmt := inClass (top 5) 0
abbrev s_is_camper : Stmt := top 9
abbrev s_check_wishes : Stmt := top 10
abbrev s_check_lists : Stmt := top 11
abbrev s_Camp___init__ : Stmt := inClass (top 12) 0
abbrev s_Camp_would_share : Stmt := inClass (top 12) 2
abbrev s_Camp_would_rather : Stmt := inClass (top 12) 3
abbrev s_check_pair : Stmt := top 13
abbrev s_partners : Stmt := top 14
abbrev s_would_break : Stmt := top 15
abbrev s_breakers : Stmt := top 16
abbrev s_breaking : Stmt := top 17
abbrev s_would_all_share : Stmt := top 20
abbrev s_would_all_rather : Stmt := top 21
abbrev s_is_good_ring : Stmt := top 22
abbrev s_stand_once : Stmt := top 23
abbrev s_last_ones : Stmt := top 24
abbrev s_are_good : Stmt := top 25
abbrev s_tell_none : Stmt := top 26
abbrev s_with_free : Stmt := top 27
abbrev s_with_begun : Stmt := top 28
abbrev s_rings_of : Stmt := top 29
abbrev s_ways_to_pair : Stmt := top 31
abbrev s_all_steady : Stmt := top 32
abbrev s_steady_or_refused : Stmt := top 33
abbrev s_mates : Stmt := top 34
abbrev s_law_cell_at : Stmt := top 36
abbrev s_law_sort : Stmt := top 38
abbrev s_law_asked : Stmt := top 39
abbrev s_law : Stmt := top 40
theorem sc_NoneSteady___init__ : FnScope ["self", "rings"] ["self", "rings"] (defScope s_NoneSteady___init__) := ⟨rfl, rfl, rfl, by decide +kernel, rfl, by decide +kernel, by decide +kernel⟩
theorem sc_is_camper : FnScope ["value", "size"] ["value", "size"] (defScope s_is_camper) := ⟨rfl, rfl, rfl, by decide +kernel, rfl, by decide +kernel, by decide +kernel⟩
theorem sc_check_wishes : FnScope ["camper", "wishes", "size", "seen", "other"] ["camper", "wishes", "size"] (defScope s_check_wishes) := ⟨rfl, rfl, rfl, by decide +kernel, rfl, by decide +kernel, by decide +kernel⟩
theorem sc_check_lists : FnScope ["lists", "camper", "wishes"] ["lists"] (defScope s_check_lists) := ⟨rfl, rfl, rfl, by decide +kernel, rfl, by decide +kernel, by decide +kernel⟩
theorem sc_Camp___init__ : FnScope ["self", "lists"] ["self", "lists"] (defScope s_Camp___init__) := ⟨rfl, rfl, rfl, by decide +kernel, rfl, by decide +kernel, by decide +kernel⟩
theorem sc_Camp_would_share : FnScope ["self", "one", "other"] ["self", "one", "other"] (defScope s_Camp_would_share) := ⟨rfl, rfl, rfl, by decide +kernel, rfl, by decide +kernel, by decide +kernel⟩
theorem sc_Camp_would_rather : FnScope ["self", "camper", "other", "had", "wishes"] ["self", "camper", "other", "had"] (defScope s_Camp_would_rather) := ⟨rfl, rfl, rfl, by decide +kernel, rfl, by decide +kernel, by decide +kernel⟩
theorem sc_check_pair : FnScope ["camp", "pair", "camper"] ["camp", "pair"] (defScope s_check_pair) := ⟨rfl, rfl, rfl, by decide +kernel, rfl, by decide +kernel, by decide +kernel⟩
theorem sc_partners : FnScope ["camp", "pairs", "found", "pair"] ["camp", "pairs"] (defScope s_partners) := ⟨rfl, rfl, rfl, by decide +kernel, rfl, by decide +kernel, by decide +kernel⟩
theorem sc_would_break : FnScope ["camp", "having", "one", "other"] ["camp", "having", "one", "other"] (defScope s_would_break) := ⟨rfl, rfl, rfl, by decide +kernel, rfl, by decide +kernel, by decide +kernel⟩
theorem sc_breakers : FnScope ["camp", "having", "found", "lesser", "greater"] ["camp", "having"] (defScope s_breakers) := ⟨rfl, rfl, rfl, by decide +kernel, rfl, by decide +kernel, by decide +kernel⟩
theorem sc_breaking : FnScope ["camp", "pairs"] ["camp", "pairs"] (defScope s_breaking) := ⟨rfl, rfl, rfl, by decide +kernel, rfl, by decide +kernel, by decide +kernel⟩
theorem sc_would_all_share : FnScope ["camp", "ring"] ["camp", "ring"] (defScope s_would_all_share) := ⟨rfl, rfl, rfl, by decide +kernel, rfl, by decide +kernel, by decide +kernel⟩
theorem sc_would_all_rather : FnScope ["camp", "ring"] ["camp", "ring"] (defScope s_would_all_rather) := ⟨rfl, rfl, rfl, by decide +kernel, rfl, by decide +kernel, by decide +kernel⟩
theorem sc_is_good_ring : FnScope ["camp", "ring"] ["camp", "ring"] (defScope s_is_good_ring) := ⟨rfl, rfl, rfl, by decide +kernel, rfl, by decide +kernel, by decide +kernel⟩
theorem sc_stand_once : FnScope ["camp", "rings", "standing", "ring"] ["camp", "rings"] (defScope s_stand_once) := ⟨rfl, rfl, rfl, by decide +kernel, rfl, by decide +kernel, by decide +kernel⟩
theorem sc_last_ones : FnScope ["rings", "found", "ring", "place", "camper"] ["rings"] (defScope s_last_ones) := ⟨rfl, rfl, rfl, by decide +kernel, rfl, by decide +kernel, by decide +kernel⟩
theorem sc_are_good : FnScope ["camp", "rings"] ["camp", "rings"] (defScope s_are_good) := ⟨rfl, rfl, rfl, by decide +kernel, rfl, by decide +kernel, by decide +kernel⟩
theorem sc_tell_none : FnScope ["camp", "rings"] ["camp", "rings"] (defScope s_tell_none) := ⟨rfl, rfl, rfl, by decide +kernel, rfl, by decide +kernel, by decide +kernel⟩
theorem sc_with_free : FnScope ["camp", "closed", "free"] ["camp", "closed", "free"] (defScope s_with_free) := ⟨rfl, rfl, rfl, by decide +kernel, rfl, by decide +kernel, by decide +kernel⟩
theorem sc_with_begun : FnScope ["camp", "closed", "ring", "free", "found", "other", "left"] ["camp", "closed", "ring", "free"] (defScope s_with_begun) := ⟨rfl, rfl, rfl, by decide +kernel, rfl, by decide +kernel, by decide +kernel⟩
theorem sc_rings_of : FnScope ["camp"] ["camp"] (defScope s_rings_of) := ⟨rfl, rfl, rfl, by decide +kernel, rfl, by decide +kernel, by decide +kernel⟩
theorem sc_ways_to_pair : FnScope ["camp", "free", "first", "others", "found", "mate", "left"] ["camp", "free"] (defScope s_ways_to_pair) := ⟨rfl, rfl, rfl, by decide +kernel, rfl, by decide +kernel, by decide +kernel⟩
theorem sc_all_steady : FnScope ["camp", "ways"] ["camp"] (defScope s_all_steady) := ⟨rfl, rfl, rfl, by decide +kernel, rfl, by decide +kernel, by decide +kernel⟩
theorem sc_steady_or_refused : FnScope ["camp", "found"] ["camp"] (defScope s_steady_or_refused) := ⟨rfl, rfl, rfl, by decide +kernel, rfl, by decide +kernel, by decide +kernel⟩
theorem sc_mates : FnScope ["camp", "camper", "found", "pairs"] ["camp", "camper"] (defScope s_mates) := ⟨rfl, rfl, rfl, by decide +kernel, rfl, by decide +kernel, by decide +kernel⟩
theorem sc_law_cell_at : FnScope ["_law_script", "_law_k"] ["_law_script", "_law_k"] (defScope s_law_cell_at) := ⟨rfl, rfl, rfl, by decide +kernel, rfl, by decide +kernel, by decide +kernel⟩
theorem sc_law_sort : FnScope ["_law_error", "_law_kinds"] ["_law_error"] (defScope s_law_sort) := ⟨rfl, rfl, rfl, by decide +kernel, rfl, by decide +kernel, by decide +kernel⟩
theorem sc_law_asked : FnScope ["_law_door", "_law_thing", "_law_error"] ["_law_door", "_law_thing"] (defScope s_law_asked) := ⟨rfl, rfl, rfl, by decide +kernel, rfl, by decide +kernel, by decide +kernel⟩
theorem sc_law : FnScope ["_law_script", "_law_more", "_law_lists", "_law_thing", "_law_pairs", "_law_whole"] ["_law_script"] (defScope s_law) := ⟨rfl, rfl, rfl, by decide +kernel, rfl, by decide +kernel, by decide +kernel⟩
structure Adr where
 C : Addr
 X_BadCamp : Addr
 X_BadPairs : Addr
 X_NoCamper : Addr
 X_CampError : Addr
 X_NoneSteady : Addr
 X_BadText : Addr
 tT : Addr
 NoneSteady___init__ : Addr
 fd_NoneSteady___init__ : FuncData
 is_camper : Addr
 fd_is_camper : FuncData
 check_wishes : Addr
 fd_check_wishes : FuncData
 check_lists : Addr
 fd_check_lists : FuncData
 Camp___init__ : Addr
 fd_Camp___init__ : FuncData
 Camp_would_share : Addr
 fd_Camp_would_share : FuncData
 Camp_would_rather : Addr
 fd_Camp_would_rather : FuncData
 check_pair : Addr
 fd_check_pair : FuncData
 partners : Addr
 fd_partners : FuncData
 would_break : Addr
 fd_would_break : FuncData
 breakers : Addr
 fd_breakers : FuncData
 breaking : Addr
 fd_breaking : FuncData
 would_all_share : Addr
 fd_would_all_share : FuncData
 would_all_rather : Addr
 fd_would_all_rather : FuncData
 is_good_ring : Addr
 fd_is_good_ring : FuncData
 stand_once : Addr
 fd_stand_once : FuncData
 last_ones : Addr
 fd_last_ones : FuncData
 are_good : Addr
 fd_are_good : FuncData
 tell_none : Addr
 fd_tell_none : FuncData
 with_free : Addr
 fd_with_free : FuncData
 with_begun : Addr
 fd_with_begun : FuncData
 rings_of : Addr
 fd_rings_of : FuncData
 ways_to_pair : Addr
 fd_ways_to_pair : FuncData
 all_steady : Addr
 fd_all_steady : FuncData
 steady_or_refused : Addr
 fd_steady_or_refused : FuncData
 mates : Addr
 fd_mates : FuncData
 law_cell_at : Addr
 fd_law_cell_at : FuncData
 law_sort : Addr
 fd_law_sort : FuncData
 law_asked : Addr
 fd_law_asked : FuncData
 law : Addr
 fd_law : FuncData
 tM : Tok
structure Txt (K : PySem.W.Frag) (mg : Str → Option Value) (t : Adr) : Prop where
 cl : Cls K t.C
 n_size : NoAttr K t.C "size"
 n_wishes : NoAttr K t.C "wishes"
 mk_Camp : Mk K t.C t.Camp___init__
 mg_Camp : mg "Camp" = some (.ref t.C)
 mg_M : mg "MOST_CAMPERS" = some (.int 6 t.tM)
 b_len : mg "len" = none
 b_list : mg "list" = none
 b_isinstance : mg "isinstance" = none
 b_range : mg "range" = none
 b_enumerate : mg "enumerate" = none
 b_any : mg "any" = none
 b_all : mg "all" = none
 b_int : mg "int" = none
 b_bool : mg "bool" = none
 b_tuple : mg "tuple" = none
 b_sorted : mg "sorted" = none
 b_ValueError : mg "ValueError" = none
 mg_BadCamp : mg "BadCamp" = some (.ref t.X_BadCamp)
 x_BadCamp : PySem.W.excIn K t.X_BadCamp [.type "ValueError", .type "Exception", .type "BaseException", .type "object"] "ValueError.__new__" = true
 mg_BadPairs : mg "BadPairs" = some (.ref t.X_BadPairs)
 x_BadPairs : PySem.W.excIn K t.X_BadPairs [.type "ValueError", .type "Exception", .type "BaseException", .type "object"] "ValueError.__new__" = true
 mg_NoCamper : mg "NoCamper" = some (.ref t.X_NoCamper)
 x_NoCamper : PySem.W.excIn K t.X_NoCamper [.type "ValueError", .type "Exception", .type "BaseException", .type "object"] "ValueError.__new__" = true
 mg_CampError : mg "CampError" = some (.ref t.X_CampError)
 mg_NoneSteady : mg "NoneSteady" = some (.ref t.X_NoneSteady)
 mg_BadText : mg "BadText" = some (.ref t.X_BadText)
 kt_CampError : PySem.W.ktsIn K t.X_CampError "BaseException" = true
 sp_CampError : PySem.W.specialIn K (.ref t.X_CampError) "__getattribute__" = some (some (.builtin "type.__getattribute__"))
 rd_CampError : PySem.W.readsIn K t.X_CampError (.type "type") = true
 fc_CampError : PySem.W.findCls K (.ref t.X_CampError) (.type "type") "__init__" = some (.val (.builtin "ValueError.__init__"))
 xc_BadCamp : TX.XC K t.X_BadCamp
 be_BadCamp : TX.belowIn K t.X_BadCamp t.X_CampError = true
 kx_BadCamp_BadCamp : PySem.W.kitOne K (.ref t.X_BadCamp) (.ref t.X_BadCamp) = some true
 kx_BadCamp_BadPairs : PySem.W.kitOne K (.ref t.X_BadCamp) (.ref t.X_BadPairs) = some false
 kx_BadCamp_NoCamper : PySem.W.kitOne K (.ref t.X_BadCamp) (.ref t.X_NoCamper) = some false
 kx_BadCamp_NoneSteady : PySem.W.kitOne K (.ref t.X_BadCamp) (.ref t.X_NoneSteady) = some false
 kx_BadCamp_BadText : PySem.W.kitOne K (.ref t.X_BadCamp) (.ref t.X_BadText) = some false
 kv_BadCamp : PySem.W.kitOne K (.ref t.X_BadCamp) (.type "ValueError") = some true
 xc_BadPairs : TX.XC K t.X_BadPairs
 be_BadPairs : TX.belowIn K t.X_BadPairs t.X_CampError = true
 kx_BadPairs_BadCamp : PySem.W.kitOne K (.ref t.X_BadPairs) (.ref t.X_BadCamp) = some false
 kx_BadPairs_BadPairs : PySem.W.kitOne K (.ref t.X_BadPairs) (.ref t.X_BadPairs) = some true
 kx_BadPairs_NoCamper : PySem.W.kitOne K (.ref t.X_BadPairs) (.ref t.X_NoCamper) = some false
 kx_BadPairs_NoneSteady : PySem.W.kitOne K (.ref t.X_BadPairs) (.ref t.X_NoneSteady) = some false
 kx_BadPairs_BadText : PySem.W.kitOne K (.ref t.X_BadPairs) (.ref t.X_BadText) = some false
 kv_BadPairs : PySem.W.kitOne K (.ref t.X_BadPairs) (.type "ValueError") = some true
 xc_NoCamper : TX.XC K t.X_NoCamper
 be_NoCamper : TX.belowIn K t.X_NoCamper t.X_CampError = true
 kx_NoCamper_BadCamp : PySem.W.kitOne K (.ref t.X_NoCamper) (.ref t.X_BadCamp) = some false
 kx_NoCamper_BadPairs : PySem.W.kitOne K (.ref t.X_NoCamper) (.ref t.X_BadPairs) = some false
 kx_NoCamper_NoCamper : PySem.W.kitOne K (.ref t.X_NoCamper) (.ref t.X_NoCamper) = some true
 kx_NoCamper_NoneSteady : PySem.W.kitOne K (.ref t.X_NoCamper) (.ref t.X_NoneSteady) = some false
 kx_NoCamper_BadText : PySem.W.kitOne K (.ref t.X_NoCamper) (.ref t.X_BadText) = some false
 kv_NoCamper : PySem.W.kitOne K (.ref t.X_NoCamper) (.type "ValueError") = some true
 xc_NoneSteady : TX.XC K t.X_NoneSteady
 be_NoneSteady : TX.belowIn K t.X_NoneSteady t.X_CampError = true
 kx_NoneSteady_BadCamp : PySem.W.kitOne K (.ref t.X_NoneSteady) (.ref t.X_BadCamp) = some false
 kx_NoneSteady_BadPairs : PySem.W.kitOne K (.ref t.X_NoneSteady) (.ref t.X_BadPairs) = some false
 kx_NoneSteady_NoCamper : PySem.W.kitOne K (.ref t.X_NoneSteady) (.ref t.X_NoCamper) = some false
 kx_NoneSteady_NoneSteady : PySem.W.kitOne K (.ref t.X_NoneSteady) (.ref t.X_NoneSteady) = some true
 kx_NoneSteady_BadText : PySem.W.kitOne K (.ref t.X_NoneSteady) (.ref t.X_BadText) = some false
 kv_NoneSteady : PySem.W.kitOne K (.ref t.X_NoneSteady) (.type "ValueError") = some true
 ii_NoneSteady : TX.excII K t.X_NoneSteady t.X_CampError t.NoneSteady___init__ = true
 fn_NoneSteady : PySem.W.isFn K (.ref t.NoneSteady___init__) = true
 sa_NoneSteady : PySem.W.findIn K (.ref t.X_NoneSteady) "__setattr__" = some (some (.builtin "object.__setattr__"))
 nx_rings : PySem.W.findIn K (.ref t.X_NoneSteady) "rings" = some none
 mg_T : mg "TELLING_SIZES" = some (.ref t.tT)
 k_T : ∀ H, SqT K H t.tT [.int 3, .int 5]
 NoneSteady___init__ : TK.MeP K t.X_NoneSteady "__init__" "NoneSteady.__init__" s_NoneSteady___init__ ["self", "rings"] t.NoneSteady___init__ t.fd_NoneSteady___init__
 is_camper : TK.FnP K mg "is_camper" "is_camper" s_is_camper ["value", "size"] t.is_camper t.fd_is_camper
 check_wishes : TK.FnP K mg "check_wishes" "check_wishes" s_check_wishes ["camper", "wishes", "size"] t.check_wishes t.fd_check_wishes
 check_lists : TK.FnP K mg "check_lists" "check_lists" s_check_lists ["lists"] t.check_lists t.fd_check_lists
 Camp___init__ : TK.MeP K t.C "__init__" "Camp.__init__" s_Camp___init__ ["self", "lists"] t.Camp___init__ t.fd_Camp___init__
 Camp_would_share : TK.MeP K t.C "would_share" "Camp.would_share" s_Camp_would_share ["self", "one", "other"] t.Camp_would_share t.fd_Camp_would_share
 Camp_would_rather : TK.MeP K t.C "would_rather" "Camp.would_rather" s_Camp_would_rather ["self", "camper", "other", "had"] t.Camp_would_rather t.fd_Camp_would_rather
 check_pair : TK.FnP K mg "check_pair" "check_pair" s_check_pair ["camp", "pair"] t.check_pair t.fd_check_pair
 partners : TK.FnP K mg "partners" "partners" s_partners ["camp", "pairs"] t.partners t.fd_partners
 would_break : TK.FnP K mg "would_break" "would_break" s_would_break ["camp", "having", "one", "other"] t.would_break t.fd_would_break
 breakers : TK.FnP K mg "breakers" "breakers" s_breakers ["camp", "having"] t.breakers t.fd_breakers
 breaking : TK.FnP K mg "breaking" "breaking" s_breaking ["camp", "pairs"] t.breaking t.fd_breaking
 would_all_share : TK.FnP K mg "would_all_share" "would_all_share" s_would_all_share ["camp", "ring"] t.would_all_share t.fd_would_all_share
 would_all_rather : TK.FnP K mg "would_all_rather" "would_all_rather" s_would_all_rather ["camp", "ring"] t.would_all_rather t.fd_would_all_rather
 is_good_ring : TK.FnP K mg "is_good_ring" "is_good_ring" s_is_good_ring ["camp", "ring"] t.is_good_ring t.fd_is_good_ring
 stand_once : TK.FnP K mg "stand_once" "stand_once" s_stand_once ["camp", "rings"] t.stand_once t.fd_stand_once
 last_ones : TK.FnP K mg "last_ones" "last_ones" s_last_ones ["rings"] t.last_ones t.fd_last_ones
 are_good : TK.FnP K mg "are_good" "are_good" s_are_good ["camp", "rings"] t.are_good t.fd_are_good
 tell_none : TK.FnP K mg "tell_none" "tell_none" s_tell_none ["camp", "rings"] t.tell_none t.fd_tell_none
 with_free : TK.FnP K mg "with_free" "with_free" s_with_free ["camp", "closed", "free"] t.with_free t.fd_with_free
 with_begun : TK.FnP K mg "with_begun" "with_begun" s_with_begun ["camp", "closed", "ring", "free"] t.with_begun t.fd_with_begun
 rings_of : TK.FnP K mg "rings_of" "rings_of" s_rings_of ["camp"] t.rings_of t.fd_rings_of
 ways_to_pair : TK.FnP K mg "ways_to_pair" "ways_to_pair" s_ways_to_pair ["camp", "free"] t.ways_to_pair t.fd_ways_to_pair
 all_steady : TK.FnP K mg "all_steady" "all_steady" s_all_steady ["camp"] t.all_steady t.fd_all_steady
 steady_or_refused : TK.FnP K mg "steady_or_refused" "steady_or_refused" s_steady_or_refused ["camp"] t.steady_or_refused t.fd_steady_or_refused
 mates : TK.FnP K mg "mates" "mates" s_mates ["camp", "camper"] t.mates t.fd_mates
 law_cell_at : TK.FnP K mg "_law_cell_at" "_law_cell_at" s_law_cell_at ["_law_script", "_law_k"] t.law_cell_at t.fd_law_cell_at
 law_sort : TK.FnP K mg "_law_sort" "_law_sort" s_law_sort ["_law_error"] t.law_sort t.fd_law_sort
 law_asked : TK.FnP K mg "_law_asked" "_law_asked" s_law_asked ["_law_door", "_law_thing"] t.law_asked t.fd_law_asked
 law : TK.FnP K mg "law" "law" s_law ["_law_script"] t.law t.fd_law
end Tp
namespace Tp
open PySem PySem.Spec PyProof.Rows L2 TX TM TK
section
variable {P : Program} {w : World} {K : PySem.W.Frag} {mg : Str → Option Value} {base : Heap} {t : Adr}
theorem dec_V (i j : Int) : decide (V.int i = V.int j) = decide (i = j) := by
 by_cases e : i = j
 ·subst e; simp
 ·rw [decide_eq_false e, decide_eq_false (fun z => e (by injection z))]
theorem rngV_eq (n : Nat) : rngV 0 (n : Int) = (rng n).map V.int := by
 unfold rngV rng
 rw [List.map_map, show ((n : Int) - 0).toNat = n by omega]
 apply List.map_congr_left
 intro k _
 show V.int (0 + (k : Int)) = V.int (k : Int)
 rw [Int.zero_add]
theorem ok_nilD : PySem.W.kqdOk 9 (.list []) = true := by simp [PySem.W.kqdOk]
end
section
variable {P : Program} {w : World} {K : PySem.W.Frag} {mg : Str → Option Value} {base : Heap} {t : Adr}
theorem dPL_nil {ps : Prs} : dPL ps = .list [] ↔ ps = [] := by
 constructor
 ·intro h
  unfold dPL at h
  injection h with h
  simpa using h
 ·rintro rfl; rfl
theorem at_here {l : List Int} {k : Nat} (hk : k < l.length) : atI (l.map V.int) ((0 : Int) + (k : Int)) = some (.int (ra l k)) := by
 rw [Int.zero_add]
 refine atI_nat ?_
 unfold ra
 simp [List.getD, hk]
theorem at_prev {l : List Int} {k : Nat} (hk : k < l.length) : atI (l.map V.int) ((0 : Int) + (k : Int) - 1) = some (.int (rp l k)) := by
 unfold rp
 by_cases h0 : k = 0
 ·subst h0
  rw [if_pos rfl]
  have hl : (l.map V.int).length = l.length := List.length_map ..
  have e : atI (l.map V.int) ((0 : Int) + ((0 : Nat) : Int) - 1) = (l.map V.int)[l.length - 1]? := by
   unfold atI ixN
   rw [hl, if_neg (by omega), if_pos (by omega)]
   show (l.map V.int)[((0 : Int) + ((0 : Nat) : Int) - 1 + (l.length : Int)).toNat]? = _
   congr 1
   omega
  rw [e]
  simp [List.getD, show l.length - 1 < l.length by omega]
 ·rw [if_neg h0, show (0 : Int) + (k : Int) - 1 = ((k - 1 : Nat) : Int) by omega]
  refine atI_nat ?_
  simp [List.getD, show k - 1 < l.length by omega]
theorem ra_mem {l : List Int} {k : Nat} (hk : k < l.length) : ra l k ∈ l := by
 have : ra l k = l[k] := by unfold ra; simp [List.getD, hk]
 rw [this]; exact List.getElem_mem _
theorem rp_mem {l : List Int} {k : Nat} (hk : k < l.length) : rp l k ∈ l := by
 unfold rp
 have h : (if k = 0 then l.length - 1 else k - 1) < l.length := by split <;> omega
 have : l.getD (if k = 0 then l.length - 1 else k - 1) 0 = l[if k = 0 then l.length - 1 else k - 1] := by simp [List.getD, h]
 rw [this]; exact List.getElem_mem _
theorem in35 (n : Nat) : inV (.int (n : Int)) [.int 3, .int 5] = (decide ((n : Int) = 3) || decide ((n : Int) = 5)) := by
 show (((3 : Int) == (n : Int)) || (((5 : Int) == (n : Int)) || false)) = _
 rw [Bool.or_false]
 congr 1
 ·rw [Bool.eq_iff_iff]; simp; omega
 ·rw [Bool.eq_iff_iff]; simp; omega
end
section
variable {P : Program} {w : World} {K : PySem.W.Frag} {mg : Str → Option Value} {base : Heap} {t : Adr}
theorem iteNot {A B : Prop} {b : Bool} (h : b = true) (q : B) : if (!b) = true then A else B := by subst h; exact q
theorem iteNotF {A B : Prop} {b : Bool} (h : b = false) (q : A) : if (!b) = true then A else B := by subst h; exact q
theorem iteFalse {A B : Prop} {b : Bool} (h : b = false) (q : B) : if b = true then A else B := by subst h; exact q
theorem iteTrue {A B : Prop} {b : Bool} (h : b = true) (q : A) : if b = true then A else B := by subst h; exact q
def spIsCamper : Sp := fun vs H Q _ => ∃ v n : Int, vs = [.int v, .int n] ∧ Q (.bl (decide (0 ≤ v) && decide (v < n))) H
theorem ok_is_camper (T : Txt K mg t) : FnOk P w K mg base CX0 1 t.is_camper t.fd_is_camper ["value", "size"] spIsCamper := by
 have S := sc_is_camper
 refine T.is_camper.fn.ok S (fun vs H Q E h => ?_) (fun cdv A outer s H vs Q E hr h => ?_)
 ·obtain ⟨v, n, rfl, _⟩ := h; rfl
 ·obtain ⟨v, n, rfl, q⟩ := h
  refine ⟨_, (pss_cons (ps_if (pw_or (pt_val (pe_callB TX.call_isinst (by rfl) T.b_isinstance TK.boot_isinstance (pa_cons (pv 0) (pa_cons (pe_bltn (v := .ty "bool") (by rfl) T.b_bool TK.boot_bool (by rfl)) pa_nil)))) (pw_or1 (pt_not (pt_val (pe_callB TX.call_isinst (by rfl) T.b_isinstance TK.boot_isinstance (pa_cons (pv 0) (pa_cons (pe_bltn (v := .ty "int") (by rfl) T.b_int TK.boot_int (by rfl)) pa_nil))))))).pt (pss_one (ps_ret pe_bl)) pss_nil)
   (pss_one (ps_ret (pe_chain op_le op_lt pe_int (pv 0) (pv 1))))), ?_⟩
  refine ⟨_, rfl, _, _, _, _, _, rfl, ty_only, .int _, kit_int_bool, _, rfl, iteF ?_⟩
  refine ⟨_, rfl, _, _, _, _, _, rfl, ty_only, .int _, kit_int_int, _, rfl, iteF ?_⟩
  refine ⟨_, rfl, _, _, rfl, rfl, _, rfl, iteB (fun e => ⟨_, rfl, _, _, rfl, rfl, ?_⟩) (fun e => ?_)⟩
  ·rw [e, Bool.true_and] at q; exact q
  ·rw [e, Bool.false_and] at q; exact q
def spCheckWishes : Sp := fun vs H Q _ => ∃ (c : Int) (a : Addr) (ns : List Int) (n : Nat), vs = [.int c, .ref a, .int n] ∧ H a = some (.lst (ns.map V.int)) ∧ OkAt n c ns ∧ ns.length ≤ 100 ∧ ∀ H', Same H H' → Q .non H'
theorem int_at {ns : List Int} {i : Nat} {x : V} (h : (ns.map V.int)[i]? = some x) : ∃ z, ns[i]? = some z ∧ x = .int z := by
 rw [List.getElem?_map] at h
 cases e : ns[i]? with
 | none => rw [e] at h; cases h
 | some z => rw [e] at h; exact ⟨z, rfl, (Option.some.inj h).symm⟩
theorem not_mem_take {ns : List Int} (hn : ns.Nodup) {i : Nat} {z : Int} (e : ns[i]? = some z) : ¬ z ∈ ns.take i := by
 intro h
 obtain ⟨j, hj⟩ := List.mem_iff_getElem?.mp h
 rw [List.getElem?_take] at hj
 split at hj
 ·rename_i hji
  obtain ⟨h1, e1⟩ := List.getElem?_eq_some_iff.mp e
  obtain ⟨h2, e2⟩ := List.getElem?_eq_some_iff.mp hj
  have := (List.getElem_inj hn).mp (e2.trans e1.symm)
  omega
 ·cases hj
theorem ok_check_wishes (T : Txt K mg t) : FnOk P w K mg base CX0 2 t.check_wishes t.fd_check_wishes ["camper", "wishes", "size"] spCheckWishes := by
 have S := sc_check_wishes
 have G_is_camper := ok_is_camper (P := P) (w := w) (base := base) T
 refine T.check_wishes.fn.ok S (fun vs H Q E h => ?_) (fun cdv A outer s H vs Q E hr h => ?_)
 ·obtain ⟨c, a, ns, n, rfl, _⟩ := h; rfl
 ·obtain ⟨c, a, ns, n, rfl, ha, ok, hlen, q⟩ := h
  have hu := hu_of hr
  refine ⟨_, (pss_cons (ps_if (pt_not (pt_val (pe_callB TX.call_isinst (by rfl) T.b_isinstance TK.boot_isinstance (pa_cons (pv 1) (pa_cons (pe_bltn (v := .ty "list") (by rfl) T.b_list TK.boot_list (by rfl)) pa_nil))))) (pss_one ps_never) pss_nil)
   (pss_cons (ps_set (i := 3) S.nd rfl (by first | exact Or.inl rfl | exact Or.inr rfl) (pe_disp (pps_cons (pv 0) pe_bl pps_nil) rfl rfl (by simp) (by decide)))
   (pss_one (ps_for PassesOwn.never rfl (pi_list (pv 1)) (pg_name (i := 4) S.nd rfl (by first | exact Or.inl rfl | exact Or.inr rfl)) (pss_cons (ps_if (pt_not (pt_val (pe_call (k := 1) G_is_camper hr (by rfl) T.is_camper.mg T.is_camper.fn.kp T.is_camper.b .nil pass0 (pa_cons (pv 4) (pa_cons (pv 2) pa_nil))))) (pss_one ps_never) pss_nil)
   (pss_cons (ps_if (pt_cmp (pc_din hu (pv 4) (pv 3))) (pss_one ps_never) pss_nil)
   (pss_one (ps_dput hu (pv 3) (pv 4) pe_bl rfl)))))))), ?_⟩
  refine ⟨_, rfl, _, _, _, _, _, rfl, ty_only, .lst ha, kit_list_list, _, rfl, iteF ?_⟩
  intro p hp
  refine ⟨_, rfl, upd_same, [(Sum.inl c, .bl true)], rfl, (by show 1 ≤ 15; decide), ?_⟩
  rw [upd_upd]
  have s1 : Same H (upd H p (.dK (mergeK [] [(Sum.inl c, .bl true)]))) := TX.Same.upd (Same.refl H) hp
  refine ⟨_, rfl, a, rfl, ⟨_, SqL.of (s1 _ _ ha)⟩, for_list (K := K) (a := a) (xs := ns.map V.int) (fun i σ H2 => ∃ (kvs : List (Key × V)) (v : Option V), σ = [some (.int c), some (.ref a), some (.int n), some (.ref p), v] ∧ Same H H2 ∧
   H2 p = some (.dK kvs) ∧ kvs.length ≤ i + 1 ∧ ∀ x : Int, (valV kvs (Sum.inl x)).isSome = true ↔ x = c ∨ x ∈ ns.take i)
   ⟨_, none, rfl, s1, upd_same, (by show 1 ≤ 0 + 1; decide), fun x => ?_⟩ (fun i σ H2 _ ⟨_, _, _, s2, _⟩ => SqL.of (s2 _ _ ha)) ?_ ?_⟩
  ·show (valV (putK [] (Sum.inl c) (.bl true)) (Sum.inl x)).isSome = true ↔ _
   rw [valV_put]
   by_cases e : (Sum.inl x : Key) = Sum.inl c
   ·rw [if_pos e]; injection e with e; simp [e]
   ·rw [if_neg e]
    have : x ≠ c := fun z => e (by rw [z])
    simp [valV_nil, this]
  ·rintro i y σ H2 hi ⟨kvs, v, rfl, s2, hd, hl, hk⟩
   obtain ⟨z, hz, rfl⟩ := int_at hi
   have hzm := List.mem_of_getElem? hz
   obtain ⟨z1, z2, z3⟩ := ok.1 z hzm
   refine ⟨_, rfl, _, rfl, z, _, rfl, _, rfl, iteNot (by rw [Bool.and_eq_true]; exact ⟨decide_eq_true z1, decide_eq_true z2⟩) ?_⟩
   have hno : valV kvs (Sum.inl z) = none := by
    cases e : valV kvs (Sum.inl z : Key) with
    | none => rfl
    | some u =>
     have := (hk z).mp (by rw [e]; rfl)
     rcases this with h | h
     ·exact absurd h z3
     ·exact absurd h (not_mem_take ok.2 hz)
   refine ⟨_, rfl, _, rfl, p, _, rfl, DGet.k (k := Sum.inl z) hd, _, rfl, iteFalse (by rw [hno]; rfl) ?_⟩
   have hil : i < ns.length := (List.getElem?_eq_some_iff.mp hz).1
   refine ⟨_, rfl, _, rfl, p, _, rfl, DPut.k (k := Sum.inl z) hd (small1000 (by omega)), ?_⟩
   have hHp : H p = none := hp
   refine ⟨_, _, rfl, TX.Same.upd s2 hHp, upd_same, ?_, fun x => ?_⟩
   ·have := length_putK kvs (Sum.inl z : Key) (V.bl true)
    omega
   ·rw [valV_put]
    have et : ns.take (i + 1) = ns.take i ++ [z] := by rw [List.take_add_one, hz]; rfl
    rw [et]
    by_cases e : (Sum.inl x : Key) = Sum.inl z
    ·rw [if_pos e]; injection e with e; simp [e]
    ·rw [if_neg e, hk x]
     have : x ≠ z := fun q => e (by rw [q])
     simp [this]
  ·rintro σ H2 ⟨kvs, v, rfl, s2, _⟩
   exact q H2 s2
end
section
variable {P : Program} {w : World} {K : PySem.W.Frag} {mg : Str → Option Value} {base : Heap} {t : Adr}
def spCheckLists : Sp := fun vs H Q _ => ∃ (a : Addr) (ls : Ls), vs = [.ref a] ∧ LL H a ls ∧ Valid ls ∧ ∀ H', Same H H' → Q .non H'
theorem ok_check_lists (T : Txt K mg t) : FnOk P w K mg base CX0 3 t.check_lists t.fd_check_lists ["lists"] spCheckLists := by
 have S := sc_check_lists
 have G_check_wishes := ok_check_wishes (P := P) (w := w) (base := base) T
 have h_MOST_CAMPERS := T.mg_M
 refine T.check_lists.fn.ok S (fun vs H Q E h => ?_) (fun cdv A outer s H vs Q E hr h => ?_)
 ·obtain ⟨a, ls, rfl, _⟩ := h; rfl
 ·obtain ⟨a, ls, rfl, hL, hV, q⟩ := h
  obtain ⟨xs, ha, r⟩ := id hL
  have hl := r.length
  have v1 := hV.pos
  have v2 := hV.le
  refine ⟨_, (pss_cons (ps_if (pt_not (pt_val (pe_callB TX.call_isinst (by rfl) T.b_isinstance TK.boot_isinstance (pa_cons (pv 0) (pa_cons (pe_bltn (v := .ty "list") (by rfl) T.b_list TK.boot_list (by rfl)) pa_nil))))) (pss_one ps_never) pss_nil)
   (pss_cons (ps_if (pt_not (pt_chain op_le op_le pe_int (pe_callB call_len_seq (by rfl) T.b_len TK.boot_len (pa_cons (pv 0) pa_nil)) (pe_glob (v := .int 6) (by rfl) h_MOST_CAMPERS (by first | exact ⟨_, rfl⟩ | rfl)))) (pss_one ps_never) pss_nil)
   (pss_one (ps_for PassesOwn.never rfl (TX.pi_enum rfl T.b_enumerate (pa_cons (pv 0) pa_nil)) (pg_tup rfl (pgs_cons (pg_name (i := 1) S.nd rfl (by first | exact Or.inl rfl | exact Or.inr rfl)) (pgs_cons (pg_name (i := 2) S.nd rfl (by first | exact Or.inl rfl | exact Or.inr rfl)) pgs_nil))) (pss_one (ps_expr (pe_call (k := 2) G_check_wishes hr (by rfl) T.check_wishes.mg T.check_wishes.fn.kp T.check_wishes.b .nil pass0 (pa_cons (pv 1) (pa_cons (pv 2) (pa_cons (pe_callB call_len_seq (by rfl) T.b_len TK.boot_len (pa_cons (pv 0) pa_nil)) pa_nil)))))))))), ?_⟩
  refine ⟨_, rfl, _, _, _, _, _, rfl, ty_only, .lst ha, kit_list_list, _, rfl, iteF ?_⟩
  refine ⟨_, rfl, a, _, rfl, .inl (SqL.of ha), _, _, rfl, rfl, _, rfl, iteTrue (decide_eq_true (by omega)) ?_⟩
  refine ⟨_, _, rfl, rfl, _, rfl, iteNot (decide_eq_true (by omega)) ?_⟩
  refine ⟨_, rfl, a, rfl, ⟨_, SqL.of ha⟩, for_enum (K := K) (a := a) (xs := xs) (fun i σ H2 => ∃ v u, σ = [some (.ref a), v, u] ∧ Same H H2) ⟨none, none, rfl, Same.refl H⟩ (fun i σ H2 _ ⟨_, _, _, s2⟩ => SqL.of (s2 _ _ ha)) ?_ ?_⟩
  ·rintro i x σ H2 p hi ⟨v, u, rfl, s2⟩ hp
   obtain ⟨l, hl2, b, rfl, hb⟩ := Paired.at1 r hi
   have s3 : Same H (upd H2 p (.tup [.int (i : Nat), .ref b])) := TX.Same.upd s2 (s2.free hp)
   refine ⟨p, _, rfl, SqT.of upd_same, rfl, _, _, rfl, _, _, rfl, rfl, ?_⟩
   have okl := hV.mem i l hl2
   refine ⟨_, rfl, _, rfl, _, rfl, a, _, rfl, .inl (SqL.of (s3 _ _ ha)), i, b, l, ls.length, ?_, s3 _ _ hb, okl, ?_, fun H3 s4 => ?_⟩
   ·show [V.int _, V.ref b, V.int _] ++ [] = _
    rw [hl]; rfl
   ·have := nodup_len (n := ls.length) (i := i) okl
    omega
   ·exact ⟨_, _, rfl, s3.trans s4⟩
  ·rintro σ H2 ⟨v, u, rfl, s2⟩
   exact q H2 s2
def flds (n : Int) (a : Addr) : List (Str × V) := putF "wishes" (.ref a) (putF "size" (.int n) [])
theorem nws : ¬ (("size" : Str) = "wishes") := by decide +kernel
theorem flds_size (n : Int) (a : Addr) : (flds n a).lookup ("size" : Str) = some (.int n) := by
 unfold flds
 rw [lookup_putF, if_neg nws, lookup_putF, if_pos rfl]
theorem flds_wishes (n : Int) (a : Addr) : (flds n a).lookup ("wishes" : Str) = some (.ref a) := by
 unfold flds
 rw [lookup_putF, if_pos rfl]
theorem flds_no (n : Int) (a : Addr) {m : Str} (h1 : ¬ m = "wishes") (h2 : ¬ m = "size") : (flds n a).lookup m = none := by
 unfold flds
 rw [lookup_putF, if_neg h1, lookup_putF, if_neg h2]
 rfl
def CampAt (C : Addr) (H : Hp) (p : Addr) (ls : Ls) : Prop := ∃ dx a, H p = some (.ins C dx (flds ls.length a)) ∧ LL H a ls
theorem CampAt.same {C : Addr} {H H' : Hp} {p : Addr} {ls : Ls} (h : CampAt C H p ls) (e : Same H H') : CampAt C H' p ls := by
 obtain ⟨dx, a, h1, h2⟩ := h
 exact ⟨dx, a, e _ _ h1, Of.same mI h2 e⟩
def NewLL (H H' : Hp) (p : Addr) (ls : Ls) : Prop := H p = none ∧ Same H H' ∧ ∃ xs, H' p = some (.lst xs) ∧ Paired (fun v l => ∃ b, v = V.ref b ∧ H b = none ∧ H' b = some (.lst (l.map V.int))) xs ls
theorem yes_if {A B : Hp → Prop} {σ : L2.St} {H : Hp} (h : A H) : tYes σ H (fun b H3 => if b = true then A H3 else B H3) := iteT (B := B H) h
theorem copies_word {H : Hp} {a : Addr} {ls : Ls} {xs : List V} {Q : VK} (ha : H a = some (.lst xs)) (r : Paired (RI H) xs ls) (hz : ls.length ≤ 100) (q : ∀ p H', NewLL H H' p ls → Q (.ref p) H') :
  ∃ W : Nat → Nat → List V → Hp → Prop, (∃ m, W 0 m [] H) ∧ ∀ i m ys H1, W i m ys H1 →
   ((Itl K a).stop i H1 ∧ ∀ p, H1 p = none → Q (.ref p) (upd H1 p (.lst ys))) ∨
   ((Itl K a).go i H1 ∧ ys.length < sizeLine ∧ ∀ x H', (Itl K a).yld i H1 x H' → gName 0 x [none] H' fun σ2 H2 => Kps [none] σ2 ∧ tYes σ2 H2 fun b H3 =>
    if b = true then tCB (TX.rListOf K) (tCons (tVar 0) tNil) σ2 H3 fun y H4 => ∃ m', m' < m ∧ W (i + 1) m' (ys ++ [y]) H4 else ∃ m', m' < m ∧ W (i + 1) m' ys H3) := by
 have hl := r.length
 refine ⟨fun i m ys H1 => m = xs.length - i ∧ i ≤ xs.length ∧ Same H H1 ∧ Paired (fun v l => ∃ b, v = V.ref b ∧ H b = none ∧ H1 b = some (.lst (l.map V.int))) ys (ls.take i), ⟨_, rfl, Nat.zero_le _, Same.refl H, by rw [List.take_zero]; exact .nil⟩, ?_⟩
 rintro i m ys H1 ⟨rfl, hi, s1, ry⟩
 have hyl := ry.length
 by_cases hlt : i < xs.length
 ·refine .inr ⟨⟨xs, xs[i], SqL.of (s1 _ _ ha), by simp [hlt]⟩, ?_, fun x H' y => ?_⟩
  ·rw [hyl, List.length_take]
   exact small1000 (by omega)
  ·obtain ⟨rfl, y⟩ := y
   have hx := y xs (SqL.of (s1 _ _ ha))
   obtain ⟨l, hl2, b, rfl, hb⟩ := Paired.at1 r hx
   refine ⟨Kps.own, ?_⟩
   refine yes_if ⟨_, rfl, b, _, rfl, .inl (SqL.of (s1 _ _ hb)), fun c hc => ⟨xs.length - (i + 1), by omega, rfl, hlt, TX.Same.upd s1 (s1.free hc), ?_⟩⟩
   rw [List.take_add_one, hl2]
   refine Paired.app (Paired.impl (fun v l' ⟨d, e, h1, h2⟩ => ⟨d, e, h1, upd_old h2 hc⟩) ry) (.cons ⟨c, rfl, s1.free hc, upd_same⟩ .nil)
 ·have e : i = xs.length := by omega
  subst e
  refine .inl ⟨⟨xs, SqL.of (s1 _ _ ha), Nat.le_refl _⟩, fun p hp => q p _ ⟨s1.free hp, TX.Same.upd s1 (s1.free hp), ys, upd_same, ?_⟩⟩
  rw [List.take_of_length_le (by omega)] at ry
  exact Paired.impl (fun v l ⟨b, e, h1, h2⟩ => ⟨b, e, h1, upd_old h2 hp⟩) ry
theorem copies {H : Hp} {σ : L2.St} {tl : TE} {a : Addr} {ls : Ls} {xs : List V} {Q : VK} (ha : H a = some (.lst xs)) (r : Paired (RI H) xs ls) (hz : ls.length ≤ 100) (htl : ∀ R : VK, R (.ref a) H → tl σ H R) (q : ∀ p H', NewLL H H' p ls → Q (.ref p) H') :
  tComp [none] (iList K tl) (gName 0) tYes (tCB (TX.rListOf K) (tCons (tVar 0) tNil)) σ H Q :=
 htl _ ⟨a, rfl, ⟨_, SqL.of ha⟩, copies_word ha r hz q⟩
def spInit (C : Addr) : Sp := fun vs H Q _ => ∃ (p dx a : Addr) (ls : Ls), vs = [.ref p, .ref a] ∧ H p = some (.ins C dx []) ∧ LL H a ls ∧ Valid ls ∧
 ∀ H' wa xs, (∀ b o, H b = some o → b ≠ p → H' b = some o) → H wa = none → H' p = some (.ins C dx (flds ls.length wa)) → H' wa = some (.lst xs) → Paired (fun v l => ∃ b, v = V.ref b ∧ H b = none ∧ H' b = some (.lst (l.map V.int))) xs ls → Q .non H'
theorem ok_init (T : Txt K mg t) : FnOk P w K mg base CX0 4 t.Camp___init__ t.fd_Camp___init__ ["self", "lists"] (spInit t.C) := by
 have S := sc_Camp___init__
 have G_check_lists := ok_check_lists (P := P) (w := w) (base := base) T
 refine T.Camp___init__.fn.ok S (fun vs H Q E h => ?_) (fun cdv A outer s H vs Q E hr h => ?_)
 ·obtain ⟨p, dx, a, ls, rfl, _⟩ := h; rfl
 ·obtain ⟨p, dx, a, ls, rfl, hp, hL, hV, q⟩ := h
  refine ⟨_, (pss_cons (ps_expr (pe_call (k := 3) G_check_lists hr (by rfl) T.check_lists.mg T.check_lists.fn.kp T.check_lists.b .nil pass0 (pa_cons (pv 1) pa_nil)))
   (pss_cons (ps_fld (pv 0) (pe_callB call_len_seq (by rfl) T.b_len TK.boot_len (pa_cons (pv 1) pa_nil)) rfl)
   (pss_one (ps_fld (pv 0) (TX.pe_comp (te := tCB (TX.rListOf K) (tCons (tVar 0) tNil)) ["wishes"] [none] rfl (pi_list (pv 1)) (fun _ _ _ _ _ => (pg_name (i := 0) (show (["wishes"] : List Str).Nodup by decide +kernel) rfl (by first | exact Or.inl rfl | exact Or.inr rfl))) (fun _ _ _ _ _ => TX.pts_nil) (fun _ _ _ _ _ => (pe_callTy TX.call_listOf (by rfl) T.b_list TK.boot_list (pa_cons (pv 0) pa_nil))) rfl (by decide +kernel) (by decide +kernel) (No := ["self", "lists"]) (sc := defScope s_Camp___init__) rfl rfl (by decide +kernel) rfl (by decide +kernel)) rfl)))), ?_⟩
  refine ⟨_, rfl, a, ls, rfl, hL, hV, fun H1 s1 => ?_⟩
  have hL1 := Of.same mI hL s1
  obtain ⟨xs, ha, r⟩ := id hL1
  have npa : a ≠ p := ne_of ha (s1 _ _ hp) (by intro z; cases z)
  refine ⟨_, rfl, a, xs, rfl, .inl (SqL.of ha), ?_⟩
  refine ⟨_, rfl, p, t.C, dx, [], rfl, s1 _ _ hp, T.cl, T.n_size, (by show 0 < 1000; decide), ?_⟩
  have hlen := r.length
  rw [hlen]
  have key : ∀ b o, H1 b = some o → b ≠ p → upd H1 p (.ins t.C dx (putF "size" (.int ls.length) [])) b = some o := fun b o e n => upd_oth e n
  have r2 : Paired (RI (upd H1 p (.ins t.C dx (putF "size" (.int ls.length) [])))) xs ls := Paired.impl (fun v l ⟨b, e, h⟩ => ⟨b, e, key _ _ h (ne_of h (s1 _ _ hp) (by intro z; cases z))⟩) r
  have hz : ls.length ≤ 100 := Nat.le_trans hV.le (by decide)
  dsimp only
  refine sFld_of ?_
  refine copies (K := K) (tl := tVar 1) (key _ _ ha npa) r2 hz (fun R z => by exact ⟨_, rfl, z⟩) fun wa H2 N => ?_
  have hp2 : H2 p = some (.ins t.C dx (putF "size" (.int ls.length) [])) := N.2.1 _ _ upd_same
  refine ⟨_, rfl, p, t.C, dx, _, rfl, hp2, T.cl, T.n_wishes, (by show 1 < 1000; decide), ?_⟩
  have free : ∀ c, upd H1 p (.ins t.C dx (putF "size" (.int ls.length) [])) c = none → c ≠ p ∧ H c = none := fun c hc => by
   have n : c ≠ p := fun e => by rw [e, upd_same] at hc; cases hc
   rw [upd_ne n] at hc
   exact ⟨n, s1.free hc⟩
  obtain ⟨nwa, _, xs2, hwa, rx⟩ := id N
  refine q _ wa xs2 (fun b o e n => upd_oth (N.2.1 _ _ (upd_oth (s1 _ _ e) n)) n) (free _ nwa).2 upd_same (upd_oth hwa (free _ nwa).1) (Paired.impl (fun v l ⟨b, e, h1, h2⟩ => ⟨b, e, (free _ h1).2, upd_oth h2 (free _ h1).1⟩) rx)
end
section
variable {P : Program} {w : World} {K : PySem.W.Frag} {mg : Str → Option Value} {base : Heap} {t : Adr}
def spShare (C : Addr) : Sp := fun vs H Q _ => ∃ (p : Addr) (ls : Ls) (i j : Int), vs = [.ref p, .int i, .int j] ∧ CampAt C H p ls ∧ (0 ≤ i ∧ i < ls.length) ∧ (0 ≤ j ∧ j < ls.length) ∧ Q (.bl (would ls i j)) H
theorem ok_would_share (T : Txt K mg t) : FnOk P w K mg base CX0 1 t.Camp_would_share t.fd_Camp_would_share ["self", "one", "other"] (spShare t.C) := by
 have S := sc_Camp_would_share
 refine T.Camp_would_share.fn.ok S (fun vs H Q E h => ?_) (fun cdv A outer s H vs Q E hr h => ?_)
 ·obtain ⟨p, ls, i, j, rfl, _⟩ := h; rfl
 ·obtain ⟨p, ls, i, j, rfl, ⟨dx, a, hp, hL⟩, hi, hj, q⟩ := h
  obtain ⟨xs, b, ha, hb, hb'⟩ := LL.at hL hi.1 hi.2
  obtain ⟨xs', c, ha', hc, hc'⟩ := LL.at hL hj.1 hj.2
  refine ⟨_, (pss_one (ps_ret (pe_and (pe_cmpR op_in_seq (pv 2) (pe_ix ix_list (pe_fld (pv 0) rfl) (pv 1) (fun _ _ => rfl)) (by with_unfolding_all rfl)) (pe_one (pe_cmpR op_in_seq (pv 1) (pe_ix ix_list (pe_fld (pv 0) rfl) (pv 2) (fun _ _ => rfl)) (by with_unfolding_all rfl)))))), ?_⟩
  refine ⟨_, rfl, _, rfl, p, t.C, dx, _, _, rfl, hp, T.cl, T.n_wishes, flds_wishes _ _, _, rfl, a, xs, i, _, rfl, rfl, SqL.of ha, hb, b, _, rfl, .inl (SqL.of hb'), rfl, flat_ints _, _, rfl, ?_⟩
  show if inV (.int j) ((lof ls i).map V.int) = true then _ else _
  rw [inV_ints]
  unfold would at q
  refine iteB (fun e => ?_) (fun e => ?_)
  ·refine ⟨_, rfl, _, rfl, p, t.C, dx, _, _, rfl, hp, T.cl, T.n_wishes, flds_wishes _ _, _, rfl, a, xs', j, _, rfl, rfl, SqL.of ha', hc, c, _, rfl, .inl (SqL.of hc'), rfl, flat_ints _, ?_⟩
   rw [e, Bool.true_and] at q
   show Q (.bl (inV (.int i) ((lof ls j).map V.int))) H
   rw [inV_ints]
   exact q
  ·rw [e, Bool.false_and] at q
   exact q
def optV : Option Int → V
 | none => .non
 | some x => .int x
def spRather (C : Addr) : Sp := fun vs H Q _ => ∃ (p : Addr) (ls : Ls) (c o : Int) (had : Option Int), vs = [.ref p, .int c, .int o, optV had] ∧ CampAt C H p ls ∧ Valid ls ∧ (0 ≤ c ∧ c < ls.length) ∧ o ∈ lof ls c ∧ (∀ x, had = some x → x ∈ lof ls c) ∧ Q (.bl (wr ls c o had)) H
theorem ok_would_rather (T : Txt K mg t) : FnOk P w K mg base CX0 1 t.Camp_would_rather t.fd_Camp_would_rather ["self", "camper", "other", "had"] (spRather t.C) := by
 have S := sc_Camp_would_rather
 refine T.Camp_would_rather.fn.ok S (fun vs H Q E h => ?_) (fun cdv A outer s H vs Q E hr h => ?_)
 ·obtain ⟨p, ls, c, o, had, rfl, _⟩ := h; rfl
 ·obtain ⟨p, ls, c, o, had, rfl, ⟨dx, a, hp, hL⟩, hV, hc, ho, hh, q⟩ := h
  obtain ⟨xs, b, ha, hb, hb'⟩ := LL.at hL hc.1 hc.2
  have hz : (lof ls c).length ≤ 1000 := by
   have := nodup_len (lof_ok hV hc.1 hc.2)
   have := hV.le
   omega
  refine ⟨_, (pss_cons (ps_if (pt_cmp (pc_isN (pv 3))) (pss_one (ps_ret pe_bl)) pss_nil)
   (pss_cons (ps_set (i := 4) S.nd rfl (by first | exact Or.inl rfl | exact Or.inr rfl) (pe_ix ix_list (pe_fld (pv 0) rfl) (pv 1) (fun _ _ => rfl)))
   (pss_one (ps_ret (pe_cmpR op_lt (pe_bm PySem.F.plainAttrs_list PySem.F.slot_list_index PySem.F.type_list_index TX.mt_index (pv 4) (pa_cons (pv 2) pa_nil)) (pe_bm PySem.F.plainAttrs_list PySem.F.slot_list_index PySem.F.type_list_index TX.mt_index (pv 4) (pa_cons (pv 3) pa_nil)) (nomark _)))))), ?_⟩
  cases had with
  | none => exact ⟨_, rfl, _, rfl, iteT q⟩
  | some x =>
   refine ⟨_, rfl, _, rfl, iteFalse (decide_eq_false (fun z => by cases z)) ?_⟩
   refine ⟨_, rfl, p, t.C, dx, _, _, rfl, hp, T.cl, T.n_wishes, flds_wishes _ _, _, rfl, a, xs, c, _, rfl, rfl, SqL.of ha, hb, ?_⟩
   refine ⟨_, rfl, .inl ⟨rfl, _, SqL.of hb'⟩, _, rfl, b, _, o, rfl, rfl, SqL.of hb', ho, hz, ?_⟩
   refine ⟨_, rfl, .inl ⟨rfl, _, SqL.of hb'⟩, _, rfl, b, _, x, rfl, rfl, SqL.of hb', hh x rfl, hz, _, _, rfl, rfl, ?_⟩
   have e : (decide (((lof ls c).idxOf o : Nat) < (lof ls c).idxOf x)) = decide ((((lof ls c).idxOf o : Nat) : Int) < (((lof ls c).idxOf x : Nat) : Int)) := by
    rw [decide_eq_decide]
    omega
   show Q (.bl (decide ((((lof ls c).idxOf o : Nat) : Int) < (((lof ls c).idxOf x : Nat) : Int)))) H
   rw [← e]
   exact q
end
section
variable {P : Program} {w : World} {K : PySem.W.Frag} {mg : Str → Option Value} {base : Heap} {t : Adr}
def HavAt (H : Hp) (d : Addr) (hv : Int → Option Int) : Prop := ∃ kvs, H d = some (.dK kvs) ∧ ∀ i : Int, (valV kvs (Sum.inl i)).getD .non = optV (hv i)
theorem HavAt.same {H H' : Hp} {d : Addr} {hv : Int → Option Int} (h : HavAt H d hv) (e : Same H H') : HavAt H' d hv := let ⟨kvs, h1, h2⟩ := h; ⟨kvs, e _ _ h1, h2⟩
def HavOk (ls : Ls) (hv : Int → Option Int) : Prop := ∀ i : Int, 0 ≤ i → i < ls.length → ∀ x, hv i = some x → x ∈ lof ls i
def brkF (ls : Ls) (hv : Int → Option Int) (i j : Int) : Bool := would ls i j && (wr ls i j (hv i) && wr ls j i (hv j))
def breakers (ls : Ls) (hv : Int → Option Int) : Prs := rows (brkF ls hv) ls.length ls.length
theorem havOk_mate {ls : Ls} {ps : Prs} (pr : Pairs ls ps) : HavOk ls (mate ps) := fun i _ _ x e => (would_mem (pr.has e).2.2.2.2.2).1
theorem optV_get (o : Option Int) : (o.map V.int).getD .non = optV o := by cases o <;> rfl
def spWouldBreak (C : Addr) : Sp := fun vs H Q _ => ∃ (p d : Addr) (ls : Ls) (hv : Int → Option Int) (i j : Int), vs = [.ref p, .ref d, .int i, .int j] ∧ CampAt C H p ls ∧ Valid ls ∧ HavOk ls hv ∧ HavAt H d hv ∧
 (0 ≤ i ∧ i < ls.length) ∧ (0 ≤ j ∧ j < ls.length) ∧ Q (.bl (brkF ls hv i j)) H
theorem ok_would_break (T : Txt K mg t) : FnOk P w K mg base CX0 2 t.would_break t.fd_would_break ["camp", "having", "one", "other"] (spWouldBreak t.C) := by
 have S := sc_would_break
 have G_would_share := ok_would_share (P := P) (w := w) (base := base) T
 have G_would_rather := ok_would_rather (P := P) (w := w) (base := base) T
 refine T.would_break.fn.ok S (fun vs H Q E h => ?_) (fun cdv A outer s H vs Q E hr h => ?_)
 ·obtain ⟨p, d, ls, hv, i, j, rfl, _⟩ := h; rfl
 ·obtain ⟨p, d, ls, hv, i, j, rfl, hC, hV, ho, ⟨kvs, hd, hk⟩, hi, hj, q⟩ := h
  have hu := hu_of hr
  obtain ⟨dx, la, hp, hL⟩ := id hC
  have nI : (flds ls.length la).lookup ("would_share" : Str) = none := flds_no _ _ (by decide +kernel) (by decide +kernel)
  have nR : (flds ls.length la).lookup ("would_rather" : Str) = none := flds_no _ _ (by decide +kernel) (by decide +kernel)
  refine ⟨_, (pss_cons (ps_if (pt_not (pt_val (pe_meth (k := 1) (pv 0) T.cl T.Camp_would_share.me G_would_share hr T.Camp_would_share.b .nil pass0 (pa_cons (pv 2) (pa_cons (pv 3) pa_nil))))) (pss_one (ps_ret pe_bl)) pss_nil)
   (pss_cons (ps_if (pt_not (pt_val (pe_meth (k := 1) (pv 0) T.cl T.Camp_would_rather.me G_would_rather hr T.Camp_would_rather.b .nil pass0 (pa_cons (pv 2) (pa_cons (pv 3) (pa_cons (pe_dget1 hu (pv 1) (pv 2) ⟨rfl, rfl, rfl, rfl⟩) pa_nil)))))) (pss_one (ps_ret pe_bl)) pss_nil)
   (pss_one (ps_ret (pe_meth (k := 1) (pv 0) T.cl T.Camp_would_rather.me G_would_rather hr T.Camp_would_rather.b .nil pass0 (pa_cons (pv 3) (pa_cons (pv 2) (pa_cons (pe_dget1 hu (pv 1) (pv 3) ⟨rfl, rfl, rfl, rfl⟩) pa_nil)))))))), ?_⟩
  refine ⟨_, rfl, p, dx, _, rfl, hp, nI, _, rfl, _, rfl, p, ls, i, j, rfl, hC, hi, hj, _, rfl, ?_⟩
  unfold brkF at q
  cases hw : would ls i j with
  | false =>
   rw [hw, Bool.false_and] at q
   exact q
  | true =>
   rw [hw, Bool.true_and] at q
   obtain ⟨w1, w2⟩ := would_mem hw
   refine iteF ?_
   refine ⟨_, rfl, p, dx, _, rfl, hp, nR, _, rfl, _, rfl, _, rfl, d, rfl, .inl ⟨_, .inl hd⟩, _, rfl, _, DGet.k (k := Sum.inl i) hd, p, ls, i, j, hv i, ?_, hC, hV, hi, w1, ho i hi.1 hi.2, _, rfl, ?_⟩
   ·rw [hk]; rfl
   ·cases hw2 : wr ls i j (hv i) with
    | false =>
     rw [hw2, Bool.false_and] at q
     exact q
    | true =>
     rw [hw2, Bool.true_and] at q
     refine iteF ?_
     refine ⟨_, rfl, p, dx, _, rfl, hp, nR, _, rfl, _, rfl, _, rfl, d, rfl, .inl ⟨_, .inl hd⟩, _, rfl, _, DGet.k (k := Sum.inl j) hd, p, ls, j, i, hv j, ?_, hC, hV, hj, w2, ho j hj.1 hj.2, q⟩
     rw [hk]; rfl
theorem PL.push {H : Hp} {f tp : Addr} {xs : List V} {ps : Prs} {i j : Int} (hf : H f = some (.lst xs)) (r : Paired (RP H) xs ps) (ht : H tp = none) :
  PL (upd (upd H tp (.tup [.int i, .int j])) f (.lst (xs ++ [.ref tp]))) f (ps ++ [(i, j)]) := by
 have nft : tp ≠ f := fun z => by rw [z, hf] at ht; cases ht
 refine ⟨_, upd_same, Paired.app (Paired.impl (fun v q ⟨b, e, hb⟩ => ⟨b, e, upd_oth (upd_old hb ht) (ne_of hb hf (by intro z; cases z))⟩) r) (.cons ⟨tp, rfl, upd_oth upd_same nft⟩ .nil)⟩
theorem row_len {f : Int → Int → Bool} (i k : Nat) : (row f i k).length ≤ k := by
 unfold row
 refine Nat.le_trans (List.length_filter_le _ _) ?_
 simp
theorem rows_len {f : Int → Int → Bool} (n : Nat) : ∀ i : Nat, (rows f n i).length ≤ i * n
 | 0 => by simp [rows_zero]
 | i + 1 => by
  rw [rows_succ, List.length_append]
  have h1 := rows_len (f := f) n i
  have h2 := row_len (f := f) i (n - (i + 1))
  rw [Nat.succ_mul]
  omega
def spBreakers (C : Addr) : Sp := fun vs H Q _ => ∃ (p d : Addr) (ls : Ls) (hv : Int → Option Int), vs = [.ref p, .ref d] ∧ CampAt C H p ls ∧ Valid ls ∧ HavOk ls hv ∧ HavAt H d hv ∧
 ∀ q H', H q = none → Same H H' → PL H' q (breakers ls hv) → Q (.ref q) H'
theorem ok_breakers (T : Txt K mg t) : FnOk P w K mg base CX0 3 t.breakers t.fd_breakers ["camp", "having"] (spBreakers t.C) := by
 have S := sc_breakers
 have G_would_break := ok_would_break (P := P) (w := w) (base := base) T
 refine T.breakers.fn.ok S (fun vs H Q E h => ?_) (fun cdv A outer s H vs Q E hr h => ?_)
 ·obtain ⟨p, d, ls, hv, rfl, _⟩ := h; rfl
 ·obtain ⟨p, d, ls, hv, rfl, hC, hV, ho, hd, fin⟩ := h
  refine ⟨_, (pss_cons (ps_set (i := 2) S.nd rfl (by first | exact Or.inl rfl | exact Or.inr rfl) (pe_lst pa_nil))
   (pss_cons (ps_for PassesOwn.never rfl (pi_range1 rfl T.b_range (pa_cons (pe_fld (pv 0) rfl) pa_nil)) (pg_name (i := 3) S.nd rfl (by first | exact Or.inl rfl | exact Or.inr rfl)) (pss_one (ps_for PassesOwn.never rfl (pi_range2 rfl T.b_range (pa_cons (pe_op op_add (pv 3) pe_int) (pa_cons (pe_fld (pv 0) rfl) pa_nil))) (pg_name (i := 4) S.nd rfl (by first | exact Or.inl rfl | exact Or.inr rfl)) (pss_one (ps_if (pt_val (pe_call (k := 2) G_would_break hr (by rfl) T.would_break.mg T.would_break.fn.kp T.would_break.b .nil pass0 (pa_cons (pv 0) (pa_cons (pv 1) (pa_cons (pv 3) (pa_cons (pv 4) pa_nil)))))) (pss_one (ps_expr (pe_bm PySem.F.plainAttrs_list PySem.F.slot_list_append PySem.F.type_list_append mt_append (pv 2) (pa_cons (pe_tup (pa_cons (pv 3) (pa_cons (pv 4) pa_nil))) pa_nil)))) pss_nil)))))
   (pss_one (ps_ret (pv 2))))), ?_⟩
  refine ⟨Nat.zero_le _, fun f hf => ?_⟩
  have s2 : Same H (upd H f (.lst [])) := TX.Same.upd (Same.refl H) hf
  obtain ⟨dx, la, hp, hL⟩ := id hC
  have hl6 := hV.le
  refine ⟨_, rfl, p, t.C, dx, _, _, rfl, s2 _ _ hp, T.cl, T.n_size, flds_size _ _, _, rfl, by omega, by omega, for_range (lo := 0) (n := ls.length) (fun i σ H2 => ∃ v u, σ = [some (.ref p), some (.ref d), some (.ref f), v, u] ∧ Same H H2 ∧ PL H2 f (rows (brkF ls hv) ls.length i))
   ⟨none, none, rfl, s2, [], upd_same, .nil⟩ ?_ ?_⟩
  ·rintro i σ H2 hi ⟨v, u, rfl, s3, hF⟩
   have hp2 := s3 _ _ hp
   have e0 : (0 : Int) + (i : Int) = (i : Int) := by omega
   refine ⟨_, rfl, _, _, rfl, rfl, _, rfl, p, t.C, dx, _, _, rfl, hp2, T.cl, T.n_size, flds_size _ _, _, _, rfl, ⟨by omega, by omega, by omega, by omega⟩, ?_⟩
   refine for_range (lo := 0 + (i : Int) + 1) (n := ((ls.length : Int) - (0 + (i : Int) + 1)).toNat) (fun k σ H2 => ∃ u, σ = [some (.ref p), some (.ref d), some (.ref f), some (.int (0 + (i : Int))), u] ∧ Same H H2 ∧ PL H2 f (rows (brkF ls hv) ls.length i ++ row (brkF ls hv) i k))
    ⟨u, rfl, s3, by rw [row_zero, List.append_nil]; exact hF⟩ ?_ ?_
   ·rintro k σ H3 hk3 ⟨u, rfl, s4, hF3⟩
    have hk4 : (i : Int) + 1 + (k : Int) < ls.length := by omega
    refine ⟨_, rfl, _, rfl, _, rfl, _, rfl, p, d, ls, hv, 0 + (i : Int), 0 + (i : Int) + 1 + (k : Int), rfl, hC.same s4, hV, ho, hd.same s4, ⟨by omega, by omega⟩, ⟨by omega, by omega⟩, _, rfl, ?_⟩
    rw [e0]
    rw [row_succ, ← List.append_assoc]
    cases hb : brkF ls hv (i : Int) ((i : Int) + 1 + (k : Int)) with
    | false =>
     refine iteF ⟨_, rfl, s4, ?_⟩
     simpa using hF3
    | true =>
     refine iteT ?_
     obtain ⟨xs, hf3, r⟩ := hF3
     have hxl := r.length
     refine ⟨_, rfl, .inl ⟨rfl, _, SqL.of hf3⟩, _, rfl, _, rfl, (by show 2 ≤ sizeLine; decide), fun tp ht => ?_⟩
     refine ⟨f, xs, _, rfl, rfl, upd_old hf3 ht, small1000 ?_, ?_⟩
     ·have q1 := rows_len (f := brkF ls hv) ls.length i
      have q2 := row_len (f := brkF ls hv) i k
      rw [hxl, List.length_append]
      have q3 : i * ls.length ≤ 6 * 6 := Nat.mul_le_mul (by omega) hl6
      omega
     ·have hf1 : H f = none := hf
      refine ⟨_, rfl, TX.Same.upd (TX.Same.upd s4 (s4.free ht)) hf1, ?_⟩
      exact PL.push hf3 r ht
   ·rintro σ H3 ⟨u, rfl, s4, hF3⟩
    refine ⟨_, _, rfl, s4, ?_⟩
    rw [rows_succ]
    have e : ((ls.length : Int) - (0 + (i : Int) + 1)).toNat = ls.length - (i + 1) := by omega
    rw [e] at hF3
    exact hF3
  ·rintro σ H2 ⟨v, u, rfl, s3, hF⟩
   refine ⟨_, rfl, ?_⟩
   exact fin f H2 hf s3 hF
end
end Tp
namespace Tp
open PySem PySem.Spec PyProof.Rows L2 TX TM TK
theorem dZ_nil {l : List Int} : dZ l = .list [] ↔ l = [] := by
 constructor
 ·intro h
  unfold dZ at h
  injection h with h
  simpa using h
 ·rintro rfl; rfl
section
variable {P : Program} {w : World} {K : PySem.W.Frag} {mg : Str → Option Value} {base : Heap} {t : Adr}
theorem boolsR {H : Hp} {σ : L2.St} {ta : TA} {te : TE} {ixs : List (Option Nat)} {rest : L2.St} {n : Nat} {g : Nat → Bool} {Q : VK} (hn : n ≤ 100) (hσ : subSt σ ixs = none :: rest) (hta : ∀ R : List V → Hp → Prop, R [.int n] H → ta σ H R)
  (hte : ∀ k : Nat, k < n → ∀ R : VK, R (.bl (g k)) H → te (some (.int (0 + (k : Int))) :: rest) H R) (q : ∀ c, H c = none → Q (.ref c) (upd H c (.lst (((List.range n).map g).map V.bl)))) :
  tComp ixs (iRng1 ta) (gName 0) tYes te σ H Q := by
 refine hta _ ⟨(n : Int), rfl, by omega, by omega, fun i m ys H1 => m = n - i ∧ i ≤ n ∧ ys = ((List.range i).map g).map V.bl ∧ H1 = H, ⟨_, rfl, Nat.zero_le _, rfl, rfl⟩, ?_⟩
 rintro i m ys H1 ⟨rfl, hi, rfl, rfl⟩
 by_cases hlt : i < n
 ·refine .inr ⟨hlt, small1000 (by simp; omega), fun x H' y => ?_⟩
  obtain ⟨rfl, rfl⟩ := y
  rw [hσ]
  refine ⟨Kps.own, ?_⟩
  refine yes_if (hte i hlt _ ⟨n - (i + 1), by omega, rfl, hlt, ?_, rfl⟩)
  rw [List.range_succ, List.map_append, List.map_append]
  rfl
 ·have e : i = n := by omega
  subst e
  exact .inl ⟨Nat.le_refl _, q⟩
theorem all_id {n : Nat} (g : Nat → Bool) : ((List.range n).map g).all id = (List.range n).all g := by rw [List.all_map]; rfl
def InRing (ls : Ls) (r : List Int) : Prop := ∀ x ∈ r, 0 ≤ x ∧ x < (ls.length : Int)
def spShareAll (C : Addr) : Sp := fun vs H Q _ => ∃ (p a : Addr) (ls : Ls) (r : List Int), vs = [.ref p, .ref a] ∧ CampAt C H p ls ∧ H a = some (.lst (r.map V.int)) ∧ InRing ls r ∧ r.length ≤ 100 ∧ ∀ H', Same H H' → Q (.bl (TN.shareAll ls r)) H'
theorem ok_would_all_share (T : Txt K mg t) : FnOk P w K mg base CX0 2 t.would_all_share t.fd_would_all_share ["camp", "ring"] (spShareAll t.C) := by
 have S := sc_would_all_share
 have G_would_share := ok_would_share (P := P) (w := w) (base := base) T
 refine T.would_all_share.fn.ok S (fun vs H Q E h => ?_) (fun cdv A outer s H vs Q E hr h => ?_)
 ·obtain ⟨p, a, ls, r, rfl, _⟩ := h; rfl
 ·obtain ⟨p, a, ls, r, rfl, hC, ha, hin, hl, fin⟩ := h
  obtain ⟨dx, la, hp, hL⟩ := id hC
  refine ⟨_, (pss_one (ps_ret (pe_callB (TX.call_all rfl) (by rfl) T.b_all TK.boot_all (pa_cons (TX.pe_comp (te := tMeth t.C "would_share" (spShare t.C) [] E0 (tVar 1) (tCons (tOp (rIxL K) (tVar 2) (tOp (rI0 fun i j => .int (i - j)) (tVar 0) (tC (.int 1)))) (tCons (tOp (rIxL K) (tVar 2) (tVar 0)) tNil))) ["place", "camp", "ring"] [none, some 0, some 1] rfl (pi_range1 rfl T.b_range (pa_cons (pe_callB call_len_seq (by rfl) T.b_len TK.boot_len (pa_cons (pv 1) pa_nil)) pa_nil)) (fun _ _ _ _ _ => (pg_name (i := 0) (show (["place", "camp", "ring"] : List Str).Nodup by decide +kernel) rfl (by first | exact Or.inl rfl | exact Or.inr rfl))) (fun _ _ _ _ _ => TX.pts_nil) (fun _ _ _ _ _ => (pe_meth (k := 1) (pv 1) T.cl T.Camp_would_share.me G_would_share hr T.Camp_would_share.b .nil pass0 (pa_cons (pe_ix ix_list (pv 2) (pe_op op_sub (pv 0) pe_int) (fun _ _ => rfl)) (pa_cons (pe_ix ix_list (pv 2) (pv 0) (fun _ _ => rfl)) pa_nil)))) rfl (by decide +kernel) (by decide +kernel) (No := ["camp", "ring"]) (sc := defScope s_would_all_share) rfl rfl (by decide +kernel) rfl (by decide +kernel)) pa_nil)))), ?_⟩
  refine tRet_of ?_
  refine tCB_of (tCons_of ?_)
  refine boolsR (n := r.length) (g := fun k => would ls (rp r k) (ra r k)) hl rfl (fun R z => ?_) (fun k hk R z => ?_) fun c hc => ?_
  ·refine ⟨_, rfl, a, _, rfl, .inl (SqL.of ha), ?_⟩
   rw [List.length_map]
   exact z
  ·exact ⟨_, rfl, p, dx, _, rfl, hp, flds_no _ _ (by decide +kernel) (by decide +kernel), _, rfl, _, rfl, _, _, rfl, rfl, a, _, _, _, rfl, rfl, SqL.of ha, at_prev hk, _, rfl, _, rfl, a, _, _, _, rfl, rfl, SqL.of ha, at_here hk, p, ls, rp r k, ra r k, rfl, hC, hin _ (rp_mem hk), hin _ (ra_mem hk), z⟩
  ·refine ⟨c, _, rfl, SqL.of upd_same, ?_⟩
   rw [all_id]
   exact fin _ (TX.Same.upd (Same.refl H) hc)
theorem at_prev2 {l : List Int} {k : Nat} (h2 : 2 ≤ l.length) (hk : k < l.length) : atI (l.map V.int) ((0 : Int) + (k : Int) - 2) = some (.int (TN.rpp l k)) := by
 unfold TN.rpp
 have hl : (l.map V.int).length = l.length := List.length_map ..
 by_cases h0 : k < 2
 ·have e : atI (l.map V.int) ((0 : Int) + (k : Int) - 2) = (l.map V.int)[l.length + k - 2]? := by
   unfold atI ixN
   rw [hl, if_neg (by omega), if_pos (by omega)]
   show (l.map V.int)[((0 : Int) + (k : Int) - 2 + (l.length : Int)).toNat]? = _
   congr 1
   omega
  rw [e]
  have e2 : (if TN.pv' l.length k = 0 then l.length - 1 else TN.pv' l.length k - 1) = l.length + k - 2 := by
   unfold TN.pv'
   split <;> split <;> omega
  unfold rp
  rw [e2]
  simp [List.getD, show l.length + k - 2 < l.length by omega]
 ·rw [show (0 : Int) + (k : Int) - 2 = ((k - 2 : Nat) : Int) by omega]
  refine atI_nat ?_
  have e2 : (if TN.pv' l.length k = 0 then l.length - 1 else TN.pv' l.length k - 1) = k - 2 := by
   unfold TN.pv'
   split <;> split <;> omega
  unfold rp
  rw [e2]
  simp [List.getD, show k - 2 < l.length by omega]
def spRatherAll (C : Addr) : Sp := fun vs H Q _ => ∃ (p a : Addr) (ls : Ls) (r : List Int), vs = [.ref p, .ref a] ∧ CampAt C H p ls ∧ Valid ls ∧ H a = some (.lst (r.map V.int)) ∧ InRing ls r ∧ r.length ≤ 100 ∧ 2 ≤ r.length ∧ TN.shareAll ls r = true ∧ ∀ H', Same H H' → Q (.bl (TN.ratherAll ls r)) H'
theorem ok_would_all_rather (T : Txt K mg t) : FnOk P w K mg base CX0 2 t.would_all_rather t.fd_would_all_rather ["camp", "ring"] (spRatherAll t.C) := by
 have S := sc_would_all_rather
 have G_would_rather := ok_would_rather (P := P) (w := w) (base := base) T
 refine T.would_all_rather.fn.ok S (fun vs H Q E h => ?_) (fun cdv A outer s H vs Q E hr h => ?_)
 ·obtain ⟨p, a, ls, r, rfl, _⟩ := h; rfl
 ·obtain ⟨p, a, ls, r, rfl, hC, hV, ha, hin, hl, h2, hsh, fin⟩ := h
  obtain ⟨dx, la, hp, hL⟩ := id hC
  have sh : ∀ k, k < r.length → would ls (rp r k) (ra r k) = true := fun k hk => List.all_eq_true.mp hsh k (List.mem_range.mpr hk)
  refine ⟨_, (pss_one (ps_ret (pe_callB (TX.call_all rfl) (by rfl) T.b_all TK.boot_all (pa_cons (TX.pe_comp (te := tMeth t.C "would_rather" (spRather t.C) [] E0 (tVar 1) (tCons (tOp (rIxL K) (tVar 2) (tOp (rI0 fun i j => .int (i - j)) (tVar 0) (tC (.int 1)))) (tCons (tOp (rIxL K) (tVar 2) (tVar 0)) (tCons (tOp (rIxL K) (tVar 2) (tOp (rI0 fun i j => .int (i - j)) (tVar 0) (tC (.int 2)))) tNil)))) ["place", "camp", "ring"] [none, some 0, some 1] rfl (pi_range1 rfl T.b_range (pa_cons (pe_callB call_len_seq (by rfl) T.b_len TK.boot_len (pa_cons (pv 1) pa_nil)) pa_nil)) (fun _ _ _ _ _ => (pg_name (i := 0) (show (["place", "camp", "ring"] : List Str).Nodup by decide +kernel) rfl (by first | exact Or.inl rfl | exact Or.inr rfl))) (fun _ _ _ _ _ => TX.pts_nil) (fun _ _ _ _ _ => (pe_meth (k := 1) (pv 1) T.cl T.Camp_would_rather.me G_would_rather hr T.Camp_would_rather.b .nil pass0 (pa_cons (pe_ix ix_list (pv 2) (pe_op op_sub (pv 0) pe_int) (fun _ _ => rfl)) (pa_cons (pe_ix ix_list (pv 2) (pv 0) (fun _ _ => rfl)) (pa_cons (pe_ix ix_list (pv 2) (pe_op op_sub (pv 0) pe_int) (fun _ _ => rfl)) pa_nil))))) rfl (by decide +kernel) (by decide +kernel) (No := ["camp", "ring"]) (sc := defScope s_would_all_rather) rfl rfl (by decide +kernel) rfl (by decide +kernel)) pa_nil)))), ?_⟩
  refine tRet_of ?_
  refine tCB_of (tCons_of ?_)
  refine boolsR (n := r.length) (g := fun k => wr ls (rp r k) (ra r k) (some (TN.rpp r k))) hl rfl (fun R z => ?_) (fun k hk R z => ?_) fun c hc => ?_
  ·refine ⟨_, rfl, a, _, rfl, .inl (SqL.of ha), ?_⟩
   rw [List.length_map]
   exact z
  ·have w1 := would_mem (sh k hk)
   have w2 := would_mem (sh _ (TN.pv_lt hk))
   exact ⟨_, rfl, p, dx, _, rfl, hp, flds_no _ _ (by decide +kernel) (by decide +kernel), _, rfl, _, rfl, _, _, rfl, rfl, a, _, _, _, rfl, rfl, SqL.of ha, at_prev hk, _, rfl, _, rfl, a, _, _, _, rfl, rfl, SqL.of ha, at_here hk,
    _, rfl, _, rfl, _, _, rfl, rfl, a, _, _, _, rfl, rfl, SqL.of ha, at_prev2 h2 hk, p, ls, rp r k, ra r k, some (TN.rpp r k), rfl, hC, hV, hin _ (rp_mem hk), w1.1, fun x e => by cases e; exact w2.2, z⟩
  ·refine ⟨c, _, rfl, SqL.of upd_same, ?_⟩
   rw [all_id]
   exact fin _ (TX.Same.upd (Same.refl H) hc)
def spGoodRing (C : Addr) : Sp := fun vs H Q _ => ∃ (p a : Addr) (ls : Ls) (r : List Int), vs = [.ref p, .ref a] ∧ CampAt C H p ls ∧ Valid ls ∧ H a = some (.lst (r.map V.int)) ∧ InRing ls r ∧ r.length ≤ 100 ∧ r ≠ [] ∧ ∀ H', Same H H' → Q (.bl (TN.goodRing ls r)) H'
theorem dec_nat (n m : Nat) : decide (V.int (n : Int) = V.int (m : Int)) = decide (n = m) := by
 by_cases e : n = m
 ·subst e; simp
 ·rw [decide_eq_false e, decide_eq_false (fun z => e (by injection z with z; omega))]
theorem ok_is_good_ring (T : Txt K mg t) : FnOk P w K mg base CX0 3 t.is_good_ring t.fd_is_good_ring ["camp", "ring"] (spGoodRing t.C) := by
 have S := sc_is_good_ring
 have G_would_all_share := ok_would_all_share (P := P) (w := w) (base := base) T
 have G_would_all_rather := ok_would_all_rather (P := P) (w := w) (base := base) T
 refine T.is_good_ring.fn.ok S (fun vs H Q E h => ?_) (fun cdv A outer s H vs Q E hr h => ?_)
 ·obtain ⟨p, a, ls, r, rfl, _⟩ := h; rfl
 ·obtain ⟨p, a, ls, r, rfl, hC, hV, ha, hin, hl, hne, fin⟩ := h
  have hpos : 0 < r.length := List.length_pos_iff.mpr hne
  unfold TN.goodRing at fin
  refine ⟨_, (pss_cons (ps_if (pt_cmpR op_eq (pe_callB call_len_seq (by rfl) T.b_len TK.boot_len (pa_cons (pv 1) pa_nil)) pe_int (nomark _)) (pss_one (ps_ret pe_bl)) pss_nil)
   (pss_cons (ps_if (pt_not (pt_val (pe_call (k := 2) G_would_all_share hr (by rfl) T.would_all_share.mg T.would_all_share.fn.kp T.would_all_share.b .nil pass0 (pa_cons (pv 0) (pa_cons (pv 1) pa_nil))))) (pss_one (ps_ret pe_bl)) pss_nil)
   (pss_one (ps_ret (pe_or (pe_cmpR op_eq (pe_callB call_len_seq (by rfl) T.b_len TK.boot_len (pa_cons (pv 1) pa_nil)) pe_int (nomark _)) (pe_one (pe_call (k := 2) G_would_all_rather hr (by rfl) T.would_all_rather.mg T.would_all_rather.fn.kp T.would_all_rather.b .nil pass0 (pa_cons (pv 0) (pa_cons (pv 1) pa_nil))))))))), ?_⟩
  refine ⟨_, rfl, a, _, rfl, .inl (SqL.of ha), rfl, _, rfl, ?_⟩
  rw [List.length_map, show (1 : Int) = ((1 : Nat) : Int) from rfl, dec_nat]
  refine iteB (fun e1 => ?_) (fun e1 => ?_)
  ·have := fin H (Same.refl H)
   rw [e1, Bool.true_or] at this
   exact this
  ·rw [e1, Bool.false_or] at fin
   have l1 : r.length ≠ 1 := of_decide_eq_false e1
   refine ⟨_, rfl, _, rfl, p, a, ls, r, rfl, hC, ha, hin, hl, fun H1 s1 => ⟨_, rfl, ?_⟩⟩
   cases hsh : TN.shareAll ls r with
   | false =>
    rw [hsh, Bool.false_and] at fin
    exact fin H1 s1
   | true =>
    rw [hsh, Bool.true_and] at fin
    refine iteF ?_
    refine ⟨_, rfl, a, _, rfl, .inl (SqL.of (s1 _ _ ha)), rfl, _, rfl, ?_⟩
    rw [List.length_map, show (2 : Int) = ((2 : Nat) : Int) from rfl, dec_nat]
    refine iteB (fun e2 => ?_) (fun e2 => ?_)
    ·have := fin H1 s1
     rw [e2, Bool.true_or] at this
     exact this
    ·rw [e2, Bool.false_or] at fin
     have l2 : r.length ≠ 2 := of_decide_eq_false e2
     exact ⟨_, rfl, _, rfl, p, a, ls, r, rfl, hC.same s1, hV, s1 _ _ ha, hin, hl, by omega, hsh, fun H2 s2 => fin H2 (s1.trans s2)⟩
theorem flat_take {α : Type} (l : List (List α)) (i : Nat) : (l.take i).flatten.length ≤ l.flatten.length := by
 conv => rhs; rw [← List.take_append_drop i l]
 rw [List.flatten_append, List.length_append]
 omega
def spOnce (C : Addr) : Sp := fun vs H Q _ => ∃ (p b : Addr) (ls : Ls) (rings : List (List Int)), vs = [.ref p, .ref b] ∧ CampAt C H p ls ∧ Valid ls ∧ LL H b rings ∧ rings.flatten.length ≤ 50 ∧ ∀ H', Same H H' → Q (.bl (decide (isort rings.flatten = rng ls.length))) H'
theorem ok_stand_once (T : Txt K mg t) : FnOk P w K mg base CX0 1 t.stand_once t.fd_stand_once ["camp", "rings"] (spOnce t.C) := by
 have S := sc_stand_once
 refine T.stand_once.fn.ok S (fun vs H Q E h => ?_) (fun cdv A outer s H vs Q E hr h => ?_)
 ·obtain ⟨p, b, ls, rings, rfl, _⟩ := h; rfl
 ·obtain ⟨p, b, ls, rings, rfl, hC, hV, hR, hfl, fin⟩ := h
  have hu64 := hr.units
  obtain ⟨dx, la, hp, hL⟩ := id hC
  have hl6 := hV.le
  obtain ⟨xs, hb, r⟩ := id hR
  have hxl := r.length
  refine ⟨_, (pss_cons (ps_set (i := 2) S.nd rfl (by first | exact Or.inl rfl | exact Or.inr rfl) (pe_lst pa_nil))
   (pss_cons (ps_for PassesOwn.never rfl (pi_list (pv 1)) (pg_name (i := 3) S.nd rfl (by first | exact Or.inl rfl | exact Or.inr rfl)) (pss_one (ps_expr (pe_bm PySem.F.plainAttrs_list PySem.F.slot_list_extend PySem.F.type_list_extend mt_extend (pv 2) (pa_cons (pv 3) pa_nil)))))
   (pss_one (ps_ret (pe_cmpR (TX.op_eqD hu64) (pe_callB TX.call_sorted (by rfl) T.b_sorted TK.boot_sorted (pa_cons (pv 2) pa_nil)) (pe_callTy (TX.call_list_rng rfl) (by rfl) T.b_list TK.boot_list (pa_cons (TX.pe_range1 (by rfl) T.b_range (pa_cons (pe_fld (pv 0) rfl) pa_nil)) pa_nil)) (nomark _)))))), ?_⟩
  refine ⟨Nat.zero_le _, fun f hf => ?_⟩
  have s1 : Same H (upd H f (.lst [])) := TX.Same.upd (Same.refl H) hf
  refine ⟨_, rfl, b, rfl, ⟨_, SqL.of (s1 _ _ hb)⟩, for_list (K := K) (a := b) (xs := xs) (fun i σ H2 => ∃ v, σ = [some (.ref p), some (.ref b), some (.ref f), v] ∧ Same H H2 ∧ H2 f = some (.lst ((rings.take i).flatten.map V.int)))
   ⟨none, rfl, s1, upd_same⟩ (fun i σ H2 _ ⟨_, _, s2, _⟩ => SqL.of (s2 _ _ hb)) ?_ ?_⟩
  ·rintro i y σ H2 hi ⟨v, rfl, s2, hf2⟩
   obtain ⟨l, hl, c, rfl, hc⟩ := Paired.at1 r hi
   have hlen := flat_take rings (i + 1)
   have et : rings.take (i + 1) = rings.take i ++ [l] := by rw [List.take_add_one, hl]; rfl
   rw [et, List.flatten_append, List.flatten_singleton, List.length_append] at hlen
   refine ⟨_, rfl, .inl ⟨rfl, _, SqL.of hf2⟩, _, rfl, f, c, _, _, rfl, rfl, hf2, s2 _ _ hc, Nat.le_of_lt (small1000 (by rw [List.length_map, List.length_map]; omega)), _, rfl, TX.Same.upd s2 hf, ?_⟩
   rw [upd_same, et, List.flatten_append, List.flatten_singleton, List.map_append]
  ·rintro σ H2 ⟨v, rfl, s2, hf2⟩
   rw [hxl, List.take_length] at hf2
   refine ⟨_, rfl, f, _, rfl, SqL.of hf2, by omega, fun q ms hq hp1 hp2 => ?_⟩
   have s3 : Same H2 (upd H2 q (.lst (ms.map V.int))) := TX.Same.upd (Same.refl _) hq
   have hq3 : upd H2 q (.lst (ms.map V.int)) q = some (.lst (ms.map V.int)) := upd_same
   generalize upd H2 q (.lst (ms.map V.int)) = H3 at s3 hq3
   refine ⟨_, rfl, p, t.C, dx, _, _, rfl, s3 _ _ (s2 _ _ hp), T.cl, T.n_size, flds_size _ _, _, rfl, fun rq hrq => ?_⟩
   refine ⟨rq, 0, _, rfl, upd_same, ⟨by omega, by omega, by omega, by omega⟩, by omega, fun l hl => ?_⟩
   rw [rngV_eq]
   have s4 : Same H3 (upd H3 rq (.rng 0 (ls.length : Int))) := TX.Same.upd (Same.refl _) hrq
   have s5 := TX.Same.upd (o := .lst ((rng ls.length).map V.int)) s4 (s4.free hl)
   have em : ms = isort rings.flatten := sorted_uniq (hp1.trans (isort_perm _).symm) hp2 (isort_sorted _)
   refine ⟨_, _, dd_ints (s5 _ _ hq3), dd_ints upd_same, ok_dZ _ 8, ok_dZ _ 8, fun e => ?_, fun e => ?_⟩
   ·have := fin _ (s2.trans (s3.trans s5))
    rw [decide_eq_true (by rw [← em]; exact dZ_inj.mp e)] at this
    exact this
   ·have := fin _ (s2.trans (s3.trans s5))
    rw [decide_eq_false (fun z => e (by rw [em, z]))] at this
    exact this
end
section
variable {P : Program} {w : World} {K : PySem.W.Frag} {mg : Str → Option Value} {base : Heap} {t : Adr}
def spLastOnes : Sp := fun vs H Q _ => ∃ (b : Addr) (rings : List (List Int)), vs = [.ref b] ∧ LL H b rings ∧ rings.flatten.length ≤ 50 ∧ ∀ d H', H d = none → Same H H' → HavAt H' d (TN.lastF rings) → Q (.ref d) H'
set_option maxHeartbeats 1000000 in
theorem ok_last_ones (T : Txt K mg t) : FnOk P w K mg base CX0 1 t.last_ones t.fd_last_ones ["rings"] spLastOnes := by
 have S := sc_last_ones
 refine T.last_ones.fn.ok S (fun vs H Q E h => ?_) (fun cdv A outer s H vs Q E hr h => ?_)
 ·obtain ⟨b, rings, rfl, _⟩ := h; rfl
 ·obtain ⟨b, rings, rfl, hR, hfl, fin⟩ := h
  have hu := hu_of hr
  obtain ⟨xs, hb, r⟩ := id hR
  have hxl := r.length
  refine ⟨_, (pss_cons (ps_set (i := 1) S.nd rfl (by first | exact Or.inl rfl | exact Or.inr rfl) pe_dnewK)
   (pss_cons (ps_for PassesOwn.never rfl (pi_list (pv 0)) (pg_name (i := 2) S.nd rfl (by first | exact Or.inl rfl | exact Or.inr rfl)) (pss_one (ps_for PassesOwn.never rfl (TX.pi_enum rfl T.b_enumerate (pa_cons (pv 2) pa_nil)) (pg_tup rfl (pgs_cons (pg_name (i := 3) S.nd rfl (by first | exact Or.inl rfl | exact Or.inr rfl)) (pgs_cons (pg_name (i := 4) S.nd rfl (by first | exact Or.inl rfl | exact Or.inr rfl)) pgs_nil))) (pss_one (ps_dput hu (pv 1) (pv 4) (pe_ifExp (pt_cmpR op_gt (pe_callB call_len_seq (by rfl) T.b_len TK.boot_len (pa_cons (pv 2) pa_nil)) pe_int (nomark _)) (pe_ix ix_list (pv 2) (pe_op op_sub (pv 3) pe_int) (fun _ _ => rfl)) pe_non) rfl)))))
   (pss_one (ps_ret (pv 1))))), ?_⟩
  intro d hd
  have s1 : Same H (upd H d (.dK [])) := TX.Same.upd (Same.refl H) hd
  refine ⟨_, rfl, b, rfl, ⟨_, SqL.of (s1 _ _ hb)⟩, for_list (K := K) (a := b) (xs := xs) (fun i σ H2 => ∃ (kvs : List (Key × V)) (v2 v3 v4 : Option V), σ = [some (.ref b), some (.ref d), v2, v3, v4] ∧ Same H H2 ∧ H2 d = some (.dK kvs) ∧ kvs.length ≤ (rings.take i).flatten.length ∧
   ∀ x : Int, (valV kvs (Sum.inl x)).getD .non = optV (TN.lastF (rings.take i) x))
   ⟨_, none, none, none, rfl, s1, upd_same, Nat.zero_le _, fun x => by rw [List.take_zero]; rfl⟩ (fun i σ H2 _ ⟨_, _, _, _, _, s2, _⟩ => SqL.of (s2 _ _ hb)) ?_ ?_⟩
  ·rintro i y σ H2 hi ⟨kvs, v2, v3, v4, rfl, s2, hd2, hl2, hk2⟩
   obtain ⟨l, hl, c, rfl, hc⟩ := Paired.at1 r hi
   have et : rings.take (i + 1) = rings.take i ++ [l] := by rw [List.take_add_one, hl]; rfl
   have hlen := flat_take rings (i + 1)
   rw [et, List.flatten_append, List.flatten_singleton, List.length_append] at hlen
   have hc2 := s2 _ _ hc
   refine ⟨_, rfl, c, rfl, ⟨_, SqL.of hc2⟩, for_enum (K := K) (a := c) (xs := l.map V.int) (fun k σ H3 => ∃ (kvs : List (Key × V)) (v3 v4 : Option V), σ = [some (.ref b), some (.ref d), some (.ref c), v3, v4] ∧ Same H H3 ∧ H3 d = some (.dK kvs) ∧ kvs.length ≤ (rings.take i).flatten.length + k ∧
    ∀ x : Int, (valV kvs (Sum.inl x)).getD .non = optV (TN.lastRF l (TN.lastF (rings.take i)) k x))
    ⟨kvs, v3, v4, rfl, s2, hd2, hl2, hk2⟩ (fun k σ H3 _ ⟨_, _, _, _, s3, _⟩ => SqL.of (s3 _ _ hc)) ?_ ?_⟩
   ·rintro k z σ H3 tp hk ⟨kvs3, v3, v4, rfl, s3, hd3, hl3, hk3⟩ htp
    obtain ⟨zi, hzi, rfl⟩ := int_at hk
    have hkl : k < l.length := (List.getElem?_eq_some_iff.mp hzi).1
    have era : TM.ra l k = zi := by unfold TM.ra; rw [List.getD_eq_getElem?_getD, hzi]; rfl
    have s4 : Same H (upd H3 tp (.tup [.int (k : Nat), .int zi])) := TX.Same.upd s3 (s3.free htp)
    have hd4 : upd H3 tp (.tup [.int (k : Nat), .int zi]) d = some (.dK kvs3) := upd_old hd3 htp
    have hc4 := s4 _ _ hc
    have ht4 : upd H3 tp (.tup [.int (k : Nat), .int zi]) tp = some (.tup [.int (k : Nat), .int zi]) := upd_same
    generalize upd H3 tp (.tup [.int (k : Nat), .int zi]) = H4 at s4 hd4 hc4 ht4
    refine ⟨tp, _, rfl, SqT.of ht4, rfl, _, _, rfl, _, _, rfl, rfl, ?_⟩
    have done : ∀ u : Option Int, u = (if 1 < l.length then some (TM.rp l k) else none) → ∃ (kvs : List (Key × V)) (v3 v4 : Option V), [some (V.ref b), some (.ref d), some (.ref c), some (.int (k : Nat)), some (.int zi)] = [some (.ref b), some (.ref d), some (.ref c), v3, v4] ∧ Same H (upd H4 d (.dK (putK kvs3 (Sum.inl zi) (optV u)))) ∧
      upd H4 d (.dK (putK kvs3 (Sum.inl zi) (optV u))) d = some (.dK kvs) ∧ kvs.length ≤ (rings.take i).flatten.length + (k + 1) ∧ ∀ x : Int, (valV kvs (Sum.inl x)).getD .non = optV (TN.lastRF l (TN.lastF (rings.take i)) (k + 1) x) := by
     rintro u rfl
     refine ⟨_, _, _, rfl, TX.Same.upd s4 hd, upd_same, ?_, fun x => ?_⟩
     ·have := length_putK kvs3 (Sum.inl zi : Key) (optV (if 1 < l.length then some (TM.rp l k) else none))
      omega
     ·rw [valV_put, TN.lastRF_succ]
      unfold TN.lstep
      rw [era]
      by_cases e : x = zi
      ·rw [if_pos (by rw [e]), if_pos e]; rfl
      ·rw [if_neg (fun q => e (by injection q)), if_neg e]
       exact hk3 x
    refine ⟨_, rfl, c, _, rfl, .inl (SqL.of hc4), _, _, rfl, rfl, _, rfl, ?_⟩
    rw [List.length_map]
    refine iteB (fun e1 => ?_) (fun e1 => ?_)
    ·have h1 : 1 < l.length := by have := of_decide_eq_true e1; omega
     have ep := at_prev (l := l) hkl
     rw [Int.zero_add] at ep
     refine ⟨_, rfl, _, rfl, _, _, rfl, rfl, c, _, _, _, rfl, rfl, SqL.of hc4, ep, _, rfl, _, rfl, d, _, rfl, DPut.k (k := Sum.inl zi) hd4 (small1000 (by omega)), ?_⟩
     exact done (some (TM.rp l k)) (by rw [if_pos h1])
    ·have h1 : ¬ 1 < l.length := by have := of_decide_eq_false e1; omega
     refine ⟨_, rfl, _, rfl, d, _, rfl, DPut.k (k := Sum.inl zi) hd4 (small1000 (by omega)), ?_⟩
     exact done none (by rw [if_neg h1])
   ·rintro σ H3 ⟨kvs3, v3, v4, rfl, s3, hd3, hl3, hk3⟩
    rw [List.length_map] at hl3 hk3
    refine ⟨_, _, _, _, rfl, s3, hd3, ?_, fun x => ?_⟩
    ·rw [et, List.flatten_append, List.flatten_singleton, List.length_append]; exact hl3
    ·rw [et, TN.lastF_snoc]; exact hk3 x
  ·rintro σ H2 ⟨kvs, v2, v3, v4, rfl, s2, hd2, hl2, hk2⟩
   rw [hxl, List.take_length] at hk2
   exact ⟨_, rfl, fin d H2 hd s2 ⟨kvs, hd2, hk2⟩⟩
end
section
variable {P : Program} {w : World} {K : PySem.W.Frag} {mg : Str → Option Value} {base : Heap} {t : Adr}
theorem tNot_of {c : TT} {σ : L2.St} {H : Hp} {R : Bool → Hp → Prop} (h : c σ H fun x H1 => R (!x) H1) : tNot c σ H R := h
theorem tNext_of {D : Ends} {σ : L2.St} {H : Hp} (h : D.nx σ H) : tNext D σ H := h
theorem tTest_of {te : TE} {σ : L2.St} {H : Hp} {R : Bool → Hp → Prop} (h : te σ H fun x H' => ∃ k, x = .bl k ∧ R k H') : tTest te σ H R := h
theorem tOp_of {r : R2} {ta tb : TE} {σ : L2.St} {H : Hp} {Q : VK} (h : ta σ H fun x H1 => tb σ H1 fun y H2 => r x y H2 Q) : tOp r ta tb σ H Q := h
theorem tCall_of {sp : Sp} {dvs : List V} {E : XK} {ta : TA} {σ : L2.St} {H : Hp} {Q : VK} (h : ta σ H fun vs H1 => sp (vs ++ dvs) H1 Q E) : tCall sp dvs E ta σ H Q := h
theorem tAndV_of {ta tb : TE} {σ : L2.St} {H : Hp} {Q : VK} (h : ta σ H fun x H1 => ∃ c, x = .bl c ∧ if c = true then tb σ H1 Q else Q (.bl false) H1) : tAndV ta tb σ H Q := h
theorem boolsL {H : Hp} {σ : L2.St} {tl te : TE} {ixs : List (Option Nat)} {rest : L2.St} {b : Addr} {xs : List V} {rings : List (List Int)} {g : List Int → Bool} {Q : VK} (hb : H b = some (.lst xs)) (r : Paired (RI H) xs rings) (hn : rings.length ≤ 100) (hσ : subSt σ ixs = none :: rest) (htl : ∀ R : VK, R (.ref b) H → tl σ H R)
  (hte : ∀ ring ∈ rings, ∀ c H1, Same H H1 → H1 c = some (.lst (ring.map V.int)) → ∀ R : VK, (∀ H2, Same H1 H2 → R (.bl (g ring)) H2) → te (some (.ref c) :: rest) H1 R)
  (q : ∀ c H1, Same H H1 → H1 c = none → Q (.ref c) (upd H1 c (.lst ((rings.map g).map V.bl)))) : tComp ixs (iList K tl) (gName 0) tYes te σ H Q := by
 have hl := r.length
 refine htl _ ⟨b, rfl, ⟨_, SqL.of hb⟩, fun i m ys H1 => m = xs.length - i ∧ i ≤ xs.length ∧ ys = ((rings.take i).map g).map V.bl ∧ Same H H1, ⟨_, rfl, Nat.zero_le _, by rw [List.take_zero]; rfl, Same.refl H⟩, ?_⟩
 rintro i m ys H1 ⟨rfl, hi, rfl, s1⟩
 by_cases hlt : i < xs.length
 ·refine .inr ⟨⟨_, xs[i], SqL.of (s1 _ _ hb), by simp [hlt]⟩, small1000 (by simp; omega), fun x H' y => ?_⟩
  obtain ⟨rfl, y⟩ := y
  have hx := y _ (SqL.of (s1 _ _ hb))
  obtain ⟨ring, hr, c, rfl, hc⟩ := Paired.at1 r hx
  rw [hσ]
  refine ⟨Kps.own, ?_⟩
  refine yes_if (hte ring (List.mem_of_getElem? hr) c _ s1 (s1 _ _ hc) _ fun H2 s2 => ⟨xs.length - (i + 1), by omega, rfl, hlt, ?_, s1.trans s2⟩)
  rw [List.take_add_one, hr, List.map_append, List.map_append]
  rfl
 ·have e : i = xs.length := by omega
  subst e
  rw [List.take_of_length_le (by omega)]
  exact .inl ⟨⟨_, SqL.of (s1 _ _ hb), Nat.le_refl _⟩, fun c hc => q c _ s1 hc⟩
theorem flat_len {rings : List (List Int)} (h : ∀ ring ∈ rings, ring ≠ []) : rings.length ≤ rings.flatten.length := by
 induction rings with
 | nil => exact Nat.le_refl _
 | cons r rs ih =>
  rw [List.flatten_cons, List.length_append, List.length_cons]
  have h1 := List.length_pos_iff.mpr (h r List.mem_cons_self)
  have h2 := ih fun x hx => h x (List.mem_cons_of_mem _ hx)
  omega
theorem ring_le {rings : List (List Int)} {ring : List Int} (h : ring ∈ rings) : ring.length ≤ rings.flatten.length := (List.sublist_flatten_of_mem h).length_le
def spAreGood (C : Addr) : Sp := fun vs H Q _ => ∃ (p b : Addr) (ls : Ls) (rings : List (List Int)), vs = [.ref p, .ref b] ∧ CampAt C H p ls ∧ Valid ls ∧ LL H b rings ∧ TN.Wf ls.length rings ∧ rings.flatten.length ≤ 50 ∧ ∀ H', Same H H' → Q (.bl (TN.areGood ls rings)) H'
set_option maxHeartbeats 1000000 in
theorem ok_are_good (T : Txt K mg t) : FnOk P w K mg base CX0 4 t.are_good t.fd_are_good ["camp", "rings"] (spAreGood t.C) := by
 have S := sc_are_good
 have G_stand_once := ok_stand_once (P := P) (w := w) (base := base) T
 have G_is_good_ring := ok_is_good_ring (P := P) (w := w) (base := base) T
 have G_breakers := ok_breakers (P := P) (w := w) (base := base) T
 have G_last_ones := ok_last_ones (P := P) (w := w) (base := base) T
 refine T.are_good.fn.ok S (fun vs H Q E h => ?_) (fun cdv A outer s H vs Q E hr h => ?_)
 ·obtain ⟨p, b, ls, rings, rfl, _⟩ := h; rfl
 ·obtain ⟨p, b, ls, rings, rfl, hC, hV, hR, hwf, hfl, fin⟩ := h
  have hu64 := hr.units
  have hrl := flat_len fun r h => (hwf r h).1
  unfold TN.areGood at fin
  refine ⟨_, (pss_cons (ps_if (pw_or (pt_cmpR (TX.op_inD hu64) (pe_lst pa_nil) (pv 1) (by with_unfolding_all rfl)) (pw_or1 (pt_not (pt_val (pe_call (k := 3) (G_stand_once.mono (by decide)) hr (by rfl) T.stand_once.mg T.stand_once.fn.kp T.stand_once.b .nil pass0 (pa_cons (pv 0) (pa_cons (pv 1) pa_nil))))))).pt (pss_one (ps_ret pe_bl)) pss_nil)
   (pss_cons (ps_if (pt_not (pt_val (pe_callB (TX.call_all rfl) (by rfl) T.b_all TK.boot_all (pa_cons (TX.pe_comp (te := tCall (spGoodRing t.C) [] E0 (tCons (tVar 1) (tCons (tVar 0) tNil))) ["ring", "camp"] [none, some 0] rfl (pi_list (pv 1)) (fun _ _ _ _ _ => (pg_name (i := 0) (show (["ring", "camp"] : List Str).Nodup by decide +kernel) rfl (by first | exact Or.inl rfl | exact Or.inr rfl))) (fun _ _ _ _ _ => TX.pts_nil) (fun _ _ _ _ _ => (pe_call (k := 3) G_is_good_ring hr (by rfl) T.is_good_ring.mg T.is_good_ring.fn.kp T.is_good_ring.b .nil pass0 (pa_cons (pv 1) (pa_cons (pv 0) pa_nil)))) rfl (by decide +kernel) (by decide +kernel) (No := ["camp", "rings"]) (sc := defScope s_are_good) rfl rfl (by decide +kernel) rfl (by decide +kernel)) pa_nil)))) (pss_one (ps_ret pe_bl)) pss_nil)
   (pss_one (ps_ret (pe_cmpR (TX.op_eqD hu64) (pe_call (k := 3) G_breakers hr (by rfl) T.breakers.mg T.breakers.fn.kp T.breakers.b .nil pass0 (pa_cons (pv 0) (pa_cons (pe_call (k := 3) (G_last_ones.mono (by decide)) hr (by rfl) T.last_ones.mg T.last_ones.fn.kp T.last_ones.b .nil pass0 (pa_cons (pv 1) pa_nil)) pa_nil))) (pe_lst pa_nil) (nomark _)))))), ?_⟩
  refine ⟨Nat.zero_le _, fun e he => ?_⟩
  have s1 : Same H (upd H e (.lst [])) := TX.Same.upd (Same.refl H) he
  have he1 : upd H e (.lst []) e = some (.lst []) := upd_same
  generalize upd H e (.lst []) = H1 at s1 he1
  refine ⟨_, rfl, .list [], rings.map dZ, dd_nil he1, LL.dd (Of.same mI hR s1), by simp [PySem.W.kqdOk], ok_dLL _, fun hm => ?_, fun _ => ⟨_, rfl, iteF ?_⟩⟩
  ·exfalso
   obtain ⟨ring, h1, h2⟩ := List.mem_map.mp hm
   exact (hwf ring h1).1 (dZ_nil.mp h2)
  refine ⟨_, rfl, _, rfl, p, b, ls, rings, rfl, hC.same s1, hV, Of.same mI hR s1, hfl, fun H2 s2 => ⟨_, rfl, ?_⟩⟩
  have s12 := s1.trans s2
  cases hd : decide (isort rings.flatten = rng ls.length) with
  | false =>
   rw [hd, Bool.false_and] at fin
   exact fin H2 s12
  | true =>
   rw [hd, Bool.true_and] at fin
   refine iteF ?_
   obtain ⟨xs, hb2, r2⟩ := Of.same mI hR s12
   have hC2 := hC.same s12
   refine tNext_of ?_
   dsimp only
   refine tSeq_of ?_
   refine tIfS_of (tNot_of (tB_of (tCB_of (tCons_of ?_))))
   refine boolsL (K := K) (b := b) (g := TN.goodRing ls) hb2 r2 (by omega) rfl (fun R z => by exact ⟨_, rfl, z⟩) (fun ring hm c H3 s3 hc R z => ?_) fun c H3 s3 hc => ?_
   ·refine ⟨_, rfl, _, rfl, p, c, ls, ring, rfl, hC2.same s3, hV, hc, (hwf ring hm).2, ?_, (hwf ring hm).1, z⟩
    have := ring_le hm; omega
   ·refine ⟨c, _, rfl, SqL.of upd_same, _, rfl, ?_⟩
    have s4 : Same H (upd H3 c (.lst ((rings.map (TN.goodRing ls)).map V.bl))) := TX.Same.upd (s12.trans s3) ((s12.trans s3).free hc)
    generalize upd H3 c (.lst ((rings.map (TN.goodRing ls)).map V.bl)) = H4 at s4
    rw [show (rings.map (TN.goodRing ls)).all id = rings.all (TN.goodRing ls) from by rw [List.all_map]; rfl]
    cases hg : rings.all (TN.goodRing ls) with
    | false =>
     rw [hg, Bool.false_and] at fin
     exact fin H4 s4
    | true =>
     rw [hg, Bool.true_and] at fin
     refine iteF ?_
     have hall := List.all_eq_true.mp hg
     have hsh : ∀ ring ∈ rings, 1 < ring.length → TN.shareAll ls ring = true := fun ring hm h1 => TN.good_share (hall ring hm) h1
     refine ⟨_, rfl, _, rfl, b, rings, rfl, Of.same mI hR s4, hfl, fun d H5 hd5 s5 hv => ?_⟩
     refine ⟨p, d, ls, TN.lastF rings, rfl, (hC.same s4).same s5, hV, fun i _ _ x e => (would_mem (TN.lastF_would hsh i x e)).1, hv, fun q H6 hq s6 hP => ⟨Nat.zero_le _, fun e2 he2 => ?_⟩⟩
     have s7 := TX.Same.upd (o := .lst []) (Same.refl H6) he2
     have fin' := fin _ ((s4.trans s5).trans (s6.trans s7))
     refine ⟨_, _, PL.dd (Of.same mP hP s7), dd_nil upd_same, ok_dPL _, ok_nilD, fun z => ?_, fun z => ?_⟩
     ·rwa [show decide (TN.breakers ls (TN.lastF rings) = []) = true from decide_eq_true (dPL_nil.mp z)] at fin'
     ·rwa [show decide (TN.breakers ls (TN.lastF rings) = []) = false from decide_eq_false fun y => z (dPL_nil.mpr y)] at fin'
def spTellNone (C : Addr) : Sp := fun vs H Q _ => ∃ (p b : Addr) (ls : Ls) (rings : List (List Int)), vs = [.ref p, .ref b] ∧ CampAt C H p ls ∧ Valid ls ∧ LL H b rings ∧ TN.Wf ls.length rings ∧ rings.flatten.length ≤ 50 ∧ ∀ H', Same H H' → Q (.bl (TN.tellB ls rings)) H'
theorem ok_tell_none (T : Txt K mg t) : FnOk P w K mg base CX0 5 t.tell_none t.fd_tell_none ["camp", "rings"] (spTellNone t.C) := by
 have S := sc_tell_none
 have G_are_good := ok_are_good (P := P) (w := w) (base := base) T
 have h_TELLING_SIZES := T.mg_T
 refine T.tell_none.fn.ok S (fun vs H Q E h => ?_) (fun cdv A outer s H vs Q E hr h => ?_)
 ·obtain ⟨p, b, ls, rings, rfl, _⟩ := h; rfl
 ·obtain ⟨p, b, ls, rings, rfl, hC, hV, hR, hwf, hfl, fin⟩ := h
  have hrl := flat_len fun r h => (hwf r h).1
  obtain ⟨xs, hb, r⟩ := id hR
  unfold TN.tellB at fin
  refine ⟨_, (pss_one (ps_ret (pe_and (pe_callB (TX.call_any rfl) (by rfl) T.b_any TK.boot_any (pa_cons (TX.pe_comp (te := tOp (rIn K false) (tCB (TX.rLen K) (tCons (tVar 0) tNil)) (tC (.ref t.tT))) ["ring"] [none] rfl (pi_list (pv 1)) (fun _ _ _ _ _ => (pg_name (i := 0) (show (["ring"] : List Str).Nodup by decide +kernel) rfl (by first | exact Or.inl rfl | exact Or.inr rfl))) (fun _ _ _ _ _ => TX.pts_nil) (fun _ _ _ _ _ => (pe_cmpR op_in_seq (pe_callB TX.call_lenS (by rfl) T.b_len TK.boot_len (pa_cons (pv 0) pa_nil)) (pe_glob (v := .ref t.tT) (by rfl) h_TELLING_SIZES (by first | exact ⟨_, rfl⟩ | rfl)) (by with_unfolding_all rfl))) rfl (by decide +kernel) (by decide +kernel) (No := ["camp", "rings"]) (sc := defScope s_tell_none) rfl rfl (by decide +kernel) rfl (by decide +kernel)) pa_nil)) (pe_one (pe_call (k := 4) G_are_good hr (by rfl) T.are_good.mg T.are_good.fn.kp T.are_good.b .nil pass0 (pa_cons (pv 0) (pa_cons (pv 1) pa_nil))))))), ?_⟩
  refine tRet_of (tAndV_of (tCB_of (tCons_of ?_)))
  refine boolsL (K := K) (b := b) (g := TN.oddB) hb r (by omega) rfl (fun R z => by exact ⟨_, rfl, z⟩) (fun ring hm c H3 s3 hc R z => ?_) fun c H3 s3 hc => ?_
  ·refine ⟨_, rfl, c, _, rfl, .inl (SqL.of hc), _, _, rfl, .inr (T.k_T _), rfl, rfl, ?_⟩
   rw [List.length_map]
   show R (.bl (inV (.int (ring.length : Int)) [.int 3, .int 5])) H3
   rw [in35]
   exact z H3 (Same.refl _)
  ·refine ⟨c, _, rfl, SqL.of upd_same, _, rfl, ?_⟩
   have s4 : Same H (upd H3 c (.lst ((rings.map TN.oddB).map V.bl))) := TX.Same.upd s3 (s3.free hc)
   generalize upd H3 c (.lst ((rings.map TN.oddB).map V.bl)) = H4 at s4
   rw [show (rings.map TN.oddB).any id = rings.any TN.oddB from by rw [List.any_map]; rfl]
   cases ho : rings.any TN.oddB with
   | false =>
    rw [ho, Bool.false_and] at fin
    exact fin H4 s4
   | true =>
    rw [ho, Bool.true_and] at fin
    exact iteT ⟨_, rfl, _, rfl, p, b, ls, rings, rfl, hC.same s4, hV, Of.same mI hR s4, hwf, hfl, fun H5 s5 => fin H5 (s4.trans s5)⟩
end
end Tp
namespace Tp
open PySem PySem.Spec PyProof.Rows L2 TX TM TK
section
variable {P : Program} {w : World} {K : PySem.W.Frag} {mg : Str → Option Value} {base : Heap} {t : Adr}
theorem FnOk.ex {ι : Type} {k : Nat} {f : Addr} {fd : FuncData} {ps : List Str} {p : ι → Prop} {sp : ι → Sp} (h : ∀ i, p i → FnOk P w K mg base CX0 k f fd ps (sp i)) : FnOk P w K mg base CX0 k f fd ps (fun vs H Q E => ∃ i, p i ∧ sp i vs H Q E) :=
 ⟨fun vs H Q E ⟨i, hi, q⟩ => (h i hi).len vs H Q E q, fun A outer s H args us vs Q E hr he hb hv ⟨i, hi, q⟩ => (h i hi).run A outer s H args us vs Q E hr he hb hv q⟩
def SRes (ls : Ls) (H : Hp) (v : V) (c : TN.Rs) (o : Option (List Int)) (F : List Int) : Prop :=
 (v = .non ∧ ∀ R, TN.Ext ls c o F R → TN.tellB ls R = false) ∨ ∃ q R, v = .ref q ∧ LL H q R ∧ TN.Ext ls c o F R ∧ TN.tellB ls R = true
def spFree (C : Addr) (m : Nat) : Sp := fun vs H Q _ => ∃ (p c f : Addr) (ls : Ls) (cl : TN.Rs) (F : List Int), vs = [.ref p, .ref c, .ref f] ∧ CampAt C H p ls ∧ Valid ls ∧ LL H c cl ∧ TN.Wf ls.length cl ∧ H f = some (.lst (F.map V.int)) ∧ F.length = m ∧ InRing ls F ∧ cl.flatten.length + F.length ≤ 6 ∧
 ∀ v H', Same H H' → SRes ls H' v cl none F → Q v H'
def spBegun (C : Addr) (m : Nat) : Sp := fun vs H Q _ => ∃ (p c a f : Addr) (ls : Ls) (cl : TN.Rs) (r F : List Int), vs = [.ref p, .ref c, .ref a, .ref f] ∧ CampAt C H p ls ∧ Valid ls ∧ LL H c cl ∧ TN.Wf ls.length cl ∧ H a = some (.lst (r.map V.int)) ∧ r ≠ [] ∧ InRing ls r ∧ H f = some (.lst (F.map V.int)) ∧ F.length = m ∧ InRing ls F ∧ cl.flatten.length + r.length + F.length ≤ 6 ∧
 ∀ v H', Same H H' → SRes ls H' v cl (some r) F → Q v H'
theorem cut_head {F : List Int} {x : Int} {r : List Int} (h : F = x :: r) : cutV (F.map V.int) none (some 1) = [V.int x] ∧ cutV (F.map V.int) (some 1) none = r.map V.int := by
 subst h
 have e : HT.sIx ((x :: r).map V.int).length 0 (some 1) = 1 := by
  show HT.sIx _ 0 (some ((1 : Nat) : Int)) = 1
  rw [HT.sIx_nat, List.length_map, List.length_cons]
  omega
 have e' : HT.sIx ((x :: r).map V.int).length ((x :: r).map V.int).length (some 1) = 1 := by
  show HT.sIx _ _ (some ((1 : Nat) : Int)) = 1
  rw [HT.sIx_nat, List.length_map, List.length_cons]
  omega
 constructor
 ·unfold cutV
  rw [e', HT.sIx_none]
  rfl
 ·unfold cutV
  rw [e, HT.sIx_none]
  show (r.map V.int).take (((x :: r).map V.int).length - 1) = r.map V.int
  rw [List.length_map, List.length_cons, Nat.add_sub_cancel, List.take_of_length_le (by rw [List.length_map]; exact Nat.le_refl _)]
theorem last_at {r : List Int} (h : r ≠ []) : atI (r.map V.int) (-1) = some (.int (r.getLastD 0)) := by
 have hl := List.length_pos_iff.mpr h
 have e : atI (r.map V.int) (-1) = (r.map V.int)[r.length - 1]? := by
  unfold atI ixN
  rw [List.length_map, if_neg (by decide), if_pos (by omega)]
  show (r.map V.int)[(-1 + (r.length : Int)).toNat]? = _
  congr 1
  omega
 rw [e, List.getElem?_map, List.getElem?_eq_getElem (by omega)]
 congr 2
 rw [List.getLastD_eq_getLast?, List.getLast?_eq_getElem?, List.getElem?_eq_getElem (by omega)]
 rfl
theorem last_mem {r : List Int} (h : r ≠ []) : r.getLastD 0 ∈ r := by
 have hl := List.length_pos_iff.mpr h
 rw [List.getLastD_eq_getLast?, List.getLast?_eq_getElem?, List.getElem?_eq_getElem (by omega)]
 exact List.getElem_mem _
theorem butOne {H : Hp} {σ : L2.St} {tl : TE} {ixs : List (Option Nat)} {p : Addr} {l : List Int} {c : Int} {Q : VK} (hn : l.length ≤ 100) (hσ : subSt σ ixs = [none, some (.int c)]) (hp : H p = some (.lst (l.map V.int))) (htl : ∀ R : VK, R (.ref p) H → tl σ H R)
  (q : ∀ d, H d = none → Q (.ref d) (upd H d (.lst ((l.filter fun x => decide (x ≠ c)).map V.int)))) :
  tComp ixs (iList K tl) (gName 0) (tTest (tOp rNe (tVar 0) (tVar 1))) (tVar 0) σ H Q := by
 refine htl _ ⟨p, rfl, ⟨_, SqL.of hp⟩, fun i m ys H1 => m = l.length - i ∧ i ≤ l.length ∧ ys = ((l.take i).filter fun x => decide (x ≠ c)).map V.int ∧ H1 = H, ⟨_, rfl, Nat.zero_le _, by rw [List.take_zero]; rfl, rfl⟩, ?_⟩
 rintro i m ys H1 ⟨rfl, hi, rfl, rfl⟩
 by_cases hlt : i < l.length
 ·refine .inr ⟨⟨_, .int l[i], SqL.of hp, by simp [hlt]⟩, small1000 ?_, fun x H' y => ?_⟩
  ·rw [List.length_map]
   refine Nat.le_trans (List.length_filter_le _ _) ?_
   rw [List.length_take]
   omega
  ·obtain ⟨rfl, y⟩ := y
   obtain ⟨z, hz, rfl⟩ := int_at (y _ (SqL.of hp))
   rw [hσ]
   refine ⟨Kps.own, _, rfl, _, rfl, rfl, _, rfl, ?_⟩
   rw [dec_V]
   have e : ((l.take (i + 1)).filter fun x => decide (x ≠ c)).map V.int = ((l.take i).filter fun x => decide (x ≠ c)).map V.int ++ (if decide (z ≠ c) = true then [V.int z] else []) := by
    rw [List.take_add_one, hz, Option.toList_some, List.filter_append, List.map_append, List.filter_cons, List.filter_nil]
    split <;> rfl
   refine iteB (fun h => ?_) (fun h => ?_)
   ·refine ⟨_, rfl, l.length - (i + 1), by omega, rfl, hlt, ?_, rfl⟩
    rw [e, if_pos (by simpa using h)]
   ·refine ⟨l.length - (i + 1), by omega, rfl, hlt, ?_, rfl⟩
    rw [e, if_neg (by simpa using h), List.append_nil]
 ·have e : i = l.length := by omega
  subst e
  rw [List.take_length]
  exact .inl ⟨⟨_, SqL.of hp, by simp⟩, q⟩
theorem LL.snocN {H : Hp} {c a n : Addr} {xs : List V} {cl : TN.Rs} {r : List Int} (hc : H c = some (.lst xs)) (rc : Paired (RI H) xs cl) (ha : H a = some (.lst (r.map V.int))) (hn : H n = none) : LL (upd H n (.lst (xs ++ [.ref a]))) n (cl ++ [r]) :=
 ⟨_, upd_same, Paired.app (Paired.impl (fun v l ⟨b, e, hb⟩ => ⟨b, e, upd_old hb hn⟩) rc) (.cons ⟨a, rfl, upd_old ha hn⟩ .nil)⟩
theorem step_free (T : Txt K mg t) (m : Nat) (ih : ∀ m', m' < m → FnOk P w K mg base CX0 (7 + 2 * m') t.with_begun t.fd_with_begun ["camp", "closed", "ring", "free"] (spBegun t.C m')) :
  FnOk P w K mg base CX0 (6 + 2 * m) t.with_free t.fd_with_free ["camp", "closed", "free"] (spFree t.C m) := by
 have S := sc_with_free
 have G_tell_none := ok_tell_none (P := P) (w := w) (base := base) T
 have G_with_begun : FnOk P w K mg base CX0 (5 + 2 * m) t.with_begun t.fd_with_begun ["camp", "closed", "ring", "free"] (fun vs H Q E => ∃ m', m' < m ∧ spBegun t.C m' vs H Q E) := FnOk.ex fun m' h => (ih m' h).mono (by omega)
 refine (show 6 + 2 * m = (5 + 2 * m) + 1 by omega) ▸ T.with_free.fn.ok S (fun vs H Q E h => ?_) (fun cdv A outer s H vs Q E hr h => ?_)
 ·obtain ⟨p, c, f, ls, cl, F, rfl, _⟩ := h; rfl
 ·obtain ⟨p, c, f, ls, cl, F, rfl, hC, hV, hL, hwf, hf, hm, hF, hlen, fin⟩ := h
  refine ⟨_, (pss_cons (ps_if (pt_not (pt_truth (pv 2) (fun _ => rfl))) (pss_one (ps_ret (pe_ifExp (pt_val (pe_call (k := (5 + 2 * m)) (G_tell_none.mono (by omega)) hr (by rfl) T.tell_none.mg T.tell_none.fn.kp T.tell_none.b .nil pass0 (pa_cons (pv 0) (pa_cons (pv 1) pa_nil)))) (pv 1) pe_non))) pss_nil)
   (pss_one (ps_ret (pe_call (k := (5 + 2 * m)) (G_with_begun.mono (by omega)) hr (by rfl) T.with_begun.mg T.with_begun.fn.kp T.with_begun.b .nil pass0 (pa_cons (pv 0) (pa_cons (pv 1) (pa_cons (pe_slice sl_list (pv 2) po_none (po_some pe_int)) (pa_cons (pe_slice sl_list (pv 2) (po_some pe_int) po_none) pa_nil)))))))), ?_⟩
  refine ⟨_, rfl, _, .inl ⟨_, SqL.of hf, rfl⟩, ?_⟩
  cases hq : F with
  | nil =>
   subst hq
   refine ⟨_, rfl, _, rfl, p, c, ls, cl, rfl, hC, hV, hL, hwf, by omega, fun H1 s1 => ⟨_, rfl, iteB (fun e => ?_) (fun e => ?_)⟩⟩
   ·exact ⟨_, rfl, fin _ H1 s1 (.inr ⟨c, cl, rfl, Of.same mI hL s1, .done cl, e⟩)⟩
   ·refine fin .non H1 s1 (.inl ⟨rfl, fun R hR => ?_⟩)
    cases hR
    exact e
  | cons x r =>
   obtain ⟨e1, e2⟩ := cut_head hq
   have hl2 : m = r.length + 1 := by rw [← hm, hq]; rfl
   refine iteF ?_
   refine ⟨_, rfl, _, rfl, _, rfl, 1, rfl, f, _, rfl, SqL.of hf, fun a ha => ?_⟩
   rw [e1]
   have s1 : Same H (upd H a (.lst [.int x])) := TX.Same.upd (Same.refl H) ha
   have ha1 : upd H a (.lst [.int x]) a = some (.lst ([x].map V.int)) := upd_same
   generalize upd H a (.lst [.int x]) = H1 at s1 ha1
   refine ⟨_, rfl, 1, rfl, f, _, rfl, SqL.of (s1 _ _ hf), fun g hg => ?_⟩
   rw [e2]
   have s2 : Same H1 (upd H1 g (.lst (r.map V.int))) := TX.Same.upd (Same.refl _) hg
   have hin : ∀ y ∈ x :: r, 0 ≤ y ∧ y < (ls.length : Int) := by rw [← hq]; exact hF
   have hFl : F.length = r.length + 1 := by rw [hq]; rfl
   refine ⟨r.length, by omega, p, c, a, g, ls, cl, [x], r, rfl, hC.same (s1.trans s2), hV, Of.same mI hL (s1.trans s2), hwf, s2 _ _ ha1, by simp, fun y hy => hin y (by rw [List.mem_singleton.mp hy]; exact List.mem_cons_self), upd_same, rfl, fun y hy => hin y (List.mem_cons_of_mem _ hy), by show _ + 1 + _ ≤ 6; omega, fun v H3 s3 hv => ?_⟩
   refine fin v H3 ((s1.trans s2).trans s3) ?_
   rw [hq]
   rcases hv with ⟨h1, h2⟩ | ⟨q, R, h1, h2, h3, h4⟩
   ·exact .inl ⟨h1, fun R hR => by cases hR with | begin_ h => exact h2 R h⟩
   ·exact .inr ⟨q, R, h1, h2, .begin_ h3, h4⟩
theorem flat_snoc (cl : TN.Rs) (r : List Int) : (cl ++ [r]).flatten.length = cl.flatten.length + r.length := by rw [List.flatten_append, List.flatten_singleton, List.length_append]
theorem wf_snoc {n : Nat} {cl : TN.Rs} {r : List Int} (h : TN.Wf n cl) (h1 : r ≠ []) (h2 : ∀ x ∈ r, 0 ≤ x ∧ x < (n : Int)) : TN.Wf n (cl ++ [r]) := fun ring hm => by
 rcases List.mem_append.mp hm with hm | hm
 ·exact h ring hm
 ·rw [List.mem_singleton.mp hm]; exact ⟨h1, h2⟩
def BM (Q : VK) (H : Hp) (ls : Ls) (p c a f : Addr) (cl : TN.Rs) (r F : List Int) : TS := fun D σ H2 => D.rt = Q ∧ ∃ v4, σ = [some (.ref p), some (.ref c), some (.ref a), some (.ref f), v4, none, none] ∧ Same H H2 ∧ ∀ R, TN.goodRing ls r = true → TN.Ext ls (cl ++ [r]) none F R → TN.tellB ls R = false
set_option maxHeartbeats 1000000 in
theorem step_begun (T : Txt K mg t) (m : Nat) (G_with_free : FnOk P w K mg base CX0 (6 + 2 * m) t.with_free t.fd_with_free ["camp", "closed", "free"] (spFree t.C m))
  (ih : ∀ m', m' < m → FnOk P w K mg base CX0 (7 + 2 * m') t.with_begun t.fd_with_begun ["camp", "closed", "ring", "free"] (spBegun t.C m')) :
  FnOk P w K mg base CX0 (7 + 2 * m) t.with_begun t.fd_with_begun ["camp", "closed", "ring", "free"] (spBegun t.C m) := by
 have S := sc_with_begun
 have G_is_good_ring := ok_is_good_ring (P := P) (w := w) (base := base) T
 have G_would_share := ok_would_share (P := P) (w := w) (base := base) T
 have G_with_begun : FnOk P w K mg base CX0 (5 + 2 * m) t.with_begun t.fd_with_begun ["camp", "closed", "ring", "free"] (fun vs H Q E => ∃ m', m' < m ∧ spBegun t.C m' vs H Q E) := FnOk.ex fun m' h => (ih m' h).mono (by omega)
 refine (show 7 + 2 * m = (6 + 2 * m) + 1 by omega) ▸ T.with_begun.fn.ok S (fun vs H Q E h => ?_) (fun cdv A outer s H vs Q E hr h => ?_)
 ·obtain ⟨p, c, a, f, ls, cl, r, F, rfl, _⟩ := h; rfl
 ·obtain ⟨p, c, a, f, ls, cl, r, F, rfl, hC, hV, hL, hwf, ha, hne, hri, hf, hm, hF, hlen, fin⟩ := h
  obtain ⟨M1, eM1⟩ : ∃ M : TS, M = BM Q H ls p c a f cl r F := ⟨_, rfl⟩
  have hrl := List.length_pos_iff.mpr hne
  refine ⟨_, (pss_cons (ps_if (pt_val (pe_call (k := (6 + 2 * m)) (G_is_good_ring.mono (by omega)) hr (by rfl) T.is_good_ring.mg T.is_good_ring.fn.kp T.is_good_ring.b .nil pass0 (pa_cons (pv 0) (pa_cons (pv 2) pa_nil)))) (pss_cons (ps_set (i := 4) S.nd rfl (by first | exact Or.inl rfl | exact Or.inr rfl) (pe_call (k := (6 + 2 * m)) (G_with_free.mono (by omega)) hr (by rfl) T.with_free.mg T.with_free.fn.kp T.with_free.b .nil pass0 (pa_cons (pv 0) (pa_cons (pe_op op_cat (pv 1) (pe_lst (pa_cons (pv 2) pa_nil))) (pa_cons (pv 3) pa_nil)))))
   (pss_one (ps_if (pt_cmp (pc_notN (pv 4))) (pss_one (ps_ret (pv 4))) pss_nil))) pss_nil)
   (TX.cut (M := M1) (pss_cons (ps_for PassesOwn.never rfl (pi_list (pv 3)) (pg_name (i := 5) S.nd rfl (by first | exact Or.inl rfl | exact Or.inr rfl)) (pss_one (ps_if (pt_val (pe_meth (k := (6 + 2 * m)) (pv 0) T.cl T.Camp_would_share.me (G_would_share.mono (by omega)) hr T.Camp_would_share.b .nil pass0 (pa_cons (pe_ix ix_list (pv 2) (pe_un un_neg pe_int) (fun _ _ => rfl)) (pa_cons (pv 5) pa_nil)))) (pss_cons (TX.ps_setC ["camper", "other"] [none, some 5] S.nd (j := 6) rfl (by first | exact Or.inl rfl | exact Or.inr rfl) rfl (pi_list (pv 3)) (fun _ _ _ _ _ => (pg_name (i := 0) (show (["camper", "other"] : List Str).Nodup by decide +kernel) rfl (by first | exact Or.inl rfl | exact Or.inr rfl))) (fun _ _ _ _ _ => (TX.pts_one (pt_cmpR op_ne (pv 0) (pv 1) (nomark _)))) (fun _ _ _ _ _ => (pv 0)) rfl (by decide +kernel) (by decide +kernel) (No := ["camp", "closed", "ring", "free", "found", "other", "left"]) (sc := defScope s_with_begun) rfl rfl (by decide +kernel) rfl (by decide +kernel))
   (pss_cons (ps_set (i := 4) S.nd rfl (by first | exact Or.inl rfl | exact Or.inr rfl) (pe_call (k := (6 + 2 * m)) (G_with_begun.mono (by omega)) hr (by rfl) T.with_begun.mg T.with_begun.fn.kp T.with_begun.b .nil pass0 (pa_cons (pv 0) (pa_cons (pv 1) (pa_cons (pe_op op_cat (pv 2) (pe_lst (pa_cons (pv 5) pa_nil))) (pa_cons (pv 6) pa_nil))))))
   (pss_one (ps_if (pt_cmp (pc_notN (pv 4))) (pss_one (ps_ret (pv 4))) pss_nil)))) pss_nil)))
   (pss_one (ps_ret pe_non))) ?c1)), ?_⟩
  case c1 =>
   subst eM1
   rintro D σ H2 ⟨eD, v4, rfl, s2, hno⟩
   refine ⟨_, rfl, f, rfl, ⟨_, SqL.of (s2 _ _ hf)⟩, for_list (K := K) (a := f) (xs := F.map V.int) (fun i σ H3 => ∃ v4 v5 v6, σ = [some (.ref p), some (.ref c), some (.ref a), some (.ref f), v4, v5, v6] ∧ Same H H3 ∧
    ∀ o, o ∈ F.take i → would ls (r.getLastD 0) o = true → ∀ R, TN.Ext ls cl (some (r ++ [o])) (F.filter fun x => decide (x ≠ o)) R → TN.tellB ls R = false)
    ⟨_, _, _, rfl, s2, fun o ho => by rw [List.take_zero] at ho; cases ho⟩ (fun i σ H3 _ ⟨_, _, _, _, s3, _⟩ => SqL.of (s3 _ _ hf)) ?_ ?_⟩
   ·rintro i y σ H3 hi ⟨v4, v5, v6, rfl, s3, hnf⟩
    obtain ⟨z, hz, rfl⟩ := int_at hi
    have hzm := List.mem_of_getElem? hz
    have et : F.take (i + 1) = F.take i ++ [z] := by rw [List.take_add_one, hz]; rfl
    have hC3 := hC.same s3
    obtain ⟨dx, la, hp, _⟩ := id hC3
    refine ⟨_, rfl, p, dx, _, rfl, hp, flds_no _ _ (by decide +kernel) (by decide +kernel), _, rfl, _, rfl, a, _, -1, _, rfl, rfl, SqL.of (s3 _ _ ha), last_at hne, _, rfl, p, ls, r.getLastD 0, z, rfl, hC3, hri _ (last_mem hne), hF z hzm, _, rfl, ?_⟩
    cases hw : would ls (r.getLastD 0) z with
    | false =>
     refine iteF ⟨_, _, _, rfl, s3, fun o ho ho2 => ?_⟩
     rw [et] at ho
     rcases List.mem_append.mp ho with ho | ho
     ·exact hnf o ho ho2
     ·rw [List.mem_singleton.mp ho, hw] at ho2; cases ho2
    | true =>
     refine iteT ?_
     dsimp only
     refine tSeq_of ?_
     refine tSetC_of ?_
     refine butOne (K := K) (l := F) (c := z) (by omega) rfl (s3 _ _ hf) (fun R q => by exact ⟨_, rfl, q⟩) fun l hl => ?_
     have hlt := TN.filter_lt hzm
     have hin : InRing ls (F.filter fun x => decide (x ≠ z)) := fun x hx => hF x (List.mem_filter.mp hx).1
     generalize hG : F.filter (fun x => decide (x ≠ z)) = G at hlt hin
     have s4 : Same H3 (upd H3 l (.lst (G.map V.int))) := TX.Same.upd (Same.refl _) hl
     have hl4 : upd H3 l (.lst (G.map V.int)) l = some (.lst (G.map V.int)) := upd_same
     generalize upd H3 l (.lst (G.map V.int)) = H4 at s4 hl4
     have s04 := s3.trans s4
     refine ⟨_, rfl, _, rfl, _, rfl, _, rfl, (by show 1 ≤ sizeLine; decide), fun d hd => ?_⟩
     have s5 : Same H4 (upd H4 d (.lst [.int z])) := TX.Same.upd (Same.refl _) hd
     refine ⟨a, d, _, _, rfl, rfl, s5 _ _ (s04 _ _ ha), upd_same, Nat.le_of_lt (small1000 (by rw [List.length_map]; show _ + 1 ≤ 1000; omega)), fun g hg => ?_⟩
     generalize upd H4 d (.lst [.int z]) = H5 at s5 hg
     have s6 : Same H5 (upd H5 g (.lst (r.map V.int ++ [.int z]))) := TX.Same.upd (Same.refl _) hg
     have hg6 : upd H5 g (.lst (r.map V.int ++ [.int z])) g = some (.lst ((r ++ [z]).map V.int)) := by rw [upd_same, List.map_append]; rfl
     generalize upd H5 g (.lst (r.map V.int ++ [.int z])) = H6 at s6 hg6
     have s06 := s04.trans (s5.trans s6)
     refine ⟨_, rfl, G.length, by omega, p, c, g, l, ls, cl, r ++ [z], G, rfl, hC.same s06, hV, Of.same mI hL s06, hwf, hg6, by simp, fun x hx => ?_, s6 _ _ (s5 _ _ hl4), rfl, hin, by rw [List.length_append, List.length_singleton]; omega, fun v H7 s7 hv => ?_⟩
     ·rcases List.mem_append.mp hx with hx | hx
      ·exact hri x hx
      ·rw [List.mem_singleton.mp hx]; exact hF z hzm
     ·have s07 := s06.trans s7
      rcases hv with ⟨rfl, hv⟩ | ⟨q, R, rfl, h2, h3, h4⟩
      ·refine ⟨_, rfl, _, rfl, iteF ⟨_, _, _, rfl, s07, fun o ho ho2 => ?_⟩⟩
       rw [et] at ho
       rcases List.mem_append.mp ho with ho | ho
       ·exact hnf o ho ho2
       ·rw [List.mem_singleton.mp ho, hG]; exact hv
      ·refine ⟨_, rfl, _, rfl, iteT ⟨_, rfl, ?_⟩⟩
       show D.rt _ _
       rw [eD]
       exact fin _ H7 s07 (.inr ⟨q, R, rfl, h2, .more hzm hw (by rw [hG]; exact h3), h4⟩)
   ·rintro σ H3 ⟨v4, v5, v6, rfl, s3, hnf⟩
    rw [List.length_map, List.take_length] at hnf
    show D.rt _ _
    rw [eD]
    refine fin .non H3 s3 (.inl ⟨rfl, fun R hR => ?_⟩)
    cases hR with
    | close g h => exact hno R g h
    | more hm2 g h => exact hnf _ hm2 g R h
  refine ⟨_, rfl, _, rfl, p, a, ls, r, rfl, hC, hV, ha, hri, by omega, hne, fun H1 s1 => ⟨_, rfl, iteB (fun e => ?_) (fun e => ?_)⟩⟩
  ·obtain ⟨xs, hc1, rc⟩ := Of.same mI hL s1
   have hxl := rc.length
   have hcl : cl.length ≤ cl.flatten.length := flat_len fun x hx => (hwf x hx).1
   refine ⟨_, rfl, _, rfl, _, rfl, (by show 1 ≤ sizeLine; decide), fun d hd => ?_⟩
   have s2 : Same H1 (upd H1 d (.lst [.ref a])) := TX.Same.upd (Same.refl _) hd
   refine ⟨c, d, _, _, rfl, rfl, s2 _ _ hc1, upd_same, Nat.le_of_lt (small1000 (by show _ + 1 ≤ 1000; omega)), fun n hn => ?_⟩
   generalize upd H1 d (.lst [.ref a]) = H2 at s2 hn
   have hLn : LL (upd H2 n (.lst (xs ++ [.ref a]))) n (cl ++ [r]) := LL.snocN (s2 _ _ hc1) (Paired.impl (fun v l => mI _ _ v l s2) rc) (s2 _ _ (s1 _ _ ha)) hn
   have s3 : Same H2 (upd H2 n (.lst (xs ++ [.ref a]))) := TX.Same.upd (Same.refl _) hn
   generalize upd H2 n (.lst (xs ++ [.ref a])) = H3 at hLn s3
   have s03 := s1.trans (s2.trans s3)
   refine ⟨_, rfl, p, n, f, ls, cl ++ [r], F, rfl, hC.same s03, hV, hLn, wf_snoc hwf hne hri, s03 _ _ hf, hm, hF, by rw [flat_snoc]; omega, fun v H4 s4 hv => ?_⟩
   have s04 := s03.trans s4
   rcases hv with ⟨rfl, hv⟩ | ⟨q, R, rfl, h2, h3, h4⟩
   ·refine ⟨_, rfl, _, rfl, iteF ?_⟩
    subst eM1
    exact ⟨rfl, _, rfl, s04, fun R _ => hv R⟩
   ·refine ⟨_, rfl, _, rfl, iteT ⟨_, rfl, ?_⟩⟩
    exact fin _ H4 s04 (.inr ⟨q, R, rfl, h2, .close e h3, h4⟩)
  ·subst eM1
   exact ⟨rfl, _, rfl, s1, fun R g => by rw [e] at g; cases g⟩
theorem ok_search (T : Txt K mg t) : ∀ m, FnOk P w K mg base CX0 (6 + 2 * m) t.with_free t.fd_with_free ["camp", "closed", "free"] (spFree t.C m) ∧ FnOk P w K mg base CX0 (7 + 2 * m) t.with_begun t.fd_with_begun ["camp", "closed", "ring", "free"] (spBegun t.C m) := by
 intro m
 induction m using Nat.strongRecOn with
 | ind m ih =>
  have h1 := step_free (P := P) (w := w) (base := base) T m fun m' h => (ih m' h).2
  exact ⟨h1, step_begun T m h1 fun m' h => (ih m' h).2⟩
def spRingsOf (C : Addr) : Sp := fun vs H Q _ => ∃ (p : Addr) (ls : Ls), vs = [.ref p] ∧ CampAt C H p ls ∧ Valid ls ∧ (¬ ∃ ps, Pairs ls ps ∧ breaking ls ps = []) ∧ ∀ q R H', Same H H' → LL H' q R → TN.Wf ls.length R → R.flatten.length ≤ 50 → TN.tellB ls R = true → Q (.ref q) H'
theorem ok_rings_of (T : Txt K mg t) : FnOk P w K mg base CX0 19 t.rings_of t.fd_rings_of ["camp"] (spRingsOf t.C) := by
 have S := sc_rings_of
 have G_with_free : FnOk P w K mg base CX0 18 t.with_free t.fd_with_free ["camp", "closed", "free"] (fun vs H Q E => ∃ m, m ≤ 6 ∧ spFree t.C m vs H Q E) := FnOk.ex fun m h => (ok_search (P := P) (w := w) (base := base) T m).1.mono (by omega)
 refine T.rings_of.fn.ok S (fun vs H Q E h => ?_) (fun cdv A outer s H vs Q E hr h => ?_)
 ·obtain ⟨p, ls, rfl, _⟩ := h; rfl
 ·obtain ⟨p, ls, rfl, hC, hV, hno, fin⟩ := h
  have hl6 := hV.le
  obtain ⟨dx, la, hp, _⟩ := id hC
  refine ⟨_, (pss_one (ps_ret (pe_call (k := 18) (G_with_free.mono (by decide)) hr (by rfl) T.with_free.mg T.with_free.fn.kp T.with_free.b .nil pass0 (pa_cons (pv 0) (pa_cons (pe_lst pa_nil) (pa_cons (pe_callTy (TX.call_list_rng rfl) (by rfl) T.b_list TK.boot_list (pa_cons (TX.pe_range1 (by rfl) T.b_range (pa_cons (pe_fld (pv 0) rfl) pa_nil)) pa_nil)) pa_nil)))))), ?_⟩
  refine ⟨_, rfl, Nat.zero_le _, fun c hc => ?_⟩
  have s1 : Same H (upd H c (.lst [])) := TX.Same.upd (Same.refl H) hc
  have hc1 : upd H c (.lst []) c = some (.lst []) := upd_same
  generalize upd H c (.lst []) = H1 at s1 hc1
  refine ⟨_, rfl, p, t.C, dx, _, _, rfl, s1 _ _ hp, T.cl, T.n_size, flds_size _ _, _, rfl, fun rq hrq => ?_⟩
  refine ⟨rq, 0, _, rfl, upd_same, ⟨by omega, by omega, by omega, by omega⟩, by omega, fun f hf => ?_⟩
  rw [rngV_eq]
  have s2 : Same H1 (upd H1 rq (.rng 0 (ls.length : Int))) := TX.Same.upd (Same.refl _) hrq
  have s3 := TX.Same.upd (o := .lst ((rng ls.length).map V.int)) s2 (s2.free hf)
  refine ⟨ls.length, hl6, p, c, f, ls, [], rng ls.length, rfl, hC.same (s1.trans s3), hV, ⟨[], s3 _ _ hc1, .nil⟩, fun ring h => (nomatch h), upd_same, rng_length _, fun x hx => TN.range_lt hx, by rw [rng_length]; show 0 + _ ≤ 6; omega, fun v H4 s4 hv => ?_⟩
  have s04 := (s1.trans s3).trans s4
  rcases hv with ⟨rfl, hv⟩ | ⟨q, R, rfl, h2, h3, h4⟩
  ·obtain ⟨R, hR, ht⟩ := TN.ext_ex hV hno
   rw [hv R hR] at ht; cases ht
  ·have hwf : TN.Wf ls.length R := h3.wf (fun _ h => (nomatch h)) (fun _ h => (nomatch h)) fun x hx => TN.range_lt hx
   refine fin q R H4 s04 h2 hwf ?_ h4
   unfold TN.tellB TN.areGood at h4
   rw [Bool.and_eq_true, Bool.and_eq_true] at h4
   have e := of_decide_eq_true h4.2.1
   have := (isort_perm R.flatten).length_eq
   rw [e, rng_length] at this
   omega
end
end Tp
namespace Tp
open PySem PySem.Spec PyProof.Rows L2 TX TM TK
section
variable {P : Program} {w : World} {K : PySem.W.Frag} {mg : Str → Option Value} {base : Heap} {t : Adr}
theorem mRPL : Mono TX.RPL := fun _ _ _ _ e h => let ⟨b, h1, h2⟩ := h; ⟨b, h1, Of.same mP h2 e⟩
abbrev WL : Hp → Addr → List Prs → Prop := Of TX.RPL
theorem ways_ne (ls : Ls) : ∀ (n : Nat) (free : List Int), free.length ≤ n → TN.ways ls n free ≠ []
 | n, [], _ => by cases n <;> (intro h; cases h)
 | 0, _ :: _, h => absurd h (by simp)
 | n + 1, x :: r, h => by
  unfold TN.ways
  intro z
  exact ways_ne ls n r (by simpa using h) (List.append_eq_nil_iff.mp z).1
theorem WL.apart {H : Hp} {q b : Addr} {pss : List Prs} {ps : Prs} (h : WL H q pss) (hne : pss ≠ []) (hb : PL H b ps) : b ≠ q := by
 rintro rfl
 obtain ⟨xs, h1, r1⟩ := h
 obtain ⟨ys, h2, r2⟩ := hb
 rw [h1] at h2
 cases h2
 cases r1 with
 | nil => exact hne rfl
 | cons q1 _ =>
  cases r2 with
  | cons q2 _ =>
   obtain ⟨d, rfl, zs, hd, _⟩ := q1
   obtain ⟨e, ee, he⟩ := q2
   cases ee
   rw [hd] at he; cases he
theorem RPL.oth {H : Hp} {q b : Addr} {o : HO} {xq : List V} {ps : Prs} (hq : H q = some (.lst xq)) (hb : PL H b ps) (hne : b ≠ q) : PL (upd H q o) b ps := by
 obtain ⟨xs, h1, r⟩ := hb
 exact ⟨xs, upd_oth h1 hne, Paired.impl (fun v d ⟨c, e, hc⟩ => ⟨c, e, upd_oth hc (ne_of hc hq (by intro z; cases z))⟩) r⟩
theorem prefixed {H Hs : Hp} {σ : L2.St} {b : Addr} {xs : List V} {pss : List Prs} {x z : Int} {Q : VK} {ixs : List (Option Nat)} (hσ : subSt σ ixs = [none, some (.int x), some (.int z)])
  (hb : H b = some (.lst xs)) (r : Paired (TX.RPL H) xs pss) (hn : pss.length ≤ 100) (hl : ∀ ps ∈ pss, ps.length ≤ 100)
  (q : ∀ c H1 ys, Same H H1 → H1 c = none → Paired (fun v ps => ∃ d, v = V.ref d ∧ H d = none ∧ PL H1 d ps) ys (pss.map fun ps => (x, z) :: ps) → Q (.ref c) (upd H1 c (.lst ys))) :
  tComp ixs (iList K fun _ H' R => H' = Hs → R (.ref b) H) (gName 0) tYes (tOp rCat (tLst (tCons (tTup (tCons (tVar 1) (tCons (tVar 2) tNil))) tNil)) (tVar 0)) σ Hs Q := by
 intro _
 have hxl := r.length
 refine ⟨b, rfl, ⟨_, SqL.of hb⟩, fun i m ys H1 => m = xs.length - i ∧ i ≤ xs.length ∧ Same H H1 ∧ Paired (fun v ps => ∃ d, v = V.ref d ∧ H d = none ∧ PL H1 d ps) ys ((pss.take i).map fun ps => (x, z) :: ps), ⟨_, rfl, Nat.zero_le _, Same.refl H, by rw [List.take_zero]; exact .nil⟩, ?_⟩
 rintro i m ys H1 ⟨rfl, hi, s1, ry⟩
 have hyl := ry.length
 rw [List.length_map, List.length_take] at hyl
 by_cases hlt : i < xs.length
 ·refine .inr ⟨⟨_, xs[i], SqL.of (s1 _ _ hb), by simp [hlt]⟩, small1000 (by omega), fun v H' y => ?_⟩
  obtain ⟨eH, y⟩ := y
  rw [eH]
  clear eH H'
  have hx := y _ (SqL.of (s1 _ _ hb))
  obtain ⟨ps, hps, d, rfl, hd⟩ := Paired.at1 r hx
  obtain ⟨zs, hd1, rz⟩ := Of.same mP hd s1
  have hzl := rz.length
  have hpl := hl ps (List.mem_of_getElem? hps)
  rw [hσ]
  refine ⟨Kps.own, ?_⟩
  refine yes_if ⟨_, rfl, _, rfl, (by show 2 ≤ sizeLine; decide), fun tp ht => ⟨(by show 1 ≤ sizeLine; decide), fun l hl' => ⟨_, rfl, ?_⟩⟩⟩
  have s2 : Same H1 (upd H1 tp (.tup [.int x, .int z])) := TX.Same.upd (Same.refl _) ht
  have ht2 : upd H1 tp (.tup [.int x, .int z]) tp = some (.tup [.int x, .int z]) := upd_same
  generalize upd H1 tp (.tup [.int x, .int z]) = H2 at s2 ht2 hl'
  have s3 : Same H2 (upd H2 l (.lst [.ref tp])) := TX.Same.upd (Same.refl _) hl'
  refine ⟨l, d, _, _, rfl, rfl, upd_same, s3 _ _ (s2 _ _ hd1), Nat.le_of_lt (small1000 (by show 1 + _ ≤ 1000; omega)), fun n hn' => ?_⟩
  generalize upd H2 l (.lst [.ref tp]) = H3 at s3 hn'
  have s13 := s2.trans s3
  have s4 : Same H3 (upd H3 n (.lst ([.ref tp] ++ zs))) := TX.Same.upd (Same.refl _) hn'
  have s14 := s13.trans s4
  refine ⟨xs.length - (i + 1), by omega, rfl, hlt, s1.trans s14, ?_⟩
  rw [List.take_add_one, hps, List.map_append]
  refine Paired.app (Paired.impl (fun v p ⟨e, h1, h2, h3⟩ => ⟨e, h1, h2, Of.same mP h3 s14⟩) ry) (.cons ⟨n, rfl, s1.free (s13.free hn'), ?_⟩ .nil)
  exact ⟨_, upd_same, .cons ⟨tp, rfl, s4 _ _ (s3 _ _ ht2)⟩ (Paired.impl (fun v p => mP _ _ v p s14) rz)⟩
 ·have e : i = xs.length := by omega
  subst e
  rw [List.take_of_length_le (by omega)] at ry
  exact .inl ⟨⟨_, SqL.of (s1 _ _ hb), Nat.le_refl _⟩, fun c hc => q c _ _ s1 hc ry⟩
theorem prefixedS {Hs : Hp} {σ : L2.St} {pss : List Prs} {x z : Int} {Q : VK} {tl : TE} {ixs : List (Option Nat)} (hσ : subSt σ ixs = [none, some (.int x), some (.int z)]) (G : Addr → Hp → Prop) (htl : ∀ R : VK, (∀ b H, G b H → R (.ref b) H) → tl σ Hs R)
  (hG : ∀ b H, G b H → WL H b pss) (hn : pss.length ≤ 100) (hl : ∀ ps ∈ pss, ps.length ≤ 100)
  (q : ∀ b H, G b H → ∀ c H1 ys, Same H H1 → H1 c = none → Paired (fun v ps => ∃ d, v = V.ref d ∧ H d = none ∧ PL H1 d ps) ys (pss.map fun ps => (x, z) :: ps) → Q (.ref c) (upd H1 c (.lst ys))) :
  tComp ixs (iList K tl) (gName 0) tYes (tOp rCat (tLst (tCons (tTup (tCons (tVar 1) (tCons (tVar 2) tNil))) tNil)) (tVar 0)) σ Hs Q :=
 htl _ fun b H hg => by
  obtain ⟨xs, hb, r⟩ := hG b H hg
  exact prefixed (K := K) (Hs := Hs) hσ hb r hn hl (q b H hg) rfl
theorem len_subI : ∀ {l m : List Int}, l.Nodup → (∀ x ∈ l, x ∈ m) → l.length ≤ m.length
 | [], m, _, _ => Nat.zero_le _
 | x :: l, m, h, hs => by
  have hn := List.nodup_cons.mp h
  have hx := hs x List.mem_cons_self
  have := len_subI (l := l) (m := m.erase x) hn.2 fun y hy => by
   have ne : y ≠ x := fun z => hn.1 (z ▸ hy)
   exact (List.mem_erase_of_ne ne).mpr (hs y (List.mem_cons_of_mem _ hy))
  rw [List.length_erase_of_mem hx] at this
  have : 0 < m.length := List.length_pos_of_mem hx
  rw [List.length_cons]; omega
theorem who_len {ls : Ls} {ps : Prs} {F : List Int} (P : Pairs ls ps) (h : ∀ x ∈ who ps, x ∈ F) : ps.length ≤ F.length := by
 have h1 : (who ps).length = 2 * ps.length := by
  unfold who
  clear P h
  induction ps with
  | nil => rfl
  | cons p ps ih => rw [List.flatMap_cons, List.length_append, ih]; simp; omega
 have h2 : (who ps).length ≤ F.length := by
  have nd : (who ps).Nodup := P.apart
  exact len_subI nd h
 omega
def spWays (C : Addr) (m : Nat) : Sp := fun vs H Q _ => ∃ (p f : Addr) (ls : Ls) (F : List Int), vs = [.ref p, .ref f] ∧ CampAt C H p ls ∧ Valid ls ∧ H f = some (.lst (F.map V.int)) ∧ F.length = m ∧ m ≤ 6 ∧ TN.Free ls F ∧ ∀ q H', H q = none → Same H H' → WL H' q (TN.ways ls 6 F) → Q (.ref q) H'
set_option maxHeartbeats 1000000 in
theorem step_ways (T : Txt K mg t) (m : Nat) (ih : ∀ m', m' < m → FnOk P w K mg base CX0 (2 + m') t.ways_to_pair t.fd_ways_to_pair ["camp", "free"] (spWays t.C m')) :
  FnOk P w K mg base CX0 (2 + m) t.ways_to_pair t.fd_ways_to_pair ["camp", "free"] (spWays t.C m) := by
 have S := sc_ways_to_pair
 have G_would_share := ok_would_share (P := P) (w := w) (base := base) T
 have G_ways_to_pair : FnOk P w K mg base CX0 (1 + m) t.ways_to_pair t.fd_ways_to_pair ["camp", "free"] (fun vs H Q E => ∃ m', m' < m ∧ spWays t.C m' vs H Q E) := FnOk.ex fun m' h => (ih m' h).mono (by omega)
 refine (show 2 + m = (1 + m) + 1 by omega) ▸ T.ways_to_pair.fn.ok S (fun vs H Q E h => ?_) (fun cdv A outer s H vs Q E hr h => ?_)
 ·obtain ⟨p, f, ls, F, rfl, _⟩ := h; rfl
 ·obtain ⟨p, f, ls, F, rfl, hC, hV, hf, hm, hm6, hF, fin⟩ := h
  refine ⟨_, (pss_cons (ps_if (pt_not (pt_truth (pv 1) (fun _ => rfl))) (pss_one (ps_ret (pe_lst (pa_cons (pe_lst pa_nil) pa_nil)))) pss_nil)
   (pss_cons (ps_set (i := 2) S.nd rfl (by first | exact Or.inl rfl | exact Or.inr rfl) (pe_ix ix_list (pv 1) pe_int (fun _ _ => rfl)))
   (pss_cons (ps_set (i := 3) S.nd rfl (by first | exact Or.inl rfl | exact Or.inr rfl) (pe_slice sl_list (pv 1) (po_some pe_int) po_none))
   (pss_cons (ps_set (i := 4) S.nd rfl (by first | exact Or.inl rfl | exact Or.inr rfl) (pe_call (k := (1 + m)) (G_ways_to_pair.mono (by omega)) hr (by rfl) T.ways_to_pair.mg T.ways_to_pair.fn.kp T.ways_to_pair.b .nil pass0 (pa_cons (pv 0) (pa_cons (pv 3) pa_nil))))
   (pss_cons (ps_for PassesOwn.never rfl (pi_list (pv 3)) (pg_name (i := 5) S.nd rfl (by first | exact Or.inl rfl | exact Or.inr rfl)) (pss_one (ps_if (pt_val (pe_meth (k := (1 + m)) (pv 0) T.cl T.Camp_would_share.me (G_would_share.mono (by omega)) hr T.Camp_would_share.b .nil pass0 (pa_cons (pv 2) (pa_cons (pv 5) pa_nil)))) (pss_cons (TX.ps_setC ["camper", "mate"] [none, some 5] S.nd (j := 6) rfl (by first | exact Or.inl rfl | exact Or.inr rfl) rfl (pi_list (pv 3)) (fun _ _ _ _ _ => (pg_name (i := 0) (show (["camper", "mate"] : List Str).Nodup by decide +kernel) rfl (by first | exact Or.inl rfl | exact Or.inr rfl))) (fun _ _ _ _ _ => (TX.pts_one (pt_cmpR op_ne (pv 0) (pv 1) (nomark _)))) (fun _ _ _ _ _ => (pv 0)) rfl (by decide +kernel) (by decide +kernel) (No := ["camp", "free", "first", "others", "found", "mate", "left"]) (sc := defScope s_ways_to_pair) rfl rfl (by decide +kernel) rfl (by decide +kernel))
   (pss_one (ps_expr (pe_bm PySem.F.plainAttrs_list PySem.F.slot_list_extend PySem.F.type_list_extend mt_extend (pv 4) (pa_cons (TX.pe_comp (te := tOp rCat (tLst (tCons (tTup (tCons (tVar 1) (tCons (tVar 2) tNil))) tNil)) (tVar 0)) ["pairs", "first", "mate"] [none, some 2, some 5] rfl (pi_list (pe_call (k := (1 + m)) (G_ways_to_pair.mono (by omega)) hr (by rfl) T.ways_to_pair.mg T.ways_to_pair.fn.kp T.ways_to_pair.b .nil pass0 (pa_cons (pv 0) (pa_cons (pv 6) pa_nil)))) (fun _ _ _ _ _ => (pg_name (i := 0) (show (["pairs", "first", "mate"] : List Str).Nodup by decide +kernel) rfl (by first | exact Or.inl rfl | exact Or.inr rfl))) (fun _ _ _ _ _ => TX.pts_nil) (fun _ _ _ _ _ => (pe_op op_cat (pe_lst (pa_cons (pe_tup (pa_cons (pv 1) (pa_cons (pv 2) pa_nil))) pa_nil)) (pv 0))) rfl (by decide +kernel) (by decide +kernel) (No := ["camp", "free", "first", "others", "found", "mate", "left"]) (sc := defScope s_ways_to_pair) rfl rfl (by decide +kernel) rfl (by decide +kernel)) pa_nil))))) pss_nil)))
   (pss_one (ps_ret (pv 4)))))))), ?_⟩
  refine ⟨_, rfl, _, .inl ⟨_, SqL.of hf, rfl⟩, ?_⟩
  cases hq : F with
  | nil =>
   subst hq
   refine ⟨Nat.zero_le _, fun e he => ⟨(by show 1 ≤ sizeLine; decide), fun q hq => ?_⟩⟩
   have s1 : Same H (upd H e (.lst [])) := TX.Same.upd (Same.refl H) he
   exact fin q _ (s1.free hq) (TX.Same.upd s1 (s1.free hq)) ⟨_, upd_same, .cons ⟨e, rfl, [], upd_old upd_same hq, .nil⟩ .nil⟩
  | cons x r =>
   obtain ⟨_, e2⟩ := cut_head hq
   have hl2 : m = r.length + 1 := by rw [← hm, hq]; rfl
   have hFx : TN.Free ls (x :: r) := hq ▸ hF
   have hnd := List.nodup_cons.mp hFx.1
   have hFr : TN.Free ls r := ⟨hnd.2, fun y hy => hFx.2 y (List.mem_cons_of_mem _ hy)⟩
   have hf' : H f = some (.lst ((x :: r).map V.int)) := by rw [← hq]; exact hf
   have ew : TN.ways ls 6 F = TN.ways ls 6 r ++ r.flatMap fun z => if would ls x z = true then (TN.ways ls 6 (r.filter fun c => decide (c ≠ z))).map fun ps => (x, z) :: ps else [] := by
    rw [hq]
    show TN.ways ls 5 r ++ _ = _
    rw [TN.ways_room ls 5 6 r (by omega) (by omega)]
    congr 1
    apply congrArg (List.flatMap · r)
    funext z
    have hl : (r.filter fun c => decide (c ≠ z)).length ≤ r.length := List.length_filter_le _ _
    rw [TN.ways_room ls 5 6 _ (by omega) (by omega)]
   refine iteF ?_
   refine ⟨_, rfl, f, _, 0, .int x, rfl, rfl, SqL.of hf', atI_of (by decide) rfl, ?_⟩
   refine ⟨_, rfl, 1, rfl, f, _, rfl, SqL.of hf, fun o ho => ?_⟩
   rw [e2]
   have s1 : Same H (upd H o (.lst (r.map V.int))) := TX.Same.upd (Same.refl H) ho
   have ho1 : upd H o (.lst (r.map V.int)) o = some (.lst (r.map V.int)) := upd_same
   generalize upd H o (.lst (r.map V.int)) = H1 at s1 ho1
   refine ⟨_, rfl, _, rfl, r.length, by omega, p, o, ls, r, rfl, hC.same s1, hV, ho1, rfl, by omega, hFr, fun q H2 hqn s2 hW => ?_⟩
   have noq : o ≠ q := ne_of_none ho1 hqn
   have hqH : H q = none := s1.free hqn
   have s02 := s1.trans s2
   refine ⟨_, rfl, o, rfl, ⟨_, SqL.of (s2 _ _ ho1)⟩, for_list (K := K) (a := o) (xs := r.map V.int) (fun i σ H3 => ∃ v5 v6, σ = [some (.ref p), some (.ref f), some (.int x), some (.ref o), some (.ref q), v5, v6] ∧ Same H H3 ∧ H3 o = some (.lst (r.map V.int)) ∧
    WL H3 q (TN.ways ls 6 r ++ (r.take i).flatMap fun z => if would ls x z = true then (TN.ways ls 6 (r.filter fun c => decide (c ≠ z))).map fun ps => (x, z) :: ps else []))
    ⟨_, _, rfl, s02, s2 _ _ ho1, by rw [List.take_zero]; simpa using hW⟩ (fun i σ H3 _ ⟨_, _, _, _, h, _⟩ => SqL.of h) ?_ ?_⟩
   ·rintro i y σ H3 hi ⟨v5, v6, rfl, s3, ho3, hW3⟩
    obtain ⟨z, hz, rfl⟩ := int_at hi
    have hzm := List.mem_of_getElem? hz
    have et : r.take (i + 1) = r.take i ++ [z] := by rw [List.take_add_one, hz]; rfl
    rw [et, List.flatMap_append, List.flatMap_singleton, ← List.append_assoc]
    have hC3 := hC.same s3
    obtain ⟨dx, la, hp, _⟩ := id hC3
    refine ⟨_, rfl, p, dx, _, rfl, hp, flds_no _ _ (by decide +kernel) (by decide +kernel), _, rfl, _, rfl, p, ls, x, z, rfl, hC3, hFx.2 x List.mem_cons_self, hFr.2 z hzm, _, rfl, ?_⟩
    cases hw : would ls x z with
    | false =>
     refine iteF ⟨_, _, rfl, s3, ho3, ?_⟩
     rw [if_neg (by decide), List.append_nil]
     exact hW3
    | true =>
     refine iteT ?_
     rw [if_pos rfl]
     dsimp only
     refine tSeq_of ?_
     refine tSetC_of ?_
     refine butOne (K := K) (l := r) (c := z) (by omega) rfl ho3 (fun R g => by exact ⟨_, rfl, g⟩) fun l hl => ?_
     have hlt := TN.filter_lt hzm
     have hFG : TN.Free ls (r.filter fun c => decide (c ≠ z)) := ⟨hFr.1.sublist List.filter_sublist, fun y hy => hFr.2 y (List.mem_filter.mp hy).1⟩
     generalize r.filter (fun c => decide (c ≠ z)) = G at hlt hFG
     have s4 : Same H3 (upd H3 l (.lst (G.map V.int))) := TX.Same.upd (Same.refl _) hl
     have hl4 : upd H3 l (.lst (G.map V.int)) l = some (.lst (G.map V.int)) := upd_same
     generalize upd H3 l (.lst (G.map V.int)) = H4 at s4 hl4
     have hW4 := Of.same mRPL hW3 s4
     obtain ⟨xq, hq4, rq⟩ := id hW4
     refine ⟨_, rfl, .inl ⟨rfl, _, SqL.of hq4⟩, ?_⟩
     refine tCons_of ?_
     have hb1 := TN.ways_len ls 6 G
     have hb2 := TN.wb6 (n := G.length) (by omega)
     have hb3 := TN.ways_pairs hV 6 G hFG
     have key : ∀ (wq : Addr) (H5 : Hp), Same H4 H5 → WL H5 wq (TN.ways ls 6 G) → ∀ (c : Addr) (H6 : Hp) (ys : List V), Same H5 H6 → H6 c = none → Paired (fun v ps => ∃ d, v = V.ref d ∧ H5 d = none ∧ PL H6 d ps) ys ((TN.ways ls 6 G).map fun ps => (x, z) :: ps) →
       Same H (upd (upd H6 c (.lst ys)) q (.lst (xq ++ ys))) ∧ upd (upd H6 c (.lst ys)) q (.lst (xq ++ ys)) o = some (.lst (r.map V.int)) ∧ upd H6 c (.lst ys) q = some (.lst xq) ∧ ys.length = (TN.ways ls 6 G).length ∧
       WL (upd (upd H6 c (.lst ys)) q (.lst (xq ++ ys))) q ((TN.ways ls 6 r ++ (r.take i).flatMap fun z => if would ls x z = true then (TN.ways ls 6 (r.filter fun c => decide (c ≠ z))).map fun ps => (x, z) :: ps else []) ++ (TN.ways ls 6 G).map fun ps => (x, z) :: ps) := by
      intro wq H5 s5 hW5 c H6 ys s6 hc ry
      have s46 := s5.trans s6
      have s7 : Same H6 (upd H6 c (.lst ys)) := TX.Same.upd (Same.refl _) hc
      have s47 := s46.trans s7
      have hq7 := s47 _ _ hq4
      have hyl := ry.length
      rw [List.length_map] at hyl
      refine ⟨TX.Same.upd (s3.trans (s4.trans s47)) hqH, upd_oth (s47 _ _ (s4 _ _ ho3)) noq, hq7, hyl, _, upd_same, Paired.app (Paired.impl (fun v ps ⟨b, e, hb⟩ => ⟨b, e, ?_⟩) (Paired.impl (fun v ps => mRPL _ _ v ps s47) rq)) (Paired.impl (fun v ps ⟨d, e, hd, hP⟩ => ⟨d, e, ?_⟩) ry)⟩
      ·refine RPL.oth hq7 hb (WL.apart (Of.same mRPL hW4 s47) ?_ hb)
       intro z0
       exact ways_ne ls 6 r (by omega) (List.append_eq_nil_iff.mp z0).1
      ·refine RPL.oth hq7 (Of.same mP hP s7) (fun e0 => ?_)
       rw [e0, s5 _ _ hq4] at hd; cases hd
     refine prefixedS (K := K) (pss := TN.ways ls 6 G) (x := x) (z := z) rfl (fun wq H5 => Same H4 H5 ∧ WL H5 wq (TN.ways ls 6 G)) (fun R hR => ⟨_, rfl, _, rfl, G.length, by omega, p, l, ls, G, rfl, hC.same (s3.trans s4), hV, hl4, rfl, by omega, hFG, fun wq H5 _ s5 hW5 => hR wq H5 ⟨s5, hW5⟩⟩)
      (fun _ _ h => h.2) (by omega) (fun ps hps => by have := who_len (hb3 ps hps).1 (hb3 ps hps).2; omega) ?_
     rintro wq H5 ⟨s5, hW5⟩ c H6 ys s6 hc ry
     obtain ⟨k1, k2, k3, k4, k5⟩ := key wq H5 s5 hW5 c H6 ys s6 hc ry
     have hxql := rq.length
     have hb4 := TN.ways_len ls 6 r
     have hb5 := TN.wb6 (n := r.length) (by omega)
     have hb6 : ((r.take i).flatMap fun z => if would ls x z = true then (TN.ways ls 6 (r.filter fun c => decide (c ≠ z))).map fun ps => (x, z) :: ps else []).length ≤ (r.take i).length * 76 := by
      refine TN.flatMap_len _ fun z' _ => ?_
      split
      ·rw [List.length_map]
       have h1 := TN.ways_len ls 6 (r.filter fun c => decide (c ≠ z'))
       have h2 := List.length_filter_le (fun c => decide (c ≠ z')) r
       exact Nat.le_trans h1 (TN.wb6 (by omega))
      ·exact Nat.zero_le _
     rw [List.length_append] at hxql
     have hb7 : (r.take i).length ≤ 6 := by rw [List.length_take]; omega
     exact ⟨q, c, _, _, rfl, rfl, k3, upd_same, Nat.le_of_lt (small1000 (by omega)), _, _, rfl, k1, k2, k5⟩
   ·rintro σ H3 ⟨v5, v6, rfl, s3, ho3, hW3⟩
    rw [List.length_map, List.take_length, ← ew] at hW3
    exact ⟨_, rfl, fin q H3 hqH s3 hW3⟩
theorem ok_ways (T : Txt K mg t) : ∀ m, FnOk P w K mg base CX0 (2 + m) t.ways_to_pair t.fd_ways_to_pair ["camp", "free"] (spWays t.C m) := by
 intro m
 induction m using Nat.strongRecOn with
 | ind m ih => exact step_ways T m ih
end
end Tp
namespace Tp
open PySem PySem.Spec PyProof.Rows L2 TX TM TK
section
variable {P : Program} {w : World} {K : PySem.W.Frag} {mg : Str → Option Value} {base : Heap} {t : Adr}
def spCheckPair (C : Addr) : Sp := fun vs H Q _ => ∃ (p q : Addr) (ls : Ls) (a b : Int), vs = [.ref p, .ref q] ∧ CampAt C H p ls ∧ H q = some (.tup [.int a, .int b]) ∧ (0 ≤ a ∧ a < ls.length) ∧ (0 ≤ b ∧ b < ls.length) ∧ would ls a b = true ∧ Q .non H
theorem ok_check_pair (T : Txt K mg t) : FnOk P w K mg base CX0 2 t.check_pair t.fd_check_pair ["camp", "pair"] (spCheckPair t.C) := by
 have S := sc_check_pair
 have G_is_camper := ok_is_camper (P := P) (w := w) (base := base) T
 have G_would_share := ok_would_share (P := P) (w := w) (base := base) T
 refine T.check_pair.fn.ok S (fun vs H Q E h => ?_) (fun cdv A outer s H vs Q E hr h => ?_)
 ·obtain ⟨p, q, ls, a, b, rfl, _⟩ := h; rfl
 ·obtain ⟨p, q, ls, a, b, rfl, hC, hq, ha, hb, hw, fin⟩ := h
  obtain ⟨dx, la, hp, hL⟩ := id hC
  refine ⟨_, (pss_cons (ps_if (pw_or (pt_not (pt_val (pe_callB TX.call_isinst (by rfl) T.b_isinstance TK.boot_isinstance (pa_cons (pv 1) (pa_cons (pe_bltn (v := .ty "tuple") (by rfl) T.b_tuple TK.boot_tuple (by rfl)) pa_nil))))) (pw_or1 (pt_cmpR op_ne (pe_callB call_len_seq (by rfl) T.b_len TK.boot_len (pa_cons (pv 1) pa_nil)) pe_int (nomark _)))).pt (pss_one ps_never) pss_nil)
   (pss_cons (ps_for PassesOwn.never rfl (pi_tup (pv 1)) (pg_name (i := 2) S.nd rfl (by first | exact Or.inl rfl | exact Or.inr rfl)) (pss_one (ps_if (pt_not (pt_val (pe_call (k := 1) G_is_camper hr (by rfl) T.is_camper.mg T.is_camper.fn.kp T.is_camper.b .nil pass0 (pa_cons (pv 2) (pa_cons (pe_fld (pv 0) rfl) pa_nil))))) (pss_one ps_never) pss_nil)))
   (pss_one (ps_if (pt_not (pt_val (pe_meth (k := 1) (pv 0) T.cl T.Camp_would_share.me G_would_share hr T.Camp_would_share.b .nil pass0 (pa_cons (pe_ix ix_tup (pv 1) pe_int (fun _ _ => rfl)) (pa_cons (pe_ix ix_tup (pv 1) pe_int (fun _ _ => rfl)) pa_nil))))) (pss_one ps_never) pss_nil)))), ?_⟩
  refine ⟨_, rfl, _, _, _, _, _, rfl, ty_only, .tup hq, kit_tuple_tuple, _, rfl, iteF ?_⟩
  refine ⟨_, rfl, q, _, rfl, .inr (SqT.of hq), rfl, _, rfl, iteFalse (by simp) ?_⟩
  refine ⟨_, rfl, q, rfl, ⟨_, SqT.of hq⟩, for_tup (K := K) (a := q) (xs := [.int a, .int b]) (fun i σ H2 => ∃ v, σ = [some (.ref p), some (.ref q), v] ∧ H2 = H) ⟨none, rfl, rfl⟩ (fun i σ H2 _ ⟨_, _, e⟩ => by subst e; exact SqT.of hq) ?_ ?_⟩
  ·rintro i x σ H2 hi ⟨v, rfl, rfl⟩
   have hx : ∃ z : Int, x = .int z ∧ 0 ≤ z ∧ z < ls.length := by
    match i with
    | 0 => cases hi; exact ⟨a, rfl, ha⟩
    | 1 => cases hi; exact ⟨b, rfl, hb⟩
    | i + 2 => simp at hi
   obtain ⟨z, rfl, z1, z2⟩ := hx
   refine ⟨_, rfl, _, rfl, p, t.C, dx, _, _, rfl, hp, T.cl, T.n_size, flds_size _ _, z, _, rfl, _, rfl, iteNot (by rw [Bool.and_eq_true]; exact ⟨decide_eq_true z1, decide_eq_true z2⟩) ?_⟩
   exact ⟨_, rfl, rfl⟩
  ·rintro σ H2 ⟨v, rfl, rfl⟩
   refine ⟨_, rfl, p, dx, _, rfl, hp, flds_no _ _ (by decide +kernel) (by decide +kernel), _, rfl, q, _, 0, _, rfl, rfl, SqT.of hq, rfl, _, rfl, q, _, 1, _, rfl, rfl, SqT.of hq, rfl, p, ls, a, b, rfl, hC, ha, hb, _, rfl, iteNot hw ?_⟩
   exact fin
def spPartners (C : Addr) : Sp := fun vs H Q _ => ∃ (p a : Addr) (ls : Ls) (ps : Prs), vs = [.ref p, .ref a] ∧ CampAt C H p ls ∧ PL H a ps ∧ Pairs ls ps ∧ ps.length ≤ 100 ∧
 ∀ d kvs H', H d = none → Same H H' → H' d = some (.dK kvs) → (∀ i : Int, valV kvs (Sum.inl i) = (mate ps i).map V.int) → Q (.ref d) H'
theorem ok_partners (T : Txt K mg t) : FnOk P w K mg base CX0 3 t.partners t.fd_partners ["camp", "pairs"] (spPartners t.C) := by
 have S := sc_partners
 have G_check_pair := ok_check_pair (P := P) (w := w) (base := base) T
 refine T.partners.fn.ok S (fun vs H Q E h => ?_) (fun cdv A outer s H vs Q E hr h => ?_)
 ·obtain ⟨p, a, ls, ps, rfl, _⟩ := h; rfl
 ·obtain ⟨p, a, ls, ps, rfl, hC, hP, pr, hlen, fin⟩ := h
  have hu := hu_of hr
  obtain ⟨xs, ha, r⟩ := id hP
  have hxl := r.length
  refine ⟨_, (pss_cons (ps_if (pt_not (pt_val (pe_callB TX.call_isinst (by rfl) T.b_isinstance TK.boot_isinstance (pa_cons (pv 1) (pa_cons (pe_bltn (v := .ty "list") (by rfl) T.b_list TK.boot_list (by rfl)) pa_nil))))) (pss_one ps_never) pss_nil)
   (pss_cons (ps_set (i := 2) S.nd rfl (by first | exact Or.inl rfl | exact Or.inr rfl) pe_dnewK)
   (pss_cons (ps_for PassesOwn.never rfl (pi_list (pv 1)) (pg_name (i := 3) S.nd rfl (by first | exact Or.inl rfl | exact Or.inr rfl)) (pss_cons (ps_expr (pe_call (k := 2) G_check_pair hr (by rfl) T.check_pair.mg T.check_pair.fn.kp T.check_pair.b .nil pass0 (pa_cons (pv 0) (pa_cons (pv 3) pa_nil))))
   (pss_cons (ps_if (pw_or (pt_cmp (pc_din hu (pe_ix ix_tup (pv 3) pe_int (fun _ _ => rfl)) (pv 2))) (pw_or1 (pt_cmp (pc_din hu (pe_ix ix_tup (pv 3) pe_int (fun _ _ => rfl)) (pv 2))))).pt (pss_one ps_never) pss_nil)
   (pss_cons (ps_dput hu (pv 2) (pe_ix ix_tup (pv 3) pe_int (fun _ _ => rfl)) (pe_ix ix_tup (pv 3) pe_int (fun _ _ => rfl)) rfl)
   (pss_one (ps_dput hu (pv 2) (pe_ix ix_tup (pv 3) pe_int (fun _ _ => rfl)) (pe_ix ix_tup (pv 3) pe_int (fun _ _ => rfl)) rfl))))))
   (pss_one (ps_ret (pv 2)))))), ?_⟩
  refine ⟨_, rfl, _, _, _, _, _, rfl, ty_only, .lst ha, kit_list_list, _, rfl, iteF ?_⟩
  intro d hd
  have s1 : Same H (upd H d (.dK [])) := TX.Same.upd (Same.refl H) hd
  refine ⟨_, rfl, a, rfl, ⟨_, SqL.of (s1 _ _ ha)⟩, for_list (K := K) (a := a) (xs := xs) (fun i σ H2 => ∃ (kvs : List (Key × V)) (v : Option V), σ = [some (.ref p), some (.ref a), some (.ref d), v] ∧ Same H H2 ∧
   H2 d = some (.dK kvs) ∧ kvs.length ≤ 2 * i ∧ ∀ x : Int, valV kvs (Sum.inl x) = (mate (ps.take i) x).map V.int)
   ⟨_, none, rfl, s1, upd_same, Nat.zero_le _, fun x => by rw [List.take_zero]; rfl⟩ (fun i σ H2 _ ⟨_, _, _, s2, _⟩ => SqL.of (s2 _ _ ha)) ?_ ?_⟩
  ·rintro i y σ H2 hi ⟨kvs, v, rfl, s2, hd2, hl, hk⟩
   obtain ⟨⟨za, zb⟩, hz, b, rfl, hb⟩ := Paired.at1 r hi
   obtain ⟨_, et, m1, m2, e1, e2, e3, e4, e5, e6⟩ := pr.at hz
   have hb2 : H2 b = some (.tup [.int za, .int zb]) := s2 _ _ hb
   have hil : i < xs.length := (List.getElem?_eq_some_iff.mp hi).1
   refine ⟨_, rfl, _, rfl, p, b, ls, za, zb, rfl, hC.same s2, hb2, ⟨e1, e2⟩, ⟨e3, e4⟩, e6, ?_⟩
   refine ⟨_, rfl, b, _, 0, _, rfl, rfl, SqT.of hb2, rfl, _, rfl, d, _, rfl, DGet.k (k := Sum.inl za) hd2, _, rfl, iteFalse (by rw [hk, m1]; rfl) ?_⟩
   refine ⟨_, rfl, b, _, 1, _, rfl, rfl, SqT.of hb2, rfl, _, rfl, d, _, rfl, DGet.k (k := Sum.inl zb) hd2, _, rfl, iteFalse (by rw [hk, m2]; rfl) ?_⟩
   refine ⟨_, rfl, b, _, 1, _, rfl, rfl, SqT.of hb2, rfl, _, rfl, _, rfl, b, _, 0, _, rfl, rfl, SqT.of hb2, rfl, d, _, rfl, DPut.k (k := Sum.inl za) hd2 (small1000 (by omega)), ?_⟩
   have nbd : b ≠ d := ne_of hb2 hd2 (by intro z; cases z)
   have hb3 : ∀ o, upd H2 d o b = some (.tup [.int za, .int zb]) := fun o => upd_oth hb2 nbd
   have l1 := length_putK kvs (Sum.inl za : Key) (V.int zb)
   refine ⟨_, rfl, b, _, 0, _, rfl, rfl, SqT.of (hb3 _), rfl, _, rfl, _, rfl, b, _, 1, _, rfl, rfl, SqT.of (hb3 _), rfl, d, _, rfl, DPut.k (k := Sum.inl zb) upd_same (small1000 (by omega)), ?_⟩
   have l2 := length_putK (putK kvs (Sum.inl za : Key) (V.int zb)) (Sum.inl zb : Key) (V.int za)
   refine ⟨_, _, rfl, TX.Same.upd (TX.Same.upd s2 hd) hd, upd_same, by omega, fun x => ?_⟩
   rw [valV_put, valV_put, et, mate_snoc]
   by_cases h1 : x = zb
   ·rw [if_pos (by rw [h1]), if_pos h1]; rfl
   ·rw [if_neg (fun z => h1 (by injection z)), if_neg h1]
    by_cases h2 : x = za
    ·rw [if_pos (by rw [h2]), if_pos h2]; rfl
    ·rw [if_neg (fun z => h2 (by injection z)), if_neg h2]; exact hk x
  ·rintro σ H2 ⟨kvs, v, rfl, s2, hd2, hl, hk⟩
   refine ⟨_, rfl, ?_⟩
   rw [hxl, List.take_length] at hk
   exact fin d kvs H2 hd s2 hd2 hk
end
section
variable {P : Program} {w : World} {K : PySem.W.Frag} {mg : Str → Option Value} {base : Heap} {t : Adr}
def spBreaking (C : Addr) : Sp := fun vs H Q _ => ∃ (p a : Addr) (ls : Ls) (ps : Prs), vs = [.ref p, .ref a] ∧ CampAt C H p ls ∧ Valid ls ∧ PL H a ps ∧ Pairs ls ps ∧ ps.length ≤ 100 ∧
 ∀ q H', H q = none → Same H H' → PL H' q (breaking ls ps) → Q (.ref q) H'
theorem ok_breaking (T : Txt K mg t) : FnOk P w K mg base CX0 4 t.breaking t.fd_breaking ["camp", "pairs"] (spBreaking t.C) := by
 have S := sc_breaking
 have G_partners := ok_partners (P := P) (w := w) (base := base) T
 have G_breakers := ok_breakers (P := P) (w := w) (base := base) T
 refine T.breaking.fn.ok S (fun vs H Q E h => ?_) (fun cdv A outer s H vs Q E hr h => ?_)
 ·obtain ⟨p, a, ls, ps, rfl, _⟩ := h; rfl
 ·obtain ⟨p, a, ls, ps, rfl, hC, hV, hP, pr, hlen, fin⟩ := h
  refine ⟨_, (pss_one (ps_ret (pe_call (k := 3) G_breakers hr (by rfl) T.breakers.mg T.breakers.fn.kp T.breakers.b .nil pass0 (pa_cons (pv 0) (pa_cons (pe_call (k := 3) G_partners hr (by rfl) T.partners.mg T.partners.fn.kp T.partners.b .nil pass0 (pa_cons (pv 0) (pa_cons (pv 1) pa_nil))) pa_nil))))), ?_⟩
  refine ⟨_, rfl, _, rfl, _, rfl, p, a, ls, ps, rfl, hC, hP, pr, hlen, fun d kvs H1 hd s1 hd1 hk => ?_⟩
  refine ⟨p, d, ls, mate ps, rfl, hC.same s1, hV, havOk_mate pr, ⟨kvs, hd1, fun i => by rw [hk]; exact optV_get _⟩, fun q H2 hq s2 hF => ?_⟩
  exact fin q H2 (s1.free hq) (s1.trans s2) hF
end
section
variable {P : Program} {w : World} {K : PySem.W.Frag} {mg : Str → Option Value} {base : Heap} {t : Adr}
def stP (ls : Ls) (ps : Prs) : Bool := decide (breaking ls ps = [])
theorem keptB {H : Hp} {σ : L2.St} {p b : Addr} {ls : Ls} {pss : List Prs} {Q : VK} {tl : TE} (hC : CampAt t.C H p ls) (hV : Valid ls) (hW : WL H b pss) (hn : pss.length ≤ 100) (hps : ∀ ps ∈ pss, Pairs ls ps ∧ ps.length ≤ 100) (hσ : subSt σ [none, some 0] = [none, some (.ref p)]) (htl : ∀ R : VK, R (.ref b) H → tl σ H R)
  (q : ∀ c H1 ys, Same H H1 → H1 c = none → Paired (TX.RPL H1) ys (pss.filter (stP ls)) → Q (.ref c) (upd H1 c (.lst ys))) :
  tComp [none, some 0] (iList K tl) (gName 0) (tTest (tOp (TX.rEqD K) (tCall (spBreaking t.C) [] E0 (tCons (tVar 1) (tCons (tVar 0) tNil))) (tLst tNil))) (tVar 0) σ H Q := by
 obtain ⟨xs, hb, r⟩ := hW
 have hxl := r.length
 refine htl _ ⟨b, rfl, ⟨_, SqL.of hb⟩, fun i m ys H1 => m = xs.length - i ∧ i ≤ xs.length ∧ Same H H1 ∧ Paired (TX.RPL H1) ys ((pss.take i).filter (stP ls)), ⟨_, rfl, Nat.zero_le _, Same.refl H, by rw [List.take_zero]; exact .nil⟩, ?_⟩
 rintro i m ys H1 ⟨rfl, hi, s1, ry⟩
 have hyl : ys.length ≤ (pss.take i).length := Nat.le_trans (Nat.le_of_eq ry.length) (List.length_filter_le _ _)
 rw [List.length_take] at hyl
 by_cases hlt : i < xs.length
 ·refine .inr ⟨⟨_, xs[i], SqL.of (s1 _ _ hb), by simp [hlt]⟩, small1000 (by omega), fun v H' y => ?_⟩
  obtain ⟨eH, y⟩ := y
  rw [eH]
  clear eH H'
  have hx := y _ (SqL.of (s1 _ _ hb))
  obtain ⟨ps, hpi, d, rfl, hd⟩ := Paired.at1 r hx
  obtain ⟨pr, hpl⟩ := hps ps (List.mem_of_getElem? hpi)
  have hd1 := Of.same mP hd s1
  rw [hσ]
  refine ⟨Kps.own, ?_⟩
  refine tTest_of (tOp_of (tCall_of ⟨_, rfl, _, rfl, p, d, ls, ps, rfl, hC.same s1, hV, hd1, pr, hpl, fun f H2 hf s2 hB => ⟨Nat.zero_le _, fun e he => ?_⟩⟩))
  have s3 := TX.Same.upd (o := .lst []) (Same.refl H2) he
  have hB3 := Of.same mP hB s3
  have he3 : upd H2 e (.lst []) e = some (.lst []) := upd_same
  generalize upd H2 e (.lst []) = H3 at s3 hB3 he3
  have s13 := s2.trans s3
  have et : pss.take (i + 1) = pss.take i ++ [ps] := by rw [List.take_add_one, hpi]; rfl
  refine ⟨_, _, PL.dd hB3, dd_nil he3, ok_dPL _, ok_nilD, fun z => ⟨_, rfl, iteT ?_⟩, fun z => ⟨_, rfl, iteF ?_⟩⟩
  ·refine ⟨_, rfl, xs.length - (i + 1), by omega, rfl, hlt, s1.trans s13, ?_⟩
   rw [et, List.filter_append, List.filter_cons_of_pos (show stP ls ps = true from decide_eq_true (dPL_nil.mp z))]
   exact Paired.app (Paired.impl (fun v p => mRPL _ _ v p s13) ry) (.cons ⟨d, rfl, Of.same mP hd1 s13⟩ .nil)
  ·refine ⟨xs.length - (i + 1), by omega, rfl, hlt, s1.trans s13, ?_⟩
   rw [et, List.filter_append, List.filter_cons_of_neg (show ¬ stP ls ps = true from fun y => z (dPL_nil.mpr (of_decide_eq_true y))), List.filter_nil, List.append_nil]
   exact Paired.impl (fun v p => mRPL _ _ v p s13) ry
 ·have e : i = xs.length := by omega
  subst e
  rw [List.take_of_length_le (by omega)] at ry
  exact .inl ⟨⟨_, SqL.of (s1 _ _ hb), Nat.le_refl _⟩, fun c hc => q c _ _ s1 hc ry⟩
def spAllSteady (C : Addr) : Sp := fun vs H Q _ => ∃ (p : Addr) (ls : Ls), vs = [.ref p] ∧ CampAt C H p ls ∧ Valid ls ∧ ∀ q pss H', H q = none → Same H H' → pss.Perm (TN.steadyWays ls) → pss.Pairwise (fun a b => TX.pLt a b = true) → WL H' q pss → Q (.ref q) H'
theorem ok_all_steady (T : Txt K mg t) : FnOk P w K mg base CX0 9 t.all_steady t.fd_all_steady ["camp"] (spAllSteady t.C) := by
 have S := sc_all_steady
 have G_breaking := ok_breaking (P := P) (w := w) (base := base) T
 have G_ways_to_pair : FnOk P w K mg base CX0 8 t.ways_to_pair t.fd_ways_to_pair ["camp", "free"] (fun vs H Q E => ∃ m, m ≤ 6 ∧ spWays t.C m vs H Q E) := FnOk.ex fun m h => (ok_ways (P := P) (w := w) (base := base) T m).mono (by omega)
 refine T.all_steady.fn.ok S (fun vs H Q E h => ?_) (fun cdv A outer s H vs Q E hr h => ?_)
 ·obtain ⟨p, ls, rfl, _⟩ := h; rfl
 ·obtain ⟨p, ls, rfl, hC, hV, fin⟩ := h
  have hu64 := hr.units
  have hl6 := hV.le
  obtain ⟨dx, la, hp, _⟩ := id hC
  refine ⟨_, (pss_cons (ps_set (i := 1) S.nd rfl (by first | exact Or.inl rfl | exact Or.inr rfl) (pe_call (k := 8) (G_ways_to_pair.mono (by decide)) hr (by rfl) T.ways_to_pair.mg T.ways_to_pair.fn.kp T.ways_to_pair.b .nil pass0 (pa_cons (pv 0) (pa_cons (pe_callTy (TX.call_list_rng rfl) (by rfl) T.b_list TK.boot_list (pa_cons (TX.pe_range1 (by rfl) T.b_range (pa_cons (pe_fld (pv 0) rfl) pa_nil)) pa_nil)) pa_nil))))
   (pss_one (ps_ret (pe_callB (TX.call_sortedP hu64) (by rfl) T.b_sorted TK.boot_sorted (pa_cons (TX.pe_comp (tc := tTest (tOp (TX.rEqD K) (tCall (spBreaking t.C) [] E0 (tCons (tVar 1) (tCons (tVar 0) tNil))) (tLst tNil))) ["pairs", "camp"] [none, some 0] rfl (pi_list (pv 1)) (fun _ _ _ _ _ => (pg_name (i := 0) (show (["pairs", "camp"] : List Str).Nodup by decide +kernel) rfl (by first | exact Or.inl rfl | exact Or.inr rfl))) (fun _ _ _ _ _ => (TX.pts_one (pt_cmpR (TX.op_eqD hu64) (pe_call (k := 8) (G_breaking.mono (by decide)) hr (by rfl) T.breaking.mg T.breaking.fn.kp T.breaking.b .nil pass0 (pa_cons (pv 1) (pa_cons (pv 0) pa_nil))) (pe_lst pa_nil) (nomark _)))) (fun _ _ _ _ _ => (pv 0)) rfl (by decide +kernel) (by decide +kernel) (No := ["camp", "ways"]) (sc := defScope s_all_steady) rfl rfl (by decide +kernel) rfl (by decide +kernel)) pa_nil))))), ?_⟩
  refine ⟨_, rfl, _, rfl, p, t.C, dx, _, _, rfl, hp, T.cl, T.n_size, flds_size _ _, _, rfl, fun rq hrq => ?_⟩
  refine ⟨rq, 0, _, rfl, upd_same, ⟨by omega, by omega, by omega, by omega⟩, by omega, fun f hf => ?_⟩
  rw [rngV_eq]
  have s2 : Same H (upd H rq (.rng 0 (ls.length : Int))) := TX.Same.upd (Same.refl _) hrq
  have s3 := TX.Same.upd (o := .lst ((rng ls.length).map V.int)) s2 (s2.free hf)
  refine ⟨ls.length, hl6, p, f, ls, rng ls.length, rfl, hC.same s3, hV, upd_same, rng_length _, hl6, TN.free_rng ls, fun wq H4 _ s4 hW => ?_⟩
  have s04 := s3.trans s4
  have hwl := TN.ways_len ls 6 (rng ls.length)
  have hwb := TN.wb6 (n := (rng ls.length).length) (by rw [rng_length]; exact hl6)
  have hpr := TN.ways_pairs hV 6 _ (TN.free_rng ls)
  dsimp only
  refine tRet_of (tCB_of (tCons_of ?_))
  refine keptB (K := K) (t := t) (b := wq) (hC.same s04) hV hW (by omega) (fun ps h => ⟨(hpr ps h).1, ?_⟩) rfl (fun R z => by exact ⟨_, rfl, z⟩) fun c H5 ys s5 hc ry => ?_
  ·have := who_len (hpr ps h).1 (hpr ps h).2
   rw [rng_length] at this
   omega
  ·have s6 := TX.Same.upd (o := .lst ys) (Same.refl H5) hc
   have ry6 := Paired.impl (fun v p => mRPL _ _ v p s6) ry
   have hc6 : upd H5 c (.lst ys) c = some (.lst ys) := upd_same
   generalize upd H5 c (.lst ys) = H6 at s6 ry6 hc6
   have s06 := s04.trans (s5.trans s6)
   refine ⟨c, ys, _, rfl, hc6, ry6, TN.steady_nodup hV, Nat.lt_of_le_of_lt (TN.steady_few hV) (by decide), fun l vs' pss' hl hpm hsp rp => ?_⟩
   have s7 := TX.Same.upd (o := .lst vs') (Same.refl H6) hl
   exact fin l pss' _ (s06.free hl) (s06.trans s7) hpm hsp ⟨vs', upd_same, Paired.impl (fun v p => mRPL _ _ v p s7) rp⟩
end
end Tp
namespace Tp
open PySem PySem.Spec PyProof.Rows L2 TX TM TK
section
variable {P : Program} {w : World} {K : PySem.W.Frag} {mg : Str → Option Value} {base : Heap} {t : Adr}
theorem fun_ok1 {C : Addr} {x qual : Str} {st : Stmt} {f : Addr} {fd : FuncData} {N ps : List Str} {k : Nat} {sp : Sp} (F : Fun K x qual st f fd) (S : FnScope N ps (defScope st)) (len : ∀ vs H Q E, sp vs H Q E → vs.length = ps.length)
  (hbody : ∀ (cdv : Value) (A : Around) (outer : List Env) (s : Shared) (H : Hp) (vs : List V) (Q : VK) (E : XK), Room k (A.deeper (envOfC qual (defScope st) s.heap.objs.size f cdv)) → sp vs H Q E →
   ∃ t, PSs (TX.cx1 C P w K mg base N qual (defScope st) f cdv A outer s H E) (defBody st) t ∧ t { nx := fun _ H' => Q .non H', rt := Q } (start N vs) H) : FnOk P w K mg base (TX.CX1 P w C) (k + 1) f fd ps sp := by
 obtain ⟨oc, od, kV, doc, pm, an, cdv, ct, osl, rfl, lk, hcd⟩ := F.ex
 exact fn_of lk hcd S len fun A outer s H vs Q E hr hsp => hbody cdv A outer s H vs Q E hr hsp
theorem kit_bool_bool : PySem.W.kitOne K (.type "bool") (.type "bool") = some true := by rfl
theorem kit_str_bool : PySem.W.kitOne K (.type "str") (.type "bool") = some false := by rfl
theorem kit_str_int : PySem.W.kitOne K (.type "str") (.type "int") = some false := by rfl
theorem kit_non_bool : PySem.W.kitOne K (.type "NoneType") (.type "bool") = some false := by rfl
theorem kit_non_int : PySem.W.kitOne K (.type "NoneType") (.type "int") = some false := by rfl
inductive Sc : V → Prop where
 | non : Sc .non
 | bl (b : Bool) : Sc (.bl b)
 | int (i : Int) : Sc (.int i)
 | str (x : Str) : Sc (.str x)
def isCmp (v : V) (n : Int) : Bool := match v with | .int i => decide (0 ≤ i) && decide (i < n) | _ => false
def spCamperV : Sp := fun vs H Q _ => ∃ (v : V) (n : Int), vs = [v, .int n] ∧ Sc v ∧ Q (.bl (isCmp v n)) H
theorem ok_camperV (T : Txt K mg t) : FnOk P w K mg base CX0 1 t.is_camper t.fd_is_camper ["value", "size"] spCamperV := by
 have S := sc_is_camper
 refine T.is_camper.fn.ok S (fun vs H Q E h => ?_) (fun cdv A outer s H vs Q E hr h => ?_)
 ·obtain ⟨v, n, rfl, _⟩ := h; rfl
 ·obtain ⟨v, n, rfl, hs, q⟩ := h
  refine ⟨_, (pss_cons (ps_if (pw_or (pt_val (pe_callB TX.call_isinst (by rfl) T.b_isinstance TK.boot_isinstance (pa_cons (pv 0) (pa_cons (pe_bltn (v := .ty "bool") (by rfl) T.b_bool TK.boot_bool (by rfl)) pa_nil)))) (pw_or1 (pt_not (pt_val (pe_callB TX.call_isinst (by rfl) T.b_isinstance TK.boot_isinstance (pa_cons (pv 0) (pa_cons (pe_bltn (v := .ty "int") (by rfl) T.b_int TK.boot_int (by rfl)) pa_nil))))))).pt (pss_one (ps_ret pe_bl)) pss_nil)
   (pss_one (ps_ret (pe_chain op_le op_lt pe_int (pv 0) (pv 1))))), ?_⟩
  cases hs with
  | int v =>
   refine ⟨_, rfl, _, _, _, _, _, rfl, ty_only, .int _, kit_int_bool, _, rfl, iteF ?_⟩
   refine ⟨_, rfl, _, _, _, _, _, rfl, ty_only, .int _, kit_int_int, _, rfl, iteF ?_⟩
   refine ⟨_, rfl, _, _, rfl, rfl, _, rfl, iteB (fun e => ⟨_, rfl, _, _, rfl, rfl, ?_⟩) (fun e => ?_)⟩
   ·have q' : Q (.bl (decide (0 ≤ v) && decide (v < n))) H := q
    rw [e, Bool.true_and] at q'; exact q'
   ·have q' : Q (.bl (decide (0 ≤ v) && decide (v < n))) H := q
    rw [e, Bool.false_and] at q'; exact q'
  | bl b => exact ⟨_, rfl, _, _, _, _, _, rfl, ty_only, .bl _, kit_bool_bool, _, rfl, iteT (iteT q)⟩
  | str x =>
   refine ⟨_, rfl, _, _, _, _, _, rfl, ty_only, .str _, kit_str_bool, _, rfl, iteF ?_⟩
   exact ⟨_, rfl, _, _, _, _, _, rfl, ty_only, .str _, kit_str_int, _, rfl, iteT q⟩
  | non =>
   refine ⟨_, rfl, _, _, _, _, _, rfl, ty_only, .non, kit_non_bool, _, rfl, iteF ?_⟩
   exact ⟨_, rfl, _, _, _, _, _, rfl, ty_only, .non, kit_non_int, _, rfl, iteT q⟩
def NotL (K : PySem.W.Frag) (H : Hp) (v : V) : Prop := ∃ ty, TyOf K H v ty ∧ PySem.W.kitOne K ty (.type "list") = some false
def NotT (K : PySem.W.Frag) (H : Hp) (v : V) : Prop := ∃ ty, TyOf K H v ty ∧ PySem.W.kitOne K ty (.type "tuple") = some false
theorem TyOf.same {H H' : Hp} {v : V} {ty : Value} (h : TyOf K H v ty) (e : Same H H') : TyOf K H' v ty := by
 cases h with
 | non => exact .non
 | bl x => exact .bl x
 | int i => exact .int i
 | str x => exact .str x
 | flt x => exact .flt x
 | lst q => exact .lst (e _ _ q)
 | frz q => exact .frz (e _ _ q)
 | tup q => exact .tup (e _ _ q)
 | dK q => exact .dK (e _ _ q)
 | dT q => exact .dT (e _ _ q)
 | ins q a b c d f => exact .ins (e _ _ q) a b c d f
theorem NotL.same {H H' : Hp} {v : V} (h : NotL K H v) (e : Same H H') : NotL K H' v := let ⟨ty, a, b⟩ := h; ⟨ty, TyOf.same a e, b⟩
theorem NotT.same {H H' : Hp} {v : V} (h : NotT K H v) (e : Same H H') : NotT K H' v := let ⟨ty, a, b⟩ := h; ⟨ty, TyOf.same a e, b⟩
def OkW (c n : Int) (ys : List V) : Prop := ∀ (i : Nat) (y : V), ys[i]? = some y → isCmp y n = true ∧ y ≠ .int c ∧ y ∉ ys.take i
theorem cmp_int {y : V} {n : Int} (h : isCmp y n = true) : ∃ z, y = .int z := by
 cases y with
 | int z => exact ⟨z, rfl⟩
 | _ => cases h
def xpWishes (K : PySem.W.Frag) (X : Addr) : Sp := fun vs H Q E => ∃ (c n : Int) (x : V), vs = [.int c, x, .int n] ∧
 ((∃ a ys, x = .ref a ∧ H a = some (.lst ys) ∧ (∀ y ∈ ys, Sc y) ∧ ys.length ≤ 100 ∧ (OkW c n ys → ∀ H', Same H H' → Q .non H') ∧ (¬ OkW c n ys → ∀ H', Same H H' → E (.ref X) none H')) ∨ (NotL K H x ∧ ∀ H', Same H H' → E (.ref X) none H'))
theorem xk_wishes (T : Txt K mg t) : FnOk P w K mg base (TX.CX1 P w t.X_BadCamp) 2 t.check_wishes t.fd_check_wishes ["camper", "wishes", "size"] (xpWishes K t.X_BadCamp) := by
 have S := sc_check_wishes
 have G_is_camper := ok_camperV (P := P) (w := w) (base := base) T
 refine fun_ok1 T.check_wishes.fn S (fun vs H Q E h => ?_) (fun cdv A outer s H vs Q E hr h => ?_)
 ·obtain ⟨c, n, x, rfl, _⟩ := h; rfl
 ·obtain ⟨c, n, x, rfl, h⟩ := h
  have hu := hu_of hr
  refine ⟨_, (pss_cons (ps_if (pt_not (pt_val (pe_callB TX.call_isinst (by rfl) T.b_isinstance TK.boot_isinstance (pa_cons (pv 1) (pa_cons (pe_bltn (v := .ty "list") (by rfl) T.b_list TK.boot_list (by rfl)) pa_nil))))) (pss_one (TX.ps_raise (C := t.X_BadCamp) PySem.F.excBase_ValueError (by decide) PySem.F.excBase_ValueError T.x_BadCamp rfl T.mg_BadCamp pe_str hr.hd)) pss_nil)
   (pss_cons (ps_set (i := 3) S.nd rfl (by first | exact Or.inl rfl | exact Or.inr rfl) (pe_disp (pps_cons (pv 0) pe_bl pps_nil) rfl rfl (by simp) (by decide)))
   (pss_one (ps_for PassesOwn.leaving rfl (pi_list (pv 1)) (pg_name (i := 4) S.nd rfl (by first | exact Or.inl rfl | exact Or.inr rfl)) (pss_cons (ps_if (pt_not (pt_val (pe_call (k := 1) G_is_camper hr (by rfl) T.is_camper.mg T.is_camper.fn.kp T.is_camper.b .nil pass0 (pa_cons (pv 4) (pa_cons (pv 2) pa_nil))))) (pss_one (TX.ps_raise (C := t.X_BadCamp) PySem.F.excBase_ValueError (by decide) PySem.F.excBase_ValueError T.x_BadCamp rfl T.mg_BadCamp pe_str hr.hd)) pss_nil)
   (pss_cons (ps_if (pt_cmp (pc_din hu (pv 4) (pv 3))) (pss_one (TX.ps_raise (C := t.X_BadCamp) PySem.F.excBase_ValueError (by decide) PySem.F.excBase_ValueError T.x_BadCamp rfl T.mg_BadCamp pe_str hr.hd)) pss_nil)
   (pss_one (ps_dput hu (pv 3) (pv 4) pe_bl rfl)))))))), ?_⟩
  rcases h with ⟨a, ys, rfl, ha, hsc, hlen, fin, bad⟩ | ⟨⟨ty, hty, hk⟩, bad⟩
  ·refine ⟨_, rfl, _, _, _, _, _, rfl, ty_only, .lst ha, kit_list_list, _, rfl, iteF ?_⟩
   intro p hp
   refine ⟨_, rfl, upd_same, [(Sum.inl c, .bl true)], rfl, (by show 1 ≤ 15; decide), ?_⟩
   rw [upd_upd]
   have s1 : Same H (upd H p (.dK (mergeK [] [(Sum.inl c, .bl true)]))) := TX.Same.upd (Same.refl H) hp
   refine ⟨_, rfl, a, rfl, ⟨_, SqL.of (s1 _ _ ha)⟩, for_list (K := K) (a := a) (xs := ys) (fun i σ H2 => ∃ (kvs : List (Key × V)) (v : Option V), σ = [some (.int c), some (.ref a), some (.int n), some (.ref p), v] ∧ Same H H2 ∧
    H2 p = some (.dK kvs) ∧ kvs.length ≤ i + 1 ∧ (∀ x : Int, (valV kvs (Sum.inl x)).isSome = true ↔ x = c ∨ V.int x ∈ ys.take i) ∧ ∀ (j : Nat) (y : V), j < i → ys[j]? = some y → isCmp y n = true ∧ y ≠ .int c ∧ y ∉ ys.take j)
    ⟨_, none, rfl, s1, upd_same, (by show 1 ≤ 0 + 1; decide), fun x => ?_, fun j y hj => absurd hj (Nat.not_lt_zero _)⟩ (fun i σ H2 _ ⟨_, _, _, s2, _⟩ => SqL.of (s2 _ _ ha)) ?_ ?_⟩
   ·show (valV (putK [] (Sum.inl c) (.bl true)) (Sum.inl x)).isSome = true ↔ _
    rw [valV_put]
    by_cases e : (Sum.inl x : Key) = Sum.inl c
    ·rw [if_pos e]; injection e with e; simp [e]
    ·rw [if_neg e]
     have : x ≠ c := fun z => e (by rw [z])
     simp [valV_nil, this]
   ·rintro i y σ H2 hi ⟨kvs, v, rfl, s2, hd, hl, hk, hok⟩
    have hbad : ¬ (isCmp y n = true ∧ y ≠ .int c ∧ y ∉ ys.take i) → E (.ref t.X_BadCamp) none H2 := fun z => bad (fun o => z (o i y hi)) H2 s2
    refine ⟨_, rfl, _, rfl, y, _, rfl, hsc y (List.mem_of_getElem? hi), _, rfl, ?_⟩
    cases hc : isCmp y n with
    | false => exact iteT (hbad fun z => by rw [hc] at z; cases z.1)
    | true =>
    refine iteF ?_
    obtain ⟨z, rfl⟩ := cmp_int hc
    refine ⟨_, rfl, _, rfl, p, _, rfl, DGet.k (k := Sum.inl z) hd, _, rfl, ?_⟩
    cases hv : (valV kvs (Sum.inl z)) with
    | some u =>
     have := (hk z).mp (by rw [hv]; rfl)
     refine iteT (hbad fun q => ?_)
     rcases this with h | h
     ·exact q.2.1 (by rw [h])
     ·exact q.2.2 h
    | none =>
    have hno : z ≠ c ∧ V.int z ∉ ys.take i := by
     refine ⟨fun e => ?_, fun e => ?_⟩
     ·have := (hk z).mpr (.inl e); rw [hv] at this; cases this
     ·have := (hk z).mpr (.inr e); rw [hv] at this; cases this
    refine iteF ?_
    have hil : i < ys.length := (List.getElem?_eq_some_iff.mp hi).1
    refine ⟨_, rfl, _, rfl, p, _, rfl, DPut.k (k := Sum.inl z) hd (small1000 (by omega)), ?_⟩
    refine ⟨_, _, rfl, TX.Same.upd s2 hp, upd_same, ?_, fun x => ?_, fun j y hj hy => ?_⟩
    ·have := length_putK kvs (Sum.inl z : Key) (V.bl true)
     omega
    ·rw [valV_put]
     have et : ys.take (i + 1) = ys.take i ++ [.int z] := by rw [List.take_add_one, hi]; rfl
     rw [et]
     by_cases e : (Sum.inl x : Key) = Sum.inl z
     ·rw [if_pos e]; injection e with e; simp [e]
     ·rw [if_neg e, hk x]
      have : x ≠ z := fun q => e (by rw [q])
      simp [this]
    ·by_cases e : j = i
     ·subst e
      rw [hi] at hy; cases hy
      exact ⟨hc, fun q => hno.1 (by injection q), hno.2⟩
     ·exact hok j y (by omega) hy
   ·rintro σ H2 ⟨kvs, v, rfl, s2, _, _, _, hok⟩
    exact fin (fun i y hi => hok i y (List.getElem?_eq_some_iff.mp hi).1 hi) H2 s2
  ·exact ⟨_, rfl, _, _, _, _, _, rfl, ty_only, hty, hk, _, rfl, iteT (bad H (Same.refl H))⟩
end
section
variable {P : Program} {w : World} {K : PySem.W.Frag} {mg : Str → Option Value} {base : Heap} {t : Adr}
def LsK (H : Hp) (x : V) (ys : List V) : Prop := ∃ b, x = .ref b ∧ H b = some (.lst ys) ∧ (∀ y ∈ ys, Sc y) ∧ ys.length ≤ 100
def BadX (K : PySem.W.Frag) (H : Hp) (n : Int) (i : Nat) (x : V) : Prop := NotL K H x ∨ ∃ ys, LsK H x ys ∧ ¬ OkW i n ys
def BadC (K : PySem.W.Frag) (H : Hp) (v : V) : Prop := NotL K H v ∨ ∃ a xs, v = .ref a ∧ H a = some (.lst xs) ∧ xs.length ≤ 100 ∧ (∀ x ∈ xs, NotL K H x ∨ ∃ ys, LsK H x ys) ∧ (xs.length = 0 ∨ 6 < xs.length ∨ ∃ i x, xs[i]? = some x ∧ BadX K H xs.length i x)
theorem LsK.same {H H' : Hp} {x : V} {ys : List V} (h : LsK H x ys) (e : Same H H') : LsK H' x ys := let ⟨b, h1, h2, h3⟩ := h; ⟨b, h1, e _ _ h2, h3⟩
theorem BadX.same {H H' : Hp} {n : Int} {i : Nat} {x : V} (h : BadX K H n i x) (e : Same H H') : BadX K H' n i x := h.elim (fun z => .inl (z.same e)) fun ⟨ys, a, b⟩ => .inr ⟨ys, a.same e, b⟩
theorem BadC.same {H H' : Hp} {v : V} (h : BadC K H v) (e : Same H H') : BadC K H' v := by
 rcases h with h | ⟨a, xs, h1, h2, h3, h4, h5⟩
 ·exact .inl (h.same e)
 ·refine .inr ⟨a, xs, h1, e _ _ h2, h3, fun x hx => (h4 x hx).elim (fun z => .inl (z.same e)) fun ⟨ys, z⟩ => .inr ⟨ys, z.same e⟩, ?_⟩
  rcases h5 with h5 | h5 | ⟨i, x, hx, h5⟩
  ·exact .inl h5
  ·exact .inr (.inl h5)
  ·exact .inr (.inr ⟨i, x, hx, h5.same e⟩)
theorem NotL.nol {H : Hp} {x : V} {ys : List V} (h : NotL K H x) (l : LsK H x ys) : False := by
 obtain ⟨ty, hty, hk⟩ := h
 obtain ⟨b, rfl, hb, _⟩ := l
 cases hty with
 | lst q => rw [kit_list_list] at hk; cases hk
 | frz q => rw [kit_list_list] at hk; cases hk
 | tup q => rw [hb] at q; cases q
 | dK q => rw [hb] at q; cases q
 | dT q => rw [hb] at q; cases q
 | ins q => rw [hb] at q; cases q
theorem LsK.uniq {H : Hp} {x : V} {ys zs : List V} (a : LsK H x ys) (b : LsK H x zs) : ys = zs := by
 obtain ⟨p, rfl, h1, _⟩ := a
 obtain ⟨q, e, h2, _⟩ := b
 cases e
 rw [h1] at h2; cases h2; rfl
def xpLists (K : PySem.W.Frag) (X : Addr) : Sp := fun vs H _ E => ∃ v, vs = [v] ∧ BadC K H v ∧ ∀ H', Same H H' → E (.ref X) none H'
theorem xk_lists (T : Txt K mg t) : FnOk P w K mg base (TX.CX1 P w t.X_BadCamp) 3 t.check_lists t.fd_check_lists ["lists"] (xpLists K t.X_BadCamp) := by
 have S := sc_check_lists
 have X_check_wishes := xk_wishes (P := P) (w := w) (base := base) T
 have h_MOST_CAMPERS := T.mg_M
 refine fun_ok1 T.check_lists.fn S (fun vs H Q E h => ?_) (fun cdv A outer s H vs Q E hr h => ?_)
 ·obtain ⟨v, rfl, _⟩ := h; rfl
 ·obtain ⟨v, rfl, h, bad⟩ := h
  refine ⟨_, (pss_cons (ps_if (pt_not (pt_val (pe_callB TX.call_isinst (by rfl) T.b_isinstance TK.boot_isinstance (pa_cons (pv 0) (pa_cons (pe_bltn (v := .ty "list") (by rfl) T.b_list TK.boot_list (by rfl)) pa_nil))))) (pss_one (TX.ps_raise (C := t.X_BadCamp) PySem.F.excBase_ValueError (by decide) PySem.F.excBase_ValueError T.x_BadCamp rfl T.mg_BadCamp pe_str hr.hd)) pss_nil)
   (pss_cons (ps_if (pt_not (pt_chain op_le op_le pe_int (pe_callB call_len_seq (by rfl) T.b_len TK.boot_len (pa_cons (pv 0) pa_nil)) (pe_glob (v := .int 6) (by rfl) h_MOST_CAMPERS (by first | exact ⟨_, rfl⟩ | rfl)))) (pss_one (TX.ps_raise (C := t.X_BadCamp) PySem.F.excBase_ValueError (by decide) PySem.F.excBase_ValueError T.x_BadCamp rfl T.mg_BadCamp pe_str hr.hd)) pss_nil)
   (pss_one (ps_for PassesOwn.leaving rfl (TX.pi_enum rfl T.b_enumerate (pa_cons (pv 0) pa_nil)) (pg_tup rfl (pgs_cons (pg_name (i := 1) S.nd rfl (by first | exact Or.inl rfl | exact Or.inr rfl)) (pgs_cons (pg_name (i := 2) S.nd rfl (by first | exact Or.inl rfl | exact Or.inr rfl)) pgs_nil))) (pss_one (ps_expr (pe_call (k := 2) X_check_wishes hr (by rfl) T.check_wishes.mg T.check_wishes.fn.kp T.check_wishes.b .nil TX.passes1 (pa_cons (pv 1) (pa_cons (pv 2) (pa_cons (pe_callB call_len_seq (by rfl) T.b_len TK.boot_len (pa_cons (pv 0) pa_nil)) pa_nil)))))))))), ?_⟩
  rcases h with ⟨ty, hty, hk⟩ | ⟨a, xs, rfl, ha, hlen, hall, hbad⟩
  ·exact ⟨_, rfl, _, _, _, _, _, rfl, ty_only, hty, hk, _, rfl, iteT (bad H (Same.refl H))⟩
  refine ⟨_, rfl, _, _, _, _, _, rfl, ty_only, .lst ha, kit_list_list, _, rfl, iteF ?_⟩
  refine ⟨_, rfl, a, _, rfl, .inl (SqL.of ha), _, _, rfl, rfl, _, rfl, ?_⟩
  by_cases h0 : xs.length = 0
  ·exact iteFalse (decide_eq_false (by omega)) ⟨_, rfl, iteT (bad H (Same.refl H))⟩
  refine iteTrue (decide_eq_true (by omega)) ?_
  refine ⟨_, _, rfl, rfl, _, rfl, ?_⟩
  by_cases h6 : 6 < xs.length
  ·exact iteNotF (decide_eq_false (by omega)) (bad H (Same.refl H))
  refine iteNot (decide_eq_true (by omega)) ?_
  refine ⟨_, rfl, a, rfl, ⟨_, SqL.of ha⟩, for_enum (K := K) (a := a) (xs := xs) (fun i σ H2 => ∃ v u, σ = [some (.ref a), v, u] ∧ Same H H2 ∧ ∀ (j : Nat) x, j < i → xs[j]? = some x → ¬ BadX K H xs.length j x) ⟨none, none, rfl, Same.refl H, fun j x hj => absurd hj (Nat.not_lt_zero _)⟩ (fun i σ H2 _ ⟨_, _, _, s2, _⟩ => SqL.of (s2 _ _ ha)) ?_ ?_⟩
  ·rintro i x σ H2 p hi ⟨v, u, rfl, s2, hok⟩ hp
   have s3 : Same H (upd H2 p (.tup [.int (i : Nat), x])) := TX.Same.upd s2 (s2.free hp)
   refine ⟨p, _, rfl, SqT.of upd_same, rfl, _, _, rfl, _, _, rfl, rfl, ?_⟩
   refine ⟨_, rfl, _, rfl, _, rfl, a, _, rfl, .inl (SqL.of (s3 _ _ ha)), (i : Nat), xs.length, x, rfl, ?_⟩
   rcases hall x (List.mem_of_getElem? hi) with hn | ⟨ys, b, rfl, hb, hsc, hl⟩
   ·exact .inr ⟨hn.same s3, fun H4 s4 => bad H4 (s3.trans s4)⟩
   ·refine .inl ⟨b, ys, rfl, s3 _ _ hb, hsc, hl, fun o H4 s4 => ?_, fun _ H4 s4 => bad H4 (s3.trans s4)⟩
    refine ⟨_, _, rfl, s3.trans s4, fun j x hj hx => ?_⟩
    by_cases e : j = i
    ·subst e
     rw [hi] at hx; cases hx
     rintro (z | ⟨zs, z, no⟩)
     ·exact z.nol ⟨b, rfl, hb, hsc, hl⟩
     ·have := z.uniq ⟨b, rfl, hb, hsc, hl⟩
      subst this
      exact no o
    ·exact hok j x (by omega) hx
  ·rintro σ H2 ⟨v, u, rfl, s2, hok⟩
   rcases hbad with h | h | ⟨i, x, hx, h⟩
   ·exact absurd h h0
   ·exact absurd h h6
   ·exact absurd h (hok i x (List.getElem?_eq_some_iff.mp hx).1 hx)
def xpInit (K : PySem.W.Frag) (C X : Addr) : Sp := fun vs H _ E => ∃ (p dx : Addr) (v : V), vs = [.ref p, v] ∧ H p = some (.ins C dx []) ∧ BadC K H v ∧ ∀ H', Same H H' → E (.ref X) none H'
theorem xk_init (T : Txt K mg t) : FnOk P w K mg base (TX.CX1 P w t.X_BadCamp) 4 t.Camp___init__ t.fd_Camp___init__ ["self", "lists"] (xpInit K t.C t.X_BadCamp) := by
 have S := sc_Camp___init__
 have X_check_lists := xk_lists (P := P) (w := w) (base := base) T
 refine fun_ok1 T.Camp___init__.fn S (fun vs H Q E h => ?_) (fun cdv A outer s H vs Q E hr h => ?_)
 ·obtain ⟨p, dx, v, rfl, _⟩ := h; rfl
 ·obtain ⟨p, dx, v, rfl, hp, hB, bad⟩ := h
  refine ⟨_, (pss_cons (ps_expr (pe_call (k := 3) X_check_lists hr (by rfl) T.check_lists.mg T.check_lists.fn.kp T.check_lists.b .nil TX.passes1 (pa_cons (pv 1) pa_nil)))
   (pss_cons (ps_fld (pv 0) (pe_callB call_len_seq (by rfl) T.b_len TK.boot_len (pa_cons (pv 1) pa_nil)) rfl)
   (pss_one (ps_fld (pv 0) (TX.pe_comp (te := tCB (TX.rListOf K) (tCons (tVar 0) tNil)) ["wishes"] [none] rfl (pi_list (pv 1)) (fun _ _ _ _ _ => (pg_name (i := 0) (show (["wishes"] : List Str).Nodup by decide +kernel) rfl (by first | exact Or.inl rfl | exact Or.inr rfl))) (fun _ _ _ _ _ => TX.pts_nil) (fun _ _ _ _ _ => (pe_callTy TX.call_listOf (by rfl) T.b_list TK.boot_list (pa_cons (pv 0) pa_nil))) rfl (by decide +kernel) (by decide +kernel) (No := ["self", "lists"]) (sc := defScope s_Camp___init__) rfl rfl (by decide +kernel) rfl (by decide +kernel)) rfl)))), ?_⟩
  exact ⟨_, rfl, v, rfl, hB, bad⟩
end
end Tp
namespace Tp
open PySem PySem.Spec PyProof.Rows L2 TX TM TK
section
variable {P : Program} {w : World} {K : PySem.W.Frag} {mg : Str → Option Value} {base : Heap} {t : Adr}
def PrK (K : PySem.W.Frag) (H : Hp) (x : V) : Prop := NotT K H x ∨ ∃ q ys, x = .ref q ∧ H q = some (.tup ys) ∧ ∀ y ∈ ys, Sc y
theorem PrK.same {H H' : Hp} {x : V} (h : PrK K H x) (e : Same H H') : PrK K H' x := h.elim (fun z => .inl (z.same e)) fun ⟨q, ys, a, b, c⟩ => .inr ⟨q, ys, a, e _ _ b, c⟩
def xp7Pair (K : PySem.W.Frag) (C X : Addr) : Sp := fun vs H Q E => ∃ (p : Addr) (ls : Ls) (x : V), vs = [.ref p, x] ∧ CampAt C H p ls ∧ PrK K H x ∧
 (∀ q a b, x = .ref q → H q = some (.tup [.int a, .int b]) → 0 ≤ a → a < ls.length → 0 ≤ b → b < ls.length → would ls a b = true → Q .non H) ∧ E (.ref X) none H
theorem x7_pair (T : Txt K mg t) : FnOk P w K mg base (TX.CX1 P w t.X_BadPairs) 2 t.check_pair t.fd_check_pair ["camp", "pair"] (xp7Pair K t.C t.X_BadPairs) := by
 have S := sc_check_pair
 have G_is_camper := ok_camperV (P := P) (w := w) (base := base) T
 have G_would_share := ok_would_share (P := P) (w := w) (base := base) T
 refine fun_ok1 T.check_pair.fn S (fun vs H Q E h => ?_) (fun cdv A outer s H vs Q E hr h => ?_)
 ·obtain ⟨p, ls, x, rfl, _⟩ := h; rfl
 ·obtain ⟨p, ls, x, rfl, hC, hx, fin, bad⟩ := h
  obtain ⟨dx, la, hp, hL⟩ := id hC
  refine ⟨_, (pss_cons (ps_if (pw_or (pt_not (pt_val (pe_callB TX.call_isinst (by rfl) T.b_isinstance TK.boot_isinstance (pa_cons (pv 1) (pa_cons (pe_bltn (v := .ty "tuple") (by rfl) T.b_tuple TK.boot_tuple (by rfl)) pa_nil))))) (pw_or1 (pt_cmpR op_ne (pe_callB call_len_seq (by rfl) T.b_len TK.boot_len (pa_cons (pv 1) pa_nil)) pe_int (nomark _)))).pt (pss_one (TX.ps_raise (C := t.X_BadPairs) PySem.F.excBase_ValueError (by decide) PySem.F.excBase_ValueError T.x_BadPairs rfl T.mg_BadPairs pe_str hr.hd)) pss_nil)
   (pss_cons (ps_for PassesOwn.leaving rfl (pi_tup (pv 1)) (pg_name (i := 2) S.nd rfl (by first | exact Or.inl rfl | exact Or.inr rfl)) (pss_one (ps_if (pt_not (pt_val (pe_call (k := 1) G_is_camper hr (by rfl) T.is_camper.mg T.is_camper.fn.kp T.is_camper.b .nil pass0 (pa_cons (pv 2) (pa_cons (pe_fld (pv 0) rfl) pa_nil))))) (pss_one (TX.ps_raise (C := t.X_BadPairs) PySem.F.excBase_ValueError (by decide) PySem.F.excBase_ValueError T.x_BadPairs rfl T.mg_BadPairs pe_str hr.hd)) pss_nil)))
   (pss_one (ps_if (pt_not (pt_val (pe_meth (k := 1) (pv 0) T.cl T.Camp_would_share.me G_would_share hr T.Camp_would_share.b .nil pass0 (pa_cons (pe_ix ix_tup (pv 1) pe_int (fun _ _ => rfl)) (pa_cons (pe_ix ix_tup (pv 1) pe_int (fun _ _ => rfl)) pa_nil))))) (pss_one (TX.ps_raise (C := t.X_BadPairs) PySem.F.excBase_ValueError (by decide) PySem.F.excBase_ValueError T.x_BadPairs rfl T.mg_BadPairs pe_str hr.hd)) pss_nil)))), ?_⟩
  rcases hx with ⟨ty, hty, hk⟩ | ⟨q, ys, rfl, hq, hsc⟩
  ·exact ⟨_, rfl, _, _, _, _, _, rfl, ty_only, hty, hk, _, rfl, iteT (iteT bad)⟩
  refine ⟨_, rfl, _, _, _, _, _, rfl, ty_only, .tup hq, kit_tuple_tuple, _, rfl, iteF ?_⟩
  refine ⟨_, rfl, q, _, rfl, .inr (SqT.of hq), rfl, _, rfl, ?_⟩
  by_cases h2 : ys.length = 2
  case neg => exact iteTrue (by simp; omega) bad
  refine iteFalse (by simp; omega) ?_
  obtain ⟨y0, y1, rfl⟩ : ∃ y0 y1, ys = [y0, y1] := by
   match ys, h2 with
   | [y0, y1], _ => exact ⟨y0, y1, rfl⟩
  refine ⟨_, rfl, q, rfl, ⟨_, SqT.of hq⟩, for_tup (K := K) (a := q) (xs := [y0, y1]) (fun i σ H2 => ∃ v, σ = [some (.ref p), some (.ref q), v] ∧ H2 = H ∧ ∀ (j : Nat) y, j < i → [y0, y1][j]? = some y → isCmp y ls.length = true) ⟨none, rfl, rfl, fun j y hj => absurd hj (Nat.not_lt_zero _)⟩ (fun i σ H2 _ ⟨_, _, e, _⟩ => by subst e; exact SqT.of hq) ?_ ?_⟩
  ·rintro i x σ H2 hi ⟨v, rfl, rfl, hok⟩
   refine ⟨_, rfl, _, rfl, p, t.C, dx, _, _, rfl, hp, T.cl, T.n_size, flds_size _ _, x, _, rfl, hsc x (List.mem_of_getElem? hi), _, rfl, ?_⟩
   cases hc : isCmp x ls.length with
   | false => exact iteT bad
   | true =>
    refine iteF ⟨_, rfl, rfl, fun j y hj hy => ?_⟩
    by_cases e : j = i
    ·subst e; rw [hi] at hy; cases hy; exact hc
    ·exact hok j y (by omega) hy
  ·rintro σ H2 ⟨v, rfl, rfl, hok⟩
   have c0 := hok 0 y0 (by simp) rfl
   have c1 := hok 1 y1 (by simp) rfl
   obtain ⟨a, rfl⟩ := cmp_int c0
   obtain ⟨b, rfl⟩ := cmp_int c1
   have a0 : 0 ≤ a ∧ a < ls.length := by
    have z : (decide (0 ≤ a) && decide (a < (ls.length : Int))) = true := c0
    simpa using z
   have b0 : 0 ≤ b ∧ b < ls.length := by
    have z : (decide (0 ≤ b) && decide (b < (ls.length : Int))) = true := c1
    simpa using z
   refine ⟨_, rfl, p, dx, _, rfl, hp, flds_no _ _ (by decide +kernel) (by decide +kernel), _, rfl, q, _, 0, _, rfl, rfl, SqT.of hq, rfl, _, rfl, q, _, 1, _, rfl, rfl, SqT.of hq, rfl, p, ls, a, b, rfl, hC, a0, b0, _, rfl, ?_⟩
   cases hw : would ls a b with
   | true => exact iteF (fin q a b rfl hq a0.1 a0.2 b0.1 b0.2 hw)
   | false => exact iteT bad
def BadP (K : PySem.W.Frag) (H : Hp) (ls : Ls) (v : V) : Prop := NotL K H v ∨ ∃ a xs, v = .ref a ∧ H a = some (.lst xs) ∧ xs.length ≤ 100 ∧ (∀ x ∈ xs, PrK K H x) ∧ ∀ ps : Prs, Paired (RP H) xs ps → ¬ Pairs ls ps
def xp7Partners (K : PySem.W.Frag) (C X : Addr) : Sp := fun vs H _ E => ∃ (p : Addr) (ls : Ls) (v : V), vs = [.ref p, v] ∧ CampAt C H p ls ∧ Valid ls ∧ BadP K H ls v ∧ ∀ H', Same H H' → E (.ref X) none H'
theorem x7_partners (T : Txt K mg t) : FnOk P w K mg base (TX.CX1 P w t.X_BadPairs) 3 t.partners t.fd_partners ["camp", "pairs"] (xp7Partners K t.C t.X_BadPairs) := by
 have S := sc_partners
 have X_check_pair := x7_pair (P := P) (w := w) (base := base) T
 refine fun_ok1 T.partners.fn S (fun vs H Q E h => ?_) (fun cdv A outer s H vs Q E hr h => ?_)
 ·obtain ⟨p, ls, v, rfl, _⟩ := h; rfl
 ·obtain ⟨p, ls, v, rfl, hC, hV, hB, bad⟩ := h
  have hu := hu_of hr
  refine ⟨_, (pss_cons (ps_if (pt_not (pt_val (pe_callB TX.call_isinst (by rfl) T.b_isinstance TK.boot_isinstance (pa_cons (pv 1) (pa_cons (pe_bltn (v := .ty "list") (by rfl) T.b_list TK.boot_list (by rfl)) pa_nil))))) (pss_one (TX.ps_raise (C := t.X_BadPairs) PySem.F.excBase_ValueError (by decide) PySem.F.excBase_ValueError T.x_BadPairs rfl T.mg_BadPairs pe_str hr.hd)) pss_nil)
   (pss_cons (ps_set (i := 2) S.nd rfl (by first | exact Or.inl rfl | exact Or.inr rfl) pe_dnewK)
   (pss_cons (ps_for PassesOwn.leaving rfl (pi_list (pv 1)) (pg_name (i := 3) S.nd rfl (by first | exact Or.inl rfl | exact Or.inr rfl)) (pss_cons (ps_expr (pe_call (k := 2) X_check_pair hr (by rfl) T.check_pair.mg T.check_pair.fn.kp T.check_pair.b .nil TX.passes1 (pa_cons (pv 0) (pa_cons (pv 3) pa_nil))))
   (pss_cons (ps_if (pw_or (pt_cmp (pc_din hu (pe_ix ix_tup (pv 3) pe_int (fun _ _ => rfl)) (pv 2))) (pw_or1 (pt_cmp (pc_din hu (pe_ix ix_tup (pv 3) pe_int (fun _ _ => rfl)) (pv 2))))).pt (pss_one (TX.ps_raise (C := t.X_BadPairs) PySem.F.excBase_ValueError (by decide) PySem.F.excBase_ValueError T.x_BadPairs rfl T.mg_BadPairs pe_str hr.hd)) pss_nil)
   (pss_cons (ps_dput hu (pv 2) (pe_ix ix_tup (pv 3) pe_int (fun _ _ => rfl)) (pe_ix ix_tup (pv 3) pe_int (fun _ _ => rfl)) rfl)
   (pss_one (ps_dput hu (pv 2) (pe_ix ix_tup (pv 3) pe_int (fun _ _ => rfl)) (pe_ix ix_tup (pv 3) pe_int (fun _ _ => rfl)) rfl))))))
   (pss_one (ps_ret (pv 2)))))), ?_⟩
  rcases hB with ⟨ty, hty, hk⟩ | ⟨a, xs, rfl, ha, hlen, hall, hno⟩
  ·exact ⟨_, rfl, _, _, _, _, _, rfl, ty_only, hty, hk, _, rfl, iteT (bad H (Same.refl H))⟩
  refine ⟨_, rfl, _, _, _, _, _, rfl, ty_only, .lst ha, kit_list_list, _, rfl, iteF ?_⟩
  intro d hd
  have s1 : Same H (upd H d (.dK [])) := TX.Same.upd (Same.refl H) hd
  refine ⟨_, rfl, a, rfl, ⟨_, SqL.of (s1 _ _ ha)⟩, for_list (K := K) (a := a) (xs := xs) (fun i σ H2 => ∃ (kvs : List (Key × V)) (ps : Prs) (v : Option V), σ = [some (.ref p), some (.ref a), some (.ref d), v] ∧ Same H H2 ∧
   H2 d = some (.dK kvs) ∧ kvs.length ≤ 2 * i ∧ Paired (RP H) (xs.take i) ps ∧ Pairs ls ps ∧ ∀ x : Int, valV kvs (Sum.inl x) = (mate ps x).map V.int)
   ⟨_, [], none, rfl, s1, upd_same, Nat.zero_le _, by rw [List.take_zero]; exact .nil, Pairs.nil ls, fun x => rfl⟩ (fun i σ H2 _ ⟨_, _, _, _, s2, _⟩ => SqL.of (s2 _ _ ha)) ?_ ?_⟩
  ·rintro i y σ H2 hi ⟨kvs, ps, v, rfl, s2, hd2, hl, hr2, hpr, hk⟩
   have hil : i < xs.length := (List.getElem?_eq_some_iff.mp hi).1
   have hy := hall y (List.mem_of_getElem? hi)
   refine ⟨_, rfl, _, rfl, p, ls, y, rfl, hC.same s2, hy.same s2, fun b za zb e hb2 e1 e2 e3 e4 hw => ?_, bad H2 s2⟩
   subst e
   have hb : H b = some (.tup [.int za, .int zb]) := by
    rcases hy with ⟨ty, hty, hkk⟩ | ⟨q, ys, e, hq, _⟩
    ·exfalso
     have z := (show TyOf K H2 (.ref b) ty from TyOf.same hty s2)
     cases z with
     | tup q => rw [kit_tuple_tuple] at hkk; cases hkk
     | lst q => rw [hb2] at q; cases q
     | frz q => rw [hb2] at q; cases q
     | dK q => rw [hb2] at q; cases q
     | dT q => rw [hb2] at q; cases q
     | ins q => rw [hb2] at q; cases q
    ·cases e
     have z := s2 _ _ hq
     rw [hb2] at z; cases z; exact hq
   refine ⟨_, rfl, b, _, 0, _, rfl, rfl, SqT.of hb2, rfl, _, rfl, d, _, rfl, DGet.k (k := Sum.inl za) hd2, _, rfl, ?_⟩
   rw [hk]
   cases m1 : mate ps za with
   | some j => exact iteT (bad H2 s2)
   | none =>
   refine iteFalse rfl ?_
   refine ⟨_, rfl, b, _, 1, _, rfl, rfl, SqT.of hb2, rfl, _, rfl, d, _, rfl, DGet.k (k := Sum.inl zb) hd2, _, rfl, ?_⟩
   rw [hk]
   cases m2 : mate ps zb with
   | some j => exact iteT (bad H2 s2)
   | none =>
   refine iteFalse rfl ?_
   refine ⟨_, rfl, b, _, 1, _, rfl, rfl, SqT.of hb2, rfl, _, rfl, _, rfl, b, _, 0, _, rfl, rfl, SqT.of hb2, rfl, d, _, rfl, DPut.k (k := Sum.inl za) hd2 (small1000 (by omega)), ?_⟩
   have nbd : b ≠ d := ne_of hb2 hd2 (by intro z; cases z)
   have hb3 : ∀ o, upd H2 d o b = some (.tup [.int za, .int zb]) := fun o => upd_oth hb2 nbd
   have l1 := length_putK kvs (Sum.inl za : Key) (V.int zb)
   refine ⟨_, rfl, b, _, 0, _, rfl, rfl, SqT.of (hb3 _), rfl, _, rfl, _, rfl, b, _, 1, _, rfl, rfl, SqT.of (hb3 _), rfl, d, _, rfl, DPut.k (k := Sum.inl zb) upd_same (small1000 (by omega)), ?_⟩
   have l2 := length_putK (putK kvs (Sum.inl za : Key) (V.int zb)) (Sum.inl zb : Key) (V.int za)
   have nab : za ≠ zb := fun e => by
    subst e
    rw [TN.self_not hV ⟨e1, e2⟩] at hw; cases hw
   refine ⟨_, ps ++ [(za, zb)], _, rfl, TX.Same.upd (TX.Same.upd s2 hd) hd, upd_same, by omega, ?_, Pairs.snoc hpr ⟨e1, e2, e3, e4, nab, hw⟩ m1 m2, fun x => ?_⟩
   ·rw [List.take_add_one, hi]
    exact Paired.app hr2 (.cons ⟨b, rfl, hb⟩ .nil)
   ·rw [valV_put, valV_put, mate_snoc]
    by_cases h1 : x = zb
    ·rw [if_pos (by rw [h1]), if_pos h1]; rfl
    ·rw [if_neg (fun z => h1 (by injection z)), if_neg h1]
     by_cases h2 : x = za
     ·rw [if_pos (by rw [h2]), if_pos h2]; rfl
     ·rw [if_neg (fun z => h2 (by injection z)), if_neg h2]; exact hk x
  ·rintro σ H2 ⟨kvs, ps, v, rfl, s2, hd2, hl, hr2, hpr, hk⟩
   rw [List.take_length] at hr2
   exact absurd hpr (hno ps hr2)
theorem x7_breaking (T : Txt K mg t) : FnOk P w K mg base (TX.CX1 P w t.X_BadPairs) 4 t.breaking t.fd_breaking ["camp", "pairs"] (xp7Partners K t.C t.X_BadPairs) := by
 have S := sc_breaking
 have X_partners := x7_partners (P := P) (w := w) (base := base) T
 have G_breakers := ok_breakers (P := P) (w := w) (base := base) T
 refine fun_ok1 T.breaking.fn S (fun vs H Q E h => ?_) (fun cdv A outer s H vs Q E hr h => ?_)
 ·obtain ⟨p, ls, v, rfl, _⟩ := h; rfl
 ·obtain ⟨p, ls, v, rfl, hC, hV, hB, bad⟩ := h
  refine ⟨_, (pss_one (ps_ret (pe_call (k := 3) G_breakers hr (by rfl) T.breakers.mg T.breakers.fn.kp T.breakers.b .nil pass0 (pa_cons (pv 0) (pa_cons (pe_call (k := 3) X_partners hr (by rfl) T.partners.mg T.partners.fn.kp T.partners.b .nil TX.passes1 (pa_cons (pv 0) (pa_cons (pv 1) pa_nil))) pa_nil))))), ?_⟩
  exact ⟨_, rfl, _, rfl, _, rfl, p, ls, v, rfl, hC, hV, hB, bad⟩
end
section
variable {P : Program} {w : World} {K : PySem.W.Frag} {mg : Str → Option Value} {base : Heap} {t : Adr}
theorem pss_never {X : Cx} {b : List Stmt} : PSs X b (fun _ _ _ => False) := fun _ _ _ _ _ _ h => h.elim
theorem sFldX_of {C : Addr} {ta tv : TE} {f : Str} {D : Ends} {σ : L2.St} {H : Hp} (h : tv σ H fun y H1 => ta σ H1 fun x H2 => ∃ e, x = .ref e ∧ H2 e = some (TX.excN C e) ∧ ∀ dx, H2 dx = none → dx ≠ e → D.nx σ (upd (upd H2 e (TX.excD C e dx)) dx (.xd [(f, y)]))) : TX.sFldX C ta tv f D σ H := h
def spNS (C : Addr) : Sp := fun vs H Q _ => ∃ (e r : Addr) (R : Ls), vs = [.ref e, .ref r] ∧ H e = some (TX.excN C e) ∧ LL H r R ∧ R.length ≤ 100 ∧ ∀ H' dx, (∀ b o, H b = some o → b ≠ e → H' b = some o) → H' e = some (TX.excD C e dx) → Q .non H'
theorem ok_ns (T : Txt K mg t) : FnOk P w K mg base CX0 1 t.NoneSteady___init__ t.fd_NoneSteady___init__ ["self", "rings"] (spNS t.X_NoneSteady) := by
 have S := sc_NoneSteady___init__
 refine T.NoneSteady___init__.fn.ok S (fun vs H Q E h => ?_) (fun cdv A outer s H vs Q E hr h => ?_)
 ·obtain ⟨e, r, R, rfl, _⟩ := h; rfl
 ·obtain ⟨e, r, R, rfl, he, hL, hz, fin⟩ := h
  refine ⟨_, (pss_cons (ps_expr (TX.pe_supI T.ii_NoneSteady (by rfl) T.mg_CampError T.sp_CampError T.rd_CampError T.fc_CampError (pa_cons (pv 0) (pa_cons pe_str pa_nil))))
   (pss_one (TX.ps_fldX T.ii_NoneSteady T.sa_NoneSteady T.nx_rings rfl (pv 0) (TX.pe_comp (te := tCB (TX.rListOf K) (tCons (tVar 0) tNil)) ["ring"] [none] rfl (pi_list (pv 1)) (fun _ _ _ _ _ => (pg_name (i := 0) (show (["ring"] : List Str).Nodup by decide +kernel) rfl (by first | exact Or.inl rfl | exact Or.inr rfl))) (fun _ _ _ _ _ => TX.pts_nil) (fun _ _ _ _ _ => (pe_callTy TX.call_listOf (by rfl) T.b_list TK.boot_list (pa_cons (pv 0) pa_nil))) rfl (by decide +kernel) (by decide +kernel) (No := ["self", "rings"]) (sc := defScope s_NoneSteady___init__) rfl rfl (by decide +kernel) rfl (by decide +kernel)) rfl))), ?_⟩
  obtain ⟨xs, hr1, rr⟩ := id hL
  refine ⟨_, rfl, e, _, rfl, (by show 1 ≤ 100; decide), he, ?_⟩
  dsimp only
  refine sFldX_of ?_
  refine copies (K := K) (tl := tVar 1) hr1 rr hz (fun R z => by exact ⟨_, rfl, z⟩) fun wa H2 N => ?_
  have he2 : H2 e = some (TX.excN t.X_NoneSteady e) := N.2.1 _ _ he
  refine ⟨_, rfl, e, rfl, he2, fun dx hdx hne => ?_⟩
  refine fin _ dx (fun b o hb nb => ?_) ?_
  ·rw [upd_ne (ne_of_none (N.2.1 _ _ hb) hdx), upd_ne nb]
   exact N.2.1 _ _ hb
  ·rw [upd_ne (Ne.symm hne), upd_same]
def xpSteady (C X : Addr) : Sp := fun vs H _ E => ∃ (p : Addr) (ls : Ls), vs = [.ref p] ∧ CampAt C H p ls ∧ Valid ls ∧ TN.steadyWays ls = [] ∧ ∀ H', Same H H' → E (.ref X) none H'
theorem x7_steady (T : Txt K mg t) : FnOk P w K mg base (TX.CX1 P w t.X_NoneSteady) 20 t.steady_or_refused t.fd_steady_or_refused ["camp"] (xpSteady t.C t.X_NoneSteady) := by
 have S := sc_steady_or_refused
 have G_all_steady := ok_all_steady (P := P) (w := w) (base := base) T
 have G_rings_of := ok_rings_of (P := P) (w := w) (base := base) T
 have G_ns := ok_ns (P := P) (w := w) (base := base) T
 refine fun_ok1 T.steady_or_refused.fn S (fun vs H Q E h => ?_) (fun cdv A outer s H vs Q E hr h => ?_)
 ·obtain ⟨p, ls, rfl, _⟩ := h; rfl
 ·obtain ⟨p, ls, rfl, hC, hV, hn, bad⟩ := h
  refine ⟨_, (pss_cons (ps_set (i := 1) S.nd rfl (by first | exact Or.inl rfl | exact Or.inr rfl) (pe_call (k := 19) (G_all_steady.mono (by decide)) hr (by rfl) T.all_steady.mg T.all_steady.fn.kp T.all_steady.b .nil pass0 (pa_cons (pv 0) pa_nil)))
   (pss_cons (ps_if (pt_not (pt_truth (pv 1) (fun _ => rfl))) (pss_one (TX.ps_raiseI (k := 18) T.ii_NoneSteady T.fn_NoneSteady (G_ns.mono (by decide)) hr T.NoneSteady___init__.b rfl T.mg_NoneSteady (pe_call (k := 19) G_rings_of hr (by rfl) T.rings_of.mg T.rings_of.fn.kp T.rings_of.b .nil pass0 (pa_cons (pv 0) pa_nil)))) pss_nil)
   (pss_one (ps_ret (pv 1))))), ?_⟩
  refine ⟨_, rfl, p, ls, rfl, hC, hV, fun f pss H1 hf s1 hpm _ hW => ?_⟩
  obtain ⟨xs, hf1, r⟩ := id hW
  rw [hn] at hpm
  obtain rfl := List.Perm.eq_nil hpm
  cases r
  refine ⟨_, rfl, _, .inl ⟨_, SqL.of hf1, rfl⟩, iteT ?_⟩
  have hno := (TN.steadyWays_none hV).mp hn
  refine ⟨_, rfl, p, ls, rfl, hC.same s1, hV, hno, fun q R H2 s2 hL hwf hfl htl => ?_⟩
  intro e he
  have hrl := flat_len fun r h => (hwf r h).1
  have s3 : Same H2 (upd H2 e (TX.excN t.X_NoneSteady e)) := TX.Same.upd (Same.refl _) he
  refine ⟨e, q, R, rfl, upd_same, Of.same mI hL s3, by omega, fun H' dx hk hx => ⟨rfl, dx, hx, ?_⟩⟩
  refine bad _ fun b o hb => ?_
  have hb2 := (s1.trans s2) _ _ hb
  have nb : b ≠ e := ne_of_none hb2 he
  rw [TX.hide_ne nb]
  exact hk b o (s3 _ _ hb2) nb
def xpMates (C X : Addr) : Sp := fun vs H _ E => ∃ (p : Addr) (ls : Ls) (v : V), vs = [.ref p, v] ∧ CampAt C H p ls ∧ Sc v ∧ isCmp v ls.length = false ∧ E (.ref X) none H
theorem x7_mates (T : Txt K mg t) : FnOk P w K mg base (TX.CX1 P w t.X_NoCamper) 21 t.mates t.fd_mates ["camp", "camper"] (xpMates t.C t.X_NoCamper) := by
 have S := sc_mates
 have G_is_camper := ok_camperV (P := P) (w := w) (base := base) T
 refine fun_ok1 T.mates.fn S (fun vs H Q E h => ?_) (fun cdv A outer s H vs Q E hr h => ?_)
 ·obtain ⟨p, ls, v, rfl, _⟩ := h; rfl
 ·obtain ⟨p, ls, v, rfl, hC, hs, hn, bad⟩ := h
  obtain ⟨dx, la, hp, hL⟩ := id hC
  refine ⟨_, (pss_cons (ps_if (pt_not (pt_val (pe_call (k := 20) (G_is_camper.mono (by decide)) hr (by rfl) T.is_camper.mg T.is_camper.fn.kp T.is_camper.b .nil pass0 (pa_cons (pv 1) (pa_cons (pe_fld (pv 0) rfl) pa_nil))))) (pss_one (TX.ps_raise (C := t.X_NoCamper) PySem.F.excBase_ValueError (by decide) PySem.F.excBase_ValueError T.x_NoCamper rfl T.mg_NoCamper pe_str hr.hd)) pss_nil)
   pss_never), ?_⟩
  exact ⟨_, rfl, _, rfl, p, t.C, dx, _, _, rfl, hp, T.cl, T.n_size, flds_size _ _, v, _, rfl, hs, _, rfl, iteNotF hn bad⟩
def xpMatesN (C X : Addr) : Sp := fun vs H _ E => ∃ (p : Addr) (ls : Ls) (i : Int), vs = [.ref p, .int i] ∧ CampAt C H p ls ∧ Valid ls ∧ 0 ≤ i ∧ i < ls.length ∧ TN.steadyWays ls = [] ∧ ∀ H', Same H H' → E (.ref X) none H'
theorem x7_matesN (T : Txt K mg t) : FnOk P w K mg base (TX.CX1 P w t.X_NoneSteady) 21 t.mates t.fd_mates ["camp", "camper"] (xpMatesN t.C t.X_NoneSteady) := by
 have S := sc_mates
 have G_is_camper := ok_is_camper (P := P) (w := w) (base := base) T
 have X_steady := x7_steady (P := P) (w := w) (base := base) T
 refine fun_ok1 T.mates.fn S (fun vs H Q E h => ?_) (fun cdv A outer s H vs Q E hr h => ?_)
 ·obtain ⟨p, ls, i, rfl, _⟩ := h; rfl
 ·obtain ⟨p, ls, i, rfl, hC, hV, i0, i1, hn, bad⟩ := h
  obtain ⟨dx, la, hp, hL⟩ := id hC
  have hu := hu_of hr
  refine ⟨_, (pss_cons (ps_if (pt_not (pt_val (pe_call (k := 20) (G_is_camper.mono (by decide)) hr (by rfl) T.is_camper.mg T.is_camper.fn.kp T.is_camper.b .nil pass0 (pa_cons (pv 1) (pa_cons (pe_fld (pv 0) rfl) pa_nil))))) (pss_one ps_never) pss_nil)
   (pss_cons (ps_set (i := 2) S.nd rfl (by first | exact Or.inl rfl | exact Or.inr rfl) pe_dnewK)
   (pss_cons (ps_for PassesOwn.leaving rfl (pi_list (pe_call (k := 20) X_steady hr (by rfl) T.steady_or_refused.mg T.steady_or_refused.fn.kp T.steady_or_refused.b .nil TX.passes1 (pa_cons (pv 0) pa_nil))) (pg_name (i := 3) S.nd rfl (by first | exact Or.inl rfl | exact Or.inr rfl)) pss_never)
   pss_never))), ?_⟩
  refine ⟨_, rfl, _, rfl, p, t.C, dx, _, _, rfl, hp, T.cl, T.n_size, flds_size _ _, i, _, rfl, _, rfl, iteNot (by rw [Bool.and_eq_true]; exact ⟨decide_eq_true i0, decide_eq_true i1⟩) ?_⟩
  intro d hd
  have s1 : Same H (upd H d (.dK [])) := TX.Same.upd (Same.refl H) hd
  exact ⟨_, rfl, p, ls, rfl, hC.same s1, hV, hn, fun H' s2 => bad H' (s1.trans s2)⟩
end
end Tp
namespace Tp
open PySem PySem.Spec PyProof.Rows L2 TX TM TK
section
variable {P : Program} {w : World} {K : PySem.W.Frag} {mg : Str → Option Value} {base : Heap} {t : Adr}
inductive Tr where
 | lf (v : V) | ls (xs : List Tr) | tp (xs : List Tr)
mutual
inductive Bt (H : Hp) : Tr → V → Prop where
 | lf {v : V} (h : Sc v) : Bt H (.lf v) v
 | ls {xs : List Tr} {a : Addr} {vs : List V} (h : H a = some (.lst vs)) (r : BtL H xs vs) : Bt H (.ls xs) (.ref a)
 | tp {xs : List Tr} {a : Addr} {vs : List V} (h : H a = some (.tup vs)) (r : BtL H xs vs) : Bt H (.tp xs) (.ref a)
inductive BtL (H : Hp) : List Tr → List V → Prop where
 | nil : BtL H [] []
 | cons {x : Tr} {v : V} {xs : List Tr} {vs : List V} (h : Bt H x v) (r : BtL H xs vs) : BtL H (x :: xs) (v :: vs)
end
mutual
theorem Bt.same {H H' : Hp} (e : Same H H') : ∀ {x : Tr} {v : V}, Bt H x v → Bt H' x v
 | _, _, .lf h => .lf h
 | _, _, .ls h r => .ls (e _ _ h) (BtL.same e r)
 | _, _, .tp h r => .tp (e _ _ h) (BtL.same e r)
theorem BtL.same {H H' : Hp} (e : Same H H') : ∀ {xs : List Tr} {vs : List V}, BtL H xs vs → BtL H' xs vs
 | _, _, .nil => .nil
 | _, _, .cons h r => .cons (Bt.same e h) (BtL.same e r)
end
theorem BtL.app {H : Hp} : ∀ {xs ys : List Tr} {vs us : List V}, BtL H xs vs → BtL H ys us → BtL H (xs ++ ys) (vs ++ us)
 | _, _, _, _, .nil, r => r
 | _, _, _, _, .cons h q, r => .cons h (q.app r)
theorem BtL.length {H : Hp} : ∀ {xs : List Tr} {vs : List V}, BtL H xs vs → vs.length = xs.length
 | _, _, .nil => rfl
 | _, _, .cons _ r => by rw [List.length_cons, List.length_cons, r.length]
theorem BtL.at {H : Hp} : ∀ {xs : List Tr} {vs : List V} {i : Nat} {v : V}, BtL H xs vs → vs[i]? = some v → ∃ x, xs[i]? = some x ∧ Bt H x v
 | _, _, _, _, .nil, e => by simp at e
 | _, _, 0, _, .cons h _, e => by cases e; exact ⟨_, rfl, h⟩
 | _, _, i + 1, _, .cons _ r, e => by
  obtain ⟨x, h1, h2⟩ := r.at (i := i) (by simpa using e)
  exact ⟨x, by simpa using h1, h2⟩
theorem BtL.ints {H : Hp} : ∀ {ns : List Int} {vs : List V}, BtL H (ns.map fun i => .lf (.int i)) vs → vs = ns.map V.int
 | [], _, h => by cases h; rfl
 | n :: ns, _, h => by
  cases h with
  | cons a r => cases a; rw [r.ints]; rfl
def trI (l : List Int) : Tr := .ls (l.map fun i => .lf (.int i))
def trLL (ls : Ls) : Tr := .ls (ls.map trI)
theorem ll_rows {H : Hp} : ∀ {ls : Ls} {vs : List V}, BtL H (ls.map trI) vs → Paired (RI H) vs ls
 | [], _, h => by cases h; exact .nil
 | l :: ls, _, h => by
  cases h with
  | cons a r => cases a with | ls h q => exact .cons ⟨_, rfl, by rw [← q.ints]; exact h⟩ (ll_rows r)
theorem ll_bt {H : Hp} {ls : Ls} {v : V} (h : Bt H (trLL ls) v) : ∃ a, v = .ref a ∧ LL H a ls := by
 cases h with
 | ls h r => exact ⟨_, rfl, _, h, ll_rows r⟩
def Rd (σ : L2.St) (te : TE) (x : Tr) : Prop := ∀ (H : Hp) (Q : VK), (∀ v H', Same H H' → Bt H' x v → Q v H') → te σ H Q
def RdA (σ : L2.St) (ta : TA) (xs : List Tr) : Prop := ∀ (H : Hp) (Q : List V → Hp → Prop), (∀ vs H', Same H H' → BtL H' xs vs → Q vs H') → ta σ H Q
theorem rd_c {σ : L2.St} {v : V} (h : Sc v) : Rd σ (tC v) (.lf v) := fun H _ q => q v H (Same.refl H) (.lf h)
theorem rd_lst {σ : L2.St} {ta : TA} {xs : List Tr} (h : RdA σ ta xs) (hz : xs.length ≤ 100) : Rd σ (tLst ta) (.ls xs) := fun H Q q =>
 h H _ fun vs H1 s1 r => ⟨by rw [r.length]; exact Nat.le_trans hz (by decide), fun p hp => q _ _ (TX.Same.upd s1 (s1.free hp)) (.ls upd_same (BtL.same (TX.Same.upd (Same.refl _) hp) r))⟩
theorem rd_tup {σ : L2.St} {ta : TA} {xs : List Tr} (h : RdA σ ta xs) (hz : xs.length ≤ 100) : Rd σ (tTup ta) (.tp xs) := fun H Q q =>
 h H _ fun vs H1 s1 r => ⟨by rw [r.length]; exact Nat.le_trans hz (by decide), fun p hp => q _ _ (TX.Same.upd s1 (s1.free hp)) (.tp upd_same (BtL.same (TX.Same.upd (Same.refl _) hp) r))⟩
theorem rda_nil {σ : L2.St} : RdA σ tNil [] := fun H _ q => q [] H (Same.refl H) .nil
theorem rda_cons {σ : L2.St} {te : TE} {ta : TA} {x : Tr} {xs : List Tr} (h : Rd σ te x) (r : RdA σ ta xs) : RdA σ (tCons te ta) (x :: xs) := fun H Q q =>
 h H _ fun v H1 s1 b => r H1 _ fun vs H2 s2 bs => q _ _ (s1.trans s2) (.cons (b.same s2) bs)
theorem rd_add {σ : L2.St} {i : Nat} {m a : Int} (h : σ[i]? = some (some (.int m))) : Rd σ (tOp (rI0 fun i j => .int (i + j)) (tC (.int a)) (tVar i)) (.lf (.int (a + m))) := fun H _ q => ⟨_, h, _, _, rfl, rfl, q _ H (Same.refl H) (.lf (.int _))⟩
theorem rd_sub {σ : L2.St} {i : Nat} {m a : Int} (h : σ[i]? = some (some (.int m))) : Rd σ (tOp (rI0 fun i j => .int (i - j)) (tUn (rU fun i => .int (-i)) (tC (.int a))) (tVar i)) (.lf (.int (-a - m))) := fun H _ q => ⟨a, rfl, _, h, _, _, rfl, rfl, q _ H (Same.refl H) (.lf (.int _))⟩
theorem BtL.rep {H : Hp} {x : Tr} {v : V} (h : Bt H x v) : ∀ n, BtL H (List.replicate n x) (List.replicate n v)
 | 0 => .nil
 | n + 1 => .cons h (BtL.rep h n)
theorem rd_rep7 {σ : L2.St} {te : TE} {x : Tr} (h : Rd σ te (.ls [x])) : Rd σ (tOp rRep te (tC (.int 7))) (.ls (List.replicate 7 x)) := fun H Q q =>
 h H _ fun v H1 s1 b => by
  cases b with
  | @ls _ a vs ha r =>
   cases r with
   | cons h1 r1 =>
    cases r1
    refine ⟨a, 7, _, rfl, rfl, ha, by decide, by decide, (by show 1 * 7 ≤ sizeLine; decide), fun p hp => ?_⟩
    exact q _ _ (TX.Same.upd s1 (s1.free hp)) (.ls upd_same (BtL.rep (h1.same (TX.Same.upd (Same.refl _) hp)) 7))
end
end Tp
namespace Tp
open PySem PySem.Spec PyProof.Rows L2 TX TM TK
theorem _root_.TK.boot_ValueError : bootBuiltins "ValueError" = some (.type "ValueError") := by decide +kernel
section
variable {P : Program} {w : World} {K : PySem.W.Frag} {mg : Str → Option Value} {base : Heap} {t : Adr}
theorem fun_okN {x qual : Str} {st : Stmt} {f : Addr} {fd : FuncData} {N ps : List Str} {k : Nat} {sp : Sp} (F : Fun K x qual st f fd) (S : FnScope N ps (defScope st)) (len : ∀ vs H Q E, sp vs H Q E → vs.length = ps.length)
  (hbody : ∀ (cdv : Value) (A : Around) (outer : List Env) (s : Shared) (H : Hp) (vs : List V) (Q : VK) (E : XK), TX.RoomN k (A.deeper (envOfC qual (defScope st) s.heap.objs.size f cdv)) → sp vs H Q E →
   ∃ t, PSs (TX.cxN P w K mg base N qual (defScope st) f cdv A outer s H E) (defBody st) t ∧ t { nx := fun _ H' => Q .non H', rt := Q } (start N vs) H) : TX.FnN P w K mg base (k + 1) f fd ps sp := by
 obtain ⟨oc, od, kV, doc, pm, an, cdv, ct, osl, rfl, lk, hcd⟩ := F.ex
 exact TX.fnN_of lk hcd S len fun A outer s H vs Q E hr hsp => hbody cdv A outer s H vs Q E hr hsp
inductive Knd (t : Adr) : Addr → Str → Prop where
 | camp : Knd t t.X_BadCamp "camp"
 | pairs : Knd t t.X_BadPairs "pairs"
 | camper : Knd t t.X_NoCamper "camper"
 | none : Knd t t.X_NoneSteady "none"
def spSort (t : Adr) : Sp := fun vs H Q _ => ∃ (e C : Addr) (k : Str), vs = [.ref e] ∧ H e = some (TX.excO C e) ∧ Knd t C k ∧ ∀ H', Same H H' → Q (.str k) H'
theorem sort_at {H : Hp} {p : Addr} {b1 b2 b3 b4 b5 : Bool} (h : H p = some (.lst ([.bl b1, .bl b2, .bl b3] ++ [.bl b4, .bl b5]))) : SqL K H p ([b1, b2, b3, b4, b5].map V.bl) := SqL.of h
theorem ok_sort (T : Txt K mg t) : TX.FnN P w K mg base 1 t.law_sort t.fd_law_sort ["_law_error"] (spSort t) := by
 have S := sc_law_sort
 have h_BadCamp := T.mg_BadCamp
 have h_BadPairs := T.mg_BadPairs
 have h_NoCamper := T.mg_NoCamper
 have h_NoneSteady := T.mg_NoneSteady
 have h_BadText := T.mg_BadText
 refine fun_okN T.law_sort.fn S (fun vs H Q E h => ?_) (fun cdv A outer s H vs Q E hr h => ?_)
 ·obtain ⟨e, C, k, rfl, _⟩ := h; rfl
 ·obtain ⟨e, C, k, rfl, he, hk, fin⟩ := h
  obtain ⟨b1, b2, b3, b4, b5, xc, k1, k2, k3, k4, k5, kv, hc, hat, hin⟩ : ∃ b1 b2 b3 b4 b5 : Bool, TX.XC K C ∧ PySem.W.kitOne K (.ref C) (.ref t.X_BadCamp) = some b1 ∧ PySem.W.kitOne K (.ref C) (.ref t.X_BadPairs) = some b2 ∧ PySem.W.kitOne K (.ref C) (.ref t.X_NoCamper) = some b3 ∧
    PySem.W.kitOne K (.ref C) (.ref t.X_NoneSteady) = some b4 ∧ PySem.W.kitOne K (.ref C) (.ref t.X_BadText) = some b5 ∧ PySem.W.kitOne K (.ref C) (.type "ValueError") = some true ∧ [b1, b2, b3, b4, b5].count true = 1 ∧
    atI [V.str "camp", V.str "pairs", V.str "camper", V.str "none", V.str "wrong"] (([b1, b2, b3, b4, b5].idxOf true : Nat) : Int) = some (.str k) ∧ true ∈ [b1, b2, b3, b4, b5] := by
   cases hk with
   | camp => exact ⟨true, false, false, false, false, T.xc_BadCamp, T.kx_BadCamp_BadCamp, T.kx_BadCamp_BadPairs, T.kx_BadCamp_NoCamper, T.kx_BadCamp_NoneSteady, T.kx_BadCamp_BadText, T.kv_BadCamp, by decide, by decide, by decide⟩
   | pairs => exact ⟨false, true, false, false, false, T.xc_BadPairs, T.kx_BadPairs_BadCamp, T.kx_BadPairs_BadPairs, T.kx_BadPairs_NoCamper, T.kx_BadPairs_NoneSteady, T.kx_BadPairs_BadText, T.kv_BadPairs, by decide, by decide, by decide⟩
   | camper => exact ⟨false, false, true, false, false, T.xc_NoCamper, T.kx_NoCamper_BadCamp, T.kx_NoCamper_BadPairs, T.kx_NoCamper_NoCamper, T.kx_NoCamper_NoneSteady, T.kx_NoCamper_BadText, T.kv_NoCamper, by decide, by decide, by decide⟩
   | none => exact ⟨false, false, false, true, false, T.xc_NoneSteady, T.kx_NoneSteady_BadCamp, T.kx_NoneSteady_BadPairs, T.kx_NoneSteady_NoCamper, T.kx_NoneSteady_NoneSteady, T.kx_NoneSteady_BadText, T.kv_NoneSteady, by decide, by decide, by decide⟩
  refine ⟨_, (pss_cons (ps_set (i := 1) S.nd rfl (by first | exact Or.inl rfl | exact Or.inr rfl) (pe_lst (pa_cons (pe_callB TX.call_isX (by rfl) T.b_isinstance TK.boot_isinstance (pa_cons (pv 0) (pa_cons (pe_glob (v := .ref t.X_BadCamp) (by rfl) h_BadCamp (by first | exact ⟨_, rfl⟩ | rfl)) pa_nil))) (pa_cons (pe_callB TX.call_isX (by rfl) T.b_isinstance TK.boot_isinstance (pa_cons (pv 0) (pa_cons (pe_glob (v := .ref t.X_BadPairs) (by rfl) h_BadPairs (by first | exact ⟨_, rfl⟩ | rfl)) pa_nil))) (pa_cons (pe_callB TX.call_isX (by rfl) T.b_isinstance TK.boot_isinstance (pa_cons (pv 0) (pa_cons (pe_glob (v := .ref t.X_NoCamper) (by rfl) h_NoCamper (by first | exact ⟨_, rfl⟩ | rfl)) pa_nil))) pa_nil)))))
   (pss_cons (ps_set (i := 1) S.nd rfl (by first | exact Or.inl rfl | exact Or.inr rfl) (pe_op op_cat (pv 1) (pe_lst (pa_cons (pe_callB TX.call_isX (by rfl) T.b_isinstance TK.boot_isinstance (pa_cons (pv 0) (pa_cons (pe_glob (v := .ref t.X_NoneSteady) (by rfl) h_NoneSteady (by first | exact ⟨_, rfl⟩ | rfl)) pa_nil))) (pa_cons (pe_callB TX.call_isX (by rfl) T.b_isinstance TK.boot_isinstance (pa_cons (pv 0) (pa_cons (pe_glob (v := .ref t.X_BadText) (by rfl) h_BadText (by first | exact ⟨_, rfl⟩ | rfl)) pa_nil))) pa_nil)))))
   (pss_cons (ps_if (pw_or (pt_cmpR op_ne (pe_bm PySem.F.plainAttrs_list PySem.F.slot_list_count PySem.F.type_list_count TX.mt_countB (pv 1) (pa_cons pe_bl pa_nil)) pe_int (nomark _)) (pw_or1 (pt_not (pt_val (pe_callB TX.call_isX (by rfl) T.b_isinstance TK.boot_isinstance (pa_cons (pv 0) (pa_cons (pe_bltn (v := .ty "ValueError") (by rfl) T.b_ValueError TK.boot_ValueError (by rfl)) pa_nil))))))).pt (pss_one (ps_ret pe_str)) pss_nil)
   (pss_one (ps_ret (pe_ix ix_list (pe_lst (pa_cons pe_str (pa_cons pe_str (pa_cons pe_str (pa_cons pe_str (pa_cons pe_str pa_nil)))))) (pe_bm PySem.F.plainAttrs_list PySem.F.slot_list_index PySem.F.type_list_index TX.mt_indexB (pv 1) (pa_cons pe_bl pa_nil)) (fun _ _ => rfl))))))), ?_⟩
  refine ⟨_, rfl, e, _, _, _, _, rfl, ref_only, he, xc, k1, _, rfl, e, _, _, _, _, rfl, ref_only, he, xc, k2, _, rfl, e, _, _, _, _, rfl, ref_only, he, xc, k3, (by show 3 ≤ sizeLine; decide), fun p hp => ?_⟩
  have s1 : Same H (upd H p (.lst [.bl b1, .bl b2, .bl b3])) := TX.Same.upd (Same.refl H) hp
  have he1 := s1 _ _ he
  refine ⟨_, rfl, _, rfl, e, _, _, _, _, rfl, ref_only, he1, xc, k4, _, rfl, e, _, _, _, _, rfl, ref_only, he1, xc, k5, (by show 2 ≤ sizeLine; decide), fun q hq => ?_⟩
  have s2 := TX.Same.upd (o := .lst [.bl b4, .bl b5]) s1 (s1.free hq)
  refine ⟨p, q, _, _, rfl, rfl, TX.upd_old upd_same hq, upd_same, (by show 3 + 2 ≤ sizeLine; decide), fun r hr' => ?_⟩
  have s3 := TX.Same.upd (o := .lst ([.bl b1, .bl b2, .bl b3] ++ [.bl b4, .bl b5])) s2 (s2.free hr')
  refine ⟨_, rfl, .inl ⟨rfl, _, SqL.of upd_same⟩, r, [b1, b2, b3, b4, b5], true, rfl, rfl, sort_at upd_same, ?_⟩
  rw [hc]
  refine ⟨?_, ?_⟩
  ·trivial
  refine ⟨_, rfl, iteFalse (by decide) ?_⟩
  refine ⟨_, rfl, e, _, _, _, _, rfl, ty_only, s3 _ _ he, xc, kv, _, rfl, iteF ?_⟩
  refine ⟨(by show 5 ≤ sizeLine; decide), fun q5 h5 => ?_⟩
  have s4 := TX.Same.upd (o := .lst [.str "camp", .str "pairs", .str "camper", .str "none", .str "wrong"]) s3 (s3.free h5)
  have hr5 := TX.upd_old (o := .lst [.str "camp", .str "pairs", .str "camper", .str "none", .str "wrong"]) (upd_same (H := upd (upd H p (.lst [.bl b1, .bl b2, .bl b3])) q (.lst [.bl b4, .bl b5])) (a := r) (o := .lst ([.bl b1, .bl b2, .bl b3] ++ [.bl b4, .bl b5]))) h5
  exact ⟨_, rfl, .inl ⟨rfl, _, SqL.of hr5⟩, r, [b1, b2, b3, b4, b5], true, rfl, rfl, sort_at hr5, hin, (by show 5 ≤ 1000; decide), q5, _, _, _, rfl, rfl, SqL.of upd_same, hat, fin _ s4⟩
end
end Tp
namespace Tp
open PySem PySem.Spec PyProof.Rows L2 TX TM TK
section
variable {P : Program} {w : World} {K : PySem.W.Frag} {mg : Str → Option Value} {base : Heap} {t : Adr}
theorem make_camp {C : Addr} {H : Hp} {a : Addr} {ls : Ls} {Q : VK} {E : XK} (hL : LL H a ls) (hV : Valid ls) (fin : ∀ x H', H x = none → Same H H' → CampAt C H' x ls → Q (.ref x) H') :
  ∀ x dx, H x = none → H dx = none → dx ≠ x → spInit C [.ref x, .ref a] (upd (upd H dx (.own x)) x (.ins C dx [])) (fun v H2 => v = .non ∧ Q (.ref x) H2) E := by
 intro x dx hx hdx ne
 have hmk : ∀ c o, H c = some o → upd (upd H dx (.own x)) x (.ins C dx []) c = some o := fun c o e => TX.upd_old (TX.upd_old e hdx) (by rw [upd_ne ne.symm]; exact hx)
 refine ⟨x, dx, a, ls, rfl, upd_same, Of.same mI hL hmk, hV, fun H3 wa ws k3 hwa hx3 hwa3 rw3 => ⟨rfl, ?_⟩⟩
 have s3 : Same H H3 := fun c o e => k3 c o (hmk c o e) (ne_of_none e hx)
 exact fin x H3 hx s3 ⟨dx, wa, hx3, ws, hwa3, Paired.impl (fun v l ⟨b, e, _, h⟩ => ⟨b, e, h⟩) rw3⟩
theorem made_camp {C : Addr} {H : Hp} {ls : Ls} {Q : VK} {E : XK} {te : TE} {σ : L2.St} (h : Rd σ te (trLL ls)) (hV : Valid ls) (fin : ∀ x H', Same H H' → CampAt C H' x ls → Q (.ref x) H') :
  tMake C (spInit C) [] E (tCons te tNil) σ H Q := h H _ fun v H1 s1 b => by
 obtain ⟨a, rfl, hL⟩ := ll_bt b
 exact make_camp hL hV fun x H2 _ s2 hC => fin x H2 (s1.trans s2) hC
def ls1 : Ls := [[1, 2], [0], [0], [1]]
def ls2 : Ls := [[1], [0], []]
def ls3 : Ls := [[1, 2], [2, 0], [0, 1]]
theorem valid_of {ls : Ls} (h : (decide (1 ≤ ls.length) && decide (ls.length ≤ 6) && (List.range ls.length).all fun i => ((ls.getD i []).all fun x => decide (0 ≤ x) && decide (x < ls.length) && decide (x ≠ (i : Int))) && decide (ls.getD i []).Nodup) = true) : Valid ls := by
 simp only [Bool.and_eq_true, decide_eq_true_eq, List.all_eq_true, List.mem_range] at h
 obtain ⟨⟨h1, h2⟩, h3⟩ := h
 refine ⟨h1, h2, fun i l hl => ?_⟩
 have hi : i < ls.length := (List.getElem?_eq_some_iff.mp hl).1
 have e : ls.getD i [] = l := by simp [List.getD, hl]
 have := h3 i hi
 rw [e] at this
 exact ⟨fun x hx => ⟨(this.1 x hx).1.1, (this.1 x hx).1.2, (this.1 x hx).2⟩, this.2⟩
theorem v1 : Valid ls1 := valid_of (by decide)
theorem v2 : Valid ls2 := valid_of (by decide)
theorem v3 : Valid ls3 := valid_of (by decide)
theorem n3 : TN.steadyWays ls3 = [] := by decide +kernel
inductive Ask (K : PySem.W.Frag) (H : Hp) : Int → V → Str → Prop where
 | camp {v : V} (h : BadC K H v) : Ask K H 0 v "camp"
 | pairs {v : V} (h : BadP K H ls1 v) : Ask K H 1 v "pairs"
 | camper2 {v : V} (h : Sc v) (n : isCmp v 3 = false) : Ask K H 2 v "camper"
 | camper3 {v : V} (h : Sc v) (n : isCmp v 3 = false) : Ask K H 3 v "camper"
 | none : Ask K H 3 (.int 0) "none"
def spAsked (K : PySem.W.Frag) : Sp := fun vs H Q _ => ∃ (d : Int) (v : V) (k : Str), vs = [.int d, v] ∧ Ask K H d v k ∧ ∀ H', Same H H' → Q (.str k) H'
theorem BadP.same {H H' : Hp} {ls : Ls} {v : V} (h : BadP K H ls v) (e : Same H H') : BadP K H' ls v := by
 rcases h with h | ⟨a, xs, h1, h2, h3, h4, h5⟩
 ·exact .inl (h.same e)
 ·refine .inr ⟨a, xs, h1, e _ _ h2, h3, fun x hx => (h4 x hx).same e, fun ps r => h5 ps ?_⟩
  have back : ∀ {xs : List V} {ps : Prs}, (∀ x ∈ xs, PrK K H x) → Paired (RP H') xs ps → Paired (RP H) xs ps := by
   intro xs ps hx r
   induction r with
   | nil => exact .nil
   | @cons x q xs ps h r ih =>
    refine .cons ?_ (ih fun y hy => hx y (List.mem_cons_of_mem _ hy))
    obtain ⟨p, rfl, hp⟩ := h
    refine ⟨p, rfl, ?_⟩
    rcases hx _ List.mem_cons_self with ⟨ty, hty, hkk⟩ | ⟨b, ys, eb, hq, _⟩
    ·exfalso
     have z := (show TyOf K H' (.ref p) ty from TyOf.same hty e)
     cases z with
     | tup q => rw [kit_tuple_tuple] at hkk; cases hkk
     | lst q => rw [hp] at q; cases q
     | frz q => rw [hp] at q; cases q
     | dK q => rw [hp] at q; cases q
     | dT q => rw [hp] at q; cases q
     | ins q => rw [hp] at q; cases q
    ·cases eb
     have z := e _ _ hq
     rw [hp] at z; cases z; exact hq
  exact back h4 r
theorem suite_ok {H H' : Hp} {C : Addr} {k : Str} {Q : VK} {E : XK} (hk : Knd t C k) (s1 : Same H H') (fin : ∀ H', Same H H' → Q (.str k) H') : ∀ (ex : Addr) (σ' : L2.St), H' ex = none → σ'.length = 3 → tCall (spSort t) [] E (tCons (tVar 2) tNil) (σ'.set 2 (some (.ref ex))) (upd H' ex (TX.excO C ex)) Q := fun ex σ' hex hl => by
 refine ⟨.ref ex, ?_, ex, C, k, rfl, upd_same, hk, fun H2 s2 => fin H2 ((TX.Same.upd s1 (s1.free hex)).trans s2)⟩
 rw [List.getElem?_set_self (by omega)]
theorem drop2 {sp : Sp} {E : XK} {te t2 : TE} {D : Ends} {σ : L2.St} {H : Hp} (h : te σ H fun x H1 => t2 σ H1 fun y H2 => sp [x, y] H2 (fun _ H3 => D.nx σ H3) E) : tDrop (tCall sp [] E (tCons te (tCons t2 tNil))) D σ H := h
set_option maxHeartbeats 1000000 in
theorem ok_asked (T : Txt K mg t) : FnOk P w K mg base CX0 22 t.law_asked t.fd_law_asked ["_law_door", "_law_thing"] (spAsked K) := by
 have S := sc_law_asked
 have G_sort := ok_sort (P := P) (w := w) (base := base) T
 have G_Camp := ok_init (P := P) (w := w) (base := base) T
 have X_init := xk_init (P := P) (w := w) (base := base) T
 have X_breaking := x7_breaking (P := P) (w := w) (base := base) T
 have X_mates := x7_mates (P := P) (w := w) (base := base) T
 have X_matesN := x7_matesN (P := P) (w := w) (base := base) T
 refine T.law_asked.fn.ok S (fun vs H Q E h => ?_) (fun cdv A outer s H vs Q E hr h => ?_)
 ·obtain ⟨d, v, k, rfl, _⟩ := h; rfl
 ·obtain ⟨d, v, k, rfl, ha, fin⟩ := h
  cases ha with
  | camp hB =>
   refine ⟨_, (pss_cons (TX.ps_tryAs (C := t.X_BadCamp) (B := t.X_CampError) (i := 2) T.xc_BadCamp.kt T.kt_CampError T.be_BadCamp (by rfl) T.mg_CampError ⟨rfl, rfl⟩ rfl S.nd rfl rfl (fun pn E2 => (pss_one (ps_if (pt_cmpR op_eq (pv 0) pe_int (nomark _)) (pss_one (ps_expr (pe_make (k := 20) T.mk_Camp (X_init.mono (by decide)) hr (by rfl) T.mg_Camp T.Camp___init__.b .nil TX.pass2 (pa_cons (pv 1) pa_nil)))) pss_never))) (fun e xe => TX.pe_callN (k := 1) (E := E0) G_sort ((TX.RoomN.of (hr.mono (by decide))).mark) (by rfl) T.law_sort.mg T.law_sort.fn.kp T.law_sort.b .nil (pa_cons (pv 2) pa_nil)))
   (pss_one (ps_ret pe_str))), ?_⟩
   refine ⟨_, rfl, rfl, _, rfl, iteTrue rfl ?_⟩
   refine ⟨_, rfl, ?_⟩
   intro x dx hx hdx hne
   have s3 : Same H (upd (upd H dx (.own x)) x (.ins t.C dx [])) := TX.Same.upd (TX.Same.upd (Same.refl _) hdx) hx
   exact ⟨x, dx, v, rfl, upd_same, hB.same s3, fun H' s4 => suite_ok .camp (s3.trans s4) fin⟩
  | pairs hB =>
   refine ⟨_, (pss_cons (TX.ps_tryAs (C := t.X_BadPairs) (B := t.X_CampError) (i := 2) T.xc_BadPairs.kt T.kt_CampError T.be_BadPairs (by rfl) T.mg_CampError ⟨rfl, rfl⟩ rfl S.nd rfl rfl (fun pn E2 => (pss_one (ps_if (pt_cmpR op_eq (pv 0) pe_int (nomark _)) pss_never (pss_one (ps_if (pt_cmpR op_eq (pv 0) pe_int (nomark _)) (pss_one (ps_expr (pe_call (k := 21) (X_breaking.mono (by decide)) hr (by rfl) T.breaking.mg T.breaking.fn.kp T.breaking.b .nil TX.pass2 (pa_cons (pe_make (k := 20) T.mk_Camp (G_Camp.mono (by decide)) hr (by rfl) T.mg_Camp T.Camp___init__.b .nil pass0 (pa_cons (pe_lst (pa_cons (pe_lst (pa_cons pe_int (pa_cons pe_int pa_nil))) (pa_cons (pe_lst (pa_cons pe_int pa_nil)) (pa_cons (pe_lst (pa_cons pe_int pa_nil)) (pa_cons (pe_lst (pa_cons pe_int pa_nil)) pa_nil))))) pa_nil)) (pa_cons (pv 1) pa_nil))))) pss_never))))) (fun e xe => TX.pe_callN (k := 1) (E := E0) G_sort ((TX.RoomN.of (hr.mono (by decide))).mark) (by rfl) T.law_sort.mg T.law_sort.fn.kp T.law_sort.b .nil (pa_cons (pv 2) pa_nil)))
   (pss_one (ps_ret pe_str))), ?_⟩
   refine ⟨_, rfl, rfl, _, rfl, iteFalse rfl ?_⟩
   refine ⟨_, rfl, rfl, _, rfl, iteTrue rfl ?_⟩
   refine drop2 (made_camp (ls := ls1) (rd_lst (rda_cons (rd_lst (rda_cons (rd_c (.int _)) (rda_cons (rd_c (.int _)) rda_nil)) (by decide)) (rda_cons (rd_lst (rda_cons (rd_c (.int _)) rda_nil) (by decide)) (rda_cons (rd_lst (rda_cons (rd_c (.int _)) rda_nil) (by decide)) (rda_cons (rd_lst (rda_cons (rd_c (.int _)) rda_nil) (by decide)) rda_nil)))) (by decide)) v1 fun x H2 s2 hC => ?_)
   exact ⟨_, rfl, x, ls1, v, rfl, hC, v1, hB.same s2, fun H3 s3 => suite_ok .pairs (s2.trans s3) fin⟩
  | camper2 hs hn =>
   refine ⟨_, (pss_cons (TX.ps_tryAs (C := t.X_NoCamper) (B := t.X_CampError) (i := 2) T.xc_NoCamper.kt T.kt_CampError T.be_NoCamper (by rfl) T.mg_CampError ⟨rfl, rfl⟩ rfl S.nd rfl rfl (fun pn E2 => (pss_one (ps_if (pt_cmpR op_eq (pv 0) pe_int (nomark _)) pss_never (pss_one (ps_if (pt_cmpR op_eq (pv 0) pe_int (nomark _)) pss_never (pss_one (ps_if (pt_cmpR op_eq (pv 0) pe_int (nomark _)) (pss_one (ps_expr (pe_call (k := 21) X_mates hr (by rfl) T.mates.mg T.mates.fn.kp T.mates.b .nil TX.pass2 (pa_cons (pe_make (k := 20) T.mk_Camp (G_Camp.mono (by decide)) hr (by rfl) T.mg_Camp T.Camp___init__.b .nil pass0 (pa_cons (pe_lst (pa_cons (pe_lst (pa_cons pe_int pa_nil)) (pa_cons (pe_lst (pa_cons pe_int pa_nil)) (pa_cons (pe_lst pa_nil) pa_nil)))) pa_nil)) (pa_cons (pv 1) pa_nil))))) (pss_one (ps_expr (pe_call (k := 21) X_mates hr (by rfl) T.mates.mg T.mates.fn.kp T.mates.b .nil TX.pass2 (pa_cons (pe_make (k := 20) T.mk_Camp (G_Camp.mono (by decide)) hr (by rfl) T.mg_Camp T.Camp___init__.b .nil pass0 (pa_cons (pe_lst (pa_cons (pe_lst (pa_cons pe_int (pa_cons pe_int pa_nil))) (pa_cons (pe_lst (pa_cons pe_int (pa_cons pe_int pa_nil))) (pa_cons (pe_lst (pa_cons pe_int (pa_cons pe_int pa_nil))) pa_nil)))) pa_nil)) (pa_cons (pv 1) pa_nil)))))))))))) (fun e xe => TX.pe_callN (k := 1) (E := E0) G_sort ((TX.RoomN.of (hr.mono (by decide))).mark) (by rfl) T.law_sort.mg T.law_sort.fn.kp T.law_sort.b .nil (pa_cons (pv 2) pa_nil)))
   (pss_one (ps_ret pe_str))), ?_⟩
   refine ⟨_, rfl, rfl, _, rfl, iteFalse rfl ?_⟩
   refine ⟨_, rfl, rfl, _, rfl, iteFalse rfl ?_⟩
   refine ⟨_, rfl, rfl, _, rfl, iteTrue rfl ?_⟩
   refine drop2 (made_camp (ls := ls2) (rd_lst (rda_cons (rd_lst (rda_cons (rd_c (.int _)) rda_nil) (by decide)) (rda_cons (rd_lst (rda_cons (rd_c (.int _)) rda_nil) (by decide)) (rda_cons (rd_lst rda_nil (by decide)) rda_nil))) (by decide)) v2 fun x H2 s2 hC => ?_)
   exact ⟨_, rfl, x, ls2, v, rfl, hC, hs, hn, suite_ok .camper s2 fin⟩
  | camper3 hs hn =>
   refine ⟨_, (pss_cons (TX.ps_tryAs (C := t.X_NoCamper) (B := t.X_CampError) (i := 2) T.xc_NoCamper.kt T.kt_CampError T.be_NoCamper (by rfl) T.mg_CampError ⟨rfl, rfl⟩ rfl S.nd rfl rfl (fun pn E2 => (pss_one (ps_if (pt_cmpR op_eq (pv 0) pe_int (nomark _)) pss_never (pss_one (ps_if (pt_cmpR op_eq (pv 0) pe_int (nomark _)) pss_never (pss_one (ps_if (pt_cmpR op_eq (pv 0) pe_int (nomark _)) (pss_one (ps_expr (pe_call (k := 21) X_mates hr (by rfl) T.mates.mg T.mates.fn.kp T.mates.b .nil TX.pass2 (pa_cons (pe_make (k := 20) T.mk_Camp (G_Camp.mono (by decide)) hr (by rfl) T.mg_Camp T.Camp___init__.b .nil pass0 (pa_cons (pe_lst (pa_cons (pe_lst (pa_cons pe_int pa_nil)) (pa_cons (pe_lst (pa_cons pe_int pa_nil)) (pa_cons (pe_lst pa_nil) pa_nil)))) pa_nil)) (pa_cons (pv 1) pa_nil))))) (pss_one (ps_expr (pe_call (k := 21) X_mates hr (by rfl) T.mates.mg T.mates.fn.kp T.mates.b .nil TX.pass2 (pa_cons (pe_make (k := 20) T.mk_Camp (G_Camp.mono (by decide)) hr (by rfl) T.mg_Camp T.Camp___init__.b .nil pass0 (pa_cons (pe_lst (pa_cons (pe_lst (pa_cons pe_int (pa_cons pe_int pa_nil))) (pa_cons (pe_lst (pa_cons pe_int (pa_cons pe_int pa_nil))) (pa_cons (pe_lst (pa_cons pe_int (pa_cons pe_int pa_nil))) pa_nil)))) pa_nil)) (pa_cons (pv 1) pa_nil)))))))))))) (fun e xe => TX.pe_callN (k := 1) (E := E0) G_sort ((TX.RoomN.of (hr.mono (by decide))).mark) (by rfl) T.law_sort.mg T.law_sort.fn.kp T.law_sort.b .nil (pa_cons (pv 2) pa_nil)))
   (pss_one (ps_ret pe_str))), ?_⟩
   refine ⟨_, rfl, rfl, _, rfl, iteFalse rfl ?_⟩
   refine ⟨_, rfl, rfl, _, rfl, iteFalse rfl ?_⟩
   refine ⟨_, rfl, rfl, _, rfl, iteFalse rfl ?_⟩
   refine drop2 (made_camp (ls := ls3) (rd_lst (rda_cons (rd_lst (rda_cons (rd_c (.int _)) (rda_cons (rd_c (.int _)) rda_nil)) (by decide)) (rda_cons (rd_lst (rda_cons (rd_c (.int _)) (rda_cons (rd_c (.int _)) rda_nil)) (by decide)) (rda_cons (rd_lst (rda_cons (rd_c (.int _)) (rda_cons (rd_c (.int _)) rda_nil)) (by decide)) rda_nil))) (by decide)) v3 fun x H2 s2 hC => ?_)
   exact ⟨_, rfl, x, ls3, v, rfl, hC, hs, hn, suite_ok .camper s2 fin⟩
  | none =>
   refine ⟨_, (pss_cons (TX.ps_tryAs (C := t.X_NoneSteady) (B := t.X_CampError) (i := 2) T.xc_NoneSteady.kt T.kt_CampError T.be_NoneSteady (by rfl) T.mg_CampError ⟨rfl, rfl⟩ rfl S.nd rfl rfl (fun pn E2 => (pss_one (ps_if (pt_cmpR op_eq (pv 0) pe_int (nomark _)) pss_never (pss_one (ps_if (pt_cmpR op_eq (pv 0) pe_int (nomark _)) pss_never (pss_one (ps_if (pt_cmpR op_eq (pv 0) pe_int (nomark _)) pss_never (pss_one (ps_expr (pe_call (k := 21) X_matesN hr (by rfl) T.mates.mg T.mates.fn.kp T.mates.b .nil TX.pass2 (pa_cons (pe_make (k := 20) T.mk_Camp (G_Camp.mono (by decide)) hr (by rfl) T.mg_Camp T.Camp___init__.b .nil pass0 (pa_cons (pe_lst (pa_cons (pe_lst (pa_cons pe_int (pa_cons pe_int pa_nil))) (pa_cons (pe_lst (pa_cons pe_int (pa_cons pe_int pa_nil))) (pa_cons (pe_lst (pa_cons pe_int (pa_cons pe_int pa_nil))) pa_nil)))) pa_nil)) (pa_cons (pv 1) pa_nil)))))))))))) (fun e xe => TX.pe_callN (k := 1) (E := E0) G_sort ((TX.RoomN.of (hr.mono (by decide))).mark) (by rfl) T.law_sort.mg T.law_sort.fn.kp T.law_sort.b .nil (pa_cons (pv 2) pa_nil)))
   (pss_one (ps_ret pe_str))), ?_⟩
   refine ⟨_, rfl, rfl, _, rfl, iteFalse rfl ?_⟩
   refine ⟨_, rfl, rfl, _, rfl, iteFalse rfl ?_⟩
   refine ⟨_, rfl, rfl, _, rfl, iteFalse rfl ?_⟩
   refine drop2 (made_camp (ls := ls3) (rd_lst (rda_cons (rd_lst (rda_cons (rd_c (.int _)) (rda_cons (rd_c (.int _)) rda_nil)) (by decide)) (rda_cons (rd_lst (rda_cons (rd_c (.int _)) (rda_cons (rd_c (.int _)) rda_nil)) (by decide)) (rda_cons (rd_lst (rda_cons (rd_c (.int _)) (rda_cons (rd_c (.int _)) rda_nil)) (by decide)) rda_nil))) (by decide)) v3 fun x H2 s2 hC => ?_)
   exact ⟨_, rfl, x, ls3, 0, rfl, hC, v3, by decide, by decide, n3, fun H3 s3 => suite_ok .none (s2.trans s3) fin⟩
end
end Tp
namespace Tp
open PySem PySem.Spec PyProof.Rows L2 TX TM TK
section
variable {P : Program} {w : World} {K : PySem.W.Frag} {mg : Str → Option Value} {base : Heap} {t : Adr}
theorem nl_sc {H : Hp} {v : V} (h : Sc v) : NotL K H v := by
 cases h with
 | non => exact ⟨_, .non, rfl⟩
 | bl b => exact ⟨_, .bl b, rfl⟩
 | int i => exact ⟨_, .int i, rfl⟩
 | str x => exact ⟨_, .str x, rfl⟩
theorem nt_sc {H : Hp} {v : V} (h : Sc v) : NotT K H v := by
 cases h with
 | non => exact ⟨_, .non, rfl⟩
 | bl b => exact ⟨_, .bl b, rfl⟩
 | int i => exact ⟨_, .int i, rfl⟩
 | str x => exact ⟨_, .str x, rfl⟩
theorem nl_tup {H : Hp} {a : Addr} {vs : List V} (h : H a = some (.tup vs)) : NotL K H (.ref a) := ⟨_, .tup h, rfl⟩
theorem nt_lst {H : Hp} {a : Addr} {vs : List V} (h : H a = some (.lst vs)) : NotT K H (.ref a) := ⟨_, .lst h, rfl⟩
def lfs (l : List V) : List Tr := l.map Tr.lf
theorem BtL.lfs {H : Hp} : ∀ {l vs : List V}, BtL H (lfs l) vs → vs = l ∧ ∀ y ∈ l, Sc y
 | [], _, h => by cases h; exact ⟨rfl, fun _ z => by cases z⟩
 | v :: l, _, h => by
  cases h with
  | cons a r =>
   cases a with
   | lf h =>
    obtain ⟨rfl, hs⟩ := BtL.lfs (l := l) r
    exact ⟨rfl, fun y hy => (List.mem_cons.mp hy).elim (fun e => e ▸ h) (hs y)⟩
def BdC (K : PySem.W.Frag) (x : Tr) : Prop := ∀ (H : Hp) (v : V), Bt H x v → BadC K H v
def kn : Tr → Prop
 | .lf _ => True
 | .tp _ => True
 | .ls ys => ∃ l, ys = lfs l ∧ l.length ≤ 100
theorem kn_of {H : Hp} {x : Tr} {v : V} (k : kn x) (b : Bt H x v) : NotL K H v ∨ ∃ ys, LsK H v ys := by
 cases b with
 | lf h => exact .inl (nl_sc h)
 | tp h r => exact .inl (nl_tup h)
 | ls h r =>
  obtain ⟨l, rfl, hl⟩ := k
  obtain ⟨rfl, hs⟩ := r.lfs
  exact .inr ⟨_, _, rfl, h, hs, hl⟩
def bx (K : PySem.W.Frag) (n : Int) (i : Nat) (x : Tr) : Prop := ∀ (H : Hp) (v : V), Bt H x v → BadX K H n i v
theorem bx_lf {n : Int} {i : Nat} {v : V} : bx K n i (.lf v) := fun H u b => by cases b with | lf h => exact .inl (nl_sc h)
theorem bx_tp {n : Int} {i : Nat} {xs : List Tr} : bx K n i (.tp xs) := fun H u b => by cases b with | tp h r => exact .inl (nl_tup h)
theorem bx_ls {n : Int} {i : Nat} {l : List V} (hl : l.length ≤ 100) (h : ¬ OkW i n l) : bx K n i (.ls (lfs l)) := fun H u b => by
 cases b with
 | ls ha r =>
  obtain ⟨rfl, hs⟩ := r.lfs
  exact .inr ⟨_, ⟨_, rfl, ha, hs, hl⟩, h⟩
theorem bc_lf {v : V} : BdC K (.lf v) := fun H u b => by cases b with | lf h => exact .inl (nl_sc h)
theorem bc_tp {xs : List Tr} : BdC K (.tp xs) := fun H u b => by cases b with | tp h r => exact .inl (nl_tup h)
theorem bc_nil : BdC K (.ls []) := fun H u b => by
 cases b with
 | ls h r => cases r; exact .inr ⟨_, _, rfl, h, (by decide), (fun x hx => by cases hx), .inl rfl⟩
theorem BtL.mem {H : Hp} {xs : List Tr} {vs : List V} {v : V} (r : BtL H xs vs) (h : v ∈ vs) : ∃ x ∈ xs, Bt H x v := by
 obtain ⟨i, hi⟩ := List.mem_iff_getElem?.mp h
 obtain ⟨x, h1, h2⟩ := r.at hi
 exact ⟨x, List.mem_of_getElem? h1, h2⟩
theorem bc_7 : BdC K (.ls (List.replicate 7 (.ls []))) := fun H u b => by
 cases b with
 | ls h r =>
  have hl := r.length
  refine .inr ⟨_, _, rfl, h, (by rw [hl]; decide), fun x hx => ?_, .inr (.inl (by rw [hl]; decide))⟩
  obtain ⟨y, hy, b⟩ := r.mem hx
  rw [List.eq_of_mem_replicate hy] at b
  exact kn_of (x := .ls []) ⟨[], rfl, by decide⟩ b
theorem bc_two {x0 x1 : Tr} (k0 : kn x0) (k1 : kn x1) (b : bx K 2 0 x0 ∨ bx K 2 1 x1) : BdC K (.ls [x0, x1]) := fun H u b' => by
 cases b' with
 | ls h r =>
  cases r with
  | cons h0 r => cases r with
   | cons h1 r =>
    cases r
    refine .inr ⟨_, _, rfl, h, (by show 2 ≤ 100; decide), fun x hx => ?_, .inr (.inr ?_)⟩
    ·rcases List.mem_cons.mp hx with rfl | hx
     ·exact kn_of k0 h0
     ·rcases List.mem_cons.mp hx with rfl | hx
      ·exact kn_of k1 h1
      ·cases hx
    ·rcases b with b | b
     ·exact ⟨0, _, rfl, b _ _ h0⟩
     ·exact ⟨1, _, rfl, b _ _ h1⟩
theorem kn1 (v : V) : kn (.ls [.lf v]) := ⟨[v], rfl, by simp⟩
theorem kn2 (v u : V) : kn (.ls [.lf v, .lf u]) := ⟨[v, u], rfl, by simp⟩
theorem bx1 {i : Nat} {v : V} (h : isCmp v 2 = false ∨ v = .int i) : bx K 2 i (.ls [.lf v]) := bx_ls (l := [v]) (by simp) fun o => by
 obtain ⟨a, b, _⟩ := o 0 v rfl
 rcases h with h | h
 ·rw [h] at a; cases a
 ·exact b h
theorem bx2 {i : Nat} {v : V} : bx K 2 i (.ls [.lf v, .lf v]) := bx_ls (l := [v, v]) (by simp) fun o => (o 1 v rfl).2.2 (by simp)
def BdP (K : PySem.W.Frag) (ls : Ls) (x : Tr) : Prop := ∀ (H : Hp) (v : V), Bt H x v → BadP K H ls v
def pk : Tr → Prop
 | .lf _ => True
 | .ls _ => True
 | .tp ys => ∃ l, ys = lfs l
theorem pk_of {H : Hp} {x : Tr} {v : V} (k : pk x) (b : Bt H x v) : PrK K H v := by
 cases b with
 | lf h => exact .inl (nt_sc h)
 | ls h r => exact .inl (nt_lst h)
 | tp h r =>
  obtain ⟨l, rfl⟩ := k
  obtain ⟨rfl, hs⟩ := r.lfs
  exact .inr ⟨_, _, rfl, h, hs⟩
theorem bp_lf {ls : Ls} {v : V} : BdP K ls (.lf v) := fun H u b => by cases b with | lf h => exact .inl (nl_sc h)
theorem bp_tp {ls : Ls} {xs : List Tr} : BdP K ls (.tp xs) := fun H u b => by cases b with | tp h r => exact .inl (nl_tup h)
def Prd (x : Tr) (p : Int × Int) : Prop := x = .tp (lfs [.int p.1, .int p.2])
theorem prd_of {H : Hp} {x : Tr} {v : V} {p : Int × Int} (k : pk x) (b : Bt H x v) (r : RP H v p) : Prd x p := by
 obtain ⟨q, rfl, hq⟩ := r
 cases b with
 | lf h => cases h
 | ls h r => rw [hq] at h; cases h
 | tp h r =>
  rw [hq] at h; cases h
  obtain ⟨l, rfl⟩ := k
  obtain ⟨e, _⟩ := r.lfs
  rw [← e]; rfl
theorem bp_ls {ls : Ls} {xs : List Tr} (hz : xs.length ≤ 100) (k : ∀ x ∈ xs, pk x) (no : ∀ ps : Prs, Paired Prd xs ps → ¬ Pairs ls ps) : BdP K ls (.ls xs) := fun H u b => by
 cases b with
 | ls h r =>
  refine .inr ⟨_, _, rfl, h, by rw [r.length]; exact hz, fun x hx => ?_, fun ps r2 => no ps ?_⟩
  ·obtain ⟨y, hy, b⟩ := r.mem hx
   exact pk_of (k y hy) b
  ·have go : ∀ {xs : List Tr} {vs : List V} {ps : Prs}, (∀ x ∈ xs, pk x) → BtL H xs vs → Paired (RP H) vs ps → Paired Prd xs ps := by
    intro xs vs ps k r r2
    induction r2 generalizing xs with
    | nil => cases r; exact .nil
    | cons h2 t2 ih =>
     cases r with
     | cons h1 t1 => exact .cons (prd_of (k _ List.mem_cons_self) h1 h2) (ih (fun x hx => k x (List.mem_cons_of_mem _ hx)) t1)
   exact go k r r2
theorem bp_one {ls : Ls} {x : Tr} (k : pk x) (no : ∀ a b : Int, x = .tp (lfs [.int a, .int b]) → ¬ Pairs ls [(a, b)]) : BdP K ls (.ls [x]) := bp_ls (by simp) (fun y hy => by rw [List.mem_singleton.mp hy]; exact k) fun ps r => by
 cases r with
 | @cons _ p _ _ h t => cases t; exact no p.1 p.2 h
theorem pr_not {ls : Ls} {a b : Int} (h : ¬ (0 ≤ a ∧ a < ls.length ∧ 0 ≤ b ∧ b < ls.length ∧ a ≠ b ∧ would ls a b = true)) : ¬ Pairs ls [(a, b)] := fun P => h (P.1 (a, b) List.mem_cons_self)
end
section
variable {P : Program} {w : World} {K : PySem.W.Frag} {mg : Str → Option Value} {base : Heap} {t : Adr}
def spCell (K : PySem.W.Frag) : Sp := fun vs H Q _ => ∃ (a : Addr) (ns : List Int) (k : Int), vs = [.ref a, .int k] ∧ SqL K H a (ns.map V.int) ∧ 0 ≤ k ∧ ∀ z : Int, Q (.int z) H
theorem ok_cell (T : Txt K mg t) : FnOk P w K mg base CX0 1 t.law_cell_at t.fd_law_cell_at ["_law_script", "_law_k"] (spCell K) := by
 have S := sc_law_cell_at
 refine T.law_cell_at.fn.ok S (fun vs H Q E h => ?_) (fun cdv A outer s H vs Q E hr h => ?_)
 ·obtain ⟨a, ns, k, rfl, _⟩ := h; rfl
 ·obtain ⟨a, ns, k, rfl, ha, hk, q⟩ := h
  refine ⟨_, (pss_cons (ps_if (pt_cmpR op_lt (pv 1) (pe_callB call_len_seq (by rfl) T.b_len TK.boot_len (pa_cons (pv 0) pa_nil)) (nomark _)) (pss_one (ps_ret (pe_ix ix_list (pv 0) (pv 1) (fun _ _ => rfl)))) pss_nil)
   (pss_one (ps_ret pe_int))), ?_⟩
  refine ⟨_, rfl, _, rfl, a, _, rfl, .inl ha, _, _, rfl, rfl, _, rfl, iteB (fun e => ?_) (fun e => q 0)⟩
  have hlt : k < ((ns.map V.int).length : Int) := of_decide_eq_true e
  rw [List.length_map] at hlt
  have hi : k.toNat < ns.length := by omega
  exact ⟨_, rfl, _, rfl, a, _, k, .int ns[k.toNat], rfl, rfl, ha, atI_of hk (by simp [hi]), q _⟩
def AllB (p : Tr → Prop) : List Tr → Prop
 | [] => True
 | x :: xs => p x ∧ AllB p xs
theorem AllB.mem {p : Tr → Prop} : ∀ {xs : List Tr} {x : Tr}, AllB p xs → x ∈ xs → p x
 | _ :: _, _, ⟨h, r⟩, e => (List.mem_cons.mp e).elim (fun z => z ▸ h) fun z => AllB.mem r z
theorem AllB.app {p : Tr → Prop} : ∀ {xs ys : List Tr}, AllB p xs → AllB p ys → AllB p (xs ++ ys)
 | [], _, _, r => r
 | _ :: _, _, ⟨h, q⟩, r => ⟨h, AllB.app q r⟩
def T1 (m : Int) : List Tr := [.lf .non, .ls [], .tp [.ls [.lf (.int 1)], .ls [.lf (.int 0)]], .lf (.str "01"), .lf (.int 2), .ls [.lf (.int 1), .lf (.int 0)], .ls [.ls [.lf (.int 1)], .tp [.lf (.int 0)]], .ls [.ls [.lf (.int 1)], .lf .non], .ls [.ls [.lf (.int (2 + m))], .ls [.lf (.int 0)]], .ls [.ls [.lf (.int 2)], .ls [.lf (.int 0)]]]
def T2 (m : Int) : List Tr := [.ls [.ls [.lf (.int (-1 - m))], .ls [.lf (.int 0)]], .ls [.ls [.lf (.bl true)], .ls [.lf (.int 0)]], .ls [.ls [.lf (.str "1")], .ls [.lf (.int 0)]], .ls [.ls [.lf (.int 0)], .ls [.lf (.int 0)]], .ls [.ls [.lf (.int 1), .lf (.int 1)], .ls [.lf (.int 0)]], .ls [.ls [.lf (.int 1)], .ls [.lf (.int 1)]], .ls (List.replicate 7 (.ls []))]
def T3 : List Tr := [.ls [.ls [.lf .non], .ls [.lf (.int 0)]]]
def P1 (m : Int) : List Tr := [.lf .non, .tp [.tp [.lf (.int 0), .lf (.int 1)]], .lf (.str "01"), .lf (.int 1), .ls [.lf (.int 1)], .ls [.tp [.lf (.int 0)]], .ls [.tp [.lf (.int 0), .lf (.int 1), .lf (.int 2)]], .ls [.ls [.lf (.int 0), .lf (.int 1)]], .ls [.tp [.lf (.int 0), .lf (.int (4 + m))]], .ls [.tp [.lf (.int (-1 - m)), .lf (.int 1)]]]
def P2 : List Tr := [.ls [.tp [.lf (.int 0), .lf (.bl true)]], .ls [.tp [.lf (.str "0"), .lf (.int 1)]], .ls [.tp [.lf (.int 1), .lf (.int 3)]], .ls [.tp [.lf (.int 1), .lf (.int 2)]], .ls [.tp [.lf (.int 0), .lf (.int 1)], .tp [.lf (.int 2), .lf (.int 0)]], .ls [.tp [.lf (.int 0), .lf (.int 1)], .tp [.lf (.int 1), .lf (.int 0)]], .ls [.tp [.lf (.int 0), .lf (.int 0)]]]
def C1 (m : Int) : List Tr := [.lf (.int 3), .lf (.int (3 + m)), .lf (.int (-1 - m)), .lf (.bl true), .lf (.str "0"), .lf .non]
theorem a1 {m : Int} (h : 0 ≤ m) : AllB (BdC K) (T1 m) := ⟨bc_lf, bc_nil, bc_tp, bc_lf, bc_lf, bc_two trivial trivial (.inl bx_lf), bc_two (kn1 _) trivial (.inr bx_tp), bc_two (kn1 _) trivial (.inr bx_lf),
 bc_two (kn1 _) (kn1 _) (.inl (bx1 (.inl (by simp [isCmp]; omega)))), bc_two (kn1 _) (kn1 _) (.inl (bx1 (.inl (by decide)))), trivial⟩
theorem a2 {m : Int} (h : 0 ≤ m) : AllB (BdC K) (T2 m) := ⟨bc_two (kn1 _) (kn1 _) (.inl (bx1 (.inl (by simp [isCmp]; omega)))), bc_two (kn1 _) (kn1 _) (.inl (bx1 (.inl rfl))), bc_two (kn1 _) (kn1 _) (.inl (bx1 (.inl rfl))),
 bc_two (kn1 _) (kn1 _) (.inl (bx1 (.inr rfl))), bc_two (kn2 _ _) (kn1 _) (.inl bx2), bc_two (kn1 _) (kn1 _) (.inr (bx1 (.inr rfl))), bc_7, trivial⟩
theorem a3 : AllB (BdC K) T3 := ⟨bc_two (kn1 _) (kn1 _) (.inl (bx1 (.inl rfl))), trivial⟩
theorem pkT (l : List V) : pk (.tp (lfs l)) := ⟨l, rfl⟩
theorem tp_inj {l l' : List V} (h : Tr.tp (lfs l) = .tp (lfs l')) : l = l' := by
 injection h with h
 exact List.map_inj_right (fun a b e => by injection e) |>.mp h
theorem b1 {m : Int} (h : 0 ≤ m) : AllB (BdP K ls1) (P1 m) := ⟨bp_lf, bp_tp, bp_lf, bp_lf, bp_one trivial (fun a b e => by cases e), bp_one (pkT [.int 0]) (fun a b e => by have := tp_inj (l := [.int 0]) e; cases this), bp_one (pkT [.int 0, .int 1, .int 2]) (fun a b e => by have := tp_inj (l := [.int 0, .int 1, .int 2]) e; cases this),
 bp_one trivial (fun a b e => by cases e), bp_one (pkT [.int 0, .int (4 + m)]) (fun a b e => by have := tp_inj (l := [.int 0, .int (4 + m)]) e; cases this; exact pr_not (by simp [ls1]; omega)),
 bp_one (pkT [.int (-1 - m), .int 1]) (fun a b e => by have := tp_inj (l := [.int (-1 - m), .int 1]) e; cases this; exact pr_not (by omega)), trivial⟩
theorem two_not {x0 x1 : Tr} {p0 p1 : Int × Int} (h0 : ∀ q, Prd x0 q → q = p0) (h1 : ∀ q, Prd x1 q → q = p1) (k0 : pk x0) (k1 : pk x1) (n : ¬ ([p0, p1].flatMap fun p => [p.1, p.2]).Nodup) : BdP K ls1 (.ls [x0, x1]) := bp_ls (by simp) (fun x hx => by
  rcases List.mem_cons.mp hx with rfl | hx
  ·exact k0
  ·rw [List.mem_singleton.mp hx]; exact k1) fun ps r P => by
 cases r with
 | cons a r => cases r with
  | cons b r =>
   cases r
   rw [h0 _ a, h1 _ b] at P
   exact n P.2
theorem prd_eq {a b : Int} : ∀ q, Prd (.tp (lfs [.int a, .int b])) q → q = (a, b) := fun q h => by
 have := tp_inj (l := [.int a, .int b]) h
 cases q
 cases this; rfl
theorem b2 : AllB (BdP K ls1) P2 := ⟨bp_one (pkT [.int 0, .bl true]) (fun a b e => by have := tp_inj (l := [.int 0, .bl true]) e; cases this), bp_one (pkT [.str "0", .int 1]) (fun a b e => by have := tp_inj (l := [.str "0", .int 1]) e; cases this),
 bp_one (pkT [.int 1, .int 3]) (fun a b e => by have := tp_inj (l := [.int 1, .int 3]) e; cases this; exact pr_not (by decide)), bp_one (pkT [.int 1, .int 2]) (fun a b e => by have := tp_inj (l := [.int 1, .int 2]) e; cases this; exact pr_not (by decide)),
 two_not (prd_eq (a := 0) (b := 1)) (prd_eq (a := 2) (b := 0)) (pkT [.int 0, .int 1]) (pkT [.int 2, .int 0]) (by decide), two_not (prd_eq (a := 0) (b := 1)) (prd_eq (a := 1) (b := 0)) (pkT [.int 0, .int 1]) (pkT [.int 1, .int 0]) (by decide), bp_one (pkT [.int 0, .int 0]) (fun a b e => by have := tp_inj (l := [.int 0, .int 0]) e; cases this; exact pr_not (by decide)), trivial⟩
def Cm (x : Tr) : Prop := ∀ (H : Hp) (v : V), Bt H x v → Sc v ∧ isCmp v 3 = false
theorem cm_lf {v : V} (h : isCmp v 3 = false) : Cm (.lf v) := fun H u b => by cases b with | lf s => exact ⟨s, h⟩
theorem c1 {m : Int} (h : 0 ≤ m) : AllB Cm (C1 m) := ⟨cm_lf (by decide), cm_lf (by simp [isCmp]; omega), cm_lf (by simp [isCmp]; omega), cm_lf rfl, cm_lf rfl, cm_lf rfl, trivial⟩
end
end Tp
namespace Tp
open PySem PySem.Spec PyProof.Rows L2 TX TM TK
seal PySem.Sem.wp
section
variable {P : Program} {w : World} {K : PySem.W.Frag} {mg : Str → Option Value} {base : Heap} {t : Adr}
def trP (p : Int × Int) : Tr := .tp (lfs [.int p.1, .int p.2])
def trPL (ps : Prs) : Tr := .ls (ps.map trP)
def trWL (pss : List Prs) : Tr := .ls (pss.map trPL)
theorem pl_rows {H : Hp} : ∀ {ps : Prs} {vs : List V}, BtL H (ps.map trP) vs → Paired (RP H) vs ps
 | [], _, h => by cases h; exact .nil
 | p :: ps, _, h => by
  cases h with
  | cons a r =>
   cases a with
   | tp h q =>
    obtain ⟨e, _⟩ := BtL.lfs (l := [.int p.1, .int p.2]) q
    exact .cons ⟨_, rfl, by rw [← e]; exact h⟩ (pl_rows r)
theorem pl_bt {H : Hp} {ps : Prs} {v : V} (h : Bt H (trPL ps) v) : ∃ a, v = .ref a ∧ PL H a ps := by
 cases h with
 | ls h r => exact ⟨_, rfl, _, h, pl_rows r⟩
theorem wl_rows {H : Hp} : ∀ {pss : List Prs} {vs : List V}, BtL H (pss.map trPL) vs → Paired (fun v ps => ∃ b, v = .ref b ∧ PL H b ps) vs pss
 | [], _, h => by cases h; exact .nil
 | ps :: pss, _, h => by
  cases h with
  | cons a r => exact .cons (let ⟨b, e, q⟩ := pl_bt a; ⟨b, e, q⟩) (wl_rows r)
def dWL (pss : List Prs) : PySem.W.Dat := .list (pss.map dPL)
theorem dd_wl {H : Hp} {a : Addr} {xs : List V} {pss : List Prs} (e : H a = some (.lst xs)) (r : Paired (fun v ps => ∃ b, v = .ref b ∧ PL H b ps) xs pss) : TX.Dd K H (.ref a) (dWL pss) := by
 refine .lst (SqL.of e) (by rw [List.length_map]; exact r.length) fun i x d e1 e2 => ?_
 obtain ⟨l, e3, p, rfl, hp⟩ := Paired.at1 r e1
 rw [List.getElem?_map, e3] at e2
 cases e2
 exact PL.dd hp
theorem dd_bt {H : Hp} {pss : List Prs} {v : V} (h : Bt H (trWL pss) v) : TX.Dd K H v (dWL pss) := by
 cases h with
 | ls h r => exact dd_wl h (wl_rows r)
def ls6 : Ls := [[1, 2, 3, 4, 5], [0, 2, 3, 4, 5], [0, 1, 3, 4, 5], [0, 1, 2, 4, 5], [0, 1, 2, 3, 5], [0, 1, 2, 3, 4]]
theorem v6 : Valid ls6 := valid_of (by decide)
theorem v0 : Valid [[]] := valid_of (by decide)
theorem v00 : Valid (List.replicate 6 []) := valid_of (by decide)
theorem n6 : TN.steadyWays ls6 = [[(0, 1), (2, 3), (4, 5)]] := by decide +kernel
theorem n0 : TN.steadyWays [[]] = [[]] := by decide +kernel
theorem k6 : PySem.W.kqdOk 9 (dWL [[(0, 1), (2, 3), (4, 5)]]) = true := by decide +kernel
theorem k0 : PySem.W.kqdOk 9 (dWL [[]]) = true := by decide +kernel
def tOthers : TE := tComp [none, some 0] (iRng1 (tCons (tC (.int 6)) tNil)) (gName 0) (tTest (tOp rNe (tVar 0) (tVar 1))) (tVar 0)
abbrev scPart : Scope := { kind := .function, names := [(".0", .local), ("_law_camper", .cell), ("range", .globalImplicit)], isGenerator := false, isCoroutine := false }
theorem rng_succ (n : Nat) : rng (n + 1) = rng n ++ [(n : Int)] := by
 unfold rng
 rw [List.range_succ, List.map_append]
 rfl
theorem others {H : Hp} {σ : L2.St} {ta : TA} {ixs : List (Option Nat)} {n : Nat} {c : Int} {Q : VK} (hn : n ≤ 100) (hσ : subSt σ ixs = [none, some (.int c)]) (hta : ∀ R : List V → Hp → Prop, R [.int n] H → ta σ H R)
  (q : ∀ p, H p = none → Q (.ref p) (upd H p (.lst (((rng n).filter fun x => decide (x ≠ c)).map V.int)))) :
  tComp ixs (iRng1 ta) (gName 0) (tTest (tOp rNe (tVar 0) (tVar 1))) (tVar 0) σ H Q := by
 refine hta _ ⟨(n : Int), rfl, by omega, by omega, fun i m ys H1 => m = n - i ∧ i ≤ n ∧ ys = ((rng i).filter fun x => decide (x ≠ c)).map V.int ∧ H1 = H, ⟨_, rfl, Nat.zero_le _, rfl, rfl⟩, ?_⟩
 rintro i m ys H1 ⟨rfl, hi, rfl, rfl⟩
 by_cases hlt : i < n
 ·refine .inr ⟨hlt, small1000 ?_, fun x H' y => ?_⟩
  ·rw [List.length_map]
   refine Nat.le_trans (List.length_filter_le _ _) ?_
   rw [rng_length]
   omega
  ·obtain ⟨rfl, rfl⟩ := y
   rw [hσ]
   refine ⟨Kps.own, _, rfl, _, rfl, rfl, _, rfl, ?_⟩
   rw [dec_V]
   have e : ((rng (i + 1)).filter fun x => decide (x ≠ c)).map V.int = ((rng i).filter fun x => decide (x ≠ c)).map V.int ++ (if decide ((i : Int) ≠ c) = true then [V.int (i : Int)] else []) := by
    rw [rng_succ, List.filter_append, List.map_append, List.filter_cons, List.filter_nil]
    split <;> rfl
   have e0 : (0 : Int) + (i : Int) = (i : Int) := by omega
   rw [e0]
   refine iteB (fun h => ?_) (fun h => ?_)
   ·refine ⟨_, rfl, n - (i + 1), by omega, rfl, hlt, ?_, rfl⟩
    rw [e, if_pos (by simpa using h)]
   ·refine ⟨n - (i + 1), by omega, rfl, hlt, ?_, rfl⟩
    rw [e, if_neg (by simpa using h), List.append_nil]
 ·have e : i = n := by omega
  subst e
  exact .inl ⟨Nat.le_refl _, q⟩
theorem rowsR {H : Hp} {σ : L2.St} {ta : TA} {te : TE} {ixs : List (Option Nat)} {rest : L2.St} {n : Nat} {g : Nat → List Int} {Q : VK} (hn : n ≤ 100) (hσ : subSt σ ixs = none :: rest) (hta : ∀ R : List V → Hp → Prop, R [.int n] H → ta σ H R)
  (hte : ∀ k : Nat, k < n → ∀ (H1 : Hp) (R : VK), (∀ p, H1 p = none → R (.ref p) (upd H1 p (.lst ((g k).map V.int)))) → te (some (.int (0 + (k : Int))) :: rest) H1 R) (q : ∀ c H', Same H H' → LL H' c ((List.range n).map g) → Q (.ref c) H') :
  tComp ixs (iRng1 ta) (gName 0) tYes te σ H Q := by
 refine hta _ ⟨(n : Int), rfl, by omega, by omega, fun i m ys H1 => m = n - i ∧ i ≤ n ∧ Same H H1 ∧ Paired (RI H1) ys ((List.range i).map g), ⟨_, rfl, Nat.zero_le _, Same.refl H, .nil⟩, ?_⟩
 rintro i m ys H1 ⟨rfl, hi, s1, ry⟩
 have hyl := ry.length
 rw [List.length_map, List.length_range] at hyl
 by_cases hlt : i < n
 ·refine .inr ⟨hlt, small1000 (by omega), fun x H' y => ?_⟩
  obtain ⟨rfl, rfl⟩ := y
  rw [hσ]
  refine ⟨Kps.own, ?_⟩
  refine yes_if (hte i hlt _ _ fun p hp => ⟨n - (i + 1), by omega, rfl, hlt, TX.Same.upd s1 (s1.free hp), ?_⟩)
  rw [List.range_succ, List.map_append]
  exact Paired.app (Paired.impl (fun v l ⟨b, e, h⟩ => ⟨b, e, TX.upd_old h hp⟩) ry) (.cons ⟨p, rfl, upd_same⟩ .nil)
 ·have e : i = n := by omega
  subst e
  exact .inl ⟨Nat.le_refl _, fun p hp => q p _ (TX.Same.upd s1 (s1.free hp)) ⟨_, upd_same, Paired.impl (fun v l ⟨b, e, h⟩ => ⟨b, e, TX.upd_old h hp⟩) ry⟩⟩
end
end Tp
namespace Tp
open PySem PySem.Spec PyProof.Rows L2 TX TM TK
seal PySem.Sem.wp
section
variable {P : Program} {w : World} {K : PySem.W.Frag} {mg : Str → Option Value} {base : Heap} {t : Adr}
def spLaw (K : PySem.W.Frag) : Sp := fun vs H Q _ => ∃ (a : Addr) (ns : List Int), vs = [.ref a] ∧ SqL K H a (ns.map V.int) ∧ ns.length ≤ 63 ∧ ∀ H', Q (.bl true) H'
theorem cat_of {te : TE} {i : Nat} {l : Addr} {vs : List V} {xs ys : List Tr} {σ : L2.St} {H : Hp} {Q : VK} (hv : σ[i]? = some (some (.ref l))) (hl : H l = some (.lst vs)) (b : BtL H xs vs) (h : Rd σ te (.ls ys)) (hz : xs.length + ys.length ≤ 100)
  (q : ∀ p us H', Same H H' → H' p = some (.lst us) → BtL H' (xs ++ ys) us → Q (.ref p) H') : tOp rCat (tVar i) te σ H Q := by
 refine ⟨_, hv, h H _ fun v H1 s1 b1 => ?_⟩
 cases b1 with
 | @ls _ a zs ha r =>
  refine ⟨l, a, vs, zs, rfl, rfl, s1 _ _ hl, ha, ?_, fun p hp => ?_⟩
  ·rw [b.length, r.length]
   exact Nat.le_trans hz (by decide)
  ·have s2 := TX.Same.upd (o := .lst (vs ++ zs)) s1 (s1.free hp)
   exact q p _ _ s2 upd_same (BtL.app (b.same s2) (r.same (TX.Same.upd (Same.refl _) hp)))
theorem set_of {i : Nat} {te : TE} {D : Ends} {σ : L2.St} {H : Hp} (h : te σ H fun x H1 => D.nx (σ.set i (some x)) H1) : tAsg te (gName i) D σ H := h
abbrev ForW (K : PySem.W.Frag) (a : Addr) (g : TG) (tb : TS) (D : Ends) (σ : L2.St) (H : Hp) : Prop := ∃ W : Nat → Nat → L2.St → Hp → Prop, (∃ m, W 0 m σ H) ∧ ∀ i m σ H, W i m σ H →
 ((Itl K a).stop i H ∧ D.nx σ H) ∨ ((Itl K a).go i H ∧ ∃ N : L2.St → Hp → Prop, (∀ σ' H', N σ' H' → ∃ m', m' < m ∧ W (i + 1) m' σ' H') ∧ ∀ x H', (Itl K a).yld i H x H' → g x σ H' fun σ2 H2 => tb { D with nx := N, ct := N, bk := D.nx } σ2 H2)
theorem forCat {te : TE} {i : Nat} {l : Addr} {vs : List V} {xs ys : List Tr} {σ : L2.St} {H : Hp} {g : TG} {tb : TS} {D : Ends} (hv : σ[i]? = some (some (.ref l))) (hl : H l = some (.lst vs)) (b : BtL H xs vs) (h : Rd σ te (.ls ys)) (hz : xs.length + ys.length ≤ 100)
  (q : ∀ p us H', Same H H' → H' p = some (.lst us) → BtL H' (xs ++ ys) us → ForW K p g tb D σ H') : tFor (iList K (tOp rCat (tVar i) te)) g tb D σ H :=
 cat_of hv hl b h hz fun p us H' s e r => ⟨p, rfl, ⟨_, SqL.of e⟩, q p us H' s e r⟩
theorem forVar {i : Nat} {l : Addr} {vs : List V} {σ : L2.St} {H : Hp} {g : TG} {tb : TS} {D : Ends} (hv : σ[i]? = some (some (.ref l))) (hl : H l = some (.lst vs)) (q : ForW K l g tb D σ H) : tFor (iList K (tVar i)) g tb D σ H := ⟨_, hv, l, rfl, ⟨_, SqL.of hl⟩, q⟩
theorem forRd {te : TE} {ys : List Tr} {σ : L2.St} {H : Hp} {g : TG} {tb : TS} {D : Ends} (h : Rd σ te (.ls ys)) (q : ∀ p us H', Same H H' → H' p = some (.lst us) → BtL H' ys us → ForW K p g tb D σ H') : tFor (iList K te) g tb D σ H :=
 h H _ fun v H1 s b => by
  cases b with
  | ls h r => exact ⟨_, rfl, ⟨_, SqL.of h⟩, q _ _ _ s h r⟩
theorem made_campV {C : Addr} {i : Nat} {a : Addr} {H : Hp} {ls : Ls} {Q : VK} {E : XK} {σ : L2.St} (hv : σ[i]? = some (some (.ref a))) (hL : LL H a ls) (hV : Valid ls) (fin : ∀ x H', Same H H' → CampAt C H' x ls → Q (.ref x) H') :
  tMake C (spInit C) [] E (tCons (tVar i) tNil) σ H Q := ⟨_, hv, make_camp hL hV fun x H' _ s h => fin x H' s h⟩
theorem wl_dd {H H' : Hp} {q : Addr} {pss : List Prs} (h : WL H q pss) (s : Same H H') : TX.Dd K H' (.ref q) (dWL pss) := by
 obtain ⟨xs, hq, r⟩ := h
 exact dd_wl (s _ _ hq) (Paired.impl (fun v p => mRPL _ _ v p s) r)
theorem made_size {te : TE} {ls : Ls} {σ : L2.St} {H : Hp} {Q : VK} {E : XK} (T : Txt K mg t) (h : ∀ R : VK, (∀ c H', Same H H' → LL H' c ls → R (.ref c) H') → te σ H R) (hV : Valid ls) (q : ∀ H', Q (.int (ls.length : Int)) H') : tFld K (tMake t.C (spInit t.C) [] E (tCons te tNil)) "size" σ H Q := by
 refine h _ fun c H1 s1 hL => ?_
 refine make_camp (Q := fun v H2 => ∃ a C dx fs u, v = .ref a ∧ H2 a = some (.ins C dx fs) ∧ Cls K C ∧ NoAttr K C ("size" : Str) ∧ fs.lookup ("size" : Str) = some u ∧ Q u H2) hL hV fun x H' _ s hC => ?_
 obtain ⟨dx, la, hp, _⟩ := hC
 exact ⟨x, t.C, dx, _, _, rfl, hp, T.cl, T.n_size, flds_size _ _, q _⟩
def KQ1 (Q : VK) : TS := fun D σ H => D.rt = Q ∧ ∃ (m : Int) (v0 v2 v3 : Option V), σ = [v0, some (.int m), v2, v3, none, none] ∧ 0 ≤ m
def KQ2 (Q : VK) : TS := fun D σ H => D.rt = Q ∧ ∃ (m : Int) (v0 v2 v3 v4 : Option V), σ = [v0, some (.int m), v2, v3, v4, none] ∧ 0 ≤ m
def KQ3 (Q : VK) : TS := fun D σ H => D.rt = Q ∧ ∃ v0 v1 v2 v3 v4 : Option V, σ = [v0, v1, v2, v3, v4, none]
theorem e6 : ((List.range 6).map fun (k : Nat) => (rng 6).filter fun x => decide (x ≠ 0 + (k : Int))) = ls6 := by decide
theorem str_ne {x : Str} : (!decide (V.str x = V.str x)) = false := by simp
theorem int_eq {x : Int} : decide (V.int x = V.int x) = true := by simp
set_option maxHeartbeats 8000000 in
theorem ok_law (T : Txt K mg t) : FnOk P w K mg base CX0 23 t.law t.fd_law ["_law_script"] (spLaw K) := by
 have S := sc_law
 have G_law_cell_at := ok_cell (P := P) (w := w) (base := base) T
 have G_law_asked := ok_asked (P := P) (w := w) (base := base) T
 have G_Camp := ok_init (P := P) (w := w) (base := base) T
 have G_all_steady := ok_all_steady (P := P) (w := w) (base := base) T
 have G_breaking := ok_breaking (P := P) (w := w) (base := base) T
 refine T.law.fn.ok S (fun vs H Q E h => ?_) (fun cdv A outer s H vs Q E hr h => ?_)
 ·obtain ⟨a, ns, rfl, _⟩ := h; rfl
 ·obtain ⟨a, ns, rfl, hS, hlen, fin⟩ := h
  have hu64 := hr.units
  obtain ⟨M1, eM1⟩ : ∃ M : TS, M = KQ1 Q := ⟨_, rfl⟩
  obtain ⟨M2, eM2⟩ : ∃ M : TS, M = KQ2 Q := ⟨_, rfl⟩
  obtain ⟨M3, eM3⟩ : ∃ M : TS, M = KQ3 Q := ⟨_, rfl⟩
  refine ⟨_, (pss_cons (ps_set (i := 1) S.nd rfl (by first | exact Or.inl rfl | exact Or.inr rfl) (pe_op op_mod (pe_call (k := 22) (G_law_cell_at.mono (by decide)) hr (by rfl) T.law_cell_at.mg T.law_cell_at.fn.kp T.law_cell_at.b .nil pass0 (pa_cons (pv 0) (pa_cons pe_int pa_nil))) pe_int))
   (pss_cons (ps_set (i := 2) S.nd rfl (by first | exact Or.inl rfl | exact Or.inr rfl) (TX.ExT.pe (.ls (.cons .non (.cons (.ls .nil) (.cons (.tp (.cons (.ls (.cons .int .nil)) (.cons (.ls (.cons .int .nil)) .nil))) (.cons .str (.cons .int (.cons (.ls (.cons .int (.cons .int .nil))) (.cons (.ls (.cons (.ls (.cons .int .nil)) (.cons (.tp (.cons .int .nil)) .nil))) (.cons (.ls (.cons (.ls (.cons .int .nil)) (.cons .non .nil))) (.cons (.ls (.cons (.ls (.cons (.bin (pe_op op_add pe_int (pv 1))) .nil)) (.cons (.ls (.cons .int .nil)) .nil))) (.cons (.ls (.cons (.ls (.cons .int .nil)) (.cons (.ls (.cons .int .nil)) .nil))) .nil)))))))))))))
   (pss_cons (ps_set (i := 2) S.nd rfl (by first | exact Or.inl rfl | exact Or.inr rfl) (pe_op op_cat (pv 2) (TX.ExT.pe (.ls (.cons (.ls (.cons (.ls (.cons (.bin (pe_op op_sub (pe_un un_neg pe_int) (pv 1))) .nil)) (.cons (.ls (.cons .int .nil)) .nil))) (.cons (.ls (.cons (.ls (.cons .bl .nil)) (.cons (.ls (.cons .int .nil)) .nil))) (.cons (.ls (.cons (.ls (.cons .str .nil)) (.cons (.ls (.cons .int .nil)) .nil))) (.cons (.ls (.cons (.ls (.cons .int .nil)) (.cons (.ls (.cons .int .nil)) .nil))) (.cons (.ls (.cons (.ls (.cons .int (.cons .int .nil))) (.cons (.ls (.cons .int .nil)) .nil))) (.cons (.ls (.cons (.ls (.cons .int .nil)) (.cons (.ls (.cons .int .nil)) .nil))) (.cons (.bin (pe_op op_rep (TX.ExT.pe (.ls (.cons (.ls .nil) .nil))) pe_int)) .nil)))))))))))
   (pss_cons (ps_for PassesOwn.never rfl (pi_list (pe_op op_cat (pv 2) (TX.ExT.pe (.ls (.cons (.ls (.cons (.ls (.cons .non .nil)) (.cons (.ls (.cons .int .nil)) .nil))) .nil))))) (pg_name (i := 3) S.nd rfl (by first | exact Or.inl rfl | exact Or.inr rfl)) (pss_one (ps_if (pt_cmpR op_ne (pe_call (k := 22) G_law_asked hr (by rfl) T.law_asked.mg T.law_asked.fn.kp T.law_asked.b .nil pass0 (pa_cons pe_int (pa_cons (pv 3) pa_nil))) pe_str (nomark _)) (pss_one (ps_ret pe_bl)) pss_nil)))
   (TX.cut (M := M1) (pss_cons (ps_set (i := 4) S.nd rfl (by first | exact Or.inl rfl | exact Or.inr rfl) (TX.ExT.pe (.ls (.cons .non (.cons (.tp (.cons (.tp (.cons .int (.cons .int .nil))) .nil)) (.cons .str (.cons .int (.cons (.ls (.cons .int .nil)) (.cons (.ls (.cons (.tp (.cons .int .nil)) .nil)) (.cons (.ls (.cons (.tp (.cons .int (.cons .int (.cons .int .nil)))) .nil)) (.cons (.ls (.cons (.ls (.cons .int (.cons .int .nil))) .nil)) (.cons (.ls (.cons (.tp (.cons .int (.cons (.bin (pe_op op_add pe_int (pv 1))) .nil))) .nil)) (.cons (.ls (.cons (.tp (.cons (.bin (pe_op op_sub (pe_un un_neg pe_int) (pv 1))) (.cons .int .nil))) .nil)) .nil)))))))))))))
   (pss_cons (ps_set (i := 4) S.nd rfl (by first | exact Or.inl rfl | exact Or.inr rfl) (pe_op op_cat (pv 4) (TX.ExT.pe (.ls (.cons (.ls (.cons (.tp (.cons .int (.cons .bl .nil))) .nil)) (.cons (.ls (.cons (.tp (.cons .str (.cons .int .nil))) .nil)) (.cons (.ls (.cons (.tp (.cons .int (.cons .int .nil))) .nil)) (.cons (.ls (.cons (.tp (.cons .int (.cons .int .nil))) .nil)) (.cons (.ls (.cons (.tp (.cons .int (.cons .int .nil))) (.cons (.tp (.cons .int (.cons .int .nil))) .nil))) (.cons (.ls (.cons (.tp (.cons .int (.cons .int .nil))) (.cons (.tp (.cons .int (.cons .int .nil))) .nil))) (.cons (.ls (.cons (.tp (.cons .int (.cons .int .nil))) .nil)) .nil)))))))))))
   (pss_cons (ps_for PassesOwn.never rfl (pi_list (pv 4)) (pg_name (i := 3) S.nd rfl (by first | exact Or.inl rfl | exact Or.inr rfl)) (pss_one (ps_if (pt_cmpR op_ne (pe_call (k := 22) G_law_asked hr (by rfl) T.law_asked.mg T.law_asked.fn.kp T.law_asked.b .nil pass0 (pa_cons pe_int (pa_cons (pv 3) pa_nil))) pe_str (nomark _)) (pss_one (ps_ret pe_bl)) pss_nil)))
   (TX.cut (M := M2) (pss_cons (ps_for PassesOwn.never rfl (pi_list (TX.ExT.pe (.ls (.cons .int (.cons (.bin (pe_op op_add pe_int (pv 1))) (.cons (.bin (pe_op op_sub (pe_un un_neg pe_int) (pv 1))) (.cons .bl (.cons .str (.cons .non .nil))))))))) (pg_name (i := 3) S.nd rfl (by first | exact Or.inl rfl | exact Or.inr rfl)) (pss_one (ps_if (pw_or (pt_cmpR op_ne (pe_call (k := 22) G_law_asked hr (by rfl) T.law_asked.mg T.law_asked.fn.kp T.law_asked.b .nil pass0 (pa_cons pe_int (pa_cons (pv 3) pa_nil))) pe_str (nomark _)) (pw_or1 (pt_cmpR op_ne (pe_call (k := 22) G_law_asked hr (by rfl) T.law_asked.mg T.law_asked.fn.kp T.law_asked.b .nil pass0 (pa_cons pe_int (pa_cons (pv 3) pa_nil))) pe_str (nomark _)))).pt (pss_one (ps_ret pe_bl)) pss_nil)))
   (pss_cons (ps_if (pw_or (pt_cmpR op_ne (pe_call (k := 22) G_law_asked hr (by rfl) T.law_asked.mg T.law_asked.fn.kp T.law_asked.b .nil pass0 (pa_cons pe_int (pa_cons pe_int pa_nil))) pe_str (nomark _)) (pw_or (pt_cmpR (TX.op_neD hu64) (pe_call (k := 22) (G_all_steady.mono (by decide)) hr (by rfl) T.all_steady.mg T.all_steady.fn.kp T.all_steady.b .nil pass0 (pa_cons (pe_make (k := 21) T.mk_Camp (G_Camp.mono (by decide)) hr (by rfl) T.mg_Camp T.Camp___init__.b .nil pass0 (pa_cons (TX.ExT.pe (.ls (.cons (.ls .nil) .nil))) pa_nil)) pa_nil)) (TX.ExT.pe (.ls (.cons (.ls .nil) .nil))) (nomark _)) (pw_or1 (pt_cmpR (TX.op_neD hu64) (pe_call (k := 22) (G_breaking.mono (by decide)) hr (by rfl) T.breaking.mg T.breaking.fn.kp T.breaking.b .nil pass0 (pa_cons (pe_make (k := 21) T.mk_Camp (G_Camp.mono (by decide)) hr (by rfl) T.mg_Camp T.Camp___init__.b .nil pass0 (pa_cons (TX.ExT.pe (.ls (.cons (.ls .nil) .nil))) pa_nil)) (pa_cons (TX.ExT.pe (.ls .nil)) pa_nil))) (TX.ExT.pe (.ls .nil)) (nomark _))))).pt (pss_one (ps_ret pe_bl)) pss_nil)
   (TX.cut (M := M3) (pss_cons (TX.ps_setO (y0 := "_law_camper") (te := tOthers) S.nd (j := 5) rfl (by first | exact Or.inl rfl | exact Or.inr rfl) rfl (pi_range1 rfl T.b_range (pa_cons pe_int pa_nil)) (fun _ _ _ _ _ => (pg_name (i := 0) (show (["_law_camper"] : List Str).Nodup by decide +kernel) rfl (by first | exact Or.inl rfl | exact Or.inr rfl))) (fun _ _ _ _ _ => TX.pts_nil) (fun _ _ _ _ _ => (TX.pe_comp (te := tVar 0) (tc := tTest (tOp rNe (tVar 0) (tVar 1))) ["_law_one", "_law_camper"] [none, some 0] rfl (pi_range1 rfl T.b_range (pa_cons pe_int pa_nil)) (fun _ _ _ _ _ => (pg_name (i := 0) (show (["_law_one", "_law_camper"] : List Str).Nodup by decide +kernel) rfl (by first | exact Or.inl rfl | exact Or.inr rfl))) (fun _ _ _ _ _ => (TX.pts_one (pt_cmpR op_ne (pv 0) (pv 1) (nomark _)))) (fun _ _ _ _ _ => (pv 0)) rfl (by decide +kernel) (by decide +kernel) (No := ["_law_camper"]) (sc := scPart) rfl rfl (by decide +kernel) rfl (by decide +kernel))) rfl (by decide +kernel) (by decide +kernel) (by decide +kernel) rfl (fun _ => rfl) (fun _ => rfl))
   (pss_one (ps_ret (pe_and (pe_cmpR (TX.op_eqD hu64) (pe_call (k := 22) (G_all_steady.mono (by decide)) hr (by rfl) T.all_steady.mg T.all_steady.fn.kp T.all_steady.b .nil pass0 (pa_cons (pe_make (k := 21) T.mk_Camp (G_Camp.mono (by decide)) hr (by rfl) T.mg_Camp T.Camp___init__.b .nil pass0 (pa_cons (pv 5) pa_nil)) pa_nil)) (TX.ExT.pe (.ls (.cons (.ls (.cons (.tp (.cons .int (.cons .int .nil))) (.cons (.tp (.cons .int (.cons .int .nil))) (.cons (.tp (.cons .int (.cons .int .nil))) .nil)))) .nil))) (nomark _)) (pe_one (pe_cmpR op_eq (pe_fld (pe_make (k := 21) T.mk_Camp (G_Camp.mono (by decide)) hr (by rfl) T.mg_Camp T.Camp___init__.b .nil pass0 (pa_cons (TX.pe_comp (te := tLst tNil) ["_law_camper"] [none] rfl (pi_range1 rfl T.b_range (pa_cons pe_int pa_nil)) (fun _ _ _ _ _ => (pg_name (i := 0) (show (["_law_camper"] : List Str).Nodup by decide +kernel) rfl (by first | exact Or.inl rfl | exact Or.inr rfl))) (fun _ _ _ _ _ => TX.pts_nil) (fun _ _ _ _ _ => (pe_lst pa_nil)) rfl (by decide +kernel) (by decide +kernel) (No := ["_law_script", "_law_more", "_law_lists", "_law_thing", "_law_pairs", "_law_whole"]) (sc := defScope s_law) rfl rfl (by decide +kernel) rfl (by decide +kernel)) pa_nil)) rfl) pe_int (nomark _))))))) ?c3))) ?c2)))) ?c1))))), ?_⟩
  case c1 =>
   intro D σ H h
   subst eM1
   obtain ⟨hD, m, u0, u2, u3, rfl, hm0⟩ := h
   have hm : ([u0, some (.int m), u2, u3, none, none] : L2.St)[1]? = some (some (.int m)) := rfl
   have rd1 : Rd [u0, some (.int m), u2, u3, none, none] _ (.ls (P1 m)) := (rd_lst (rda_cons (rd_c .non) (rda_cons (rd_tup (rda_cons (rd_tup (rda_cons (rd_c (.int _)) (rda_cons (rd_c (.int _)) rda_nil)) (Nat.le_of_ble_eq_true rfl)) rda_nil) (Nat.le_of_ble_eq_true rfl)) (rda_cons (rd_c (.str _)) (rda_cons (rd_c (.int _)) (rda_cons (rd_lst (rda_cons (rd_c (.int _)) rda_nil) (Nat.le_of_ble_eq_true rfl)) (rda_cons (rd_lst (rda_cons (rd_tup (rda_cons (rd_c (.int _)) rda_nil) (Nat.le_of_ble_eq_true rfl)) rda_nil) (Nat.le_of_ble_eq_true rfl)) (rda_cons (rd_lst (rda_cons (rd_tup (rda_cons (rd_c (.int _)) (rda_cons (rd_c (.int _)) (rda_cons (rd_c (.int _)) rda_nil))) (Nat.le_of_ble_eq_true rfl)) rda_nil) (Nat.le_of_ble_eq_true rfl)) (rda_cons (rd_lst (rda_cons (rd_lst (rda_cons (rd_c (.int _)) (rda_cons (rd_c (.int _)) rda_nil)) (Nat.le_of_ble_eq_true rfl)) rda_nil) (Nat.le_of_ble_eq_true rfl)) (rda_cons (rd_lst (rda_cons (rd_tup (rda_cons (rd_c (.int _)) (rda_cons (rd_add hm) rda_nil)) (Nat.le_of_ble_eq_true rfl)) rda_nil) (Nat.le_of_ble_eq_true rfl)) (rda_cons (rd_lst (rda_cons (rd_tup (rda_cons (rd_sub hm) (rda_cons (rd_c (.int _)) rda_nil)) (Nat.le_of_ble_eq_true rfl)) rda_nil) (Nat.le_of_ble_eq_true rfl)) rda_nil)))))))))) (Nat.le_of_ble_eq_true rfl))
   refine tSeq_of (set_of (rd1 H _ fun v H1 s1 q1 => ?_))
   cases q1 with
   | @ls _ l1 us1 h1 r1 =>
    have rd2 : Rd [u0, some (.int m), u2, u3, some (.ref l1), none] _ (.ls P2) := (rd_lst (rda_cons (rd_lst (rda_cons (rd_tup (rda_cons (rd_c (.int _)) (rda_cons (rd_c (.bl _)) rda_nil)) (Nat.le_of_ble_eq_true rfl)) rda_nil) (Nat.le_of_ble_eq_true rfl)) (rda_cons (rd_lst (rda_cons (rd_tup (rda_cons (rd_c (.str _)) (rda_cons (rd_c (.int _)) rda_nil)) (Nat.le_of_ble_eq_true rfl)) rda_nil) (Nat.le_of_ble_eq_true rfl)) (rda_cons (rd_lst (rda_cons (rd_tup (rda_cons (rd_c (.int _)) (rda_cons (rd_c (.int _)) rda_nil)) (Nat.le_of_ble_eq_true rfl)) rda_nil) (Nat.le_of_ble_eq_true rfl)) (rda_cons (rd_lst (rda_cons (rd_tup (rda_cons (rd_c (.int _)) (rda_cons (rd_c (.int _)) rda_nil)) (Nat.le_of_ble_eq_true rfl)) rda_nil) (Nat.le_of_ble_eq_true rfl)) (rda_cons (rd_lst (rda_cons (rd_tup (rda_cons (rd_c (.int _)) (rda_cons (rd_c (.int _)) rda_nil)) (Nat.le_of_ble_eq_true rfl)) (rda_cons (rd_tup (rda_cons (rd_c (.int _)) (rda_cons (rd_c (.int _)) rda_nil)) (Nat.le_of_ble_eq_true rfl)) rda_nil)) (Nat.le_of_ble_eq_true rfl)) (rda_cons (rd_lst (rda_cons (rd_tup (rda_cons (rd_c (.int _)) (rda_cons (rd_c (.int _)) rda_nil)) (Nat.le_of_ble_eq_true rfl)) (rda_cons (rd_tup (rda_cons (rd_c (.int _)) (rda_cons (rd_c (.int _)) rda_nil)) (Nat.le_of_ble_eq_true rfl)) rda_nil)) (Nat.le_of_ble_eq_true rfl)) (rda_cons (rd_lst (rda_cons (rd_tup (rda_cons (rd_c (.int _)) (rda_cons (rd_c (.int _)) rda_nil)) (Nat.le_of_ble_eq_true rfl)) rda_nil) (Nat.le_of_ble_eq_true rfl)) rda_nil))))))) (Nat.le_of_ble_eq_true rfl))
    refine tSeq_of (set_of (cat_of rfl h1 r1 rd2 (Nat.le_of_ble_eq_true rfl) fun p us H2 s2 hp2 q2 => ?_))
    refine tSeq_of (forVar rfl hp2 (for_list (K := K) (a := p) (xs := us) (fun i σ H4 => ∃ v, σ = [u0, some (.int m), u2, v, some (.ref p), none] ∧ Same H2 H4) ⟨_, rfl, Same.refl _⟩ (fun i σ H4 _ ⟨_, _, s⟩ => SqL.of (s _ _ hp2)) ?_ ?_))
    ·rintro i x σ H4 hx ⟨v, rfl, s4⟩
     obtain ⟨y, hy, bt⟩ := q2.at hx
     have hB := AllB.mem (AllB.app (b1 (K := K) hm0) b2) (List.mem_of_getElem? hy) _ _ (bt.same s4)
     exact ⟨_, rfl, 1, x, "pairs", rfl, .pairs hB, fun H5 s5 => ⟨rfl, _, rfl, iteFalse str_ne ⟨_, rfl, s4.trans s5⟩⟩⟩
    ·rintro σ H4 ⟨v, rfl, s4⟩
     subst eM2
     exact ⟨hD, m, _, _, _, _, rfl, hm0⟩
  case c2 =>
   intro D σ H h
   subst eM2
   obtain ⟨hD, m, u0, u2, u3, u4, rfl, hm0⟩ := h
   have hm : ([u0, some (.int m), u2, u3, u4, none] : L2.St)[1]? = some (some (.int m)) := rfl
   have rd1 : Rd [u0, some (.int m), u2, u3, u4, none] _ (.ls (C1 m)) := (rd_lst (rda_cons (rd_c (.int _)) (rda_cons (rd_add hm) (rda_cons (rd_sub hm) (rda_cons (rd_c (.bl _)) (rda_cons (rd_c (.str _)) (rda_cons (rd_c .non) rda_nil)))))) (Nat.le_of_ble_eq_true rfl))
   refine tSeq_of (forRd rd1 fun p us H2 s2 hp2 q2 => for_list (K := K) (a := p) (xs := us) (fun i σ H4 => ∃ v, σ = [u0, some (.int m), u2, v, u4, none] ∧ Same H2 H4) ⟨_, rfl, Same.refl _⟩ (fun i σ H4 _ ⟨_, _, s⟩ => SqL.of (s _ _ hp2)) ?_ ?_)
   ·rintro i x σ H4 hx ⟨v, rfl, s4⟩
    obtain ⟨y, hy, bt⟩ := q2.at hx
    obtain ⟨hs, hn⟩ := AllB.mem (c1 hm0) (List.mem_of_getElem? hy) _ _ bt
    exact ⟨_, rfl, 2, x, "camper", rfl, .camper2 hs hn, fun H5 s5 => ⟨rfl, _, rfl, iteFalse str_ne ⟨_, rfl, 3, x, "camper", rfl, .camper3 hs hn, fun H6 s6 => ⟨rfl, _, rfl, iteFalse str_ne ⟨_, rfl, s4.trans (s5.trans s6)⟩⟩⟩⟩⟩
   ·rintro σ H4 ⟨v, rfl, s4⟩
    dsimp only
    refine tSeq_of ?_
    refine tIfS_of ?_
    refine ⟨3, .int 0, "none", rfl, .none, fun H5 s5 => ⟨rfl, _, rfl, iteFalse str_ne ?_⟩⟩
    have rdC : Rd [u0, some (.int m), u2, v, u4, none] _ (trLL [[]]) := rd_lst (rda_cons (rd_lst rda_nil (by simp)) rda_nil) (by simp)
    have rdW : Rd [u0, some (.int m), u2, v, u4, none] _ (trWL [[]]) := rd_lst (rda_cons (rd_lst rda_nil (by simp)) rda_nil) (by simp)
    refine tTest_of (tOp_of (tCall_of (tCons_of (made_camp rdC v0 fun x H6 s6 hC => ?_))))
    refine ⟨x, [[]], rfl, hC, v0, fun q pss H7 hq s7 hpm hpw hW => rdW H7 _ fun y H8 s8 q8 => ?_⟩
    rw [n0] at hpm
    obtain rfl := List.perm_singleton.mp hpm
    refine ⟨_, _, wl_dd hW s8, dd_bt q8, k0, k0, fun _ => ⟨_, rfl, iteF ?_⟩, fun h => absurd rfl h⟩
    refine tTest_of (tOp_of (tCall_of (tCons_of (made_camp rdC v0 fun x2 H9 s9 hC2 => ⟨Nat.zero_le _, fun e he => ?_⟩))))
    have s10 : Same H9 (upd H9 e (.lst [])) := TX.Same.upd (Same.refl _) he
    refine ⟨x2, e, [[]], [], rfl, hC2.same s10, v0, ⟨[], upd_same, .nil⟩, Pairs.nil _, Nat.zero_le _, fun q2 H11 _ s11 hB => ⟨Nat.zero_le _, fun e2 he2 => ?_⟩⟩
    have hB2 := Of.same mP hB (TX.Same.upd (o := .lst []) (Same.refl _) he2)
    refine ⟨_, _, PL.dd hB2, dd_nil upd_same, ok_dPL _, ok_nilD, fun _ => ⟨_, rfl, iteF ?_⟩, fun h => absurd (dPL_nil.mpr (by decide +kernel)) h⟩
    subst eM3
    exact ⟨hD, _, _, _, _, _, rfl⟩
  case c3 =>
   intro D σ H h
   subst eM3
   obtain ⟨hD, u0, u1, u2, u3, u4, rfl⟩ := h
   refine tSeq_of (tSetC_of (rowsR (n := 6) (rest := []) (g := fun k => (rng 6).filter fun x => decide (x ≠ 0 + (k : Int))) (by decide) rfl (fun R z => z) (fun k hk H1 R q => others (n := 6) (c := 0 + (k : Int)) (by decide) rfl (fun R z => z) q) fun c H1 s1 hL => ?_))
   rw [e6] at hL
   dsimp only
   refine tRet_of ?_
   rw [hD]
   have rdW : Rd [u0, u1, u2, u3, u4, some (.ref c)] _ (trWL [[(0, 1), (2, 3), (4, 5)]]) := (rd_lst (rda_cons (rd_lst (rda_cons (rd_tup (rda_cons (rd_c (.int _)) (rda_cons (rd_c (.int _)) rda_nil)) (Nat.le_of_ble_eq_true rfl)) (rda_cons (rd_tup (rda_cons (rd_c (.int _)) (rda_cons (rd_c (.int _)) rda_nil)) (Nat.le_of_ble_eq_true rfl)) (rda_cons (rd_tup (rda_cons (rd_c (.int _)) (rda_cons (rd_c (.int _)) rda_nil)) (Nat.le_of_ble_eq_true rfl)) rda_nil))) (Nat.le_of_ble_eq_true rfl)) rda_nil) (Nat.le_of_ble_eq_true rfl))
   refine tOp_of (tCall_of (tCons_of (made_campV rfl hL v6 fun x H2 s2 hC => ?_)))
   refine ⟨x, ls6, rfl, hC, v6, fun q pss H3 hq s3 hpm hpw hW => rdW H3 _ fun y H4 s4 q4 => ?_⟩
   rw [n6] at hpm
   obtain rfl := List.perm_singleton.mp hpm
   refine ⟨_, _, wl_dd hW s4, dd_bt q4, k6, k6, fun _ => ⟨_, rfl, iteT ?_⟩, fun h => absurd rfl h⟩
   refine tOp_of (made_size (ls := List.replicate 6 []) T (fun R q => rowsR (n := 6) (rest := []) (g := fun _ => []) (by decide) rfl (fun R z => z) (fun k hk H5 R q => ⟨Nat.zero_le _, q⟩) q) v00 fun H6 => ⟨rfl, ?_⟩)
   rw [show decide (V.int ((List.replicate 6 ([] : List Int)).length : Int) = V.int 6) = true from int_eq]
   exact fin _
  refine ⟨_, rfl, a, ns, 0, rfl, hS, by decide, fun z => ⟨z, 1000000, rfl, rfl, (by show (0 : Int) < 1000000; decide), ?_⟩⟩
  refine gName_of ?_
  dsimp only
  have hm0 : (0 : Int) ≤ z % 1000000 := by omega
  generalize z % 1000000 = m at hm0 ⊢
  have hm : ([some (.ref a), some (.int m), none, none, none, none] : L2.St)[1]? = some (some (.int m)) := rfl
  have rd1 : Rd [some (.ref a), some (.int m), none, none, none, none] _ (.ls (T1 m)) := (rd_lst (rda_cons (rd_c .non) (rda_cons (rd_lst rda_nil (Nat.le_of_ble_eq_true rfl)) (rda_cons (rd_tup (rda_cons (rd_lst (rda_cons (rd_c (.int _)) rda_nil) (Nat.le_of_ble_eq_true rfl)) (rda_cons (rd_lst (rda_cons (rd_c (.int _)) rda_nil) (Nat.le_of_ble_eq_true rfl)) rda_nil)) (Nat.le_of_ble_eq_true rfl)) (rda_cons (rd_c (.str _)) (rda_cons (rd_c (.int _)) (rda_cons (rd_lst (rda_cons (rd_c (.int _)) (rda_cons (rd_c (.int _)) rda_nil)) (Nat.le_of_ble_eq_true rfl)) (rda_cons (rd_lst (rda_cons (rd_lst (rda_cons (rd_c (.int _)) rda_nil) (Nat.le_of_ble_eq_true rfl)) (rda_cons (rd_tup (rda_cons (rd_c (.int _)) rda_nil) (Nat.le_of_ble_eq_true rfl)) rda_nil)) (Nat.le_of_ble_eq_true rfl)) (rda_cons (rd_lst (rda_cons (rd_lst (rda_cons (rd_c (.int _)) rda_nil) (Nat.le_of_ble_eq_true rfl)) (rda_cons (rd_c .non) rda_nil)) (Nat.le_of_ble_eq_true rfl)) (rda_cons (rd_lst (rda_cons (rd_lst (rda_cons (rd_add hm) rda_nil) (Nat.le_of_ble_eq_true rfl)) (rda_cons (rd_lst (rda_cons (rd_c (.int _)) rda_nil) (Nat.le_of_ble_eq_true rfl)) rda_nil)) (Nat.le_of_ble_eq_true rfl)) (rda_cons (rd_lst (rda_cons (rd_lst (rda_cons (rd_c (.int _)) rda_nil) (Nat.le_of_ble_eq_true rfl)) (rda_cons (rd_lst (rda_cons (rd_c (.int _)) rda_nil) (Nat.le_of_ble_eq_true rfl)) rda_nil)) (Nat.le_of_ble_eq_true rfl)) rda_nil)))))))))) (Nat.le_of_ble_eq_true rfl))
  refine tSeq_of (set_of (rd1 H _ fun v H1 s1 q1 => ?_))
  cases q1 with
  | @ls _ l1 us1 h1 r1 =>
   have hm2 : ([some (.ref a), some (.int m), some (.ref l1), none, none, none] : L2.St)[1]? = some (some (.int m)) := rfl
   have rd2 : Rd [some (.ref a), some (.int m), some (.ref l1), none, none, none] _ (.ls (T2 m)) := have hm := hm2; (rd_lst (rda_cons (rd_lst (rda_cons (rd_lst (rda_cons (rd_sub hm) rda_nil) (Nat.le_of_ble_eq_true rfl)) (rda_cons (rd_lst (rda_cons (rd_c (.int _)) rda_nil) (Nat.le_of_ble_eq_true rfl)) rda_nil)) (Nat.le_of_ble_eq_true rfl)) (rda_cons (rd_lst (rda_cons (rd_lst (rda_cons (rd_c (.bl _)) rda_nil) (Nat.le_of_ble_eq_true rfl)) (rda_cons (rd_lst (rda_cons (rd_c (.int _)) rda_nil) (Nat.le_of_ble_eq_true rfl)) rda_nil)) (Nat.le_of_ble_eq_true rfl)) (rda_cons (rd_lst (rda_cons (rd_lst (rda_cons (rd_c (.str _)) rda_nil) (Nat.le_of_ble_eq_true rfl)) (rda_cons (rd_lst (rda_cons (rd_c (.int _)) rda_nil) (Nat.le_of_ble_eq_true rfl)) rda_nil)) (Nat.le_of_ble_eq_true rfl)) (rda_cons (rd_lst (rda_cons (rd_lst (rda_cons (rd_c (.int _)) rda_nil) (Nat.le_of_ble_eq_true rfl)) (rda_cons (rd_lst (rda_cons (rd_c (.int _)) rda_nil) (Nat.le_of_ble_eq_true rfl)) rda_nil)) (Nat.le_of_ble_eq_true rfl)) (rda_cons (rd_lst (rda_cons (rd_lst (rda_cons (rd_c (.int _)) (rda_cons (rd_c (.int _)) rda_nil)) (Nat.le_of_ble_eq_true rfl)) (rda_cons (rd_lst (rda_cons (rd_c (.int _)) rda_nil) (Nat.le_of_ble_eq_true rfl)) rda_nil)) (Nat.le_of_ble_eq_true rfl)) (rda_cons (rd_lst (rda_cons (rd_lst (rda_cons (rd_c (.int _)) rda_nil) (Nat.le_of_ble_eq_true rfl)) (rda_cons (rd_lst (rda_cons (rd_c (.int _)) rda_nil) (Nat.le_of_ble_eq_true rfl)) rda_nil)) (Nat.le_of_ble_eq_true rfl)) (rda_cons (rd_rep7 (rd_lst (rda_cons (rd_lst rda_nil (Nat.le_of_ble_eq_true rfl)) rda_nil) (Nat.le_of_ble_eq_true rfl))) rda_nil))))))) (Nat.le_of_ble_eq_true rfl))
   refine tSeq_of (set_of (cat_of rfl h1 r1 rd2 (Nat.le_of_ble_eq_true rfl) fun p us H2 s2 hp2 q2 => ?_))
   have rd3 : Rd [some (.ref a), some (.int m), some (.ref p), none, none, none] _ (.ls T3) := (rd_lst (rda_cons (rd_lst (rda_cons (rd_lst (rda_cons (rd_c .non) rda_nil) (Nat.le_of_ble_eq_true rfl)) (rda_cons (rd_lst (rda_cons (rd_c (.int _)) rda_nil) (Nat.le_of_ble_eq_true rfl)) rda_nil)) (Nat.le_of_ble_eq_true rfl)) rda_nil) (Nat.le_of_ble_eq_true rfl))
   refine tSeq_of (forCat rfl hp2 q2 rd3 (Nat.le_of_ble_eq_true rfl) fun f us3 H3 s3 hf q3 => for_list (K := K) (a := f) (xs := us3) (fun i σ H4 => ∃ v, σ = [some (.ref a), some (.int m), some (.ref p), v, none, none] ∧ Same H3 H4) ⟨_, rfl, Same.refl _⟩ (fun i σ H4 _ ⟨_, _, s⟩ => SqL.of (s _ _ hf)) ?_ ?_)
   ·rintro i x σ H4 hx ⟨v, rfl, s4⟩
    obtain ⟨y, hy, bt⟩ := q3.at hx
    have hB := AllB.mem (AllB.app (AllB.app (a1 (K := K) hm0) (a2 hm0)) a3) (List.mem_of_getElem? hy) _ _ (bt.same s4)
    exact ⟨_, rfl, 0, x, "camp", rfl, .camp hB, fun H5 s5 => ⟨rfl, _, rfl, iteFalse str_ne ⟨_, rfl, s4.trans s5⟩⟩⟩
   ·rintro σ H4 ⟨v, rfl, s4⟩
    subst eM1
    exact ⟨rfl, m, _, _, _, rfl, hm0⟩
end
end Tp
namespace Tp
open PySem PySem.Spec PyProof.Rows L2 TX TM TK
section
open PySem.W (nsIn findIn isFn codeIn keepIn mg_of mg_none_of)
abbrev fnA (x q : Str) (st : Stmt) (kV dc pm : Value) (an : Option Addr) (cd ct : Value) : FuncData := PySem.W.fnOf x q (defArgs st) (defBody st) (defScope st) .none kV dc pm an cd ct
set_option maxHeartbeats 8000000 in
theorem all_mk {l : PySem.W.OpenLaw} {w : World} {fa : Addr} {K : PySem.W.Frag} {h : Heap} {mg : Str → Option Value} {C X_BadCamp X_BadPairs X_NoCamper X_CampError X_NoneSteady X_BadText tT f0 f1 f2 f3 f4 f5 f6 f7 f8 f9 f10 f11 f12 f13 f14 f15 f16 f17 f18 f19 f20 f21 f22 f23 f24 f25 f26 f27 f28 f29 : Addr} {tM tA tB : Tok} (X : K.In h) (G : h.Ns mainGlobals mg) (hfa : mg "law" = some (.ref fa))
  {od0 an0 od1 an1 od2 an2 od3 an3 od4 an4 od5 an5 od6 an6 od7 an7 od8 an8 od9 an9 od10 an10 od11 an11 od12 an12 od13 an13 od14 an14 od15 an15 od16 an16 od17 an17 od18 an18 od19 an19 od20 an20 od21 an21 od22 an22 od23 an23 od24 an24 od25 an25 od26 an26 od27 an27 od28 an28 od29 an29 odT : Option Addr} {sl0 sl1 sl2 sl3 sl4 sl5 sl6 sl7 sl8 sl9 sl10 sl11 sl12 sl13 sl14 sl15 sl16 sl17 sl18 sl19 sl20 sl21 sl22 sl23 sl24 sl25 sl26 sl27 sl28 sl29 slT : Array (Option Value)} {oc0 kV0 dc0 pm0 cd0 ct0 oc1 kV1 dc1 pm1 cd1 ct1 oc2 kV2 dc2 pm2 cd2 ct2 oc3 kV3 dc3 pm3 cd3 ct3 oc4 kV4 dc4 pm4 cd4 ct4 oc5 kV5 dc5 pm5 cd5 ct5 oc6 kV6 dc6 pm6 cd6 ct6 oc7 kV7 dc7 pm7 cd7 ct7 oc8 kV8 dc8 pm8 cd8 ct8 oc9 kV9 dc9 pm9 cd9 ct9 oc10 kV10 dc10 pm10 cd10 ct10 oc11 kV11 dc11 pm11 cd11 ct11 oc12 kV12 dc12 pm12 cd12 ct12 oc13 kV13 dc13 pm13 cd13 ct13 oc14 kV14 dc14 pm14 cd14 ct14 oc15 kV15 dc15 pm15 cd15 ct15 oc16 kV16 dc16 pm16 cd16 ct16 oc17 kV17 dc17 pm17 cd17 ct17 oc18 kV18 dc18 pm18 cd18 ct18 oc19 kV19 dc19 pm19 cd19 ct19 oc20 kV20 dc20 pm20 cd20 ct20 oc21 kV21 dc21 pm21 cd21 ct21 oc22 kV22 dc22 pm22 cd22 ct22 oc23 kV23 dc23 pm23 cd23 ct23 oc24 kV24 dc24 pm24 cd24 ct24 oc25 kV25 dc25 pm25 cd25 ct25 oc26 kV26 dc26 pm26 cd26 ct26 oc27 kV27 dc27 pm27 cd27 ct27 oc28 kV28 dc28 pm28 cd28 ct28 oc29 kV29 dc29 pm29 cd29 ct29 : Value} {nT : Nat}
  (aC : nsIn K mainGlobals "Camp" = some (some (.ref C)))
  (aX_BadCamp : nsIn K mainGlobals "BadCamp" = some (some (.ref X_BadCamp)))
  (xX_BadCamp : PySem.W.excIn K X_BadCamp [.type "ValueError", .type "Exception", .type "BaseException", .type "object"] "ValueError.__new__" = true)
  (aX_BadPairs : nsIn K mainGlobals "BadPairs" = some (some (.ref X_BadPairs)))
  (xX_BadPairs : PySem.W.excIn K X_BadPairs [.type "ValueError", .type "Exception", .type "BaseException", .type "object"] "ValueError.__new__" = true)
  (aX_NoCamper : nsIn K mainGlobals "NoCamper" = some (some (.ref X_NoCamper)))
  (xX_NoCamper : PySem.W.excIn K X_NoCamper [.type "ValueError", .type "Exception", .type "BaseException", .type "object"] "ValueError.__new__" = true)
  (aX_CampError : nsIn K mainGlobals "CampError" = some (some (.ref X_CampError)))
  (aX_NoneSteady : nsIn K mainGlobals "NoneSteady" = some (some (.ref X_NoneSteady)))
  (aX_BadText : nsIn K mainGlobals "BadText" = some (some (.ref X_BadText)))
  (kt_CampError : PySem.W.ktsIn K X_CampError "BaseException" = true)
  (sp_CampError : PySem.W.specialIn K (.ref X_CampError) "__getattribute__" = some (some (.builtin "type.__getattribute__")))
  (rd_CampError : PySem.W.readsIn K X_CampError (.type "type") = true)
  (fc_CampError : PySem.W.findCls K (.ref X_CampError) (.type "type") "__init__" = some (.val (.builtin "ValueError.__init__")))
  (kt_BadCamp : PySem.W.ktsIn K X_BadCamp "BaseException" = true)
  (ga_BadCamp : findIn K (.ref X_BadCamp) "__getattribute__" = some (some (.builtin "BaseException.__getattribute__")))
  (gt_BadCamp : findIn K (.ref X_BadCamp) "__getattr__" = some none)
  (cc_BadCamp : (PySem.W.clsIn K X_BadCamp).isSome = true)
  (ca_BadCamp : findIn K (.ref X_BadCamp) "__class__" = some (some (.builtin "object.__class__")))
  (mr_BadCamp : PySem.W.mroIn K X_BadCamp (.type "object") = some true)
  (be_BadCamp : TX.belowIn K X_BadCamp X_CampError = true)
  (kx_BadCamp_BadCamp : PySem.W.kitOne K (.ref X_BadCamp) (.ref X_BadCamp) = some true)
  (kx_BadCamp_BadPairs : PySem.W.kitOne K (.ref X_BadCamp) (.ref X_BadPairs) = some false)
  (kx_BadCamp_NoCamper : PySem.W.kitOne K (.ref X_BadCamp) (.ref X_NoCamper) = some false)
  (kx_BadCamp_NoneSteady : PySem.W.kitOne K (.ref X_BadCamp) (.ref X_NoneSteady) = some false)
  (kx_BadCamp_BadText : PySem.W.kitOne K (.ref X_BadCamp) (.ref X_BadText) = some false)
  (kv_BadCamp : PySem.W.kitOne K (.ref X_BadCamp) (.type "ValueError") = some true)
  (kt_BadPairs : PySem.W.ktsIn K X_BadPairs "BaseException" = true)
  (ga_BadPairs : findIn K (.ref X_BadPairs) "__getattribute__" = some (some (.builtin "BaseException.__getattribute__")))
  (gt_BadPairs : findIn K (.ref X_BadPairs) "__getattr__" = some none)
  (cc_BadPairs : (PySem.W.clsIn K X_BadPairs).isSome = true)
  (ca_BadPairs : findIn K (.ref X_BadPairs) "__class__" = some (some (.builtin "object.__class__")))
  (mr_BadPairs : PySem.W.mroIn K X_BadPairs (.type "object") = some true)
  (be_BadPairs : TX.belowIn K X_BadPairs X_CampError = true)
  (kx_BadPairs_BadCamp : PySem.W.kitOne K (.ref X_BadPairs) (.ref X_BadCamp) = some false)
  (kx_BadPairs_BadPairs : PySem.W.kitOne K (.ref X_BadPairs) (.ref X_BadPairs) = some true)
  (kx_BadPairs_NoCamper : PySem.W.kitOne K (.ref X_BadPairs) (.ref X_NoCamper) = some false)
  (kx_BadPairs_NoneSteady : PySem.W.kitOne K (.ref X_BadPairs) (.ref X_NoneSteady) = some false)
  (kx_BadPairs_BadText : PySem.W.kitOne K (.ref X_BadPairs) (.ref X_BadText) = some false)
  (kv_BadPairs : PySem.W.kitOne K (.ref X_BadPairs) (.type "ValueError") = some true)
  (kt_NoCamper : PySem.W.ktsIn K X_NoCamper "BaseException" = true)
  (ga_NoCamper : findIn K (.ref X_NoCamper) "__getattribute__" = some (some (.builtin "BaseException.__getattribute__")))
  (gt_NoCamper : findIn K (.ref X_NoCamper) "__getattr__" = some none)
  (cc_NoCamper : (PySem.W.clsIn K X_NoCamper).isSome = true)
  (ca_NoCamper : findIn K (.ref X_NoCamper) "__class__" = some (some (.builtin "object.__class__")))
  (mr_NoCamper : PySem.W.mroIn K X_NoCamper (.type "object") = some true)
  (be_NoCamper : TX.belowIn K X_NoCamper X_CampError = true)
  (kx_NoCamper_BadCamp : PySem.W.kitOne K (.ref X_NoCamper) (.ref X_BadCamp) = some false)
  (kx_NoCamper_BadPairs : PySem.W.kitOne K (.ref X_NoCamper) (.ref X_BadPairs) = some false)
  (kx_NoCamper_NoCamper : PySem.W.kitOne K (.ref X_NoCamper) (.ref X_NoCamper) = some true)
  (kx_NoCamper_NoneSteady : PySem.W.kitOne K (.ref X_NoCamper) (.ref X_NoneSteady) = some false)
  (kx_NoCamper_BadText : PySem.W.kitOne K (.ref X_NoCamper) (.ref X_BadText) = some false)
  (kv_NoCamper : PySem.W.kitOne K (.ref X_NoCamper) (.type "ValueError") = some true)
  (kt_NoneSteady : PySem.W.ktsIn K X_NoneSteady "BaseException" = true)
  (ga_NoneSteady : findIn K (.ref X_NoneSteady) "__getattribute__" = some (some (.builtin "BaseException.__getattribute__")))
  (gt_NoneSteady : findIn K (.ref X_NoneSteady) "__getattr__" = some none)
  (cc_NoneSteady : (PySem.W.clsIn K X_NoneSteady).isSome = true)
  (ca_NoneSteady : findIn K (.ref X_NoneSteady) "__class__" = some (some (.builtin "object.__class__")))
  (mr_NoneSteady : PySem.W.mroIn K X_NoneSteady (.type "object") = some true)
  (be_NoneSteady : TX.belowIn K X_NoneSteady X_CampError = true)
  (kx_NoneSteady_BadCamp : PySem.W.kitOne K (.ref X_NoneSteady) (.ref X_BadCamp) = some false)
  (kx_NoneSteady_BadPairs : PySem.W.kitOne K (.ref X_NoneSteady) (.ref X_BadPairs) = some false)
  (kx_NoneSteady_NoCamper : PySem.W.kitOne K (.ref X_NoneSteady) (.ref X_NoCamper) = some false)
  (kx_NoneSteady_NoneSteady : PySem.W.kitOne K (.ref X_NoneSteady) (.ref X_NoneSteady) = some true)
  (kx_NoneSteady_BadText : PySem.W.kitOne K (.ref X_NoneSteady) (.ref X_BadText) = some false)
  (kv_NoneSteady : PySem.W.kitOne K (.ref X_NoneSteady) (.type "ValueError") = some true)
  (cg : PySem.W.specialIn K (.builtin "object.__class__") "__get__" = some (some (.builtin "getset_descriptor.__get__")))
  (ctk : PySem.W.takesIn K (.builtin "object.__class__") = some true)
  (aT : nsIn K mainGlobals "TELLING_SIZES" = some (some (.ref tT)))
  (lT : K.lookup tT = some ⟨.type "tuple", odT, .seq #[.int 3 tA, .int 5 tB] nT, slT⟩)
  (a0 : findIn K (.ref X_NoneSteady) "__init__" = some (some (.ref f0)))
  (i0 : isFn K (.ref f0) = true)
  (l0 : K.lookup f0 = some ⟨oc0, od0, .func (fnA "__init__" "NoneSteady.__init__" s_NoneSteady___init__ kV0 dc0 pm0 an0 cd0 ct0), sl0⟩)
  (c0 : codeIn K cd0 "NoneSteady.__init__" = true)
  (k0 : keepIn K (.ref f0) = true)
  (a1 : nsIn K mainGlobals "is_camper" = some (some (.ref f1)))
  (l1 : K.lookup f1 = some ⟨oc1, od1, .func (fnA "is_camper" "is_camper" s_is_camper kV1 dc1 pm1 an1 cd1 ct1), sl1⟩)
  (c1 : codeIn K cd1 "is_camper" = true)
  (k1 : keepIn K (.ref f1) = true)
  (a2 : nsIn K mainGlobals "check_wishes" = some (some (.ref f2)))
  (l2 : K.lookup f2 = some ⟨oc2, od2, .func (fnA "check_wishes" "check_wishes" s_check_wishes kV2 dc2 pm2 an2 cd2 ct2), sl2⟩)
  (c2 : codeIn K cd2 "check_wishes" = true)
  (k2 : keepIn K (.ref f2) = true)
  (a3 : nsIn K mainGlobals "check_lists" = some (some (.ref f3)))
  (l3 : K.lookup f3 = some ⟨oc3, od3, .func (fnA "check_lists" "check_lists" s_check_lists kV3 dc3 pm3 an3 cd3 ct3), sl3⟩)
  (c3 : codeIn K cd3 "check_lists" = true)
  (k3 : keepIn K (.ref f3) = true)
  (a4 : findIn K (.ref C) "__init__" = some (some (.ref f4)))
  (i4 : isFn K (.ref f4) = true)
  (l4 : K.lookup f4 = some ⟨oc4, od4, .func (fnA "__init__" "Camp.__init__" s_Camp___init__ kV4 dc4 pm4 an4 cd4 ct4), sl4⟩)
  (c4 : codeIn K cd4 "Camp.__init__" = true)
  (k4 : keepIn K (.ref f4) = true)
  (a5 : findIn K (.ref C) "would_share" = some (some (.ref f5)))
  (i5 : isFn K (.ref f5) = true)
  (l5 : K.lookup f5 = some ⟨oc5, od5, .func (fnA "would_share" "Camp.would_share" s_Camp_would_share kV5 dc5 pm5 an5 cd5 ct5), sl5⟩)
  (c5 : codeIn K cd5 "Camp.would_share" = true)
  (k5 : keepIn K (.ref f5) = true)
  (a6 : findIn K (.ref C) "would_rather" = some (some (.ref f6)))
  (i6 : isFn K (.ref f6) = true)
  (l6 : K.lookup f6 = some ⟨oc6, od6, .func (fnA "would_rather" "Camp.would_rather" s_Camp_would_rather kV6 dc6 pm6 an6 cd6 ct6), sl6⟩)
  (c6 : codeIn K cd6 "Camp.would_rather" = true)
  (k6 : keepIn K (.ref f6) = true)
  (a7 : nsIn K mainGlobals "check_pair" = some (some (.ref f7)))
  (l7 : K.lookup f7 = some ⟨oc7, od7, .func (fnA "check_pair" "check_pair" s_check_pair kV7 dc7 pm7 an7 cd7 ct7), sl7⟩)
  (c7 : codeIn K cd7 "check_pair" = true)
  (k7 : keepIn K (.ref f7) = true)
  (a8 : nsIn K mainGlobals "partners" = some (some (.ref f8)))
  (l8 : K.lookup f8 = some ⟨oc8, od8, .func (fnA "partners" "partners" s_partners kV8 dc8 pm8 an8 cd8 ct8), sl8⟩)
  (c8 : codeIn K cd8 "partners" = true)
  (k8 : keepIn K (.ref f8) = true)
  (a9 : nsIn K mainGlobals "would_break" = some (some (.ref f9)))
  (l9 : K.lookup f9 = some ⟨oc9, od9, .func (fnA "would_break" "would_break" s_would_break kV9 dc9 pm9 an9 cd9 ct9), sl9⟩)
  (c9 : codeIn K cd9 "would_break" = true)
  (k9 : keepIn K (.ref f9) = true)
  (a10 : nsIn K mainGlobals "breakers" = some (some (.ref f10)))
  (l10 : K.lookup f10 = some ⟨oc10, od10, .func (fnA "breakers" "breakers" s_breakers kV10 dc10 pm10 an10 cd10 ct10), sl10⟩)
  (c10 : codeIn K cd10 "breakers" = true)
  (k10 : keepIn K (.ref f10) = true)
  (a11 : nsIn K mainGlobals "breaking" = some (some (.ref f11)))
  (l11 : K.lookup f11 = some ⟨oc11, od11, .func (fnA "breaking" "breaking" s_breaking kV11 dc11 pm11 an11 cd11 ct11), sl11⟩)
  (c11 : codeIn K cd11 "breaking" = true)
  (k11 : keepIn K (.ref f11) = true)
  (a12 : nsIn K mainGlobals "would_all_share" = some (some (.ref f12)))
  (l12 : K.lookup f12 = some ⟨oc12, od12, .func (fnA "would_all_share" "would_all_share" s_would_all_share kV12 dc12 pm12 an12 cd12 ct12), sl12⟩)
  (c12 : codeIn K cd12 "would_all_share" = true)
  (k12 : keepIn K (.ref f12) = true)
  (a13 : nsIn K mainGlobals "would_all_rather" = some (some (.ref f13)))
  (l13 : K.lookup f13 = some ⟨oc13, od13, .func (fnA "would_all_rather" "would_all_rather" s_would_all_rather kV13 dc13 pm13 an13 cd13 ct13), sl13⟩)
  (c13 : codeIn K cd13 "would_all_rather" = true)
  (k13 : keepIn K (.ref f13) = true)
  (a14 : nsIn K mainGlobals "is_good_ring" = some (some (.ref f14)))
  (l14 : K.lookup f14 = some ⟨oc14, od14, .func (fnA "is_good_ring" "is_good_ring" s_is_good_ring kV14 dc14 pm14 an14 cd14 ct14), sl14⟩)
  (c14 : codeIn K cd14 "is_good_ring" = true)
  (k14 : keepIn K (.ref f14) = true)
  (a15 : nsIn K mainGlobals "stand_once" = some (some (.ref f15)))
  (l15 : K.lookup f15 = some ⟨oc15, od15, .func (fnA "stand_once" "stand_once" s_stand_once kV15 dc15 pm15 an15 cd15 ct15), sl15⟩)
  (c15 : codeIn K cd15 "stand_once" = true)
  (k15 : keepIn K (.ref f15) = true)
  (a16 : nsIn K mainGlobals "last_ones" = some (some (.ref f16)))
  (l16 : K.lookup f16 = some ⟨oc16, od16, .func (fnA "last_ones" "last_ones" s_last_ones kV16 dc16 pm16 an16 cd16 ct16), sl16⟩)
  (c16 : codeIn K cd16 "last_ones" = true)
  (k16 : keepIn K (.ref f16) = true)
  (a17 : nsIn K mainGlobals "are_good" = some (some (.ref f17)))
  (l17 : K.lookup f17 = some ⟨oc17, od17, .func (fnA "are_good" "are_good" s_are_good kV17 dc17 pm17 an17 cd17 ct17), sl17⟩)
  (c17 : codeIn K cd17 "are_good" = true)
  (k17 : keepIn K (.ref f17) = true)
  (a18 : nsIn K mainGlobals "tell_none" = some (some (.ref f18)))
  (l18 : K.lookup f18 = some ⟨oc18, od18, .func (fnA "tell_none" "tell_none" s_tell_none kV18 dc18 pm18 an18 cd18 ct18), sl18⟩)
  (c18 : codeIn K cd18 "tell_none" = true)
  (k18 : keepIn K (.ref f18) = true)
  (a19 : nsIn K mainGlobals "with_free" = some (some (.ref f19)))
  (l19 : K.lookup f19 = some ⟨oc19, od19, .func (fnA "with_free" "with_free" s_with_free kV19 dc19 pm19 an19 cd19 ct19), sl19⟩)
  (c19 : codeIn K cd19 "with_free" = true)
  (k19 : keepIn K (.ref f19) = true)
  (a20 : nsIn K mainGlobals "with_begun" = some (some (.ref f20)))
  (l20 : K.lookup f20 = some ⟨oc20, od20, .func (fnA "with_begun" "with_begun" s_with_begun kV20 dc20 pm20 an20 cd20 ct20), sl20⟩)
  (c20 : codeIn K cd20 "with_begun" = true)
  (k20 : keepIn K (.ref f20) = true)
  (a21 : nsIn K mainGlobals "rings_of" = some (some (.ref f21)))
  (l21 : K.lookup f21 = some ⟨oc21, od21, .func (fnA "rings_of" "rings_of" s_rings_of kV21 dc21 pm21 an21 cd21 ct21), sl21⟩)
  (c21 : codeIn K cd21 "rings_of" = true)
  (k21 : keepIn K (.ref f21) = true)
  (a22 : nsIn K mainGlobals "ways_to_pair" = some (some (.ref f22)))
  (l22 : K.lookup f22 = some ⟨oc22, od22, .func (fnA "ways_to_pair" "ways_to_pair" s_ways_to_pair kV22 dc22 pm22 an22 cd22 ct22), sl22⟩)
  (c22 : codeIn K cd22 "ways_to_pair" = true)
  (k22 : keepIn K (.ref f22) = true)
  (a23 : nsIn K mainGlobals "all_steady" = some (some (.ref f23)))
  (l23 : K.lookup f23 = some ⟨oc23, od23, .func (fnA "all_steady" "all_steady" s_all_steady kV23 dc23 pm23 an23 cd23 ct23), sl23⟩)
  (c23 : codeIn K cd23 "all_steady" = true)
  (k23 : keepIn K (.ref f23) = true)
  (a24 : nsIn K mainGlobals "steady_or_refused" = some (some (.ref f24)))
  (l24 : K.lookup f24 = some ⟨oc24, od24, .func (fnA "steady_or_refused" "steady_or_refused" s_steady_or_refused kV24 dc24 pm24 an24 cd24 ct24), sl24⟩)
  (c24 : codeIn K cd24 "steady_or_refused" = true)
  (k24 : keepIn K (.ref f24) = true)
  (a25 : nsIn K mainGlobals "mates" = some (some (.ref f25)))
  (l25 : K.lookup f25 = some ⟨oc25, od25, .func (fnA "mates" "mates" s_mates kV25 dc25 pm25 an25 cd25 ct25), sl25⟩)
  (c25 : codeIn K cd25 "mates" = true)
  (k25 : keepIn K (.ref f25) = true)
  (a26 : nsIn K mainGlobals "_law_cell_at" = some (some (.ref f26)))
  (l26 : K.lookup f26 = some ⟨oc26, od26, .func (fnA "_law_cell_at" "_law_cell_at" s_law_cell_at kV26 dc26 pm26 an26 cd26 ct26), sl26⟩)
  (c26 : codeIn K cd26 "_law_cell_at" = true)
  (k26 : keepIn K (.ref f26) = true)
  (a27 : nsIn K mainGlobals "_law_sort" = some (some (.ref f27)))
  (l27 : K.lookup f27 = some ⟨oc27, od27, .func (fnA "_law_sort" "_law_sort" s_law_sort kV27 dc27 pm27 an27 cd27 ct27), sl27⟩)
  (c27 : codeIn K cd27 "_law_sort" = true)
  (k27 : keepIn K (.ref f27) = true)
  (a28 : nsIn K mainGlobals "_law_asked" = some (some (.ref f28)))
  (l28 : K.lookup f28 = some ⟨oc28, od28, .func (fnA "_law_asked" "_law_asked" s_law_asked kV28 dc28 pm28 an28 cd28 ct28), sl28⟩)
  (c28 : codeIn K cd28 "_law_asked" = true)
  (k28 : keepIn K (.ref f28) = true)
  (a29 : nsIn K mainGlobals "law" = some (some (.ref f29)))
  (l29 : K.lookup f29 = some ⟨oc29, od29, .func (fnA "law" "law" s_law kV29 dc29 pm29 an29 cd29 ct29), sl29⟩)
  (c29 : codeIn K cd29 "law" = true)
  (k29 : keepIn K (.ref f29) = true)
  (ii_NoneSteady : TX.excII K X_NoneSteady X_CampError f0 = true)
  (sa_NoneSteady : findIn K (.ref X_NoneSteady) "__setattr__" = some (some (.builtin "object.__setattr__")))
  (nx_rings : findIn K (.ref X_NoneSteady) "rings" = some none)
  (pg : PySem.W.plainGet K C Str.empty = true)
  (hd : PySem.W.hasDictIn K C = true)
  (po : PySem.W.plainOver K C = true)
  (sa : findIn K (.ref C) "__setattr__" = some (some (.builtin "object.__setattr__")))
  (mk : PySem.W.makesIn K C = true)
  (kc : keepIn K (.ref C) = true)
  (n_size : findIn K (.ref C) "size" = some none)
  (n_wishes : findIn K (.ref C) "wishes" = some none)
  (eM : nsIn K mainGlobals "MOST_CAMPERS" = some (some (.int 6 tM)))
  (z_len : nsIn K mainGlobals "len" = some none)
  (z_list : nsIn K mainGlobals "list" = some none)
  (z_isinstance : nsIn K mainGlobals "isinstance" = some none)
  (z_range : nsIn K mainGlobals "range" = some none)
  (z_enumerate : nsIn K mainGlobals "enumerate" = some none)
  (z_any : nsIn K mainGlobals "any" = some none)
  (z_all : nsIn K mainGlobals "all" = some none)
  (z_int : nsIn K mainGlobals "int" = some none)
  (z_bool : nsIn K mainGlobals "bool" = some none)
  (z_tuple : nsIn K mainGlobals "tuple" = some none)
  (z_sorted : nsIn K mainGlobals "sorted" = some none)
  (z_ValueError : nsIn K mainGlobals "ValueError" = some none)
  : ∃ fd : FuncData, (∀ (s : Shared) (v : Value), BindsTo s fd ⟨[v], []⟩ [("_law_script", v)]) ∧ ∀ base : Heap, K.In base → base.Ns mainGlobals mg → FnOk l.prog w K mg base CX0 23 fa fd ["_law_script"] (spLaw K) := by
 obtain ⟨t, h1, h2, T⟩ : ∃ t : Adr, t.law = f29 ∧ t.fd_law = fnA "law" "law" s_law kV29 dc29 pm29 an29 cd29 ct29 ∧ Txt K mg t := by
  refine ⟨⟨C, X_BadCamp, X_BadPairs, X_NoCamper, X_CampError, X_NoneSteady, X_BadText, tT, f0, fnA "__init__" "NoneSteady.__init__" s_NoneSteady___init__ kV0 dc0 pm0 an0 cd0 ct0, f1, fnA "is_camper" "is_camper" s_is_camper kV1 dc1 pm1 an1 cd1 ct1, f2, fnA "check_wishes" "check_wishes" s_check_wishes kV2 dc2 pm2 an2 cd2 ct2, f3, fnA "check_lists" "check_lists" s_check_lists kV3 dc3 pm3 an3 cd3 ct3, f4, fnA "__init__" "Camp.__init__" s_Camp___init__ kV4 dc4 pm4 an4 cd4 ct4, f5, fnA "would_share" "Camp.would_share" s_Camp_would_share kV5 dc5 pm5 an5 cd5 ct5, f6, fnA "would_rather" "Camp.would_rather" s_Camp_would_rather kV6 dc6 pm6 an6 cd6 ct6, f7, fnA "check_pair" "check_pair" s_check_pair kV7 dc7 pm7 an7 cd7 ct7, f8, fnA "partners" "partners" s_partners kV8 dc8 pm8 an8 cd8 ct8, f9, fnA "would_break" "would_break" s_would_break kV9 dc9 pm9 an9 cd9 ct9, f10, fnA "breakers" "breakers" s_breakers kV10 dc10 pm10 an10 cd10 ct10, f11, fnA "breaking" "breaking" s_breaking kV11 dc11 pm11 an11 cd11 ct11, f12, fnA "would_all_share" "would_all_share" s_would_all_share kV12 dc12 pm12 an12 cd12 ct12, f13, fnA "would_all_rather" "would_all_rather" s_would_all_rather kV13 dc13 pm13 an13 cd13 ct13, f14, fnA "is_good_ring" "is_good_ring" s_is_good_ring kV14 dc14 pm14 an14 cd14 ct14, f15, fnA "stand_once" "stand_once" s_stand_once kV15 dc15 pm15 an15 cd15 ct15, f16, fnA "last_ones" "last_ones" s_last_ones kV16 dc16 pm16 an16 cd16 ct16, f17, fnA "are_good" "are_good" s_are_good kV17 dc17 pm17 an17 cd17 ct17, f18, fnA "tell_none" "tell_none" s_tell_none kV18 dc18 pm18 an18 cd18 ct18, f19, fnA "with_free" "with_free" s_with_free kV19 dc19 pm19 an19 cd19 ct19, f20, fnA "with_begun" "with_begun" s_with_begun kV20 dc20 pm20 an20 cd20 ct20, f21, fnA "rings_of" "rings_of" s_rings_of kV21 dc21 pm21 an21 cd21 ct21, f22, fnA "ways_to_pair" "ways_to_pair" s_ways_to_pair kV22 dc22 pm22 an22 cd22 ct22, f23, fnA "all_steady" "all_steady" s_all_steady kV23 dc23 pm23 an23 cd23 ct23, f24, fnA "steady_or_refused" "steady_or_refused" s_steady_or_refused kV24 dc24 pm24 an24 cd24 ct24, f25, fnA "mates" "mates" s_mates kV25 dc25 pm25 an25 cd25 ct25, f26, fnA "_law_cell_at" "_law_cell_at" s_law_cell_at kV26 dc26 pm26 an26 cd26 ct26, f27, fnA "_law_sort" "_law_sort" s_law_sort kV27 dc27 pm27 an27 cd27 ct27, f28, fnA "_law_asked" "_law_asked" s_law_asked kV28 dc28 pm28 an28 cd28 ct28, f29, fnA "law" "law" s_law kV29 dc29 pm29 an29 cd29 ct29, tM⟩, rfl, rfl, ?_⟩
  have F0 := fun_mk (st := s_NoneSteady___init__) l0 c0 k0
  have B0 := F0.binds (ps := ["self", "rings"]) fun _ _ _ _ _ _ us hl => match us, hl with | [_, _], _ => rfl
  have F1 := fun_mk (st := s_is_camper) l1 c1 k1
  have B1 := F1.binds (ps := ["value", "size"]) fun _ _ _ _ _ _ us hl => match us, hl with | [_, _], _ => rfl
  have F2 := fun_mk (st := s_check_wishes) l2 c2 k2
  have B2 := F2.binds (ps := ["camper", "wishes", "size"]) fun _ _ _ _ _ _ us hl => match us, hl with | [_, _, _], _ => rfl
  have F3 := fun_mk (st := s_check_lists) l3 c3 k3
  have B3 := F3.binds (ps := ["lists"]) fun _ _ _ _ _ _ us hl => match us, hl with | [_], _ => rfl
  have F4 := fun_mk (st := s_Camp___init__) l4 c4 k4
  have B4 := F4.binds (ps := ["self", "lists"]) fun _ _ _ _ _ _ us hl => match us, hl with | [_, _], _ => rfl
  have F5 := fun_mk (st := s_Camp_would_share) l5 c5 k5
  have B5 := F5.binds (ps := ["self", "one", "other"]) fun _ _ _ _ _ _ us hl => match us, hl with | [_, _, _], _ => rfl
  have F6 := fun_mk (st := s_Camp_would_rather) l6 c6 k6
  have B6 := F6.binds (ps := ["self", "camper", "other", "had"]) fun _ _ _ _ _ _ us hl => match us, hl with | [_, _, _, _], _ => rfl
  have F7 := fun_mk (st := s_check_pair) l7 c7 k7
  have B7 := F7.binds (ps := ["camp", "pair"]) fun _ _ _ _ _ _ us hl => match us, hl with | [_, _], _ => rfl
  have F8 := fun_mk (st := s_partners) l8 c8 k8
  have B8 := F8.binds (ps := ["camp", "pairs"]) fun _ _ _ _ _ _ us hl => match us, hl with | [_, _], _ => rfl
  have F9 := fun_mk (st := s_would_break) l9 c9 k9
  have B9 := F9.binds (ps := ["camp", "having", "one", "other"]) fun _ _ _ _ _ _ us hl => match us, hl with | [_, _, _, _], _ => rfl
  have F10 := fun_mk (st := s_breakers) l10 c10 k10
  have B10 := F10.binds (ps := ["camp", "having"]) fun _ _ _ _ _ _ us hl => match us, hl with | [_, _], _ => rfl
  have F11 := fun_mk (st := s_breaking) l11 c11 k11
  have B11 := F11.binds (ps := ["camp", "pairs"]) fun _ _ _ _ _ _ us hl => match us, hl with | [_, _], _ => rfl
  have F12 := fun_mk (st := s_would_all_share) l12 c12 k12
  have B12 := F12.binds (ps := ["camp", "ring"]) fun _ _ _ _ _ _ us hl => match us, hl with | [_, _], _ => rfl
  have F13 := fun_mk (st := s_would_all_rather) l13 c13 k13
  have B13 := F13.binds (ps := ["camp", "ring"]) fun _ _ _ _ _ _ us hl => match us, hl with | [_, _], _ => rfl
  have F14 := fun_mk (st := s_is_good_ring) l14 c14 k14
  have B14 := F14.binds (ps := ["camp", "ring"]) fun _ _ _ _ _ _ us hl => match us, hl with | [_, _], _ => rfl
  have F15 := fun_mk (st := s_stand_once) l15 c15 k15
  have B15 := F15.binds (ps := ["camp", "rings"]) fun _ _ _ _ _ _ us hl => match us, hl with | [_, _], _ => rfl
  have F16 := fun_mk (st := s_last_ones) l16 c16 k16
  have B16 := F16.binds (ps := ["rings"]) fun _ _ _ _ _ _ us hl => match us, hl with | [_], _ => rfl
  have F17 := fun_mk (st := s_are_good) l17 c17 k17
  have B17 := F17.binds (ps := ["camp", "rings"]) fun _ _ _ _ _ _ us hl => match us, hl with | [_, _], _ => rfl
  have F18 := fun_mk (st := s_tell_none) l18 c18 k18
  have B18 := F18.binds (ps := ["camp", "rings"]) fun _ _ _ _ _ _ us hl => match us, hl with | [_, _], _ => rfl
  have F19 := fun_mk (st := s_with_free) l19 c19 k19
  have B19 := F19.binds (ps := ["camp", "closed", "free"]) fun _ _ _ _ _ _ us hl => match us, hl with | [_, _, _], _ => rfl
  have F20 := fun_mk (st := s_with_begun) l20 c20 k20
  have B20 := F20.binds (ps := ["camp", "closed", "ring", "free"]) fun _ _ _ _ _ _ us hl => match us, hl with | [_, _, _, _], _ => rfl
  have F21 := fun_mk (st := s_rings_of) l21 c21 k21
  have B21 := F21.binds (ps := ["camp"]) fun _ _ _ _ _ _ us hl => match us, hl with | [_], _ => rfl
  have F22 := fun_mk (st := s_ways_to_pair) l22 c22 k22
  have B22 := F22.binds (ps := ["camp", "free"]) fun _ _ _ _ _ _ us hl => match us, hl with | [_, _], _ => rfl
  have F23 := fun_mk (st := s_all_steady) l23 c23 k23
  have B23 := F23.binds (ps := ["camp"]) fun _ _ _ _ _ _ us hl => match us, hl with | [_], _ => rfl
  have F24 := fun_mk (st := s_steady_or_refused) l24 c24 k24
  have B24 := F24.binds (ps := ["camp"]) fun _ _ _ _ _ _ us hl => match us, hl with | [_], _ => rfl
  have F25 := fun_mk (st := s_mates) l25 c25 k25
  have B25 := F25.binds (ps := ["camp", "camper"]) fun _ _ _ _ _ _ us hl => match us, hl with | [_, _], _ => rfl
  have F26 := fun_mk (st := s_law_cell_at) l26 c26 k26
  have B26 := F26.binds (ps := ["_law_script", "_law_k"]) fun _ _ _ _ _ _ us hl => match us, hl with | [_, _], _ => rfl
  have F27 := fun_mk (st := s_law_sort) l27 c27 k27
  have B27 := F27.binds (ps := ["_law_error"]) fun _ _ _ _ _ _ us hl => match us, hl with | [_], _ => rfl
  have F28 := fun_mk (st := s_law_asked) l28 c28 k28
  have B28 := F28.binds (ps := ["_law_door", "_law_thing"]) fun _ _ _ _ _ _ us hl => match us, hl with | [_, _], _ => rfl
  have F29 := fun_mk (st := s_law) l29 c29 k29
  have B29 := F29.binds (ps := ["_law_script"]) fun _ _ _ _ _ _ us hl => match us, hl with | [_], _ => rfl
  exact ⟨⟨pg, hd, po, sa⟩, n_size, n_wishes, ⟨mk, a4, i4, kc⟩, mg_of X G aC, mg_of X G eM, mg_none_of X G z_len, mg_none_of X G z_list, mg_none_of X G z_isinstance, mg_none_of X G z_range, mg_none_of X G z_enumerate, mg_none_of X G z_any, mg_none_of X G z_all, mg_none_of X G z_int, mg_none_of X G z_bool, mg_none_of X G z_tuple, mg_none_of X G z_sorted, mg_none_of X G z_ValueError, mg_of X G aX_BadCamp, xX_BadCamp, mg_of X G aX_BadPairs, xX_BadPairs, mg_of X G aX_NoCamper, xX_NoCamper, mg_of X G aX_CampError, mg_of X G aX_NoneSteady, mg_of X G aX_BadText, kt_CampError, sp_CampError, rd_CampError, fc_CampError, ⟨kt_BadCamp, ga_BadCamp, gt_BadCamp, cc_BadCamp, ca_BadCamp, cg, ctk, mr_BadCamp⟩, be_BadCamp, kx_BadCamp_BadCamp, kx_BadCamp_BadPairs, kx_BadCamp_NoCamper, kx_BadCamp_NoneSteady, kx_BadCamp_BadText, kv_BadCamp, ⟨kt_BadPairs, ga_BadPairs, gt_BadPairs, cc_BadPairs, ca_BadPairs, cg, ctk, mr_BadPairs⟩, be_BadPairs, kx_BadPairs_BadCamp, kx_BadPairs_BadPairs, kx_BadPairs_NoCamper, kx_BadPairs_NoneSteady, kx_BadPairs_BadText, kv_BadPairs, ⟨kt_NoCamper, ga_NoCamper, gt_NoCamper, cc_NoCamper, ca_NoCamper, cg, ctk, mr_NoCamper⟩, be_NoCamper, kx_NoCamper_BadCamp, kx_NoCamper_BadPairs, kx_NoCamper_NoCamper, kx_NoCamper_NoneSteady, kx_NoCamper_BadText, kv_NoCamper, ⟨kt_NoneSteady, ga_NoneSteady, gt_NoneSteady, cc_NoneSteady, ca_NoneSteady, cg, ctk, mr_NoneSteady⟩, be_NoneSteady, kx_NoneSteady_BadCamp, kx_NoneSteady_BadPairs, kx_NoneSteady_NoCamper, kx_NoneSteady_NoneSteady, kx_NoneSteady_BadText, kv_NoneSteady, ii_NoneSteady, i0, sa_NoneSteady, nx_rings, mg_of X G aT, fun H => .inr ⟨_, _, _, lT, rfl, rfl, (by show 2 ≤ sizeLine; decide), .cons ⟨_, rfl⟩ (.cons ⟨_, rfl⟩ .nil)⟩, ⟨F0, B0, ⟨a0, i0, k0⟩⟩, ⟨F1, B1, mg_of X G a1⟩, ⟨F2, B2, mg_of X G a2⟩, ⟨F3, B3, mg_of X G a3⟩, ⟨F4, B4, ⟨a4, i4, k4⟩⟩, ⟨F5, B5, ⟨a5, i5, k5⟩⟩, ⟨F6, B6, ⟨a6, i6, k6⟩⟩, ⟨F7, B7, mg_of X G a7⟩, ⟨F8, B8, mg_of X G a8⟩, ⟨F9, B9, mg_of X G a9⟩, ⟨F10, B10, mg_of X G a10⟩, ⟨F11, B11, mg_of X G a11⟩, ⟨F12, B12, mg_of X G a12⟩, ⟨F13, B13, mg_of X G a13⟩, ⟨F14, B14, mg_of X G a14⟩, ⟨F15, B15, mg_of X G a15⟩, ⟨F16, B16, mg_of X G a16⟩, ⟨F17, B17, mg_of X G a17⟩, ⟨F18, B18, mg_of X G a18⟩, ⟨F19, B19, mg_of X G a19⟩, ⟨F20, B20, mg_of X G a20⟩, ⟨F21, B21, mg_of X G a21⟩, ⟨F22, B22, mg_of X G a22⟩, ⟨F23, B23, mg_of X G a23⟩, ⟨F24, B24, mg_of X G a24⟩, ⟨F25, B25, mg_of X G a25⟩, ⟨F26, B26, mg_of X G a26⟩, ⟨F27, B27, mg_of X G a27⟩, ⟨F28, B28, mg_of X G a28⟩, ⟨F29, B29, mg_of X G a29⟩⟩
 have e := hfa.symm.trans (mg_of X G a29)
 cases e
 refine ⟨t.fd_law, ?_, fun base _ _ => ?_⟩
 ·rw [h2]; exact fun s v => .of_eq rfl
 ·have := ok_law (P := l.prog) (w := w) (base := base) T
  rw [h1] at this
  exact this
end
theorem walk {l : PySem.W.OpenLaw} {q : Program} {loose : List Str} {XP : (Str → Option Value) → Heap → Prop} {YP : World → Heap → Prop} {d : DefRec} {K : Params → PySem.W.Frag} (hn : l.most = some 63) (hdf : d.params.defaults = [])
  (hY : ∀ (w : World) (h : Heap), YP w h → (K w.params).In h)
  (F : ∀ (w : World) (mg : Str → Option Value) (fa : Addr) (h : Heap), (K w.params).In h → h.Ns mainGlobals mg → mg d.name = some (.ref fa) →
   ∃ fd : FuncData, (∀ (s : Shared) (u : Value), BindsTo s fd ⟨[u], []⟩ [("_law_script", u)]) ∧ ∀ base : Heap, (K w.params).In base → base.Ns mainGlobals mg → FnOk l.prog w (K w.params) mg base CX0 23 fa fd ["_law_script"] (spLaw (K w.params))) :
  PySem.W.WalkO q loose XP YP l.row.toRowW d [] (fun f vs => PySem.call f vs) :=
 L2.walk_of (n := 63) (k := 23) (x := "_law_script") (CX := fun _ => CX0) (sp := fun w => spLaw (K w.params)) hn (by decide) hdf ⟨rfl, by decide, by decide⟩ hY F (fun _ _ a ns hl _ hS => ⟨a, ns, rfl, hS, hl, fun _ => rfl⟩) fun _ _ _ _ _ z => z
end Tp
open PySem PySem.W PyProof.Rows
set_option maxRecDepth 100000 in
set_option maxHeartbeats 0 in
theorem PySem.Challenge.cw_tentpairs_k07_refused_holds : PySem.Challenge.rw_tentpairs_k07_refused.Holds := by
 w_on; o_law; k_head; (case hw => w_witness2)
 k_fill
 refine Tp.walk (l := PySem.Challenge.rw_tentpairs_k07_refused) rfl rfl (fun w h Y => PySem.W.kIn_of Y) ?F
 case F =>
  intro w mg fa h KX G hmg
  refine' Tp.all_mk KX G hmg ?aC ?aX_BadCamp ?xX_BadCamp ?aX_BadPairs ?xX_BadPairs ?aX_NoCamper ?xX_NoCamper ?aX_CampError ?aX_NoneSteady ?aX_BadText ?kt_CampError ?sp_CampError ?rd_CampError ?fc_CampError ?kt_BadCamp ?ga_BadCamp ?gt_BadCamp ?cc_BadCamp ?ca_BadCamp ?mr_BadCamp ?be_BadCamp ?kx_BadCamp_BadCamp ?kx_BadCamp_BadPairs ?kx_BadCamp_NoCamper ?kx_BadCamp_NoneSteady ?kx_BadCamp_BadText ?kv_BadCamp ?kt_BadPairs ?ga_BadPairs ?gt_BadPairs ?cc_BadPairs ?ca_BadPairs ?mr_BadPairs ?be_BadPairs ?kx_BadPairs_BadCamp ?kx_BadPairs_BadPairs ?kx_BadPairs_NoCamper ?kx_BadPairs_NoneSteady ?kx_BadPairs_BadText ?kv_BadPairs ?kt_NoCamper ?ga_NoCamper ?gt_NoCamper ?cc_NoCamper ?ca_NoCamper ?mr_NoCamper ?be_NoCamper ?kx_NoCamper_BadCamp ?kx_NoCamper_BadPairs ?kx_NoCamper_NoCamper ?kx_NoCamper_NoneSteady ?kx_NoCamper_BadText ?kv_NoCamper ?kt_NoneSteady ?ga_NoneSteady ?gt_NoneSteady ?cc_NoneSteady ?ca_NoneSteady ?mr_NoneSteady ?be_NoneSteady ?kx_NoneSteady_BadCamp ?kx_NoneSteady_BadPairs ?kx_NoneSteady_NoCamper ?kx_NoneSteady_NoneSteady ?kx_NoneSteady_BadText ?kv_NoneSteady ?cg ?ctk ?aT ?lT ?a0 ?i0 ?l0 ?c0 ?k0 ?a1 ?l1 ?c1 ?k1 ?a2 ?l2 ?c2 ?k2 ?a3 ?l3 ?c3 ?k3 ?a4 ?i4 ?l4 ?c4 ?k4 ?a5 ?i5 ?l5 ?c5 ?k5 ?a6 ?i6 ?l6 ?c6 ?k6 ?a7 ?l7 ?c7 ?k7 ?a8 ?l8 ?c8 ?k8 ?a9 ?l9 ?c9 ?k9 ?a10 ?l10 ?c10 ?k10 ?a11 ?l11 ?c11 ?k11 ?a12 ?l12 ?c12 ?k12 ?a13 ?l13 ?c13 ?k13 ?a14 ?l14 ?c14 ?k14 ?a15 ?l15 ?c15 ?k15 ?a16 ?l16 ?c16 ?k16 ?a17 ?l17 ?c17 ?k17 ?a18 ?l18 ?c18 ?k18 ?a19 ?l19 ?c19 ?k19 ?a20 ?l20 ?c20 ?k20 ?a21 ?l21 ?c21 ?k21 ?a22 ?l22 ?c22 ?k22 ?a23 ?l23 ?c23 ?k23 ?a24 ?l24 ?c24 ?k24 ?a25 ?l25 ?c25 ?k25 ?a26 ?l26 ?c26 ?k26 ?a27 ?l27 ?c27 ?k27 ?a28 ?l28 ?c28 ?k28 ?a29 ?l29 ?c29 ?k29 ?ii_NoneSteady ?sa_NoneSteady ?nx_rings ?pg ?hd ?po ?sa ?mk ?kc ?n_size ?n_wishes ?eM ?z_len ?z_list ?z_isinstance ?z_range ?z_enumerate ?z_any ?z_all ?z_int ?z_bool ?z_tuple ?z_sorted ?z_ValueError
  (case aC | aX_BadCamp => k_is)
  (case xX_BadCamp => k_exc)
  (case aX_BadPairs => k_is)
  (case xX_BadPairs => k_exc)
  (case aX_NoCamper => k_is)
  (case xX_NoCamper => k_exc)
  (case aX_CampError | aX_NoneSteady | aX_BadText => k_is)
  (case kt_CampError | sp_CampError | rd_CampError | fc_CampError | kt_BadCamp => kernel_rfl)
  (case ga_BadCamp | gt_BadCamp => k_is)
  (case cc_BadCamp => kernel_rfl)
  (case ca_BadCamp | mr_BadCamp => k_is)
  (case be_BadCamp => kernel_rfl)
  (case kx_BadCamp_BadCamp | kx_BadCamp_BadPairs | kx_BadCamp_NoCamper | kx_BadCamp_NoneSteady | kx_BadCamp_BadText | kv_BadCamp => kit_is)
  (case kt_BadPairs => kernel_rfl)
  (case ga_BadPairs | gt_BadPairs => k_is)
  (case cc_BadPairs => kernel_rfl)
  (case ca_BadPairs | mr_BadPairs => k_is)
  (case be_BadPairs => kernel_rfl)
  (case kx_BadPairs_BadCamp | kx_BadPairs_BadPairs | kx_BadPairs_NoCamper | kx_BadPairs_NoneSteady | kx_BadPairs_BadText | kv_BadPairs => kit_is)
  (case kt_NoCamper => kernel_rfl)
  (case ga_NoCamper | gt_NoCamper => k_is)
  (case cc_NoCamper => kernel_rfl)
  (case ca_NoCamper | mr_NoCamper => k_is)
  (case be_NoCamper => kernel_rfl)
  (case kx_NoCamper_BadCamp | kx_NoCamper_BadPairs | kx_NoCamper_NoCamper | kx_NoCamper_NoneSteady | kx_NoCamper_BadText | kv_NoCamper => kit_is)
  (case kt_NoneSteady => kernel_rfl)
  (case ga_NoneSteady | gt_NoneSteady => k_is)
  (case cc_NoneSteady => kernel_rfl)
  (case ca_NoneSteady | mr_NoneSteady => k_is)
  (case be_NoneSteady => kernel_rfl)
  (case kx_NoneSteady_BadCamp | kx_NoneSteady_BadPairs | kx_NoneSteady_NoCamper | kx_NoneSteady_NoneSteady | kx_NoneSteady_BadText | kv_NoneSteady => kit_is)
  (case cg | ctk | aT | lT | a0 | i0 | l0 | c0 | k0 | a1 | l1 | c1 | k1 | a2 | l2 | c2 | k2 | a3 | l3 | c3 | k3 | a4 | i4 | l4 | c4 | k4 | a5 | i5 | l5 | c5 | k5 | a6 | i6 | l6 | c6 | k6 | a7 | l7 | c7 | k7 | a8 | l8 | c8 | k8 | a9 | l9 | c9 | k9 | a10 | l10 | c10 | k10 | a11 | l11 | c11 | k11 | a12 | l12 | c12 | k12 | a13 | l13 | c13 | k13 | a14 | l14 | c14 | k14 | a15 | l15 | c15 | k15 | a16 | l16 | c16 | k16 | a17 | l17 | c17 | k17 | a18 | l18 | c18 | k18 | a19 | l19 | c19 | k19 | a20 | l20 | c20 | k20 | a21 | l21 | c21 | k21 | a22 | l22 | c22 | k22 | a23 | l23 | c23 | k23 | a24 | l24 | c24 | k24 | a25 | l25 | c25 | k25 | a26 | l26 | c26 | k26 | a27 | l27 | c27 | k27 | a28 | l28 | c28 | k28 | a29 | l29 | c29 | k29 => k_is)
  (case ii_NoneSteady => kernel_rfl)
  (case sa_NoneSteady | nx_rings | pg | hd | po | sa | mk | kc | n_size | n_wishes | eM | z_len | z_list | z_isinstance | z_range | z_enumerate | z_any | z_all | z_int | z_bool | z_tuple | z_sorted | z_ValueError => k_is)
#print axioms PySem.Challenge.cw_tentpairs_k07_refused_holds
