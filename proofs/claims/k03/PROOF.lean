import PyProof.Rows.All
import Wide.All
import OpenK.AllK
import Wide.FinOn
import Lean
import PyProof.EqAt
import PyProof.EqKinds
import PyProof.TupleCall
import PyProof.CompFree
import PyProof.ZipIter
import PyProof.TupleIter
import PyProof.WalksMore
import PyProof.Draws
import PyProof.ListMulRoad
import PyProof.FactsAll.tuple_2
import PyProof.WalksEnum
import PyProof.EnumMake
import PyProof.NeKinds
import PyProof.ExcArgsOwn
import PyProof.ExcAttrAll.ValueError
import PyProof.ExcInit
import PyProof.InstStoreFacts
import KE.KIsAll
import PySem.Challenge.RW_tokenwall_k03_nets_refused
set_option Elab.async false
set_option linter.all false
set_option maxRecDepth 100000
set_option maxHeartbeats 4000000
namespace L2
open PySem PySem.Spec PyProof.Rows
abbrev Key := Sum Int Str
def keyIs : Key → Value → Bool
  | .inl k, v => Value.isInt k v
  | .inr x, v => Value.isStrOf x v
def keyH (w : World) : Key → Int
  | .inl k => hashInt k
  | .inr x => hashStr w x
theorem keyIs_shape : ∀ {k : Key} {v : Value}, keyIs k v = true → (∃ i t, k = Sum.inl i ∧ v = Value.int i t) ∨ (∃ x t, k = Sum.inr x ∧ v = Value.str x t)
  | .inl i, v, h => by
    obtain ⟨t, e⟩ := Value.isInt_shape (k := i) (v := v) h
    exact .inl ⟨i, t, rfl, e⟩
  | .inr x, v, h => by
    obtain ⟨t, e⟩ := Value.isStrOf_shape (x := x) (v := v) h
    exact .inr ⟨x, t, rfl, e⟩
theorem keyIs_int (i : Int) (t : Tok) : keyIs (.inl i) (.int i t) = true := by simp [keyIs, Value.isInt]
theorem keyIs_str (x : Str) (t : Tok) : keyIs (.inr x) (.str x t) = true := by simp [keyIs, Value.isStrOf]
theorem key_ll (a b : Int) : decide ((Sum.inl a : Key) = Sum.inl b) = (a == b) := by
  by_cases e : a = b
  · subst e; simp
  · have h : ¬ (Sum.inl a : Key) = Sum.inl b := fun q => e (Sum.inl.inj q)
    rw [decide_eq_false h]
    exact (beq_eq_false_iff_ne.mpr e).symm
theorem key_rr (a b : Str) : decide ((Sum.inr a : Key) = Sum.inr b) = decide (a = b) := by
  by_cases e : a = b
  · subst e; simp
  · have h : ¬ (Sum.inr a : Key) = Sum.inr b := fun q => e (Sum.inr.inj q)
    rw [decide_eq_false h, decide_eq_false e]
theorem key_lr (a : Int) (b : Str) : decide ((Sum.inl a : Key) = Sum.inr b) = false := decide_eq_false (fun q => nomatch q)
theorem key_rl (a : Str) (b : Int) : decide ((Sum.inr a : Key) = Sum.inl b) = false := decide_eq_false (fun q => nomatch q)
def mixKind (prog : Program) (w : World) : PySem.KeyKind prog w Key where
  is := keyIs
  hash := keyH w
  inj := fun v a b ha hb => by
    rcases keyIs_shape ha with ⟨i, t, rfl, rfl⟩ | ⟨x, t, rfl, rfl⟩
    · rcases keyIs_shape hb with ⟨j, u, rfl, e⟩ | ⟨y, u, rfl, e⟩
      · injection e with e1 _; rw [e1]
      · exact nomatch e
    · rcases keyIs_shape hb with ⟨j, u, rfl, e⟩ | ⟨y, u, rfl, e⟩
      · exact nomatch e
      · injection e with e1 _; rw [e1]
  byValue := fun k v h => by
    rcases keyIs_shape h with ⟨i, t, rfl, rfl⟩ | ⟨x, t, rfl, rfl⟩ <;> rfl
  pyHash := fun hv h => by
    rcases keyIs_shape hv with ⟨i, t, rfl, rfl⟩ | ⟨x, t, rfl, rfl⟩
    · exact wpAny_pyHash_int h
    · exact wpAny_pyHash_str h
  eqBool := fun hu hv h => by
    rcases keyIs_shape hu with ⟨i, t, rfl, rfl⟩ | ⟨x, t, rfl, rfl⟩
    · rcases keyIs_shape hv with ⟨j, u, rfl, rfl⟩ | ⟨y, u, rfl, rfl⟩
      · rw [key_ll] at h; exact wpAny_eqBool_int h
      · rw [key_lr] at h; exact SeqAt.EqAt.int_str i t y u _ _ _ _ h
    · rcases keyIs_shape hv with ⟨j, u, rfl, rfl⟩ | ⟨y, u, rfl, rfl⟩
      · rw [key_rl] at h; exact SeqAt.EqAt.str_int x t j u _ _ _ _ h
      · rw [key_rr] at h; exact wpAny_eqBool_str h
  «strs» := fun k x t v h => by
    rcases keyIs_shape h with ⟨i, u, rfl, e⟩ | ⟨y, u, rfl, e⟩
    · exact nomatch e
    · injection e with e1 _
      subst e1
      cases v <;> rfl
theorem mixKind_int (prog : Program) (w : World) (i : Int) (t : Tok) : (mixKind prog w).is (.inl i) (.int i t) = true := keyIs_int i t
theorem mixKind_str (prog : Program) (w : World) (x : Str) (t : Tok) : (mixKind prog w).is (.inr x) (.str x t) = true := keyIs_str x t
end L2
namespace L2
open PySem PySem.Spec PyProof.Rows
inductive V where
  | non | bl (b : Bool) | int (i : Int) | str (x : Str) | byt (b : Array UInt8) | flt (b : UInt64) | ref (a : Addr) | ty (n : String)
  deriving DecidableEq
def RelV : V → Value → Prop
  | .non, u => u = Value.none
  | .bl b, u => u = Value.bool b
  | .int i, u => ∃ t, u = Value.int i t
  | .str x, u => ∃ t, u = Value.str x t
  | .byt b, u => ∃ t, u = Value.bytes b t
  | .flt b, u => ∃ t, u = Value.float b t
  | .ref a, u => u = Value.ref a
  | .ty n, u => u = Value.type n
abbrev Vals : List V → List Value → Prop := Paired RelV
theorem Vals.length {xs : List V} {us : List Value} (r : Vals xs us) : xs.length = us.length := Paired.length r
theorem Vals.get : ∀ {xs : List V} {us : List Value} {i : Nat} {x : V}, Vals xs us → xs[i]? = some x → ∃ u, us[i]? = some u ∧ RelV x u
  | _, _, _, _, .nil, e => by simp at e
  | _, _, 0, _, .cons r _, e => by simp at e; subst e; exact ⟨_, rfl, r⟩
  | _, _, i + 1, x, .cons _ t, e => by
    obtain ⟨u, h1, h2⟩ := Vals.get (i := i) (x := x) t (by simpa using e)
    exact ⟨u, by simpa using h1, h2⟩
theorem Vals.set {x : V} {u : Value} (r : RelV x u) : ∀ {xs : List V} {us : List Value} (i : Nat), Vals xs us → Vals (xs.set i x) (us.set i u)
  | _, _, _, .nil => .nil
  | _, _, 0, .cons _ t => .cons r t
  | _, _, i + 1, .cons q t => .cons q (Vals.set r i t)
theorem Vals.append : ∀ {xs ys : List V} {us ws : List Value}, Vals xs us → Vals ys ws → Vals (xs ++ ys) (us ++ ws)
  | _, _, _, _, .nil, s => s
  | _, _, _, _, .cons r t, s => .cons r (Vals.append t s)
theorem Vals.take : ∀ {xs : List V} {us : List Value} (n : Nat), Vals xs us → Vals (xs.take n) (us.take n)
  | _, _, 0, _ => .nil
  | _, _, _ + 1, .nil => .nil
  | _, _, n + 1, .cons r t => .cons r (Vals.take n t)
theorem Vals.drop : ∀ {xs : List V} {us : List Value} (n : Nat), Vals xs us → Vals (xs.drop n) (us.drop n)
  | _, _, 0, r => r
  | _, _, _ + 1, .nil => .nil
  | _, _, n + 1, .cons _ t => Vals.drop n t
def RelO : Option V → Option Value → Prop
  | some v, some u => RelV v u
  | none, none => True
  | _, _ => False
def KV {κ : Type} : List (κ × V) → List (κ × Value) → Prop := Paired fun (p : κ × V) (q : κ × Value) => p.1 = q.1 ∧ RelV p.2 q.2
def kV : Key → V
  | .inl i => .int i
  | .inr x => .str x
inductive HO where
  | lst (xs : List V)
  | tup (xs : List V)
  | dK (kvs : List (Key × V)) | dT (kvs : List (List Key × V))
  | set (S : Int → Bool) (n : Nat)
  | ins (C dx : Addr) (fs : List (Str × V))
  | own (x : Addr)
  | xd (fs : List (Str × V))
  | met (f x : Addr)
  | rng (lo hi : Int)
  | frz (o : Obj) (u : HO)
  | tbl (ps : Array Value)
  | ext (φ : Heap → Prop)
abbrev Hp := Addr → Option HO
def upd (H : Hp) (a : Addr) (o : HO) : Hp := fun b => if b = a then some o else H b
theorem upd_same {H : Hp} {a : Addr} {o : HO} : upd H a o a = some o := by unfold upd; rw [if_pos rfl]
theorem upd_ne {H : Hp} {a b : Addr} {o : HO} (h : b ≠ a) : upd H a o b = H b := by unfold upd; rw [if_neg h]
theorem upd_upd {H : Hp} {a : Addr} {o u : HO} : upd (upd H a o) a u = upd H a u := by
  funext b; unfold upd; split <;> rfl
theorem ne_of {H : Hp} {a b : Addr} {o u : HO} (h : H a = some o) (h' : H b = some u) (d : o ≠ u) : a ≠ b := by
  intro e; subst e; rw [h] at h'; exact d (Option.some.inj h')
theorem ne_of_none {H : Hp} {a b : Addr} {o : HO} (h : H a = some o) (h' : H b = none) : a ≠ b := by
  intro e; subst e; rw [h] at h'; cases h'
section
variable (P : Program) (w : World)
def ObjOk (H : Hp) (h : Heap) (a : Addr) : HO → Prop
  | .lst xs => xs.length ≤ sizeLine ∧ ∃ (its : List Value) (n : Nat), Vals xs its ∧ h.get? a = some { cls := .type "list", data := .seq its.toArray n }
  | .tup xs => xs.length ≤ sizeLine ∧ ∃ its : List Value, Vals xs its ∧ IsTup h a its.toArray
  | .dK kvs => kvs.length ≤ sizeLine ∧ (a == sysModules) = false ∧ ∃ vs, KV kvs vs ∧ h.DictOf (mixKind P w) a vs
  | .dT kvs => kvs.length ≤ sizeLine ∧ (a == sysModules) = false ∧ ∃ xs : List (List Key × Addr × Value),
      Paired (fun (p : List Key × V) (q : List Key × Addr × Value) => p.1 = q.1 ∧ H q.2.1 = some (.tup (p.1.map kV)) ∧ RelV p.2 q.2.2) kvs xs ∧
      ∃ o es ep, h.get? a = some o ∧ o.ExactDict ∧ o.data = .dict es ep ∧ es.toList = xs.map (entryOfKey (tupleKind (mixKind P w))) ∧ (xs.map (·.1)).Nodup
  | .set S n => h.SetOf (intKind P w) a S n
  | .ins C dx fs => H dx = some (.own a) ∧ fs.length ≤ 1000 ∧ dx ≠ a ∧ h.get? a = some (PySem.W.instObj C dx) ∧
      ∃ mA, h.Ns1 dx mA ∧ (∀ f, RelO (fs.lookup f) (mA f)) ∧ PySem.Within mA (fs.map (·.1))
  | .own _ => ∃ o, h.get? a = some o
  | .xd fs => ∃ mA, h.Ns1 a mA ∧ ∀ f, RelO (fs.lookup f) (mA f)
  | .rng lo hi => ∃ t u v, h.get? a = some { cls := .type "range", data := .fields #[.int lo t, .int hi u, .int 1 v] }
  | .frz o u => h.get? a = some o ∧ ObjOk H h a u
  | .tbl ps => h.get? a = some { cls := .none, data := .fields ps }
  | .met f x => h.get? a = some (PySem.W.methodObj (.ref f) (.ref x))
  | .ext φ => φ h ∧ (∃ o, h.get? a = some o) ∧ ∀ h1 h2 : Heap, φ h1 → (∀ o, h1.get? a = some o → h2.get? a = some o) → φ h2
def HOk (H : Hp) (h : Heap) : Prop := ∀ a o, H a = some o → ObjOk P w H h a o
end
section
variable {P : Program} {w : World} {H H' : Hp} {h h' : Heap} {a : Addr} {o : HO}
theorem ObjOk.lt (x : ObjOk P w H h a o) : a < h.objs.size := by
  cases o with
  | lst xs => obtain ⟨_, _, _, _, e⟩ := x; exact Heap.lt_size e
  | tup xs => obtain ⟨_, _, _, p⟩ := x; exact p.lt
  | dK kvs => obtain ⟨_, _, _, _, o, _, _, e, _⟩ := x; exact Heap.lt_size e
  | dT kvs => obtain ⟨_, _, _, _, o, _, _, e, _⟩ := x; exact Heap.lt_size e
  | set S n => obtain ⟨o, _, _, _, e, _⟩ := x; exact Heap.lt_size e
  | ins C dx fs => obtain ⟨_, _, _, e, _⟩ := x; exact Heap.lt_size e
  | own y => obtain ⟨_, e⟩ := x; exact Heap.lt_size e
  | xd fs => obtain ⟨_, ⟨_, _, _, e, _⟩, _⟩ := x; exact Heap.lt_size e
  | rng lo hi => obtain ⟨_, _, _, e⟩ := x; exact Heap.lt_size e
  | frz ob u => obtain ⟨e, _⟩ := x; exact Heap.lt_size e
  | tbl ps => exact Heap.lt_size (show h.get? a = some _ from x)
  | met f y => exact Heap.lt_size (show h.get? a = some _ from x)
  | ext φ => obtain ⟨_, ⟨_, e⟩, _⟩ := x; exact Heap.lt_size e
theorem Paired.mapP {α β : Type} {F G : α → β → Prop} : ∀ {l₁ : List α} {l₂ : List β}, Paired F l₁ l₂ → (∀ a b, F a b → G a b) → Paired G l₁ l₂
  | _, _, .nil, _ => .nil
  | _, _, .cons r t, f => .cons (f _ _ r) (Paired.mapP t f)
theorem ObjOk.stay (x : ObjOk P w H h a o) (k : ∀ b u, (b = a ∨ H b = some (.own a)) → h.get? b = some u → h'.get? b = some u)
    (ho : ∀ b, H b = some (.own a) → H' b = some (.own a)) (ht : ∀ b xs, H b = some (.tup xs) → H' b = some (.tup xs)) : ObjOk P w H' h' a o := by
  induction o with
  | lst xs => obtain ⟨z, its, n, r, e⟩ := x; exact ⟨z, its, n, r, k _ _ (.inl rfl) e⟩
  | tup xs => obtain ⟨z, its, r, ob, e, c⟩ := x; exact ⟨z, its, r, ob, k _ _ (.inl rfl) e, c⟩
  | dK kvs => obtain ⟨z, y, vs, r, ob, es, ep, e, c⟩ := x; exact ⟨z, y, vs, r, ob, es, ep, k _ _ (.inl rfl) e, c⟩
  | dT kvs =>
    obtain ⟨z, y, xs, r, ob, es, ep, e, c⟩ := x
    exact ⟨z, y, xs, Paired.mapP r fun p q z => ⟨z.1, ht _ _ z.2.1, z.2.2⟩, ob, es, ep, k _ _ (.inl rfl) e, c⟩
  | set S n => obtain ⟨ob, es, ep, t, e, c⟩ := x; exact ⟨ob, es, ep, t, k _ _ (.inl rfl) e, c⟩
  | ins C dx fs =>
    obtain ⟨d, z, ne, e, mA, ⟨od, es, ep, e2, c⟩, r⟩ := x
    exact ⟨ho _ d, z, ne, k _ _ (.inl rfl) e, mA, ⟨od, es, ep, k _ _ (.inr d) e2, c⟩, r⟩
  | own y => obtain ⟨ob, e⟩ := x; exact ⟨ob, k _ _ (.inl rfl) e⟩
  | xd fs => obtain ⟨mA, ⟨od, es, ep, e, c⟩, r⟩ := x; exact ⟨mA, ⟨od, es, ep, k _ _ (.inl rfl) e, c⟩, r⟩
  | rng lo hi => obtain ⟨t, u, v, e⟩ := x; exact ⟨t, u, v, k _ _ (.inl rfl) e⟩
  | frz ob u ih => obtain ⟨e, q⟩ := x; exact ⟨k _ _ (.inl rfl) e, ih q⟩
  | tbl ps =>
    have e : h.get? a = some { cls := .none, data := .fields ps } := x
    show h'.get? a = some { cls := .none, data := .fields ps }
    exact k a _ (.inl rfl) e
  | met f y =>
    have e : h.get? a = some (PySem.W.methodObj (.ref f) (.ref y)) := x
    show h'.get? a = some (PySem.W.methodObj (.ref f) (.ref y))
    exact k a _ (.inl rfl) e
  | ext φ => obtain ⟨p, ⟨o, e⟩, st⟩ := x; exact ⟨st _ _ p fun o q => k _ _ (.inl rfl) q, ⟨o, k _ _ (.inl rfl) e⟩, st⟩
theorem HOk.lt (x : HOk P w H h) (e : H a = some o) : a < h.objs.size := (x a o e).lt
theorem HOk.fresh (x : HOk P w H h) (e : h.objs.size ≤ a) : H a = none := by
  cases q : H a with
  | none => rfl
  | some u => exact absurd (Nat.lt_of_lt_of_le (x.lt q) e) (Nat.lt_irrefl _)
theorem HOk.kept (x : HOk P w H h) (k : ∀ b u, h.get? b = some u → h'.get? b = some u) : HOk P w H h' := fun a o e =>
  (x a o e).stay (fun b u _ q => k b u q) (fun _ q => q) fun _ _ q => q
theorem HOk.laid (x : HOk P w H h) (k : ∀ b u, h.get? b = some u → h'.get? b = some u) (hp : h.objs.size ≤ a) (new : ObjOk P w (upd H a o) h' a o) : HOk P w (upd H a o) h' := fun b u e => by
  have hn := x.fresh hp
  by_cases hb : b = a
  · subst hb; rw [upd_same] at e; cases e; exact new
  · rw [upd_ne hb] at e
    exact (x b u e).stay (fun c v _ q => k c v q) (fun c q => by rw [upd_ne (ne_of_none q hn)]; exact q) fun c xs q => by rw [upd_ne (ne_of_none q hn)]; exact q
end
def Rd (H : Hp) (a : Addr) (u : HO) : Prop := H a = some u ∨ ∃ o, H a = some (.frz o u)
theorem Rd.ok {P : Program} {w : World} {H : Hp} {h : Heap} {a : Addr} {u : HO} (r : Rd H a u) (x : HOk P w H h) : ObjOk P w H h a u := by
  rcases r with r | ⟨o, r⟩
  · exact x a u r
  · obtain ⟨_, q⟩ := x a _ r
    exact q
def Mut : Option HO → Prop
  | some (.lst _) => True
  | some (.dK _) => True
  | some (.dT _) => True
  | some (.set _ _) => True
  | some (.ins _ _ _) => True
  | some (.ext _) => True
  | _ => False
section
variable {P : Program} {w : World} {H : Hp} {h h' : Heap} {x e : Addr} {o' : HO}
theorem HOk.write (ok : HOk P w H h) (mu : Mut (H x)) (he : e = x ∨ H e = some (.own x)) (k : ∀ b u, b ≠ e → h.get? b = some u → h'.get? b = some u) (heo : ∃ u, h'.get? e = some u)
    (new : ObjOk P w (upd H x o') h' x o') : HOk P w (upd H x o') h' := fun b u q => by
  have nown : ∀ c y, H c = some (.own y) → c ≠ x := fun c y r z => by subst z; rw [r] at mu; exact mu
  have ntup : ∀ c xs, H c = some (.tup xs) → c ≠ x := fun c xs r z => by subst z; rw [r] at mu; exact mu
  by_cases hb : b = x
  · subst hb; rw [upd_same] at q; cases q; exact new
  · rw [upd_ne hb] at q
    by_cases hbe : b = e
    · have q' : H b = some (.own x) := by
        rcases he with z | z
        · exact absurd (hbe.trans z) hb
        · rw [hbe]; exact z
      rw [q] at q'; cases q'
      obtain ⟨v, hv⟩ := heo
      exact ⟨v, by rw [hbe]; exact hv⟩
    · refine (ok b u q).stay (fun c v hc r => k c v ?_ r) (fun c r => by rw [upd_ne (nown c b r)]; exact r) fun c xs r => by rw [upd_ne (ntup c xs r)]; exact r
      rcases hc with rfl | hc
      · exact hbe
      · rintro rfl
        rcases he with z | z
        · exact nown c b hc z
        · rw [hc] at z; cases z; exact hb rfl
end
structure Un (fs ex : List Addr) (H H' : Hp) (h h' : Heap) : Prop where
  keep : ∀ b o, h.get? b = some o → H b = none → b ∉ fs → b ∉ ex → h'.get? b = some o
  slot : ∀ b o, h.get? b = some o → H b = none → b ∈ fs → b ∉ ex → ∃ sl, h'.get? b = some { o with slots := sl }
  free : ∀ b o, h.get? b = some o → H b = none → b ∉ ex → H' b = none
  there : ∀ b o, h.get? b = some o → b ∉ ex → ∃ o', h'.get? b = some o'
  tups : ∀ b xs, H b = some (.tup xs) → H' b = some (.tup xs)
  frzs : ∀ b o u, H b = some (.frz o u) → H' b = some (.frz o u)
  tbls : ∀ b ps, H b = some (.tbl ps) → ∃ more, H' b = some (.tbl (ps ++ more))
section
variable {fs fs' ex ex' : List Addr} {H H1 H2 : Hp} {h h1 h2 h' : Heap} {a x e : Addr} {o : HO}
theorem Un.any (u : Un fs ex H H1 h h1) {b : Addr} {ob : Obj} (q : h.get? b = some ob) (n : H b = none) (hx : b ∉ ex) : ∃ sl, h1.get? b = some { ob with slots := sl } := by
  by_cases hb : b ∈ fs
  · exact u.slot b ob q n hb hx
  · exact ⟨ob.slots, u.keep b ob q n hb hx⟩
theorem Un.kept (k : ∀ b u, h.get? b = some u → h'.get? b = some u) : Un fs ex H H h h' :=
  ⟨fun b ob q _ _ _ => k b ob q, fun b ob q _ _ _ => ⟨ob.slots, k b ob q⟩, fun _ _ _ n _ => n, fun b ob q _ => ⟨ob, k b ob q⟩, fun _ _ q => q, fun _ _ _ q => q, fun _ ps q => ⟨#[], by rw [q]; simp⟩⟩
theorem Un.refl : Un fs ex H H h h := Un.kept fun _ _ q => q
theorem Un.laid (k : ∀ b u, h.get? b = some u → h'.get? b = some u) (hp : h.objs.size ≤ a) (hn : H a = none) : Un fs ex H (upd H a o) h h' where
  keep := fun b u q _ _ _ => k b u q
  slot := fun b u q _ _ _ => ⟨u.slots, k b u q⟩
  free := fun b u q n _ => by rw [upd_ne (Nat.ne_of_lt (Nat.lt_of_lt_of_le (Heap.lt_size q) hp))]; exact n
  there := fun b u q _ => ⟨u, k b u q⟩
  tups := fun b xs q => by rw [upd_ne (ne_of_none q hn)]; exact q
  frzs := fun b u xs q => by rw [upd_ne (ne_of_none q hn)]; exact q
  tbls := fun b ps q => ⟨#[], by rw [upd_ne (ne_of_none q hn), q]; simp⟩
theorem Un.write (mu : Mut (H x)) (he : e = x ∨ H e = some (.own x)) (k : ∀ b u, b ≠ e → h.get? b = some u → h'.get? b = some u) (heo : ∃ u, h'.get? e = some u) : Un fs ex H (upd H x o) h h' := by
  have hx : ∀ b, H b = none → b ≠ x := fun b n z => by subst z; rw [n] at mu; exact mu
  have hb : ∀ b, H b = none → b ≠ e := fun b n z => by
    subst z
    rcases he with r | r
    · exact hx b n r
    · rw [n] at r; cases r
  have hm : ∀ b u, H b = some u → ¬ Mut (some u) → b ≠ x := fun b u q nm z => by subst z; rw [q] at mu; exact nm mu
  refine ⟨fun b u q n _ _ => k b u (hb b n) q, fun b u q n _ _ => ⟨u.slots, k b u (hb b n) q⟩, fun b u q n _ => by rw [upd_ne (hx b n)]; exact n, fun b u q _ => ?_,
    fun b xs q => by rw [upd_ne (hm b _ q fun z => z)]; exact q, fun b u xs q => by rw [upd_ne (hm b _ q fun z => z)]; exact q, fun b ps q => ⟨#[], by rw [upd_ne (hm b _ q fun z => z), q]; simp⟩⟩
  by_cases hbe : b = e
  · subst hbe; exact heo
  · exact ⟨u, k b u hbe q⟩
end
def trk (h : Heap) (H : Hp) : List Addr := (List.range h.objs.size).filter fun a => (H a).isSome
def hidT (h : Heap) (H : Hp) : Heap := PySem.W.hideAll h (trk h H)
theorem hidT_size (h : Heap) (H : Hp) : (hidT h H).objs.size = h.objs.size := PySem.W.hideAll_size _ _
theorem hidT_get {h : Heap} {H : Hp} {b : Addr} {o : Obj} (e : h.get? b = some o) (n : H b = none) : (hidT h H).get? b = some o :=
  PySem.W.hideAll_get _ e fun hm => by
    have q : (H b).isSome = true := (List.mem_filter.mp hm).2
    rw [n] at q; simp at q
theorem of_hidT {h : Heap} {H : Hp} {b : Addr} {o : Obj} (e : (hidT h H).get? b = some o) : h.get? b = some o ∧ H b = none := by
  have e' : h.get? b = some o := PySem.W.of_hideAll (trk h H) e
  refine ⟨e', ?_⟩
  cases q : H b with
  | none => rfl
  | some x =>
    have hm : b ∈ trk h H := List.mem_filter.mpr ⟨List.mem_range.mpr (Heap.lt_size e'), by simp [q]⟩
    have z : (hidT h H).get? b = none := PySem.W.hideAll_none (trk h H) hm
    rw [z] at e; cases e
def allNews (g h : Heap) (L : Addr) : List (Addr × Obj) := (List.range h.objs.size).filterMap fun a => if a = L ∨ (g.get? a).isSome = true then none else (h.get? a).map fun o => (a, o)
def rest (g h : Heap) (L d : Addr) : List (Addr × Obj) := (allNews g h L).filter fun p => decide (p.1 ≠ d)
end L2
namespace L2
open PySem PySem.Spec PyProof.Rows
structure Mod (K : PySem.W.Frag) (mg : Str → Option Value) (base : Heap) : Prop where
  kin : K.In base
  glob : base.Ns mainGlobals mg
  blt : ∃ mb, base.Ns builtinsNs mb ∧ ∀ x : Str, x ≠ "__name__" → mb x = bootBuiltins x
  nolimit : base.NoLimit
/-- the context: a def's body (or a comprehension's block) running. base: fixed through the whole law; s₀, H₀: the entry; outer: the frames whose slots others may change (a def's callers); stack: all frames that run;
   ex: iterators that were made ahead of the entry and are walked here (a comprehension's); fn: the names whose cells were made at the entry (a def: all; a comprehension's block: its own); calm: not within an except suite; pn: pins that every state bears; xe: what is wanted of an exception that leaves the code -/
structure Cx where
  prog : Program
  w : World
  K : PySem.W.Frag
  mg : Str → Option Value
  base : Heap
  A : Around
  N : List Str
  s₀ : Shared
  H₀ : Hp
  env : Env
  outer : List Env
  stack : List Env
  ex : List Addr
  fn : Str → Bool
  calm : Bool
  pn : List (Addr × Obj)
  xe : Value → Shared → Prop
def frs (l : List Env) : List Addr := l.filterMap (·.frame)
abbrev Cx.fs (X : Cx) : List Addr := frs X.outer
def Vis (sc : Scope) (x : Str) : Prop := sc.names.lookup x = some .local ∨ sc.names.lookup x = some .cell ∨ sc.names.lookup x = some .free
def Loc (sc : Scope) (x : Str) : Prop := sc.names.lookup x = some .local ∨ sc.names.lookup x = some .cell
def Look (env : Env) (h : Heap) (m : Str → Option Value) (x : Str) (u : Value) : Prop :=
  (env.kindOf x = some .local ∧ m x = some u) ∨ ((env.kindOf x = some .cell ∨ env.kindOf x = some .free) ∧ ∃ c, env.cells.lookup x = some c ∧ h.IsCell c (some u))
structure Cx.Ok (X : Cx) : Prop where
  mod : Mod X.K X.mg X.base
  kind : X.env.scope.kind = .function
  glob : X.env.globals = mainGlobals
  blt : X.env.builtins = builtinsNs
  above : X.s₀.heap.objs.size ≤ X.env.locals
  inj : ∀ x y c, X.env.cells.lookup x = some c → X.env.cells.lookup y = some c → x = y
  has : ∀ x, (X.env.kindOf x = some .cell ∨ X.env.kindOf x = some .free) → ∃ c, X.env.cells.lookup x = some c
  cab : ∀ x c, X.fn x = true → X.env.cells.lookup x = some c → X.s₀.heap.objs.size ≤ c
  hd : X.calm = true → X.A.handled = none
  frames : X.A.frames = some X.stack
  stk : X.stack = X.outer ∨ (X.stack = X.env :: X.outer ∧ X.env.frame = some X.env.locals)
  exf : ∀ b ∈ X.ex, b ≠ X.env.locals ∧ ∀ x c, X.env.cells.lookup x = some c → c ≠ b
  bs : ∀ b o, X.base.get? b = some o → X.s₀.heap.get? b = some o ∧ X.H₀ b = none
  bsz : X.base.objs.size ≤ X.s₀.heap.objs.size
  noex : ∀ b o, X.base.get? b = some o → b ∉ X.ex
  exfs : ∀ b ∈ X.ex, b ∉ X.fs
  funs : X.s₀.heap.FunFrames X.base X.outer
  frf : ∀ b ∈ X.fs, X.H₀ b = none
structure Inv (X : Cx) (pins : List (Addr × Obj)) (σ : List (Option V)) (H : Hp) (s : Shared) : Prop where
  ok : X.Ok
  os : s.os = X.s₀.os
  bare : AllBare s.gens
  base : Un X.fs X.ex X.H₀ H X.s₀.heap s.heap
  loc : ∃ m, s.heap.Ns X.env.locals m ∧ ∀ (i : Nat) (x : Str) (v : V), X.N[i]? = some x → σ[i]? = some (some v) → Vis X.env.scope x → ∃ u, RelV v u ∧ Look X.env s.heap m x u
  cell : ∀ x c, X.env.cells.lookup x = some c → ∃ v, s.heap.IsCell c v
  free : H X.env.locals = none
  freeC : ∀ x c, X.env.cells.lookup x = some c → H c = none
  pin : ∀ p ∈ X.pn ++ pins, s.heap.get? p.1 = some p.2 ∧ H p.1 = none ∧ p.1 ≠ X.env.locals ∧ p.1 ∉ X.fs ∧ ∀ v, p.2.data ≠ .cell v
  hok : HOk X.prog X.w H s.heap
  len : σ.length = X.N.length
section
variable {X : Cx} {pins : List (Addr × Obj)} {σ : List (Option V)} {H H' : Hp} {s : Shared} {h' : Heap}
theorem Cx.Ok.nofr (ok : X.Ok) {b : Addr} {o : Obj} (e : X.base.get? b = some o) : b ∉ X.fs := fun hb => by
  have := (ok.funs.mem hb).1
  rw [e] at this; cases this
theorem Inv.bs (I : Inv X pins σ H s) : ∀ b o, X.base.get? b = some o → s.heap.get? b = some o ∧ H b = none := fun b o e =>
  ⟨I.base.keep b o (I.ok.bs b o e).1 (I.ok.bs b o e).2 (I.ok.nofr e) (I.ok.noex b o e), I.base.free b o (I.ok.bs b o e).1 (I.ok.bs b o e).2 (I.ok.noex b o e)⟩
theorem Inv.bk (I : Inv X pins σ H s) : ∀ b o, X.base.get? b = some o → s.heap.get? b = some o := fun b o e => (I.bs b o e).1
theorem Inv.mod (I : Inv X pins σ H s) : Mod X.K X.mg X.base := I.ok.mod
theorem Inv.kIn (I : Inv X pins σ H s) : X.K.In s.heap := I.ok.mod.kin.keeps I.bk
theorem Inv.lt (I : Inv X pins σ H s) : X.env.locals < s.heap.objs.size := let ⟨_, hn, _⟩ := I.loc; hn.lt
theorem Inv.sz (I : Inv X pins σ H s) : X.s₀.heap.objs.size ≤ s.heap.objs.size := Nat.le_trans I.ok.above (Nat.le_of_lt I.lt)
theorem Inv.nofs (I : Inv X pins σ H s) {a : Addr} (h : s.heap.objs.size ≤ a) : a ∉ X.fs := fun hb => by
  obtain ⟨_, o, ho, _⟩ := I.ok.funs.mem hb
  exact absurd (Nat.lt_of_lt_of_le (Heap.lt_size ho) (Nat.le_trans I.sz h)) (Nat.lt_irrefl _)
theorem Inv.cne (I : Inv X pins σ H s) : ∀ x c, X.env.cells.lookup x = some c → c ≠ X.env.locals := fun x c e z => by
  obtain ⟨v, o, ho, hd⟩ := I.cell x c e
  obtain ⟨m, ⟨o', es, ep, ho', hd', _⟩, _⟩ := I.loc
  rw [z, ho'] at ho; cases ho; rw [hd'] at hd; cases hd
theorem Inv.funs (I : Inv X pins σ H s) : s.heap.FunFrames X.base X.outer := by
  have all : ∀ (l : List Env), (∀ b ∈ frs l, b ∈ X.fs) → X.s₀.heap.FunFrames X.base l → s.heap.FunFrames X.base l := by
    intro l
    induction l with
    | nil => intro _ _; trivial
    | cons env r ih =>
      intro hs hl
      obtain ⟨hk, ⟨L, o, hf, hn, ho, hd⟩, hr⟩ := hl
      have hL : L ∈ X.fs := hs L (by unfold frs; rw [List.filterMap_cons, hf]; exact List.mem_cons_self)
      obtain ⟨sl, e⟩ := I.base.slot L o ho (I.ok.frf L hL) hL fun z => I.ok.exfs L z hL
      exact ⟨hk, ⟨L, _, hf, hn, e, hd⟩, ih (fun b hb => hs b (by unfold frs; rw [List.filterMap_cons, hf]; exact List.mem_cons_of_mem _ hb)) hr⟩
  exact all X.outer (fun _ hb => hb) I.ok.funs
theorem Inv.stack (I : Inv X pins σ H s) : s.heap.FunFrames X.base X.stack := by
  rcases I.ok.stk with e | ⟨e, hf⟩
  · rw [e]; exact I.funs
  · rw [e]
    obtain ⟨m, hn, _⟩ := I.loc
    refine .cons (by rw [I.ok.kind]; decide) hf hn ?_ I.funs
    exact Heap.get?_none_of_le (Nat.le_trans I.ok.bsz I.ok.above)
theorem Inv.stkSub (I : Inv X pins σ H s) : ∀ b ∈ frs X.stack, b ∈ X.env.locals :: X.fs := fun b hb => by
  rcases I.ok.stk with e | ⟨e, hf⟩
  · rw [e] at hb; exact List.mem_cons_of_mem _ hb
  · rw [e] at hb
    unfold frs at hb
    rw [List.filterMap_cons, hf] at hb
    exact hb
theorem Inv.stkFree (I : Inv X pins σ H s) : ∀ b ∈ frs X.stack, H b = none := fun b hb => by
  rcases List.mem_cons.mp (I.stkSub b hb) with e | hb
  · rw [e]; exact I.free
  · obtain ⟨_, o, ho, _⟩ := I.ok.funs.mem hb
    exact I.base.free b o ho (I.ok.frf b hb) fun z => I.ok.exfs b z hb
theorem Inv.step {g' : Array GenState} {t' : Nat} {d' : Drawn} {ch : List Addr} (I : Inv X pins σ H s)
    (hch : ∀ b ∈ ch, (b ∈ X.ex ∨ X.s₀.heap.objs.size ≤ b) ∧ b ≠ X.env.locals ∧ (∀ x c, X.env.cells.lookup x = some c → c ≠ b) ∧ ∀ p ∈ X.pn ++ pins, p.1 ≠ b)
    (keep : ∀ b o, b ≠ X.env.locals → b ∉ X.fs → b ∉ ch → s.heap.get? b = some o → H b = none → h'.get? b = some o)
    (slot : ∀ b o, b ≠ X.env.locals → b ∈ X.fs → b ∉ ch → s.heap.get? b = some o → H b = none → ∃ sl, h'.get? b = some { o with slots := sl }) (free : ∀ b o, b ∉ ch → s.heap.get? b = some o → H b = none → H' b = none)
    (there : ∀ b o, b ∉ ch → s.heap.get? b = some o → ∃ o', h'.get? b = some o')
    (tups : ∀ b xs, H b = some (.tup xs) → H' b = some (.tup xs)) (frzs : ∀ b o u, H b = some (.frz o u) → H' b = some (.frz o u)) (tbls : ∀ b ps, H b = some (.tbl ps) → ∃ more, H' b = some (.tbl (ps ++ more)))
    (ns : ∀ m, s.heap.Ns X.env.locals m → h'.Ns X.env.locals m) (hok : HOk X.prog X.w H' h') (hg : AllBare g') :
    Inv X pins σ H' { s with heap := h', gens := g', drawn := d', toks := t' } := by
  have neL : ∀ b o, X.s₀.heap.get? b = some o → b ≠ X.env.locals := fun b o e => Nat.ne_of_lt (Nat.lt_of_lt_of_le (Heap.lt_size e) I.ok.above)
  have neC : ∀ b o, X.s₀.heap.get? b = some o → b ∉ X.ex → b ∉ ch := fun b o e hx hb => by
    rcases (hch b hb).1 with z | z
    · exact hx z
    · exact absurd (Nat.lt_of_lt_of_le (Heap.lt_size e) z) (Nat.lt_irrefl _)
  have cellK : ∀ x c, X.env.cells.lookup x = some c → ∀ v, s.heap.IsCell c v → h'.IsCell c v := fun x c e v ⟨o, ho, hd⟩ => by
    have nch : c ∉ ch := fun z => (hch c z).2.2.1 x c e rfl
    by_cases hc : c ∈ X.fs
    · obtain ⟨sl, q⟩ := slot c o (I.cne x c e) hc nch ho (I.freeC x c e)
      exact ⟨_, q, hd⟩
    · exact ⟨o, keep c o (I.cne x c e) hc nch ho (I.freeC x c e), hd⟩
  refine ⟨I.ok, I.os, hg, ⟨fun b o e n hb hx => ?_, fun b o e n hb hx => ?_, fun b o e n hx => ?_, fun b o e hx => ?_, fun b xs e => tups b xs (I.base.tups b xs e), fun b o xs e => frzs b o xs (I.base.frzs b o xs e), fun b ps e => ?_⟩, ?_, fun x c e => ?_, ?_, fun x c e => ?_, fun p hp => ?_, hok, I.len⟩
  · exact keep b o (neL b o e) hb (neC b o e hx) (I.base.keep b o e n hb hx) (I.base.free b o e n hx)
  · obtain ⟨sl, e1⟩ := I.base.slot b o e n hb hx
    obtain ⟨sl', e2⟩ := slot b _ (neL b o e) hb (neC b o e hx) e1 (I.base.free b o e n hx)
    exact ⟨sl', e2⟩
  · obtain ⟨o', e1⟩ := I.base.there b o e hx
    exact free b o' (neC b o e hx) e1 (I.base.free b o e n hx)
  · obtain ⟨o', e1⟩ := I.base.there b o e hx
    exact there b o' (neC b o e hx) e1
  · obtain ⟨m1, e1⟩ := I.base.tbls b ps e
    obtain ⟨m2, e2⟩ := tbls b _ e1
    exact ⟨m1 ++ m2, by rw [e2, Array.append_assoc]⟩
  · obtain ⟨m, hn, hl⟩ := I.loc
    refine ⟨m, ns m hn, fun i x v e1 e2 e3 => ?_⟩
    obtain ⟨u, r, l⟩ := hl i x v e1 e2 e3
    refine ⟨u, r, ?_⟩
    rcases l with l | ⟨k, c, e, z⟩
    · exact .inl l
    · exact .inr ⟨k, c, e, cellK x c e _ z⟩
  · obtain ⟨v, z⟩ := I.cell x c e
    exact ⟨v, cellK x c e v z⟩
  · obtain ⟨m, ⟨o, _, _, ho, _⟩, _⟩ := I.loc
    exact free _ o (fun z => (hch _ z).2.1 rfl) ho I.free
  · obtain ⟨v, o, ho, hd⟩ := I.cell x c e
    exact free c o (fun z => (hch c z).2.2.1 x c e rfl) ho (I.freeC x c e)
  · obtain ⟨e, n, ne, nf, d⟩ := I.pin p hp
    have nch : p.1 ∉ ch := fun z => (hch p.1 z).2.2.2 p hp rfl
    exact ⟨keep p.1 p.2 ne nf nch e n, free p.1 p.2 nch e n, ne, nf, d⟩
theorem Inv.un {t' : Nat} (I : Inv X pins σ H s) (u : Un X.fs [] H H' s.heap h') (hok : HOk X.prog X.w H' h') : Inv X pins σ H' { s with heap := h', toks := t' } := by
  obtain ⟨m, ⟨o, es, ep, ho, r⟩, _⟩ := id I.loc
  obtain ⟨sl, hL⟩ := u.any ho I.free (by simp)
  exact I.step (g' := s.gens) (d' := s.drawn) (ch := []) (fun _ z => nomatch z) (fun b o _ hb _ e n => u.keep b o e n hb (by simp)) (fun b o _ hb _ e n => u.slot b o e n hb (by simp)) (fun b o _ e n => u.free b o e n (by simp)) (fun b o _ e => u.there b o e (by simp)) u.tups u.frzs u.tbls (fun m' hm => by
    obtain ⟨o', es', ep', ho', r'⟩ := hm
    rw [ho] at ho'; cases ho'
    exact ⟨_, es', ep', hL, r'⟩) hok I.bare
theorem Inv.call {g' : Array GenState} {t' : Nat} {d' : Drawn} {ch : List Addr} (I : Inv X pins σ H s) (u : Un (frs X.stack) ch H H' s.heap h') (hok : HOk X.prog X.w H' h') (hg : AllBare g')
    (hch : ∀ b ∈ ch, (b ∈ X.ex ∨ X.s₀.heap.objs.size ≤ b) ∧ b ≠ X.env.locals ∧ (∀ x c, X.env.cells.lookup x = some c → c ≠ b) ∧ ∀ p ∈ X.pn ++ pins, p.1 ≠ b) :
    Inv X pins σ H' { s with heap := h', gens := g', drawn := d', toks := t' } := by
  obtain ⟨m, ⟨o, es, ep, ho, r⟩, _⟩ := id I.loc
  obtain ⟨sl, hL⟩ := u.any ho I.free fun z => (hch _ z).2.1 rfl
  exact I.step (ch := ch) hch (fun b o hL hb hc e n => u.keep b o e n (fun z => (List.mem_cons.mp (I.stkSub b z)).elim hL hb) hc) (fun b o _ _ hc e n => u.any e n hc) (fun b o hc e n => u.free b o e n hc) (fun b o hc e => u.there b o e hc) u.tups u.frzs u.tbls (fun m' hm => by
    obtain ⟨o', es', ep', ho', r'⟩ := hm
    rw [ho] at ho'; cases ho'
    exact ⟨_, es', ep', hL, r'⟩) hok hg
theorem Inv.turned {t' : Nat} {it : Addr} (I : Inv X pins σ H s) (k : ∀ b o, b ≠ it → s.heap.get? b = some o → h'.get? b = some o) (hn : H it = none) (hL : it ≠ X.env.locals)
    (h1 : it ∈ X.ex ∨ X.s₀.heap.objs.size ≤ it) (h2 : ∀ x c, X.env.cells.lookup x = some c → c ≠ it) (h3 : ∀ p ∈ X.pn ++ pins, p.1 ≠ it) : Inv X pins σ H { s with heap := h', toks := t' } := by
  have nit : ∀ b u, H b = some u → b ≠ it := fun b u e z => by rw [z, hn] at e; cases e
  refine I.step (g' := s.gens) (d' := s.drawn) (ch := [it]) (fun b hb => ?_) (fun b o _ _ hc e _ => k b o (fun z => hc (by simp [z])) e) (fun b o _ _ hc e _ => ⟨o.slots, k b o (fun z => hc (by simp [z])) e⟩) (fun _ _ _ _ n => n)
    (fun b o hc e => ⟨o, k b o (fun z => hc (by simp [z])) e⟩) (fun _ _ e => e) (fun _ _ _ e => e) (fun b ps e => ⟨#[], by rw [e]; simp⟩) (fun m hm => ?_) (fun b u e => ?_) I.bare
  · have e : b = it := by simpa using hb
    subst e
    exact ⟨h1, hL, h2, h3⟩
  · obtain ⟨o, es, ep, ho, r⟩ := hm
    exact ⟨o, es, ep, k _ o (Ne.symm hL) ho, r⟩
  · refine (I.hok b u e).stay (fun c v hc q => k c v ?_ q) (fun _ q => q) fun _ _ q => q
    rcases hc with z | z
    · rw [z]; exact nit b u e
    · exact nit c _ z
theorem Inv.tok (I : Inv X pins σ H s) (t : Nat) : Inv X pins σ H { s with toks := t } := I.un (h' := s.heap) (t' := t) Un.refl I.hok
theorem Inv.kept {t' : Nat} (I : Inv X pins σ H s) (k : ∀ b u, s.heap.get? b = some u → h'.get? b = some u) : Inv X pins σ H { s with heap := h', toks := t' } := I.un (Un.kept k) (I.hok.kept k)
theorem Inv.laid {a : Addr} {o : HO} {t' : Nat} (I : Inv X pins σ H s) (k : ∀ b u, s.heap.get? b = some u → h'.get? b = some u) (hp : s.heap.objs.size ≤ a) (new : ObjOk X.prog X.w (upd H a o) h' a o) :
    Inv X pins σ (upd H a o) { s with heap := h', toks := t' } := I.un (Un.laid k hp (I.hok.fresh hp)) (I.hok.laid k hp new)
theorem Inv.write {x e : Addr} {o : HO} {t' : Nat} (I : Inv X pins σ H s) (mu : Mut (H x)) (he : e = x ∨ H e = some (.own x)) (k : ∀ b u, b ≠ e → s.heap.get? b = some u → h'.get? b = some u) (heo : ∃ u, h'.get? e = some u)
    (new : ObjOk X.prog X.w (upd H x o) h' x o) : Inv X pins σ (upd H x o) { s with heap := h', toks := t' } := I.un (Un.write mu he k heo) (I.hok.write mu he k heo new)
theorem Inv.weak {σ' : List (Option V)} (I : Inv X pins σ H s) (hl : σ'.length = σ.length) (w : ∀ (i : Nat) v, σ'[i]? = some (some v) → σ[i]? = some (some v)) : Inv X pins σ' H s :=
  ⟨I.ok, I.os, I.bare, I.base, let ⟨m, hn, hl'⟩ := I.loc; ⟨m, hn, fun i x v e1 e2 e3 => hl' i x v e1 (w i v e2) e3⟩, I.cell, I.free, I.freeC, I.pin, I.hok, hl.trans I.len⟩
theorem Inv.pins_of {pins' : List (Addr × Obj)} (I : Inv X pins σ H s) (h : ∀ p ∈ pins', s.heap.get? p.1 = some p.2 ∧ H p.1 = none ∧ p.1 ≠ X.env.locals ∧ p.1 ∉ X.fs ∧ ∀ v, p.2.data ≠ .cell v) : Inv X pins' σ H s :=
  ⟨I.ok, I.os, I.bare, I.base, I.loc, I.cell, I.free, I.freeC, fun p hp => (List.mem_append.mp hp).elim (fun z => I.pin p (List.mem_append_left _ z)) (h p), I.hok, I.len⟩
theorem nodup_ix {N : List Str} (hN : N.Nodup) {i j : Nat} {x : Str} (a : N[i]? = some x) (b : N[j]? = some x) : i = j := by
  obtain ⟨h1, e1⟩ := List.getElem?_eq_some_iff.mp a
  obtain ⟨h2, e2⟩ := List.getElem?_eq_some_iff.mp b
  exact (List.getElem_inj hN).mp (e1.trans e2.symm)
theorem store_ok2 {M : Model} {A : Around} {E : Value → Shared → Prop} {i : Nat} {x : Str} {v : V} {u : Value} {Q : Unit → Shared → Prop} (I : Inv X pins σ H s) (hN : X.N.Nodup) (hi : X.N[i]? = some x) (hx : Loc X.env.scope x) (r : RelV v u)
    (h : ∀ s', Inv X pins (σ.set i (some v)) H s' → (∃ a, Heap.SameBut a s.heap s'.heap ∧ (a = X.env.locals ∨ X.env.cells.lookup x = some a)) → Q () s') (hf : X.fn x = true ∨ X.env.scope.names.lookup x = some .local := by first | exact .inl rfl | exact .inr rfl | assumption) : wpAny M A (storeName X.env x u) Q E s := by
  obtain ⟨m, hn, hl⟩ := id I.loc
  have hcls : (X.env.scope.kind == .class || (X.env.scope.kind == .module && X.env.locals != X.env.globals)) = false := by rw [I.ok.kind]; rfl
  have hiσ : i < σ.length := by rw [I.len]; exact (List.getElem?_eq_some_iff.mp hi).1
  have cne := I.cne
  have tracked : ∀ {a : Addr} {h' : Heap}, (∃ o, s.heap.get? a = some o ∧ H a = none) → Heap.SameBut a s.heap h' → HOk X.prog X.w H h' := fun {a h'} ha hs b ob e => by
    obtain ⟨_, _, hfree⟩ := ha
    refine (I.hok b ob e).stay (fun c w' hc q => (hs.2 c ?_).trans q) (fun _ q => q) fun _ _ q => q
    rintro rfl
    rcases hc with rfl | hc
    · rw [hfree] at e; cases e
    · rw [hfree] at hc; cases hc
  rcases hx with hk | hk
  · refine wpAny_storeName_local hk hn (fun h' hn' hs => ?_) hcls
    obtain ⟨oL, _, _, hoL, _⟩ := id hn
    refine h _ ⟨I.ok, I.os, I.bare, ⟨fun b o e n hb hx => ?_, fun b o e n hb hx => ?_, I.base.free, fun b o e hx => ?_, I.base.tups, I.base.frzs, I.base.tbls⟩, ⟨_, hn', fun j y v' e1 e2 e3 => ?_⟩, fun y c e => ?_, I.free, I.freeC, fun p hp => ?_, tracked ⟨oL, hoL, I.free⟩ hs, by simpa using I.len⟩ ⟨_, hs, .inl rfl⟩
    · exact (hs.2 b (Nat.ne_of_lt (Nat.lt_of_lt_of_le (Heap.lt_size e) I.ok.above))).trans (I.base.keep b o e n hb hx)
    · obtain ⟨sl, e1⟩ := I.base.slot b o e n hb hx
      exact ⟨sl, (hs.2 b (Nat.ne_of_lt (Nat.lt_of_lt_of_le (Heap.lt_size e) I.ok.above))).trans e1⟩
    · obtain ⟨o', e1⟩ := I.base.there b o e hx
      exact ⟨o', (hs.2 b (Nat.ne_of_lt (Nat.lt_of_lt_of_le (Heap.lt_size e) I.ok.above))).trans e1⟩
    · by_cases hj : j = i
      · subst hj
        rw [hi] at e1; cases e1
        rw [List.getElem?_set_self hiσ] at e2
        cases e2
        exact ⟨u, r, .inl ⟨hk, by simp⟩⟩
      · rw [List.getElem?_set_ne (Ne.symm hj)] at e2
        obtain ⟨u', r', q⟩ := hl j y v' e1 e2 e3
        refine ⟨u', r', ?_⟩
        rcases q with ⟨k, e⟩ | ⟨k, c, e, z⟩
        · refine .inl ⟨k, ?_⟩
          have : y ≠ x := fun e => hj (nodup_ix hN e1 (e ▸ hi))
          simp [this, e]
        · exact .inr ⟨k, c, e, z.sameBut hs (cne y c e)⟩
    · obtain ⟨w', z⟩ := I.cell y c e
      exact ⟨w', z.sameBut hs (cne y c e)⟩
    · obtain ⟨e, n, ne, nf, d⟩ := I.pin p hp
      exact ⟨(hs.2 p.1 ne).trans e, n, ne, nf, d⟩
  · have hfn : X.fn x = true := by
      rcases hf with z | z
      · exact z
      · rw [z] at hk; cases hk
    obtain ⟨c, hc⟩ := I.ok.has x (.inl hk)
    obtain ⟨w', z⟩ := I.cell x c hc
    refine wpAny_storeName_cell I.ok.kind hk hc z (fun h' hc' hs => ?_)
    obtain ⟨oc, hoc, hocd⟩ := id z
    refine h { s with heap := h' } ⟨I.ok, I.os, I.bare, ⟨fun b o e n hb hx => ?_, fun b o e n hb hx => ?_, I.base.free, fun b o e hx => ?_, I.base.tups, I.base.frzs, I.base.tbls⟩, ⟨m, hn.sameBut hs (Ne.symm (cne x c hc)), fun j y v' e1 e2 e3 => ?_⟩, fun y c' e => ?_, I.free, I.freeC, fun p hp => ?_, tracked ⟨oc, hoc, I.freeC x c hc⟩ hs, by simpa using I.len⟩ ⟨c, hs, .inr hc⟩
    · exact (hs.2 b (Nat.ne_of_lt (Nat.lt_of_lt_of_le (Heap.lt_size e) (I.ok.cab x c hfn hc)))).trans (I.base.keep b o e n hb hx)
    · obtain ⟨sl, e1⟩ := I.base.slot b o e n hb hx
      exact ⟨sl, (hs.2 b (Nat.ne_of_lt (Nat.lt_of_lt_of_le (Heap.lt_size e) (I.ok.cab x c hfn hc)))).trans e1⟩
    · obtain ⟨o', e1⟩ := I.base.there b o e hx
      exact ⟨o', (hs.2 b (Nat.ne_of_lt (Nat.lt_of_lt_of_le (Heap.lt_size e) (I.ok.cab x c hfn hc)))).trans e1⟩
    · by_cases hj : j = i
      · subst hj
        rw [hi] at e1; cases e1
        rw [List.getElem?_set_self hiσ] at e2
        cases e2
        exact ⟨u, r, .inr ⟨.inl hk, c, hc, hc'⟩⟩
      · rw [List.getElem?_set_ne (Ne.symm hj)] at e2
        obtain ⟨u', r', q⟩ := hl j y v' e1 e2 e3
        refine ⟨u', r', ?_⟩
        rcases q with q | ⟨k, c', e, z'⟩
        · exact .inl q
        · refine .inr ⟨k, c', e, z'.sameBut hs ?_⟩
          rintro rfl
          exact hj (nodup_ix hN e1 (I.ok.inj _ _ _ e hc ▸ hi))
    · by_cases hcc : c' = c
      · subst hcc; exact ⟨_, hc'⟩
      · obtain ⟨w2, z2⟩ := I.cell y c' e
        exact ⟨w2, z2.sameBut hs hcc⟩
    · obtain ⟨e, n, ne, nf, d⟩ := I.pin p hp
      refine ⟨(hs.2 p.1 ?_).trans e, n, ne, nf, d⟩
      intro q
      rw [q, hoc] at e
      have q' : oc = p.2 := Option.some.inj e
      exact d w' (by rw [← q']; exact hocd)
theorem store_ok {M : Model} {A : Around} {E : Value → Shared → Prop} {i : Nat} {x : Str} {v : V} {u : Value} {Q : Unit → Shared → Prop} (I : Inv X pins σ H s) (hN : X.N.Nodup) (hi : X.N[i]? = some x) (hx : Loc X.env.scope x) (r : RelV v u)
    (h : ∀ s', Inv X pins (σ.set i (some v)) H s' → Q () s') (hf : X.fn x = true ∨ X.env.scope.names.lookup x = some .local := by first | exact .inl rfl | exact .inr rfl | assumption) : wpAny M A (storeName X.env x u) Q E s :=
  store_ok2 I hN hi hx r (fun s' I' _ => h s' I') hf
theorem Inv.call' {s' : Shared} {ch : List Addr} (I : Inv X pins σ H s) (ho : s'.os = s.os) (u : Un (frs X.stack) ch H H' s.heap s'.heap) (hok : HOk X.prog X.w H' s'.heap) (hg : AllBare s'.gens)
    (hch : ∀ b ∈ ch, (b ∈ X.ex ∨ X.s₀.heap.objs.size ≤ b) ∧ b ≠ X.env.locals ∧ (∀ x c, X.env.cells.lookup x = some c → c ≠ b) ∧ ∀ p ∈ X.pn ++ pins, p.1 ≠ b) : Inv X pins σ H' s' := by
  obtain ⟨h', g', d', t', o'⟩ := s'
  have e : o' = s.os := ho
  subst e
  exact I.call (g' := g') (t' := t') (d' := d') u hok hg hch
end
abbrev XK := Value → Option Addr → Hp → Prop
abbrev St := List (Option V)
abbrev VK := V → Hp → Prop
abbrev TE := St → Hp → VK → Prop
abbrev TT := St → Hp → (Bool → Hp → Prop) → Prop
abbrev TA := St → Hp → (List V → Hp → Prop) → Prop
structure Ends where
  nx : St → Hp → Prop
  rt : VK
  bk : St → Hp → Prop := fun _ _ => False
  ct : St → Hp → Prop := fun _ _ => False
abbrev TS := Ends → St → Hp → Prop
def EP (X : Cx) (pins : List (Addr × Obj)) (σ : St) (Q : VK) (u : Value) (s' : Shared) : Prop := ∃ v H', Inv X pins σ H' s' ∧ RelV v u ∧ Q v H'
def TP (X : Cx) (pins : List (Addr × Obj)) (σ : St) (Q : Bool → Hp → Prop) (b : Bool) (s' : Shared) : Prop := ∃ H', Inv X pins σ H' s' ∧ Q b H'
def AP (X : Cx) (pins : List (Addr × Obj)) (σ : St) (Q : List V → Hp → Prop) (us : List Value) (s' : Shared) : Prop := ∃ vs H', Inv X pins σ H' s' ∧ Vals vs us ∧ Q vs H'
def SP (X : Cx) (pins : List (Addr × Obj)) (D : Ends) (f : Flow) (s' : Shared) : Prop :=
  match f with
  | .next => ∃ σ' H', Inv X pins σ' H' s' ∧ D.nx σ' H'
  | .brk => ∃ σ' H', Inv X pins σ' H' s' ∧ D.bk σ' H'
  | .cont => ∃ σ' H', Inv X pins σ' H' s' ∧ D.ct σ' H'
  | .ret u => ∃ v σ' H', Inv X pins σ' H' s' ∧ RelV v u ∧ D.rt v H'
def PE (X : Cx) (e : Expr) (t : TE) : Prop :=
  ∀ (pins : List (Addr × Obj)) (s : Shared) (σ : St) (H : Hp) (Q : VK), Inv X pins σ H s → t σ H Q → wpAny (model X.prog X.w) X.A (eval e X.env) (EP X pins σ Q) X.xe s
def PT (X : Cx) (e : Expr) (t : TT) : Prop :=
  ∀ (pins : List (Addr × Obj)) (s : Shared) (σ : St) (H : Hp) (Q : Bool → Hp → Prop), Inv X pins σ H s → t σ H Q → wpAny (model X.prog X.w) X.A (isTrue e X.env (eval e X.env)) (TP X pins σ Q) X.xe s
def PW (X : Cx) (e : Expr) (t : TT) : Prop :=
  ∀ (whole : Sem Value) (pins : List (Addr × Obj)) (s : Shared) (σ : St) (H : Hp) (Q : Bool → Hp → Prop), Inv X pins σ H s → t σ H Q → wpAny (model X.prog X.w) X.A (isTrue e X.env whole) (TP X pins σ Q) X.xe s
theorem PW.pt {X : Cx} {e : Expr} {t : TT} (h : PW X e t) : PT X e t := h _
def PA (X : Cx) (es : List Expr) (t : TA) : Prop :=
  ∀ (pos : Pos) (pins : List (Addr × Obj)) (s : Shared) (σ : St) (H : Hp) (Q : List V → Hp → Prop), Inv X pins σ H s → t σ H Q → wpAny (model X.prog X.w) X.A (spliced (backTo pos (starEach es X.env))) (AP X pins σ Q) X.xe s
def PS (X : Cx) (st : Stmt) (t : TS) : Prop :=
  ∀ (pins : List (Addr × Obj)) (s : Shared) (σ : St) (H : Hp) (D : Ends), Inv X pins σ H s → t D σ H → wpAny (model X.prog X.w) X.A (exec st X.env) (SP X pins D) X.xe s
def PSs (X : Cx) (st : List Stmt) (t : TS) : Prop :=
  ∀ (pins : List (Addr × Obj)) (s : Shared) (σ : St) (H : Hp) (D : Ends), Inv X pins σ H s → t D σ H → wpAny (model X.prog X.w) X.A (execs st X.env) (SP X pins D) X.xe s
theorem thn {α : Type} {t : Sem α} {Q Q' : α → Shared → Prop} {M : Model} {A : Around} {E : Value → Shared → Prop} {s : Shared} (h : wpAny M A t Q E s) (hQ : ∀ a s, Q a s → Q' a s) : wpAny M A t Q' E s := wpAny_mono h hQ fun _ _ x => x
end L2
namespace L2
open PySem PySem.Spec PyProof.Rows
section
variable {X : Cx}
def tVar (i : Nat) : TE := fun σ H Q => ∃ v, σ[i]? = some (some v) ∧ Q v H
def tC (v : V) : TE := fun _ H Q => Q v H
theorem pe_var {i : Nat} {x : Str} {pos : Pos} (hN : X.N[i]? = some x) (hv : Vis X.env.scope x) (hd : (x == ("__debug__" : Str)) = false := by decide) (hcd : (x == ("__classdict__" : Str)) = false := by decide) : PE X (.Name x pos) (tVar i) := by
  intro pins s σ H Q I h
  obtain ⟨v, e, h⟩ := h
  obtain ⟨m, hn, hl⟩ := I.loc
  obtain ⟨u, r, l⟩ := hl i x v hN e hv
  have fin : EP X pins σ Q u s := ⟨v, H, I, r, h⟩
  rcases l with ⟨hk, hm⟩ | ⟨hk, c, hc, hcell⟩
  · exact wpAny_Name (wpAny_loadName_local I.ok.kind hk hn hm fin) hd
  · rcases hk with hk | hk
    · exact wpAny_Name (wpAny_loadName_cell I.ok.kind hk hc hcell fin) hd
    · exact wpAny_Name (wpAny_loadName_free I.ok.kind hk hc hcell fin hcd) hd
theorem pe_int {i j pos} : PE X (.Constant (.int i) j pos) (tC (.int i)) := fun _ _ _ H _ I h => wpAny_Constant_int ⟨.int i, H, I.tok _, ⟨_, rfl⟩, h⟩
theorem pe_bl {b j pos} : PE X (.Constant (.bool b) j pos) (tC (.bl b)) := fun _ _ _ H _ I h => Constant_bool ⟨.bl b, H, I, rfl, h⟩
theorem pe_non {j pos} : PE X (.Constant .none j pos) (tC .non) := fun _ _ _ H _ I h => Constant_none ⟨.non, H, I, rfl, h⟩
theorem pe_str {x j pos} : PE X (.Constant (.str x) j pos) (tC (.str x)) := fun _ _ _ H _ I h => Calls.Constant_str ⟨.str x, H, I.tok _, ⟨_, rfl⟩, h⟩
def Gl (X : Cx) (x : Str) : Prop := X.env.kindOf x = some .globalImplicit
theorem ld_glob {E : Value → Shared → Prop} {pins : List (Addr × Obj)} {s : Shared} {σ : St} {H : Hp} {x : Str} {u : Value} {pos : Pos} {Q : Value → Shared → Prop} (I : Inv X pins σ H s) (hg : Gl X x) (hm : X.mg x = some u) (h : Q u s)
    (hd : (x == ("__debug__" : Str)) = false := by decide) : wpAny (model X.prog X.w) X.A (eval (.Name x pos) X.env) Q E s :=
  Calls.Name_function_global I.ok.kind hg (Calls.loadGlobal_global (by rw [I.ok.glob]; exact I.mod.glob.keeps I.bk) hm h) hd
theorem ld_blt {E : Value → Shared → Prop} {pins : List (Addr × Obj)} {s : Shared} {σ : St} {H : Hp} {x : Str} {u : Value} {pos : Pos} {Q : Value → Shared → Prop} (I : Inv X pins σ H s) (hg : Gl X x) (hm : X.mg x = none) (hv : bootBuiltins x = some u) (h : Q u s)
    (hn : x ≠ "__name__" := by decide) (hd : (x == ("__debug__" : Str)) = false := by decide) : wpAny (model X.prog X.w) X.A (eval (.Name x pos) X.env) Q E s := by
  obtain ⟨mb, h1, h2⟩ := I.mod.blt
  exact Calls.Name_function_global I.ok.kind hg (Calls.loadGlobal_builtin (by rw [I.ok.glob]; exact I.mod.glob.keeps I.bk) hm (by rw [I.ok.blt]; exact h1.keeps I.bk) ((h2 x hn).trans hv) h) hd
theorem pe_glob {x : Str} {v : V} {u : Value} {pos : Pos} (hg : Gl X x) (hm : X.mg x = some u) (r : RelV v u) (hd : (x == ("__debug__" : Str)) = false := by decide) : PE X (.Name x pos) (tC v) :=
  fun _ _ _ H _ I h => ld_glob I hg hm ⟨v, H, I, r, h⟩ hd
theorem pe_bltn {x : Str} {v : V} {u : Value} {pos : Pos} (hg : Gl X x) (hm : X.mg x = none) (hv : bootBuiltins x = some u) (r : RelV v u) (hn : x ≠ "__name__" := by decide) (hd : (x == ("__debug__" : Str)) = false := by decide) : PE X (.Name x pos) (tC v) :=
  fun _ _ _ H _ I h => ld_blt I hg hm hv ⟨v, H, I, r, h⟩ hn hd
def t2I (ta tb : TE) (k : Int → Int → Hp → Prop) : St → Hp → Prop := fun σ H => ta σ H fun x H1 => tb σ H1 fun y H2 => ∃ i j, x = .int i ∧ y = .int j ∧ k i j H2
def tAdd (ta tb : TE) : TE := fun σ H Q => t2I ta tb (fun i j H2 => Q (.int (i + j)) H2) σ H
def tSub (ta tb : TE) : TE := fun σ H Q => t2I ta tb (fun i j H2 => Q (.int (i - j)) H2) σ H
def tMul (ta tb : TE) : TE := fun σ H Q => t2I ta tb (fun i j H2 => (-(2 ^ 64) < i ∧ i < 2 ^ 64) ∧ Q (.int (i * j)) H2) σ H
variable {a b : Expr} {ta tb : TE} {pos : Pos}
def PC (X : Cx) (op : CmpOp) (a b : Expr) (t : TE) : Prop :=
  ∀ (pins : List (Addr × Obj)) (s : Shared) (σ : St) (H : Hp) (Q : VK), Inv X pins σ H s → t σ H Q →
    wpAny (model X.prog X.w) X.A (eval a X.env) (fun v s₁ => wpAny (model X.prog X.w) X.A (eval b X.env) (fun u s₂ => wpAny (model X.prog X.w) X.A (compareOp op v u) (EP X pins σ Q) X.xe s₂) X.xe s₁) X.xe s
def tCmp (p : Int → Int → Bool) (ta tb : TE) : TE := fun σ H Q => t2I ta tb (fun i j H2 => Q (.bl (p i j)) H2) σ H
abbrev tLt : TE → TE → TE := tCmp fun i j => decide (i < j)
abbrev tLe : TE → TE → TE := tCmp fun i j => decide (i ≤ j)
abbrev tGt : TE → TE → TE := tCmp fun i j => decide (j < i)
abbrev tGe : TE → TE → TE := tCmp fun i j => decide (j ≤ i)
abbrev tEqI : TE → TE → TE := tCmp fun i j => decide (i = j)
abbrev tNeI : TE → TE → TE := tCmp fun i j => !decide (i = j)
def tIsN (ta : TE) : TE := fun σ H Q => ta σ H fun x H1 => Q (.bl (decide (x = .non))) H1
def tNotN (ta : TE) : TE := fun σ H Q => ta σ H fun x H1 => Q (.bl (!decide (x = .non))) H1
def tB (t : TE) : TT := fun σ H Q => t σ H fun x H1 => ∃ c, x = .bl c ∧ Q c H1
variable {tA tB' : TT} {rest : List Expr}
def tAnd (t u : TT) : TT := fun σ H Q => t σ H fun c H1 => if c = true then u σ H1 Q else Q false H1
def tOr (t u : TT) : TT := fun σ H Q => t σ H fun c H1 => if c = true then Q true H1 else u σ H1 Q
def tNot (t : TT) : TT := fun σ H Q => t σ H fun c H1 => Q (!c) H1
theorem pw_and1 (ha : PT X a tA) : PW X (.BoolOp .And [a] pos) tA := by
  intro wh pins s σ H Q I h
  refine isTrue_and (thn (ha pins s σ H Q I h) fun c s1 e => ?_)
  cases c with
  | true => exact isTrue_and_nil e
  | false => exact e
theorem pw_or1 (ha : PT X a tA) : PW X (.BoolOp .Or [a] pos) tA := by
  intro wh pins s σ H Q I h
  refine isTrue_or (thn (ha pins s σ H Q I h) fun c s1 e => ?_)
  cases c with
  | false => exact isTrue_or_nil e
  | true => exact e
theorem pw_and (ha : PT X a tA) (hb : PW X (.BoolOp .And (b :: rest) pos) tB') : PW X (.BoolOp .And (a :: b :: rest) pos) (tAnd tA tB') := by
  intro wh pins s σ H Q I h
  refine isTrue_and (thn (ha pins s σ H _ I h) fun c s1 ⟨H1, I1, q1⟩ => ?_)
  cases c with
  | true => exact hb wh pins s1 σ H1 Q I1 q1
  | false => exact ⟨H1, I1, q1⟩
theorem pw_or (ha : PT X a tA) (hb : PW X (.BoolOp .Or (b :: rest) pos) tB') : PW X (.BoolOp .Or (a :: b :: rest) pos) (tOr tA tB') := by
  intro wh pins s σ H Q I h
  refine isTrue_or (thn (ha pins s σ H _ I h) fun c s1 ⟨H1, I1, q1⟩ => ?_)
  cases c with
  | true => exact ⟨H1, I1, q1⟩
  | false => exact hb wh pins s1 σ H1 Q I1 q1
theorem pt_not (ha : PT X a tA) : PT X (.UnaryOp .Not a pos) (tNot tA) := by
  intro pins s σ H Q I h
  exact isTrue_not (ha pins s σ H (fun c H1 => Q (!c) H1) I h)
def tAndV (ta tb : TE) : TE := fun σ H Q => ta σ H fun x H1 => ∃ c, x = .bl c ∧ if c = true then tb σ H1 Q else Q (.bl false) H1
def tOrV (ta tb : TE) : TE := fun σ H Q => ta σ H fun x H1 => ∃ c, x = .bl c ∧ if c = true then Q (.bl true) H1 else tb σ H1 Q
def tNotV (ta : TE) : TE := fun σ H Q => ta σ H fun x H1 => ∃ c, x = .bl c ∧ Q (.bl (!c)) H1
theorem pe_one {op} {t : TE} (h : PE X a t) : PE X (.BoolOp op [a] pos) t := fun pins s σ H Q I hw => BoolOp_one (h pins s σ H Q I hw)
theorem pe_and (ha : PE X a ta) (hb : PE X (.BoolOp .And (b :: rest) pos) tb) : PE X (.BoolOp .And (a :: b :: rest) pos) (tAndV ta tb) := by
  intro pins s σ H Q I h
  refine BoolOp_and (thn (ha pins s σ H _ I h) fun v s1 ⟨x, H1, I1, r1, q1⟩ => ?_)
  obtain ⟨c, rfl, q1⟩ := q1
  cases r1
  refine wpAny_truthy_bool ?_
  cases c with
  | true => exact hb pins s1 σ H1 Q I1 q1
  | false => exact ⟨.bl false, H1, I1, rfl, q1⟩
theorem pe_not (ha : PE X a ta) : PE X (.UnaryOp .Not a pos) (tNotV ta) := by
  intro pins s σ H Q I h
  refine UnaryOp_ (thn (ha pins s σ H _ I h) fun v s1 ⟨x, H1, I1, r1, q1⟩ => ?_)
  obtain ⟨c, rfl, q1⟩ := q1
  cases r1
  exact not_of (wpAny_truthy_bool ⟨.bl (!c), H1, I1, rfl, q1⟩)
def tIf (t : TT) (ta tb : TE) : TE := fun σ H Q => t σ H fun c H1 => if c = true then ta σ H1 Q else tb σ H1 Q
end
end L2
namespace L2
open PySem PySem.Spec PyProof.Rows
def SqL (K : PySem.W.Frag) (H : Hp) (a : Addr) (xs : List V) : Prop :=
  Rd H a (.lst xs) ∨
    ∃ (o : Obj) (its : Array Value) (n : Nat), K.lookup a = some o ∧ o.cls = .type "list" ∧ o.dict = none ∧ o.data = .seq its n ∧ its.size ≤ sizeLine ∧ Vals xs its.toList
def SqT (K : PySem.W.Frag) (H : Hp) (a : Addr) (xs : List V) : Prop :=
  Rd H a (.tup xs) ∨
    ∃ (o : Obj) (its : Array Value) (n : Nat), K.lookup a = some o ∧ o.cls = .type "tuple" ∧ o.data = .seq its n ∧ its.size ≤ sizeLine ∧ Vals xs its.toList
def absV : Value → Option V
  | .none => some .non
  | .bool b => some (.bl b)
  | .int i _ => some (.int i)
  | .str x _ => some (.str x)
  | .bytes b _ => some (.byt b)
  | .float b _ => some (.flt b)
  | .ref a => some (.ref a)
  | .type n => some (.ty n)
  | _ => none
theorem RelV.abs {x : V} {u : Value} (r : RelV x u) : absV u = some x := by
  cases x with
  | non => cases r; rfl
  | bl _ => cases r; rfl
  | int _ => obtain ⟨t, rfl⟩ := r; rfl
  | str _ => obtain ⟨t, rfl⟩ := r; rfl
  | byt _ => obtain ⟨t, rfl⟩ := r; rfl
  | flt _ => obtain ⟨t, rfl⟩ := r; rfl
  | ref _ => cases r; rfl
  | ty _ => cases r; rfl
theorem RelV.inj {x y : V} {u : Value} (r : RelV x u) (q : RelV y u) : x = y := Option.some.inj (r.abs.symm.trans q.abs)
theorem Vals.inj : ∀ {xs ys : List V} {us : List Value}, Vals xs us → Vals ys us → xs = ys
  | _, _, _, .nil, .nil => rfl
  | _, _, _, .cons r t, .cons r' t' => by rw [r.inj r', Vals.inj t t']
section
variable {X : Cx} {pins : List (Addr × Obj)} {σ : St} {H : Hp} {s : Shared} {a : Addr} {xs ys : List V}
theorem SqL.of {K : PySem.W.Frag} (h : H a = some (.lst xs)) : SqL K H a xs := .inl (.inl h)
theorem SqT.of {K : PySem.W.Frag} (h : H a = some (.tup xs)) : SqT K H a xs := .inl (.inl h)
theorem Inv.list (I : Inv X pins σ H s) (h : SqL X.K H a xs) : ∃ its : List Value, Vals xs its ∧ PlainL s.heap a its.toArray ∧ xs.length ≤ sizeLine := by
  rcases h with h | ⟨o, its, n, hk, hc, hd, hs, hz, r⟩
  · obtain ⟨z, its, n, r, e⟩ := h.ok I.hok
    exact ⟨its, r, ⟨_, n, e, rfl, rfl, rfl⟩, z⟩
  · refine ⟨its.toList, r, ⟨o, n, I.kIn a o hk, hc, hd, by simpa using hs⟩, ?_⟩
    have e := r.length
    simp only [Array.length_toList] at e
    omega
theorem Inv.tuple (I : Inv X pins σ H s) (h : SqT X.K H a xs) : ∃ its : List Value, Vals xs its ∧ IsTup s.heap a its.toArray ∧ xs.length ≤ sizeLine := by
  rcases h with h | ⟨o, its, n, hk, hc, hs, hz, r⟩
  · obtain ⟨z, its, r, p⟩ := h.ok I.hok
    exact ⟨its, r, p, z⟩
  · refine ⟨its.toList, r, ⟨o, I.kIn a o hk, hc, n, by simpa using hs⟩, ?_⟩
    have e := r.length
    simp only [Array.length_toList] at e
    omega
theorem Inv.list_inj (I : Inv X pins σ H s) (h : SqL X.K H a xs) (h' : SqL X.K H a ys) : xs = ys := by
  obtain ⟨its, r, ⟨o, n, e, _, _, d⟩, _⟩ := I.list h
  obtain ⟨its', r', ⟨o', n', e', _, _, d'⟩, _⟩ := I.list h'
  rw [e] at e'; cases e'
  rw [d] at d'
  injection d' with d1 _
  have : its = its' := by simpa using congrArg Array.toList d1
  subst this
  exact r.inj r'
theorem Inv.tuple_inj (I : Inv X pins σ H s) (h : SqT X.K H a xs) (h' : SqT X.K H a ys) : xs = ys := by
  obtain ⟨its, r, ⟨o, e, _, n, d⟩, _⟩ := I.tuple h
  obtain ⟨its', r', ⟨o', e', _, n', d'⟩, _⟩ := I.tuple h'
  rw [e] at e'; cases e'
  rw [d] at d'
  injection d' with d1 _
  have : its = its' := by simpa using congrArg Array.toList d1
  subst this
  exact r.inj r'
end
abbrev Cx.wish (X : Cx) (E : Value → Shared → Prop) : Cx := { X with xe := E }
abbrev Cx.nox (X : Cx) : Cx := X.wish fun _ _ => False
theorem Cx.Ok.wish {X : Cx} (ok : X.Ok) (E : Value → Shared → Prop) : (X.wish E).Ok :=
  ⟨ok.mod, ok.kind, ok.glob, ok.blt, ok.above, ok.inj, ok.has, ok.cab, ok.hd, ok.frames, ok.stk, ok.exf, ok.bs, ok.bsz, ok.noex, ok.exfs, ok.funs, ok.frf⟩
theorem Cx.Ok.unwish {X : Cx} {E : Value → Shared → Prop} (ok : (X.wish E).Ok) : X.Ok :=
  ⟨ok.mod, ok.kind, ok.glob, ok.blt, ok.above, ok.inj, ok.has, ok.cab, ok.hd, ok.frames, ok.stk, ok.exf, ok.bs, ok.bsz, ok.noex, ok.exfs, ok.funs, ok.frf⟩
section
variable {X : Cx} {pins : List (Addr × Obj)} {σ : St} {H : Hp} {s : Shared} {E : Value → Shared → Prop}
theorem Inv.wish (I : Inv X pins σ H s) (E : Value → Shared → Prop) : Inv (X.wish E) pins σ H s := ⟨I.ok.wish E, I.os, I.bare, I.base, I.loc, I.cell, I.free, I.freeC, I.pin, I.hok, I.len⟩
theorem Inv.unwish (I : Inv (X.wish E) pins σ H s) : Inv X pins σ H s := ⟨I.ok.unwish, I.os, I.bare, I.base, I.loc, I.cell, I.free, I.freeC, I.pin, I.hok, I.len⟩
theorem SP.unwish {D : Ends} {f : Flow} {s' : Shared} (h : SP (X.wish E) pins D f s') : SP X pins D f s' := by
  cases f with
  | next => obtain ⟨σ', H', I, q⟩ := h; exact ⟨σ', H', I.unwish, q⟩
  | brk => obtain ⟨σ', H', I, q⟩ := h; exact ⟨σ', H', I.unwish, q⟩
  | cont => obtain ⟨σ', H', I, q⟩ := h; exact ⟨σ', H', I.unwish, q⟩
  | ret u => obtain ⟨v, σ', H', I, r, q⟩ := h; exact ⟨v, σ', H', I.unwish, r, q⟩
end
section
variable {X : Cx} {st : Stmt} {rest : List Stmt} {t u : TS} {e : Expr} {te : TE} {pos : Pos}
def tNext : TS := fun D σ H => D.nx σ H
def tSeq (t u : TS) : TS := fun D σ H => t { D with nx := u D } σ H
theorem pss_nil : PSs X [] tNext := fun _ _ σ H _ I h => wpAny_execs_nil ⟨σ, H, I, h⟩
theorem pss_cons (h1 : PS X st t) (h2 : PSs X rest u) : PSs X (st :: rest) (tSeq t u) := by
  intro pins s σ H D I h
  refine wpAny_execs_cons (thn (h1 pins s σ H { D with nx := u D } I h) fun f s1 q => ?_)
  cases f with
  | next =>
    obtain ⟨σ', H', I', q⟩ := q
    exact h2 pins s1 σ' H' D I' q
  | ret v => exact q
  | brk => exact q
  | cont => exact q
theorem pss_one (h1 : PS X st t) : PSs X [st] t := by
  intro pins s σ H D I h
  refine wpAny_execs_cons (thn (h1 pins s σ H D I h) fun f s1 q => ?_)
  cases f with
  | next => exact wpAny_execs_nil q
  | ret v => exact q
  | brk => exact q
  | cont => exact q
def tBreak : TS := fun D σ H => D.bk σ H
def tCont : TS := fun D σ H => D.ct σ H
theorem Inv.quiet {pins : List (Addr × Obj)} {σ : St} {H : Hp} {s : Shared} (I : Inv X pins σ H s) : interactive X.env = false := by simp [interactive, I.ok.kind]
def tDrop (te : TE) : TS := fun D σ H => te σ H fun _ H1 => D.nx σ H1
theorem ps_expr (he : PE X e te) (hs : swapsWith e none pos.line X.env = pure false := by rfl) : PS X (.Expr e pos) (tDrop te) := by
  intro pins s σ H D I h
  exact wpAny_Expr_any (thn (he pins s σ H _ I h) fun v s1 ⟨x, H1, I1, r1, q1⟩ => ⟨σ, H1, I1, q1⟩) I.quiet hs
def tRet (te : TE) : TS := fun D σ H => te σ H D.rt
theorem ps_ret (he : PE X e te) : PS X (.Return (some e) pos) (tRet te) := by
  intro pins s σ H D I h
  exact wpAny_Return_some (thn (he pins s σ H _ I h) fun v s1 ⟨x, H1, I1, r1, q1⟩ => ⟨x, σ, H1, I1, r1, q1⟩)
def tRetN : TS := fun D _ H => D.rt .non H
def tIfS (c : TT) (t u : TS) : TS := fun D σ H => c σ H fun b H1 => if b = true then t D σ H1 else u D σ H1
theorem ps_if {c : Expr} {a b : List Stmt} {tc : TT} (hc : PT X c tc) (ha : PSs X a t) (hb : PSs X b u) : PS X (.If c a b pos) (tIfS tc t u) := by
  intro pins s σ H D I h
  refine wpAny_If (thn (hc pins s σ H _ I h) fun d s1 ⟨H1, I1, q1⟩ => ?_)
  cases d with
  | true => exact ha pins s1 σ H1 D I1 q1
  | false => exact hb pins s1 σ H1 D I1 q1
def tNever : TS := fun _ _ _ => False
end
abbrev TG := V → St → Hp → (St → Hp → Prop) → Prop
abbrev TGs := List V → St → Hp → (St → Hp → Prop) → Prop
def PG (X : Cx) (target : Expr) (t : TG) : Prop :=
  ∀ (pins : List (Addr × Obj)) (s : Shared) (σ : St) (H : Hp) (v : V) (u : Value) (Q : St → Hp → Prop), Inv X pins σ H s → RelV v u → t v σ H Q →
    wpAny (model X.prog X.w) X.A (assign target X.env u) (fun _ s' => ∃ σ' H', Inv X pins σ' H' s' ∧ Q σ' H') X.xe s
def PGs (X : Cx) (ts : List Expr) (t : TGs) : Prop :=
  ∀ (pins : List (Addr × Obj)) (s : Shared) (σ : St) (H : Hp) (vs : List V) (us : List Value) (Q : St → Hp → Prop), Inv X pins σ H s → Vals vs us → t vs σ H Q →
    wpAny (model X.prog X.w) X.A (assignInOrder ((assignEach ts X.env).map (·.2)) us) (fun _ s' => ∃ σ' H', Inv X pins σ' H' s' ∧ Q σ' H') X.xe s
abbrev TSet := V → V → V → Hp → (Hp → Prop) → Prop
def PSet (X : Cx) (t : TSet) : Prop :=
  ∀ (pins : List (Addr × Obj)) (s : Shared) (σ : St) (H : Hp) (o i v : V) (ov iv u : Value) (Q : Hp → Prop), Inv X pins σ H s → RelV o ov → RelV i iv → RelV v u → t o i v H Q →
    wpAny (model X.prog X.w) X.A (setItem ov iv u) (fun _ s' => ∃ H', Inv X pins σ H' s' ∧ Q H') X.xe s
abbrev TIp := V → V → Hp → VK → Prop
def PIp (X : Cx) (op : Operator) (t : TIp) : Prop :=
  ∀ (pins : List (Addr × Obj)) (s : Shared) (σ : St) (H : Hp) (x y : V) (v u : Value) (Q : VK), Inv X pins σ H s → RelV x v → RelV y u → t x y H Q →
    wpAny (model X.prog X.w) X.A (inplaceOp op v u) (EP X pins σ Q) X.xe s
section
variable {X : Cx} {pos : Pos}
def gName (i : Nat) : TG := fun v σ H Q => Q (σ.set i (some v)) H
theorem pg_name {i : Nat} {x : Str} (hN : X.N.Nodup) (hi : X.N[i]? = some x) (hx : Loc X.env.scope x) (hf : X.fn x = true ∨ X.env.scope.names.lookup x = some .local := by first | exact .inl rfl | exact .inr rfl | assumption) : PG X (.Name x pos) (gName i) := by
  intro pins s σ H v u Q I r h
  exact wpAny_assign_Name (store_ok I hN hi hx r (fun s' I' => ⟨_, H, I', h⟩) hf)
def gNil : TGs := fun vs σ H Q => vs = [] ∧ Q σ H
def gCons (t : TG) (u : TGs) : TGs := fun vs σ H Q => ∃ v r, vs = v :: r ∧ t v σ H fun σ' H' => u r σ' H' Q
theorem pgs_nil : PGs X [] gNil := by
  intro pins s σ H vs us Q I r h
  obtain ⟨e, h⟩ := h
  subst e
  cases r
  exact assignInOrder_nil ⟨σ, H, I, h⟩
theorem pgs_cons {e : Expr} {es : List Expr} {t : TG} {u : TGs} (h1 : PG X e t) (h2 : PGs X es u)
    (hs : (assignEach (e :: es) X.env).map (·.2) = assign e X.env :: (assignEach es X.env).map (·.2) := by rfl) : PGs X (e :: es) (gCons t u) := by
  intro pins s σ H vs us Q I r h
  obtain ⟨v, vr, e1, h⟩ := h
  subst e1
  cases r with
  | cons r rr =>
    rw [hs]
    refine assignInOrder_cons (thn (h1 pins s σ H _ _ _ I r h) fun _ s1 ⟨σ1, H1, I1, q1⟩ => ?_)
    exact h2 pins s1 σ1 H1 _ _ Q I1 rr q1
def gTup (K : PySem.W.Frag) (n : Nat) (t : TGs) : TG := fun v σ H Q => ∃ a xs, v = .ref a ∧ SqT K H a xs ∧ xs.length = n ∧ t xs σ H Q
theorem pg_tup {es : List Expr} {k : Nat} {t : TGs} {n : Nat} (hc : X.calm = true) (h : PGs X es t)
    (hn : (assignEach es X.env).length = n := by rfl) (hst : (assignEach es X.env).findIdx? (·.1) = none := by rfl) : PG X (.Tuple es k pos) (gTup X.K n t) := by
  intro pins s σ H v u Q I r hw
  obtain ⟨a, xs, e1, hq, hl, hw⟩ := hw
  subst e1
  cases r
  obtain ⟨its, rv, ht, hz⟩ := I.tuple hq
  refine assign_Tuple_tuple (I.ok.hd hc) ht (by simp [hn, ← hl, rv.length]) hst fun h' hx => ?_
  have I1 : Inv X pins σ H { s with heap := h' } := I.kept (t' := s.toks) fun b o e => hx b o (Nat.ne_of_lt (Heap.lt_size e)) e
  exact h pins _ σ H xs _ Q I1 (by simpa using rv) hw
def gSub (to ti : TE) (t : TSet) : TG := fun v σ H Q => to σ H fun o H1 => ti σ H1 fun i H2 => t o i v H2 fun H3 => Q σ H3
theorem pg_sub {o i : Expr} {to ti : TE} {t : TSet} (ho : PE X o to) (hi : PE X i ti) (hs : PSet X t)
    (ha : ∀ v, assign (.Subscript o i pos) X.env v = (do
      let ov ← holding [v] (eval o X.env)
      let iv ← holding [v, ov] (eval i X.env)
      standAt pos
      holding [v, ov, iv] (setItem ov iv v)
      release [v, ov, iv] []) := by intro _; rfl) : PG X (.Subscript o i pos) (gSub to ti t) := by
  intro pins s σ H v u Q I r h
  rw [ha]
  refine wpAny_bind (wpAny_holding (thn (ho pins s σ H _ I h) fun ov s1 ⟨x, H1, I1, r1, q1⟩ => ?_))
  refine wpAny_bind (wpAny_holding (thn (hi pins s1 σ H1 _ I1 q1) fun iv s2 ⟨y, H2, I2, r2, q2⟩ => ?_))
  refine wpAny_bind (wpAny_standAt (wpAny_bind (wpAny_holding (thn (hs pins s2 σ H2 x y v ov iv u _ I2 r1 r2 r q2) fun _ s3 ⟨H3, I3, q3⟩ => ?_))))
  exact wpAny_release ⟨σ, H3, I3, q3⟩
def tAsg (te : TE) (g : TG) : TS := fun D σ H => te σ H fun x H1 => g x σ H1 D.nx
theorem ps_asg {tg e : Expr} {te : TE} {g : TG} (he : PE X e te) (hg : PG X tg g) (hs : swapsWithSole [tg] e pos.line X.env = pure false := by rfl) (hw : swappedStores [tg] e X.env = pure none := by rfl)
    (h1 : (assignEach [tg] X.env).map (·.2) = [assign tg X.env] := by rfl) : PS X (.Assign [tg] e pos) (tAsg te g) := by
  intro pins s σ H D I h
  refine wpAny_Assign_stores (thn (he pins s σ H _ I h) fun v s1 ⟨x, H1, I1, r1, q1⟩ => ?_) hs hw
  rw [h1]
  exact thn (hg pins s1 σ H1 x v _ I1 r1 q1) fun _ s2 q => q
theorem ps_set {i : Nat} {x : Str} {e : Expr} {te : TE} {pos' : Pos} (hN : X.N.Nodup) (hi : X.N[i]? = some x) (hx : Loc X.env.scope x) (he : PE X e te) (hs : swapsWith e (some (.Name x pos')) pos.line X.env = pure false := by rfl) (hf : X.fn x = true ∨ X.env.scope.names.lookup x = some .local := by first | exact .inl rfl | exact .inr rfl | assumption) :
    PS X (.Assign [.Name x pos'] e pos) (tAsg te (gName i)) := by
  intro pins s σ H D I h
  refine wpAny_Assign_Name (thn (he pins s σ H _ I h) fun v s1 ⟨y, H1, I1, r1, q1⟩ => ?_) hs
  exact store_ok I1 hN hi hx r1 (fun s2 I2 => ⟨_, H1, I2, q1⟩) hf
def tPar (i j : Nat) (ta : TA) : TS := fun D σ H => ta σ H fun vs H1 => ∃ v w, vs = [v, w] ∧ D.nx ((σ.set i (some v)).set j (some w)) H1
def tAug (i : Nat) (te : TE) (ti : TIp) : TS := fun D σ H => ∃ x, σ[i]? = some (some x) ∧ te σ H fun y H1 => ti x y H1 fun z H2 => D.nx (σ.set i (some z)) H2
def tAugS (to ti te : TE) (tget : V → V → Hp → VK → Prop) (tip : TIp) (tset : TSet) : TS := fun D σ H => to σ H fun o H1 => ti σ H1 fun i H2 => tget o i H2 fun x H3 => te σ H3 fun y H4 => tip x y H4 fun z H5 => tset o i z H5 fun H6 => D.nx σ H6
def PGet (X : Cx) (t : V → V → Hp → VK → Prop) : Prop :=
  ∀ (pins : List (Addr × Obj)) (s : Shared) (σ : St) (H : Hp) (o i : V) (ov iv : Value) (Q : VK), Inv X pins σ H s → RelV o ov → RelV i iv → t o i H Q →
    wpAny (model X.prog X.w) X.A (getItem ov iv) (EP X pins σ Q) X.xe s
def ipI (f : Int → Int → Int) : TIp := fun x y H Q => ∃ i j, x = .int i ∧ y = .int j ∧ Q (.int (f i j)) H
end
section
variable {X : Cx} {pos : Pos}
def tWhile (c : TT) (tb : TS) : TS := fun D σ H => ∃ W : Nat → St → Hp → Prop, (∃ m, W m σ H) ∧ ∀ m σ H, W m σ H →
  c σ H fun b H1 => if b = true then ∃ N : St → Hp → Prop, (∀ σ' H', N σ' H' → ∃ m', m' < m ∧ W m' σ' H') ∧ tb { D with nx := N, ct := N, bk := D.nx } σ H1 else D.nx σ H1
end
structure It where
  go : Nat → Hp → Prop
  yld : Nat → Hp → V → Hp → Prop
  stop : Nat → Hp → Prop
def FpOk (X : Cx) (pins : List (Addr × Obj)) (H : Hp) (b : Addr) : Prop :=
  H b = none ∧ b ≠ X.env.locals ∧ b ∉ X.fs ∧ (b ∈ X.ex ∨ X.s₀.heap.objs.size ≤ b) ∧ (∀ x c, X.env.cells.lookup x = some c → c ≠ b) ∧ ∀ p ∈ X.pn ++ pins, p.1 ≠ b
theorem Inv.fpOk {X : Cx} {pins : List (Addr × Obj)} {σ : St} {H H' : Hp} {s : Shared} {b : Addr} (I : Inv X pins σ H s) (hb : s.heap.objs.size ≤ b) (hn : H' b = none) : FpOk X pins H' b := by
  refine ⟨hn, Nat.ne_of_gt (Nat.lt_of_lt_of_le I.lt hb), I.nofs hb, .inr (Nat.le_trans I.sz hb), fun x c e z => ?_, fun p hp z => ?_⟩
  · obtain ⟨v, q⟩ := I.cell x c e
    exact absurd (Nat.lt_of_lt_of_le q.lt (by rw [z]; exact hb)) (Nat.lt_irrefl _)
  · exact absurd (Nat.lt_of_lt_of_le (Heap.lt_size (I.pin p hp).1) (by rw [z]; exact hb)) (Nat.lt_irrefl _)
structure Turn (P : Program) (w : World) (K : PySem.W.Frag) (tg : Expr) (J : It) (fp : List Addr) (it : Addr) (tn : Nat → Heap → Prop) : Prop where
  mem : it ∈ fp
  obj : ∀ i h, tn i h → ∀ b ∈ fp, ∃ o, h.get? b = some o ∧ ∀ v, o.data ≠ .cell v
  keep : ∀ i h h', tn i h → (∀ b ∈ fp, ∀ o, h.get? b = some o → h'.get? b = some o) → tn i h'
  item : ∀ (X : Cx), X.prog = P → X.w = w → X.K = K → X.calm = true → ∀ (i : Nat) (pins : List (Addr × Obj)) (s : Shared) (σ : St) (H : Hp) (E : Value → Shared → Prop), Inv X pins σ H s → (∀ b ∈ fp, FpOk X pins H b) → tn i s.heap → J.go i H →
    wpAny (model P w) X.A (pyNext (.ref it)) (fun r s1 => ∃ u, r = some u ∧
      wpAny (model P w) X.A (letOwnedTupleGo tg (.ref it) u) (fun _ s2 => ∃ x H', Inv X pins σ H' s2 ∧ RelV x u ∧ J.yld i H x H' ∧ tn (i + 1) s2.heap ∧ ∀ b ∈ fp, H' b = none) E s1) E s
  done : ∀ (X : Cx), X.prog = P → X.w = w → X.K = K → X.calm = true → ∀ (i : Nat) (pins : List (Addr × Obj)) (s : Shared) (σ : St) (H : Hp) (E : Value → Shared → Prop), Inv X pins σ H s → (∀ b ∈ fp, FpOk X pins H b) → tn i s.heap → J.stop i H →
    wpAny (model P w) X.A (pyNext (.ref it)) (fun r s1 => r = none ∧ Inv X pins σ H s1) E s
  self : ∀ (A : Around) (i : Nat) (s : Shared) (Q : Value → Shared → Prop) (E : Value → Shared → Prop), tn i s.heap → Q (.ref it) s → wpAny (model P w) A (pyIter (.ref it)) Q E s
abbrev TI := St → Hp → (It → Hp → Prop) → Prop
def PIE (X : Cx) (pins : List (Addr × Obj)) (σ : St) (tg : Expr) (R : It → Hp → Prop) (itv : Value) (s2 : Shared) : Prop :=
  ∃ (it : Addr) (fp : List Addr) (tn : Nat → Heap → Prop) (J : It) (H' : Hp), itv = .ref it ∧ Inv X pins σ H' s2 ∧ Turn X.prog X.w X.K tg J fp it tn ∧ tn 0 s2.heap ∧ (∀ b ∈ fp, FpOk X pins H' b) ∧ R J H'
def PI (X : Cx) (tg iter : Expr) (wi : TI) : Prop :=
  ∀ (pins : List (Addr × Obj)) (s : Shared) (σ : St) (H : Hp) (R : It → Hp → Prop), Inv X pins σ H s → wi σ H R →
    wpAny (model X.prog X.w) X.A (eval iter X.env) (fun v s1 => wpAny (model X.prog X.w) X.A (pyIter v) (PIE X pins σ tg R) X.xe s1) X.xe s
theorem go_of {M : Model} {A : Around} {E : Value → Shared → Prop} {s : Shared} {tg : Expr} {it : Addr} {u : Value} {o : Obj} {n : String} {vs : Array Value} {Q : Unit → Shared → Prop} (ho : s.heap.get? it = some o) (hc : o.cls = .type n) (hd : o.data = .fields vs)
    (hn : ["enumerate", "zip", "dict_itemiterator", "dict_reverseitemiterator", "odict_iterator", "itertools.zip_longest", "itertools.pairwise"].contains n = false) (hQ : Q () s) : wpAny M A (letOwnedTupleGo tg (.ref it) u) Q E s := by
  unfold letOwnedTupleGo
  cases tg <;> first
    | exact wpAny_pure hQ
    | (cases u <;> first
        | exact wpAny_pure hQ
        | (refine wpAny_bind (wpAny_load ho ?_)
           rw [hc, hd]
           show wpAny M A (if (["enumerate", "zip", "dict_itemiterator", "dict_reverseitemiterator", "odict_iterator", "itertools.zip_longest", "itertools.pairwise"].contains n && vs[0]? == some (rawInt _)) = true then _ else _) Q E s
           rw [if_neg (by intro h; rw [hn, Bool.false_and] at h; cases h)]
           exact wpAny_pure hQ))
def Itl (K : PySem.W.Frag) (a : Addr) : It :=
  ⟨fun i H => ∃ xs x, SqL K H a xs ∧ xs[i]? = some x, fun i H x H' => H' = H ∧ ∀ xs, SqL K H a xs → xs[i]? = some x, fun i H => ∃ xs, SqL K H a xs ∧ xs.length ≤ i⟩
def Itt (K : PySem.W.Frag) (a : Addr) : It :=
  ⟨fun i H => ∃ xs x, SqT K H a xs ∧ xs[i]? = some x, fun i H x H' => H' = H ∧ ∀ xs, SqT K H a xs → xs[i]? = some x, fun i H => ∃ xs, SqT K H a xs ∧ xs.length ≤ i⟩
def Itr (lo : Int) (n : Nat) : It := ⟨fun i _ => i < n, fun i H x H' => H' = H ∧ x = .int (lo + i), fun i _ => n ≤ i⟩
theorem turn_list {P : Program} {w : World} {K : PySem.W.Frag} {tg : Expr} (a it : Addr) : Turn P w K tg (Itl K a) [it] it (fun i h => h.IsListIter it a i) where
  mem := by simp
  obj := fun i h st b hb => by
    have e : b = it := by simpa using hb
    subst e
    obtain ⟨o, e, c, d⟩ := st
    exact ⟨o, e, fun v z => by rw [d] at z; cases z⟩
  keep := fun i h h' st k => st.at fun o e => k it (by simp) o e
  item := by
    intro X hP hw hK hc i pins s σ H E I hf st hg
    subst hP hw hK
    obtain ⟨xs, x, hq, hx⟩ := hg
    obtain ⟨its, rv, p, hz⟩ := I.list hq
    obtain ⟨u, hu, ru⟩ := rv.get hx
    obtain ⟨f0, f1, f2, f3, f4, f5⟩ := hf it (by simp)
    refine wpAny_pyNext_list_item st p.isList (x := u) (by simpa using hu) fun h' st' sb => ?_
    have I1 : Inv X pins σ H { s with heap := h' } := I.turned (t' := s.toks) (fun b o hb e => (sb.2 b hb).trans e) f0 f1 f3 f4 f5
    obtain ⟨o, e, c, d⟩ := id st'
    exact ⟨u, rfl, go_of (s := { s with heap := h' }) e c d (by decide) ⟨x, H, I1, ru, ⟨rfl, fun ys hy => by rw [I.list_inj hy hq]; exact hx⟩, st', fun b hb => (hf b hb).1⟩⟩
  done := by
    intro X hP hw hK hc i pins s σ H E I hf st hg
    subst hP hw hK
    obtain ⟨xs, hq, hx⟩ := hg
    obtain ⟨its, rv, p, hz⟩ := I.list hq
    obtain ⟨f0, f1, f2, f3, f4, f5⟩ := hf it (by simp)
    have hl := rv.length
    exact wpAny_pyNext_list_end (I.ok.hd hc) st p.isList (by simp; omega) fun h' eb => ⟨rfl, I.turned (t' := s.toks) (fun b o hb e => eb b o hb e) f0 f1 f3 f4 f5⟩
  self := fun _ _ _ _ _ st h => wpAny_pyIter_listiter st h
theorem turn_tuple {P : Program} {w : World} {K : PySem.W.Frag} {tg : Expr} (a it : Addr) : Turn P w K tg (Itt K a) [it] it (fun i h => h.IsTupleIter it a i) where
  mem := by simp
  obj := fun i h st b hb => by
    have e : b = it := by simpa using hb
    subst e
    obtain ⟨o, e, c, d⟩ := st
    exact ⟨o, e, fun v z => by rw [d] at z; cases z⟩
  keep := fun i h h' st k => st.at fun o e => k it (by simp) o e
  item := by
    intro X hP hw hK hc i pins s σ H E I hf st hg
    subst hP hw hK
    obtain ⟨xs, x, hq, hx⟩ := hg
    obtain ⟨its, rv, p, hz⟩ := I.tuple hq
    obtain ⟨u, hu, ru⟩ := rv.get hx
    obtain ⟨f0, f1, f2, f3, f4, f5⟩ := hf it (by simp)
    refine wpAny_pyNext_tuple_item st (show s.heap.IsTuple a its.toArray from p) (x := u) (by simpa using hu) fun h' st' sb => ?_
    have I1 : Inv X pins σ H { s with heap := h' } := I.turned (t' := s.toks) (fun b o hb e => (sb.2 b hb).trans e) f0 f1 f3 f4 f5
    obtain ⟨o, e, c, d⟩ := id st'
    exact ⟨u, rfl, go_of (s := { s with heap := h' }) e c d (by decide) ⟨x, H, I1, ru, ⟨rfl, fun ys hy => by rw [I.tuple_inj hy hq]; exact hx⟩, st', fun b hb => (hf b hb).1⟩⟩
  done := by
    intro X hP hw hK hc i pins s σ H E I hf st hg
    subst hP hw hK
    obtain ⟨xs, hq, hx⟩ := hg
    obtain ⟨its, rv, p, hz⟩ := I.tuple hq
    obtain ⟨f0, f1, f2, f3, f4, f5⟩ := hf it (by simp)
    have hl := rv.length
    exact wpAny_pyNext_tuple_end (I.ok.hd hc) st (show s.heap.IsTuple a its.toArray from p) (by simp; omega) fun h' eb => ⟨rfl, I.turned (t' := s.toks) (fun b o hb e => eb b o hb e) f0 f1 f3 f4 f5⟩
  self := fun _ _ _ _ _ st h => wpAny_pyIter_tupleiter st h
theorem turn_range {P : Program} {w : World} {K : PySem.W.Frag} {tg : Expr} (it : Addr) (lo : Int) (n : Nat) : Turn P w K tg (Itr lo n) [it] it (fun i h => IsRangeIter h it (lo + (i : Nat) * 1) ((n : Int) - (i : Nat)) 1) where
  mem := by simp
  obj := fun i h st b hb => by
    have e : b = it := by simpa using hb
    subst e
    exact ⟨_, st, fun v z => by
      have z' : Data.fields _ = Data.cell v := z
      cases z'⟩
  keep := fun i h h' st k => k it (by simp) _ st
  item := by
    intro X hP hw hK hc i pins s σ H E I hf st hg
    subst hP hw hK
    obtain ⟨f0, f1, f2, f3, f4, f5⟩ := hf it (by simp)
    have W := Walks.range (prog := X.prog) (w := X.w) (I.ok.hd hc) it lo 1 n
    refine W.item i s _ _ hg st fun v h' tk hv st' kk => ?_
    obtain ⟨t, rfl⟩ := hv
    have I1 : Inv X pins σ H { s with heap := h', toks := tk } := I.turned (fun b o hb e => kk b o (by simpa using hb) e) f0 f1 f3 f4 f5
    refine ⟨_, rfl, go_of (s := { s with heap := h', toks := tk }) (n := "range_iterator") st' rfl rfl (by decide) ⟨.int (lo + i), H, I1, ⟨t, ?_⟩, ⟨rfl, rfl⟩, st', fun b hb => (hf b hb).1⟩⟩
    rw [Int.mul_one]
  done := by
    intro X hP hw hK hc i pins s σ H E I hf st hg
    subst hP hw hK
    obtain ⟨f0, f1, f2, f3, f4, f5⟩ := hf it (by simp)
    exact wpAny_pyNext_range_end (I.ok.hd hc) st (by have : n ≤ i := hg; omega) fun h' eb => ⟨rfl, I.turned (t' := s.toks) (fun b o hb e => eb b o hb e) f0 f1 f3 f4 f5⟩
  self := fun _ _ _ _ _ st h => wpAny_pyIter_rangeiter st h
end L2
namespace L2
open PySem PySem.Spec PyProof.Rows
section
variable {X : Cx} {tg : Expr}
def iList (K : PySem.W.Frag) (tl : TE) : TI := fun σ H R => tl σ H fun x H1 => ∃ a, x = .ref a ∧ (∃ xs, SqL K H1 a xs) ∧ R (Itl K a) H1
def iTup (K : PySem.W.Frag) (tl : TE) : TI := fun σ H R => tl σ H fun x H1 => ∃ a, x = .ref a ∧ (∃ xs, SqT K H1 a xs) ∧ R (Itt K a) H1
theorem range_it {pins : List (Addr × Obj)} {σ : St} {H : Hp} {s : Shared} {R : It → Hp → Prop} {E : Value → Shared → Prop} {lo hi : Int} {t u v : Tok} {tk : Nat} (I : Inv X pins σ H s) (h1 : -(2 ^ 62) ≤ lo) (h2 : lo < 2 ^ 62) (h3 : -(2 ^ 62) ≤ hi) (h4 : hi < 2 ^ 62)
    (q : R (Itr lo (hi - lo).toNat) H) : wpAny (model X.prog X.w) X.A (pyIter (.ref s.heap.objs.size)) (PIE X pins σ tg R) E { s with heap := s.heap.push { cls := .type "range", data := .fields #[.int lo t, .int hi u, .int 1 v] }, toks := tk } := by
  refine wpAny_pyIter_range (IsRange.new ..) (small_one h1 h2 h3 h4) ?_
  have I1 : Inv X pins σ H { s with heap := s.heap.push { cls := .type "range", data := .fields #[.int lo t, .int hi u, .int 1 v] }, toks := tk } := I.kept fun b o e => Heap.get?_push_of_some _ e
  refine ⟨(s.heap.push { cls := .type "range", data := .fields #[.int lo t, .int hi u, .int 1 v] }).objs.size, [(s.heap.push { cls := .type "range", data := .fields #[.int lo t, .int hi u, .int 1 v] }).objs.size], _, _, H, rfl,
    I1.kept (t' := tk) fun b o e => Heap.get?_push_of_some _ e, turn_range _ lo (hi - lo).toNat, ?_, fun b hb => ?_, q⟩
  · have e1 : lo + ((0 : Nat) : Int) * 1 = lo := by simp
    have e2 : (((hi - lo).toNat : Nat) : Int) - ((0 : Nat) : Int) = Builtin.Range.rangeSize lo hi 1 := by rw [rangeSize_one]; split <;> omega
    show IsRangeIter _ _ (lo + ((0 : Nat) : Int) * 1) ((((hi - lo).toNat : Nat) : Int) - ((0 : Nat) : Int)) 1
    rw [e1, e2]
    exact Heap.get?_push_size _ rfl
  · have e : b = (s.heap.push { cls := .type "range", data := .fields #[.int lo t, .int hi u, .int 1 v] }).objs.size := by simpa using hb
    subst e
    exact I1.fpOk (Nat.le_refl _) (I1.hok.fresh (Nat.le_refl _))
def iRng1 (ta : TA) : TI := fun σ H R => ta σ H fun vs H1 => ∃ j : Int, vs = [.int j] ∧ -(2 ^ 62) ≤ j ∧ j < 2 ^ 62 ∧ R (Itr 0 j.toNat) H1
def iRng2 (ta : TA) : TI := fun σ H R => ta σ H fun vs H1 => ∃ i j : Int, vs = [.int i, .int j] ∧ (-(2 ^ 62) ≤ i ∧ i < 2 ^ 62 ∧ -(2 ^ 62) ≤ j ∧ j < 2 ^ 62) ∧ R (Itr i (j - i).toNat) H1
theorem pi_range1 {a : Expr} {ta : TA} {p pos : Pos} (hg : Gl X "range") (hm : X.mg "range" = none) (ha : PA X [a] ta) (hs : starEach [a] X.env = [(false, eval a X.env)] := by rfl) : PI X tg (.Call (.Name "range" p) [a] [] pos) (iRng1 ta) := by
  intro pins s σ H R I h
  refine Call_ (ld_blt I hg hm boot_range (PyProof.Rows.callWith_type1 (thn (ha pos pins s σ H _ I h) fun us s1 ⟨vs, H1, I1, r1, q1⟩ => ?_) hs rfl))
  obtain ⟨j, e, q1, q2, q⟩ := q1
  subst e
  cases r1 with
  | cons r rr =>
    cases rr
    obtain ⟨t, rfl⟩ := r
    exact call_range_1 (range_it I1 (by omega) (by omega) q1 q2 (by simpa using q))
def tFor (wi : TI) (g : TG) (tb : TS) : TS := fun D σ H => wi σ H fun J H1 => ∃ W : Nat → Nat → St → Hp → Prop, (∃ m, W 0 m σ H1) ∧ ∀ i m σ H, W i m σ H →
  (J.stop i H ∧ D.nx σ H) ∨ (J.go i H ∧ ∃ N : St → Hp → Prop, (∀ σ' H', N σ' H' → ∃ m', m' < m ∧ W (i + 1) m' σ' H') ∧ ∀ x H', J.yld i H x H' → g x σ H' fun σ2 H2 => tb { D with nx := N, ct := N, bk := D.nx } σ2 H2)
def pinsAt (fp : List Addr) (h : Heap) : List (Addr × Obj) := fp.filterMap fun b => (h.get? b).map fun o => (b, o)
theorem mem_pinsAt {fp : List Addr} {h : Heap} {b : Addr} {o : Obj} (hb : b ∈ fp) (e : h.get? b = some o) : (b, o) ∈ pinsAt fp h := List.mem_filterMap.mpr ⟨b, hb, by rw [e]; rfl⟩
theorem of_pinsAt {fp : List Addr} {h : Heap} {p : Addr × Obj} (hp : p ∈ pinsAt fp h) : p.1 ∈ fp ∧ h.get? p.1 = some p.2 := by
  obtain ⟨b, hb, e⟩ := List.mem_filterMap.mp hp
  cases q : h.get? b with
  | none => rw [q] at e; cases e
  | some o =>
    rw [q] at e
    have e' : (b, o) = p := Option.some.inj e
    subst e'
    exact ⟨hb, q⟩
theorem Inv.pinned {pins : List (Addr × Obj)} {σ : St} {H : Hp} {s : Shared} {fp : List Addr} (I : Inv X pins σ H s) (hf : ∀ b ∈ fp, FpOk X pins H b) (ho : ∀ b ∈ fp, ∃ o, s.heap.get? b = some o ∧ ∀ v, o.data ≠ .cell v) : Inv X (pins ++ pinsAt fp s.heap) σ H s :=
  I.pins_of fun p hp => (List.mem_append.mp hp).elim (fun z => I.pin p (List.mem_append_right _ z)) fun z => by
    obtain ⟨hb, e⟩ := of_pinsAt z
    obtain ⟨f0, f1, f2, _⟩ := hf p.1 hb
    obtain ⟨o, e', d⟩ := ho p.1 hb
    rw [e] at e'; cases e'
    exact ⟨e, f0, f1, f2, d⟩
theorem Inv.unpinned {pins pl : List (Addr × Obj)} {σ : St} {H : Hp} {s : Shared} (I : Inv X (pins ++ pl) σ H s) : Inv X pins σ H s := I.pins_of fun p hp => I.pin p (List.mem_append_right _ (List.mem_append_left _ hp))
theorem ps_for {iter : Expr} {body : List Stmt} {wi : TI} {g : TG} {tb : TS} {pos : Pos} (hp : PassesOwn (model X.prog X.w) X.A X.env X.xe) (hc : X.calm = true) (hi : PI X tg iter wi) (hg : PG X tg g) (hb : PSs X body tb)
    (hs : ∀ x, foldedSetIterable iter X.env x = pure x := by intro _; rfl) : PS X (.For tg iter body [] pos) (tFor wi g tb) := by
  intro pins s σ H D I h
  refine wpAny_For (thn (hi pins s σ H _ I h) fun v s1 h1 => thn h1 fun itv s2 h2 => ?_) hs
  obtain ⟨it, fp, tn, J, H2, e, I2, T, st2, f2, W, ⟨m0, w0⟩, turn⟩ := h2
  subst e
  have stat : ∀ {H' : Hp}, (∀ b ∈ fp, H' b = none) → ∀ b ∈ fp, FpOk X pins H' b := fun hn b hb => ⟨hn b hb, (f2 b hb).2⟩
  refine codeAny_forLoop_any (fun n s' => ∃ i σ' H', Inv X pins σ' H' s' ∧ tn i s'.heap ∧ (∀ b ∈ fp, H' b = none) ∧ W i n σ' H') ?_ m0 ⟨0, σ, H2, I2, st2, fun b hb => (f2 b hb).1, w0⟩
  rintro n s3 ⟨i, σ3, H3, I3, st3, fr3, w3⟩
  rcases turn i n σ3 H3 w3 with ⟨stop, qn⟩ | ⟨go, N, hN, step⟩
  · refine wpAny_passesOwn hp (thn (T.done X rfl rfl rfl hc i pins s3 σ3 H3 X.xe I3 (stat fr3) st3 stop) fun r s4 ⟨hr, I4⟩ => ?_)
    subst hr
    exact wpAny_execs_nil ⟨σ3, H3, I4, qn⟩
  · refine wpAny_passesOwn hp (thn (T.item X rfl rfl rfl hc i pins s3 σ3 H3 X.xe I3 (stat fr3) st3 go) fun r s4 ⟨u, hr, h4⟩ => ?_)
    subst hr
    refine wpAny_passesOwn hp (thn h4 fun _ s5 ⟨x, H5, I5, r5, y5, st5, fr5⟩ => ?_)
    have I5' := I5.pinned (stat fr5) (T.obj _ _ st5)
    refine wpAny_passesOwn hp (thn (hg _ s5 σ3 H5 x u _ I5' r5 (step x H5 y5)) fun _ s6 ⟨σ6, H6, I6, q6⟩ => ?_)
    refine wpAny_passesOwn hp (thn (hb _ s6 σ6 H6 _ I6 q6) fun f s7 q7 => ?_)
    have again : ∀ {σ7 : St} {H7 : Hp}, Inv X (pins ++ pinsAt fp s5.heap) σ7 H7 s7 → N σ7 H7 → ∃ m, m < n ∧ ∃ i σ' H', Inv X pins σ' H' s7 ∧ tn i s7.heap ∧ (∀ b ∈ fp, H' b = none) ∧ W i m σ' H' := fun {σ7 H7} I7 n7 => by
      obtain ⟨m', hm, w7⟩ := hN σ7 H7 n7
      refine ⟨m', hm, i + 1, σ7, H7, I7.unpinned, T.keep _ _ _ st5 fun b hb o e => (I7.pin (b, o) (List.mem_append_right _ (List.mem_append_right _ (mem_pinsAt hb e)))).1, fun b hb => ?_, w7⟩
      obtain ⟨o, e, d⟩ := T.obj _ _ st5 b hb
      exact (I7.pin (b, o) (List.mem_append_right _ (List.mem_append_right _ (mem_pinsAt hb e)))).2.1
    cases f with
    | next => obtain ⟨σ7, H7, I7, n7⟩ := q7; exact again I7 n7
    | cont => obtain ⟨σ7, H7, I7, n7⟩ := q7; exact again I7 n7
    | brk => obtain ⟨σ7, H7, I7, q7⟩ := q7; exact ⟨σ7, H7, I7.unpinned, q7⟩
    | ret v => obtain ⟨x7, σ7, H7, I7, r7, q7⟩ := q7; exact ⟨x7, σ7, H7, I7.unpinned, r7, q7⟩
end
end L2
namespace L2
open PySem PySem.Spec PyProof.Rows
abbrev R2 := V → V → Hp → VK → Prop
def OpR (X : Cx) (f : Value → Value → Sem Value) (r : R2) : Prop :=
  ∀ (pins : List (Addr × Obj)) (s : Shared) (σ : St) (H : Hp) (x y : V) (v u : Value) (Q : VK), Inv X pins σ H s → RelV x v → RelV y u → r x y H Q →
    wpAny (model X.prog X.w) X.A (f v u) (EP X pins σ Q) X.xe s
def UnR (X : Cx) (f : Value → Sem Value) (r : V → Hp → VK → Prop) : Prop :=
  ∀ (pins : List (Addr × Obj)) (s : Shared) (σ : St) (H : Hp) (x : V) (v : Value) (Q : VK), Inv X pins σ H s → RelV x v → r x H Q →
    wpAny (model X.prog X.w) X.A (f v) (EP X pins σ Q) X.xe s
def CallR (X : Cx) (f : Value) (r : List V → Hp → VK → Prop) : Prop :=
  ∀ (pins : List (Addr × Obj)) (s : Shared) (σ : St) (H : Hp) (xs : List V) (us : List Value) (Q : VK), Inv X pins σ H s → Vals xs us → r xs H Q →
    wpAny (model X.prog X.w) X.A (call f us) (EP X pins σ Q) X.xe s
def TruR (X : Cx) (r : V → Hp → (Bool → Hp → Prop) → Prop) : Prop :=
  ∀ (pins : List (Addr × Obj)) (s : Shared) (σ : St) (H : Hp) (x : V) (v : Value) (Q : Bool → Hp → Prop), Inv X pins σ H s → RelV x v → r x H Q →
    wpAny (model X.prog X.w) X.A (truthy v) (TP X pins σ Q) X.xe s
def tOp (r : R2) (ta tb : TE) : TE := fun σ H Q => ta σ H fun x H1 => tb σ H1 fun y H2 => r x y H2 Q
def tUn (r : V → Hp → VK → Prop) (ta : TE) : TE := fun σ H Q => ta σ H fun x H1 => r x H1 Q
def rI (C : Int → Int → Prop) (g : Int → Int → V) : R2 := fun x y H Q => ∃ i j, x = .int i ∧ y = .int j ∧ C i j ∧ Q (g i j) H
def rI0 (g : Int → Int → V) : R2 := fun x y H Q => ∃ i j, x = .int i ∧ y = .int j ∧ Q (g i j) H
def rU (g : Int → V) : V → Hp → VK → Prop := fun x H Q => ∃ i, x = .int i ∧ Q (g i) H
section
variable {X : Cx} {a b c : Expr} {ta tb tc : TE} {pos : Pos}
theorem binT (ha : PE X a ta) (hb : PE X b tb) {pins : List (Addr × Obj)} {s : Shared} {σ : St} {H : Hp} {R : V → V → Hp → Prop} (I : Inv X pins σ H s)
    (h : ta σ H fun x H1 => tb σ H1 fun y H2 => R x y H2) {Q : Value → Shared → Prop} {f : Value → Value → Sem Value}
    (hf : ∀ v u s2 x y H2, Inv X pins σ H2 s2 → RelV x v → RelV y u → R x y H2 → wpAny (model X.prog X.w) X.A (f v u) Q X.xe s2) :
    wpAny (model X.prog X.w) X.A (eval a X.env) (fun v s₁ => wpAny (model X.prog X.w) X.A (eval b X.env) (fun u s₂ => wpAny (model X.prog X.w) X.A (f v u) Q X.xe s₂) X.xe s₁) X.xe s := by
  refine thn (ha pins s σ H _ I h) fun v s1 ⟨x, H1, I1, r1, q1⟩ => ?_
  refine thn (hb pins s1 σ H1 _ I1 q1) fun u s2 ⟨y, H2, I2, r2, q2⟩ => ?_
  exact hf v u s2 x y H2 I2 r1 r2 q2
theorem pe_op {op : Operator} {r : R2} (ho : OpR X (binaryOp op) r) (ha : PE X a ta) (hb : PE X b tb) : PE X (.BinOp a op b pos) (tOp r ta tb) := by
  intro pins s σ H Q I h
  exact wpAny_BinOp (binT ha hb I h fun v u s2 x y H2 I2 rx ry q => ho pins s2 σ H2 x y v u Q I2 rx ry q)
theorem pe_un {op : UnaryOp} {r : V → Hp → VK → Prop} (ho : UnR X (unaryOp op) r) (ha : PE X a ta) : PE X (.UnaryOp op a pos) (tUn r ta) := by
  intro pins s σ H Q I h
  exact UnaryOp_ (thn (ha pins s σ H _ I h) fun v s1 ⟨x, H1, I1, r1, q1⟩ => ho pins s1 σ H1 x v Q I1 r1 q1)
theorem opI {f : Value → Value → Sem Value} {C : Int → Int → Prop} {g : Int → Int → Int}
    (rule : ∀ (i j : Int) (t u : Tok) (s : Shared) (Q : Value → Shared → Prop) (E : Value → Shared → Prop), C i j → Q (.int (g i j) s.toks) { s with toks := s.toks + 1 } → wpAny (model X.prog X.w) X.A (f (.int i t) (.int j u)) Q E s) :
    OpR X f (rI C fun i j => .int (g i j)) := by
  intro pins s σ H x y v u Q I rx ry h
  obtain ⟨i, j, rfl, rfl, hc, q⟩ := h
  obtain ⟨t, rfl⟩ := rx
  obtain ⟨t', rfl⟩ := ry
  exact rule i j t t' s _ _ hc ⟨.int (g i j), H, I.tok _, ⟨_, rfl⟩, q⟩
theorem opI0 {f : Value → Value → Sem Value} {g : Int → Int → Int}
    (rule : ∀ (i j : Int) (t u : Tok) (s : Shared) (Q : Value → Shared → Prop) (E : Value → Shared → Prop), Q (.int (g i j) s.toks) { s with toks := s.toks + 1 } → wpAny (model X.prog X.w) X.A (f (.int i t) (.int j u)) Q E s) :
    OpR X f (rI0 fun i j => .int (g i j)) := by
  intro pins s σ H x y v u Q I rx ry h
  obtain ⟨i, j, rfl, rfl, q⟩ := h
  obtain ⟨t, rfl⟩ := rx
  obtain ⟨t', rfl⟩ := ry
  exact rule i j t t' s _ _ ⟨.int (g i j), H, I.tok _, ⟨_, rfl⟩, q⟩
theorem opB0 {f : Value → Value → Sem Value} {g : Int → Int → Bool}
    (rule : ∀ (i j : Int) (t u : Tok) (s : Shared) (Q : Value → Shared → Prop) (E : Value → Shared → Prop), Q (.bool (g i j)) s → wpAny (model X.prog X.w) X.A (f (.int i t) (.int j u)) Q E s) :
    OpR X f (rI0 fun i j => .bl (g i j)) := by
  intro pins s σ H x y v u Q I rx ry h
  obtain ⟨i, j, rfl, rfl, q⟩ := h
  obtain ⟨t, rfl⟩ := rx
  obtain ⟨t', rfl⟩ := ry
  exact rule i j t t' s _ _ ⟨.bl (g i j), H, I, rfl, q⟩
def CDiv (i j : Int) : Prop := 0 < j ∧ j < 1073741824
def CDivN (i j : Int) : Prop := j ≠ 0 ∧ j.natAbs < 1073741824
def CPow (i j : Int) : Prop := 0 ≤ j ∧ j ≤ 1000000 ∧ i.natAbs < 2 ^ 64
def CMul (i j : Int) : Prop := (-(2 ^ 64) < i ∧ i < 2 ^ 64) ∨ (-(2 ^ 64) < j ∧ j < 2 ^ 64)
theorem CMul.ok {i j : Int} (h : CMul i j) : IntMulOk i j := by
  rcases h with ⟨h1, h2⟩ | ⟨h1, h2⟩
  · exact .of_left (intBits_le_64 h1 h2)
  · exact .of_right (intBits_le_64 h1 h2)
theorem op_add : OpR X (binaryOp .Add) (rI0 fun i j => .int (i + j)) := opI0 fun _ _ _ _ _ _ _ q => add_int q
theorem op_mul : OpR X (binaryOp .Mult) (rI CMul fun i j => .int (i * j)) := opI fun _ _ _ _ _ _ _ hc q => mul_int q hc.ok
theorem op_fdiv : OpR X (binaryOp .FloorDiv) (rI CDiv fun i j => .int (i / j)) := opI fun i j _ _ _ _ _ hc q => by
  have h1 : (0 : Int) < j := hc.1
  have h2 : j < 1073741824 := hc.2
  exact floordiv_int (by omega) (by rw [Int.fdiv_eq_ediv_of_nonneg i (by omega)]; exact q) (.inl (PyProof.noPylong_small (by omega)))
theorem op_mod : OpR X (binaryOp .Mod) (rI (fun _ j => 0 < j) fun i j => .int (i % j)) := opI fun i j _ _ _ _ _ hc q => by
  have h1 : (0 : Int) < j := hc
  exact mod_int' (by omega) (by rw [Int.fmod_eq_emod_of_nonneg i (by omega)]; exact q)
theorem op_pow : OpR X (binaryOp .Pow) (rI CPow fun i j => .int (i ^ j.toNat)) := opI fun _ _ _ _ _ _ _ hc q => pow_int_small hc.1 hc.2.1 hc.2.2 q
theorem unI {f : Value → Sem Value} {g : Int → Int}
    (rule : ∀ (i : Int) (t : Tok) (s : Shared) (Q : Value → Shared → Prop) (E : Value → Shared → Prop), Q (.int (g i) s.toks) { s with toks := s.toks + 1 } → wpAny (model X.prog X.w) X.A (f (.int i t)) Q E s) :
    UnR X f (rU fun i => .int (g i)) := by
  intro pins s σ H x v Q I rx h
  obtain ⟨i, rfl, q⟩ := h
  obtain ⟨t, rfl⟩ := rx
  exact rule i t s _ _ ⟨.int (g i), H, I.tok _, ⟨_, rfl⟩, q⟩
theorem un_neg : UnR X (unaryOp .USub) (rU fun i => .int (-i)) := unI fun _ _ _ _ _ q => neg_int q
end
def scal : V → V → Bool
  | .non, .non => true | .non, .int _ => true | .int _, .non => true | .non, .bl _ => true | .bl _, .non => true | .non, .str _ => true | .str _, .non => true
  | .int _, .int _ => true | .bl _, .bl _ => true | .str _, .str _ => true | .byt _, .byt _ => true
  | .int _, .str _ => true | .str _, .int _ => true | .bl _, .str _ => true | .str _, .bl _ => true
  | _, _ => false
def rEq : R2 := fun x y H Q => scal x y = true ∧ Q (.bl (decide (x = y))) H
def rNe : R2 := fun x y H Q => scal x y = true ∧ Q (.bl (!decide (x = y))) H
theorem dec_int {i j : Int} : decide (V.int i = V.int j) = (i == j) := by
  rw [Bool.eq_iff_iff]
  simp
theorem dec_bl {i j : Bool} : decide (V.bl i = V.bl j) = (i == j) := by
  rw [Bool.eq_iff_iff]
  simp
theorem dec_str {i j : Str} : decide (V.str i = V.str j) = (i == j) := by
  rw [Bool.eq_iff_iff]
  simp
theorem dec_byt {i j : Array UInt8} : decide (V.byt i = V.byt j) = (i.toList == j.toList) := by
  rw [Bool.eq_iff_iff]
  cases i
  cases j
  simp
section
variable {X : Cx} {a b c : Expr} {ta tb tc : TE} {pos : Pos}
theorem fin_bl {pins : List (Addr × Obj)} {σ : St} {H : Hp} {s : Shared} {Q : VK} {k k' : Bool} (I : Inv X pins σ H s) (q : Q (.bl k) H) (e : k = k') : EP X pins σ Q (.bool k') s := by
  subst e
  exact ⟨.bl k, H, I, rfl, q⟩
theorem op_eq : OpR X (compareOp .Eq) rEq := by
  intro pins s σ H x y v u Q I rx ry h
  obtain ⟨hs, q⟩ := h
  cases x with
  | non =>
    cases rx
    cases y with
    | non => cases ry; exact PySem.EqNone.eq_none_none (fin_bl I q (by simp))
    | bl j => cases ry; exact PySem.EqNone.eq_none_bool (fin_bl I q (by simp))
    | int j => obtain ⟨t', rfl⟩ := ry; exact PySem.EqNone.eq_none_int (fin_bl I q (by simp))
    | str j => obtain ⟨t', rfl⟩ := ry; exact PySem.EqNone.eq_none_str (fin_bl I q (by simp))
    | _ => exact absurd (show false = true from hs) Bool.false_ne_true
  | bl i =>
    cases rx
    cases y with
    | non => cases ry; exact PySem.EqNone.eq_bool_none (fin_bl I q (by simp))
    | bl j => cases ry; exact eq_bool (fin_bl I q dec_bl)
    | str j => obtain ⟨t', rfl⟩ := ry; exact PySem.EqMixed.eq_bool_str (fin_bl I q (by simp))
    | _ => exact absurd (show false = true from hs) Bool.false_ne_true
  | int i =>
    obtain ⟨t, rfl⟩ := rx
    cases y with
    | non => cases ry; exact PySem.EqNone.eq_int_none (fin_bl I q (by simp))
    | int j => obtain ⟨t', rfl⟩ := ry; exact eq_int (fin_bl I q dec_int)
    | str j => obtain ⟨t', rfl⟩ := ry; exact PySem.EqMixed.eq_int_str (fin_bl I q (by simp))
    | _ => exact absurd (show false = true from hs) Bool.false_ne_true
  | str i =>
    obtain ⟨t, rfl⟩ := rx
    cases y with
    | non => cases ry; exact PySem.EqNone.eq_str_none (fin_bl I q (by simp))
    | bl j => cases ry; exact PySem.EqMixed.eq_str_bool (fin_bl I q (by simp))
    | int j => obtain ⟨t', rfl⟩ := ry; exact PySem.EqMixed.eq_str_int (fin_bl I q (by simp))
    | str j => obtain ⟨t', rfl⟩ := ry; exact eq_str (fin_bl I q dec_str)
    | _ => exact absurd (show false = true from hs) Bool.false_ne_true
  | byt i =>
    obtain ⟨t, rfl⟩ := rx
    cases y with
    | byt j => obtain ⟨t', rfl⟩ := ry; exact PySem.W.eq_bytes (fin_bl I q dec_byt)
    | _ => exact absurd (show false = true from hs) Bool.false_ne_true
  | _ => cases y <;> exact absurd (show false = true from hs) Bool.false_ne_true
theorem op_ne : OpR X (compareOp .NotEq) rNe := by
  intro pins s σ H x y v u Q I rx ry h
  obtain ⟨hs, q⟩ := h
  cases x with
  | non =>
    cases rx
    cases y with
    | non => cases ry; exact PySem.EqNone.ne_none_none (fin_bl I q (by simp))
    | bl j => cases ry; exact PySem.EqNone.ne_none_bool (fin_bl I q (by simp))
    | int j => obtain ⟨t', rfl⟩ := ry; exact PySem.EqNone.ne_none_int (fin_bl I q (by simp))
    | str j => obtain ⟨t', rfl⟩ := ry; exact PySem.EqNone.ne_none_str (fin_bl I q (by simp))
    | _ => exact absurd (show false = true from hs) Bool.false_ne_true
  | bl i =>
    cases rx
    cases y with
    | non => cases ry; exact PySem.EqNone.ne_bool_none (fin_bl I q (by simp))
    | bl j => cases ry; exact ne_bool (fin_bl I q (congrArg not dec_bl))
    | str j => obtain ⟨t', rfl⟩ := ry; exact PySem.EqMixed.ne_bool_str (fin_bl I q (by simp))
    | _ => exact absurd (show false = true from hs) Bool.false_ne_true
  | int i =>
    obtain ⟨t, rfl⟩ := rx
    cases y with
    | non => cases ry; exact PySem.EqNone.ne_int_none (fin_bl I q (by simp))
    | int j => obtain ⟨t', rfl⟩ := ry; exact ne_int (fin_bl I q (congrArg not dec_int))
    | str j => obtain ⟨t', rfl⟩ := ry; exact PySem.EqMixed.ne_int_str (fin_bl I q (by simp))
    | _ => exact absurd (show false = true from hs) Bool.false_ne_true
  | str i =>
    obtain ⟨t, rfl⟩ := rx
    cases y with
    | non => cases ry; exact PySem.EqNone.ne_str_none (fin_bl I q (by simp))
    | bl j => cases ry; exact PySem.EqMixed.ne_str_bool (fin_bl I q (by simp))
    | int j => obtain ⟨t', rfl⟩ := ry; exact PySem.EqMixed.ne_str_int (fin_bl I q (by simp))
    | str j => obtain ⟨t', rfl⟩ := ry; exact ne_str (fin_bl I q (congrArg not dec_str))
    | _ => exact absurd (show false = true from hs) Bool.false_ne_true
  | byt i =>
    obtain ⟨t, rfl⟩ := rx
    cases y with
    | byt j => obtain ⟨t', rfl⟩ := ry; exact PySem.W.ne_bytes (fin_bl I q (congrArg not dec_byt))
    | _ => exact absurd (show false = true from hs) Bool.false_ne_true
  | _ => cases y <;> exact absurd (show false = true from hs) Bool.false_ne_true
theorem op_lt : OpR X (compareOp .Lt) (rI0 fun i j => .bl (decide (i < j))) := opB0 fun _ _ _ _ _ _ _ q => lt_int q
theorem op_gt : OpR X (compareOp .Gt) (rI0 fun i j => .bl (decide (j < i))) := opB0 fun _ _ _ _ _ _ _ q => gt_int q
theorem op_ge : OpR X (compareOp .GtE) (rI0 fun i j => .bl (decide (j ≤ i))) := opB0 fun _ _ _ _ _ _ _ q => ge_int q
theorem op_in_str : OpR X (compareOp .In) (fun x y H Q => ∃ i j, x = .str i ∧ y = .str j ∧ Q (.bl (!(Builtin.Str.occurrences j i 0 j.length 1).isEmpty)) H) := by
  intro pins s σ H x y v u Q I rx ry h
  obtain ⟨i, j, rfl, rfl, q⟩ := h
  obtain ⟨t, rfl⟩ := rx
  obtain ⟨t', rfl⟩ := ry
  exact in_str (fin_bl I q rfl)
def isObj : HO → Bool
  | .lst _ => true
  | .ins _ _ _ => true
  | _ => false
theorem OpR.or {f : Value → Value → Sem Value} {r r' : R2} (h : OpR X f r) (h' : OpR X f r') : OpR X f (fun x y H Q => r x y H Q ∨ r' x y H Q) := by
  intro pins s σ H x y v u Q I rx ry q
  rcases q with q | q
  · exact h pins s σ H x y v u Q I rx ry q
  · exact h' pins s σ H x y v u Q I rx ry q
theorem nomark (b : Expr) {op : CmpOp} (h : op ≠ .In := by decide) (h2 : op ≠ .NotIn := by decide) : behindInMarks op b = false := by
  have e1 : (op == CmpOp.In) = false := by cases op <;> first | rfl | exact absurd rfl h
  have e2 : (op == CmpOp.NotIn) = false := by cases op <;> first | rfl | exact absurd rfl h2
  cases b <;> simp [behindInMarks, e1, e2]
theorem pe_cmpR {op : CmpOp} {r : R2} (ho : OpR X (compareOp op) r) (ha : PE X a ta) (hb : PE X b tb) (hm : behindInMarks op b = false) : PE X (.Compare a [op] [b] pos) (tOp r ta tb) := by
  intro pins s σ H Q I h
  exact wpAny_Compare1 (binT ha hb I h fun v u s2 x y H2 I2 rx ry q => ho pins s2 σ H2 x y v u Q I2 rx ry q) hm
def tTest (t : TE) : TT := fun σ H Q => t σ H fun x H' => ∃ k, x = .bl k ∧ Q k H'
theorem pt_cmpR {op : CmpOp} {r : R2} (ho : OpR X (compareOp op) r) (ha : PE X a ta) (hb : PE X b tb) (hm : behindInMarks op b = false) : PT X (.Compare a [op] [b] pos) (tTest (tOp r ta tb)) := by
  intro pins s σ H Q I h
  refine wpAny_isTrue_Compare1 (thn (ha pins s σ H _ I h) fun v s1 ⟨x, H1, I1, r1, q1⟩ => thn (hb pins s1 σ H1 _ I1 q1) fun u s2 ⟨y, H2, I2, r2, q2⟩ =>
    thn (ho pins s2 σ H2 x y v u _ I2 r1 r2 q2) fun c s3 ⟨z, H3, I3, r3, k, e, q3⟩ => ?_) hm
  subst e
  cases r3
  exact wpAny_truthy_bool ⟨H3, I3, q3⟩
def tChain (r r' : R2) (ta tb tc : TE) : TE := fun σ H Q => ta σ H fun x H1 => tb σ H1 fun y H2 => r x y H2 fun z H3 => ∃ k, z = .bl k ∧
  (if k = true then tc σ H3 fun w' H4 => r' y w' H4 Q else Q (.bl false) H3)
def TruV (K : PySem.W.Frag) (x : V) (H : Hp) (k : Bool) : Prop :=
  match x with
  | .non => k = false
  | .bl b => k = b
  | .int i => k = (i != 0)
  | .str y => y.length ≤ sizeLine ∧ k = ((y.length : Int) != 0)
  | .byt y => y.size ≤ sizeLine ∧ k = ((y.size : Int) != 0)
  | .ref p => (∃ xs, SqL K H p xs ∧ k = !xs.isEmpty) ∨ (∃ xs, SqT K H p xs ∧ k = !xs.isEmpty) ∨ ∃ kvs, H p = some (.dK kvs) ∧ k = !kvs.isEmpty
  | _ => False
theorem isEmpty_kv {κ : Type} {kvs : List (κ × V)} {vs : List (κ × Value)} (r : KV kvs vs) : (!vs.isEmpty) = !kvs.isEmpty := by
  cases r <;> rfl
theorem isEmpty_of {xs : List V} {its : List Value} (r : Vals xs its) : (!its.toArray.isEmpty) = !xs.isEmpty := by
  cases r <;> simp
theorem line63 : (sizeLine : Nat) < 2 ^ 63 := by rw [sizeLine_eq]; decide
theorem tru_ok : TruR X (fun x H Q => ∃ k, TruV X.K x H k ∧ Q k H) := by
  intro pins s σ H x v Q I rx h
  obtain ⟨k, e, q⟩ := h
  have hl := line63
  have hs : sizeLine = 16777216 := sizeLine_eq
  cases x with
  | non =>
    cases rx
    have e' : k = false := e
    subst e'
    exact truthy_none ⟨H, I, q⟩
  | bl b =>
    cases rx
    have e' : k = b := e
    subst e'
    exact wpAny_truthy_bool ⟨H, I, q⟩
  | int i =>
    obtain ⟨t, rfl⟩ := rx
    have e' : k = (i != 0) := e
    subst e'
    exact PySem.P.truthy_int ⟨H, I, q⟩
  | str y =>
    obtain ⟨t, rfl⟩ := rx
    obtain ⟨hy, e'⟩ : y.length ≤ sizeLine ∧ k = ((y.length : Int) != 0) := e
    subst e'
    exact PySem.P.truthy_str (by omega) ⟨H, I.tok _, q⟩
  | byt y =>
    obtain ⟨t, rfl⟩ := rx
    obtain ⟨hy, e'⟩ : y.size ≤ sizeLine ∧ k = ((y.size : Int) != 0) := e
    subst e'
    exact PySem.W.truthy_bytes (by omega) ⟨H, I.tok _, q⟩
  | ref p =>
    cases rx
    have e' : (∃ xs, SqL X.K H p xs ∧ k = !xs.isEmpty) ∨ (∃ xs, SqT X.K H p xs ∧ k = !xs.isEmpty) ∨ ∃ kvs, H p = some (.dK kvs) ∧ k = !kvs.isEmpty := e
    rcases e' with ⟨xs, hx, e'⟩ | ⟨xs, hx, e'⟩ | ⟨kvs, hx, e'⟩
    · subst e'
      obtain ⟨its, r, pl, hz⟩ := I.list hx
      have hlen := r.length
      exact wpAny_truthy_list pl.isList (by simp only [List.size_toArray]; omega) ⟨H, I.tok _, by rw [isEmpty_of r]; exact q⟩
    · subst e'
      obtain ⟨its, r, pl, hz⟩ := I.tuple hx
      have hlen := r.length
      exact truthy_tuple pl (by simp only [List.size_toArray]; omega) ⟨H, I.tok _, by rw [isEmpty_of r]; exact q⟩
    · subst e'
      obtain ⟨hz, hS, vs, r, m⟩ : kvs.length ≤ sizeLine ∧ (p == sysModules) = false ∧ ∃ vs, KV kvs vs ∧ s.heap.DictOf (mixKind X.prog X.w) p vs := I.hok p _ hx
      have hlen : kvs.length = vs.length := Paired.length r
      exact wpAny_truthy_dict hS m (by omega) ⟨H, I.tok _, by rw [isEmpty_kv r]; exact q⟩
  | _ => exact (show False from e).elim
theorem pt_truth (ha : PE X a ta) (he : ∀ whole, isTrue a X.env whole = (do let v ← whole; standAt a.pos; holding [v] (truthy v))) :
    PT X a (fun σ H Q => ta σ H fun x H' => ∃ k, TruV X.K x H' k ∧ Q k H') := by
  intro pins s σ H Q I h
  exact isTrue_plain (thn (ha pins s σ H _ I h) fun v s1 ⟨x, H1, I1, r1, q1⟩ => tru_ok pins s1 σ H1 x v Q I1 r1 q1) (he _)
theorem op_add_str : OpR X (binaryOp .Add) (fun x y H Q => ∃ i j, x = .str i ∧ y = .str j ∧ i.length + j.length ≤ sizeLine ∧ Q (.str (i ++ j)) H) := by
  intro pins s σ H x y v u Q I rx ry h
  obtain ⟨i, j, rfl, rfl, hz, q⟩ := h
  obtain ⟨t, rfl⟩ := rx
  obtain ⟨t', rfl⟩ := ry
  exact add_str (fun t' tk => ⟨.str (i ++ j), H, I.tok _, ⟨_, rfl⟩, q⟩) hz
def PlainIxT (b : Expr) : Prop := ∀ o i, subscripted b false o i = operate [o, i] (getItem o i)
theorem vals1 {x : V} {us : List Value} (r : Vals [x] us) : ∃ u, us = [u] ∧ RelV x u := by
  cases r with
  | cons r1 r2 => cases r2; exact ⟨_, rfl, r1⟩
theorem vals2 {x y : V} {us : List Value} (r : Vals [x, y] us) : ∃ u w', us = [u, w'] ∧ RelV x u ∧ RelV y w' := by
  cases r with
  | cons r1 r2 =>
    cases r2 with
    | cons r3 r4 => cases r4; exact ⟨_, _, rfl, r1, r3⟩
theorem call_max2 (hc : X.calm = true) : CallR X (.builtin "max") (fun xs H Q => ∃ i j, xs = [.int i, .int j] ∧ Q (.int (if j > i then j else i)) H) := by
  intro pins s σ H xs us Q I r h
  obtain ⟨i, j, rfl, q⟩ := h
  obtain ⟨u, w', rfl, ⟨t, rfl⟩, ⟨t', rfl⟩⟩ := vals2 r
  refine max_two_ints (I.ok.hd hc) fun h' tk k => ⟨_, H, I.kept k, ?_, q⟩
  by_cases hj : j > i
  · rw [if_pos hj, if_pos hj]; exact ⟨_, rfl⟩
  · rw [if_neg hj, if_neg hj]; exact ⟨_, rfl⟩
theorem call_int1 : CallR X (.type "int") (fun xs H Q => (∃ i, xs = [.int i] ∧ Q (.int i) H) ∨ ∃ k, xs = [.bl k] ∧ Q (.int (if k then 1 else 0)) H) := by
  intro pins s σ H xs us Q I r h
  rcases h with ⟨i, rfl, q⟩ | ⟨k, rfl, q⟩
  · obtain ⟨u, rfl, t, rfl⟩ := vals1 r
    exact call_int_int ⟨.int i, H, I, ⟨_, rfl⟩, q⟩
  · obtain ⟨u, rfl, r1⟩ := vals1 r
    cases r1
    exact call_int_bool ⟨.int (if k then 1 else 0), H, I.tok _, ⟨_, rfl⟩, q⟩
def LenV (K : PySem.W.Frag) (x : V) (H : Hp) (n : Nat) : Prop :=
  match x with
  | .str y => y.length ≤ sizeLine ∧ n = y.length
  | .byt y => y.size ≤ sizeLine ∧ n = y.size
  | .ref p => (∃ xs, SqL K H p xs ∧ n = xs.length) ∨ ∃ xs, SqT K H p xs ∧ n = xs.length
  | _ => False
end
end L2
namespace L2
open PySem PySem.Spec PyProof.Rows
structure ObjM (h : Heap) (x dx C : Addr) (mA : Str → Option Value) : Prop where
  obj : h.get? x = some (PySem.W.instObj C dx)
  ns : h.Ns1 dx mA
  ne : dx ≠ x
theorem lookIn_ns {h : Heap} {dx : Addr} {mA : Str → Option Value} (n : h.Ns1 dx mA) : ∃ od, h.get? dx = some od ∧ ∀ name, PySem.W.lookIn name od = some (mA name) := by
  obtain ⟨o, es, ep, ho, hd, hk, _, hm⟩ := n
  refine ⟨o, ho, fun name => ?_⟩
  have e := hm name
  unfold nsFind findBy at e
  rw [← Array.find?_toList] at e
  unfold PySem.W.lookIn
  rw [hd]
  dsimp only
  split
  · rename_i y q
    rw [q] at e
    exact congrArg some e
  · rename_i q
    rw [q] at e
    have a : es.toList.any (·.refKey) = false := by
      rw [List.any_eq_false]
      intro y hy
      obtain ⟨z, t, hkey⟩ := hk y (Array.mem_toList_iff.mp hy)
      simp [DictEntry.refKey, hkey]
    have a' : ¬ es.toList.any (·.refKey) = true := by rw [a]; exact Bool.false_ne_true
    rw [if_neg a']
    exact congrArg some e
theorem ObjM.look {h : Heap} {x dx C : Addr} {mA : Str → Option Value} (I : ObjM h x dx C mA) : ∃ od, PySem.W.InstAt h x (PySem.W.instObj C dx) C (some od) ∧ ∀ name, PySem.W.lookIn name od = some (mA name) :=
  let ⟨od, ho, hl⟩ := lookIn_ns I.ns
  ⟨od, ⟨I.obj, rfl, rfl, ho⟩, hl⟩
section
variable {prog : Program} {w : World} {A : Around} {E : Value → Shared → Prop} {s : Shared} {K : PySem.W.Frag} {x dx C f : Addr} {mA : Str → Option Value} {name : Str} {v : Value}
end
def putF (f : Str) (v : V) : List (Str × V) → List (Str × V)
  | [] => [(f, v)]
  | (g, x) :: r => if g = f then (g, v) :: r else (g, x) :: putF f v r
section
variable {P : Program} {w : World} {H H' : Hp} {h h' : Heap} {a C dx : Addr} {fs fs' : List (Str × V)}
theorem ins_get (hok : HOk P w H h) (e : H a = some (.ins C dx fs)) : ∃ mA, ObjM h a dx C mA ∧ (∀ f, RelO (fs.lookup f) (mA f)) ∧ PySem.Within mA (fs.map (·.1)) ∧ fs.length ≤ 1000 ∧ H dx = some (.own a) := by
  obtain ⟨d, z, ne, ob, mA, n, r, q⟩ := (show ObjOk P w H h a (.ins C dx fs) from hok a _ e)
  exact ⟨mA, ⟨ob, n, ne⟩, r, q, z, d⟩
end
structure Cls (K : PySem.W.Frag) (C : Addr) : Prop where
  pg : PySem.W.plainGet K C Str.empty = true
  hd : PySem.W.hasDictIn K C = true
  po : PySem.W.plainOver K C = true
  sa : PySem.W.findIn K (.ref C) "__setattr__" = some (some (.builtin "object.__setattr__"))
theorem Cls.get {K : PySem.W.Frag} {C : Addr} (c : Cls K C) (f : Str) : PySem.W.plainGet K C f = true := c.pg
def NoAttr (K : PySem.W.Frag) (C : Addr) (f : Str) : Prop := PySem.W.findIn K (.ref C) f = some none
structure Con (K : PySem.W.Frag) (C : Addr) (f : Str) (v : V) (u : Value) : Prop where
  at_ : PySem.W.findIn K (.ref C) f = some (some u)
  rel : RelV v u
  get : PySem.W.specialIn K u "__get__" = some none
  cp : PySem.W.copiedNames.contains f = false
structure Meth (K : PySem.W.Frag) (C : Addr) (m : Str) (f : Addr) : Prop where
  at_ : PySem.W.findIn K (.ref C) m = some (some (.ref f))
  fn : PySem.W.isFn K (.ref f) = true
  kp : PySem.W.keepIn K (.ref f) = true
section
variable {X : Cx} {pins : List (Addr × Obj)} {σ : St} {H : Hp} {s : Shared} {a C dx : Addr} {fs : List (Str × V)} {f : Str} {v : V} {A : Around} {E : Value → Shared → Prop}
end
def tFld (K : PySem.W.Frag) (ta : TE) (f : Str) : TE := fun σ H Q => ta σ H fun x H1 => ∃ a C dx fs v, x = .ref a ∧ H1 a = some (.ins C dx fs) ∧ Cls K C ∧ NoAttr K C f ∧ fs.lookup f = some v ∧ Q v H1
def tCon (K : PySem.W.Frag) (ta : TE) (f : Str) : TE := fun σ H Q => ta σ H fun x H1 => ∃ a C dx fs v u, x = .ref a ∧ H1 a = some (.ins C dx fs) ∧ Cls K C ∧ Con K C f v u ∧ fs.lookup f = none ∧ Q v H1
def sFld (K : PySem.W.Frag) (ta tv : TE) (f : Str) : TS := fun D σ H => tv σ H fun y H1 => ta σ H1 fun x H2 => ∃ a C dx fs, x = .ref a ∧ H2 a = some (.ins C dx fs) ∧ Cls K C ∧ NoAttr K C f ∧ fs.length < 1000 ∧
  D.nx σ (upd H2 a (.ins C dx (putF f y fs)))
def InOp (X : Cx) (op : Operator) (rd : V → V → Hp → VK → Prop) : Prop :=
  ∀ (pins : List (Addr × Obj)) (s : Shared) (σ : St) (H : Hp) (x y : V) (u v : Value) (Q : VK), Inv X pins σ H s → RelV x u → RelV y v → rd x y H Q → wpAny (model X.prog X.w) X.A (inplaceOp op u v) (EP X pins σ Q) X.xe s
def sFldAug (K : PySem.W.Frag) (ta tv : TE) (rd : V → V → Hp → VK → Prop) (f : Str) : TS := fun D σ H => ta σ H fun x H1 => ∃ a C dx fs v, x = .ref a ∧ H1 a = some (.ins C dx fs) ∧ Cls K C ∧ NoAttr K C f ∧ fs.lookup f = some v ∧
  tv σ H1 fun y H2 => rd v y H2 fun z H3 => ∃ dx' fs', H3 a = some (.ins C dx' fs') ∧ fs'.length < 1000 ∧ D.nx σ (upd H3 a (.ins C dx' (putF f z fs')))
section
variable {X : Cx} {o e value : Expr} {f : Str} {pos pos' tpos : Pos} {ta tv : TE}
def rAdd : V → V → Hp → VK → Prop := fun x y H Q => ∃ i j, x = .int i ∧ y = .int j ∧ Q (.int (i + j)) H
def rSub : V → V → Hp → VK → Prop := fun x y H Q => ∃ i j, x = .int i ∧ y = .int j ∧ Q (.int (i - j)) H
end
section
variable {X : Cx} {pins : List (Addr × Obj)} {σ : St} {H : Hp} {s : Shared} {A : Around} {E : Value → Shared → Prop} {Q : Value → Shared → Prop} {c : Value} {b : Bool}
inductive TyOf (K : PySem.W.Frag) (H : Hp) : V → Value → Prop where
  | non : TyOf K H .non (.type "NoneType")
  | bl (x : Bool) : TyOf K H (.bl x) (.type "bool")
  | int (i : Int) : TyOf K H (.int i) (.type "int")
  | str (x : Str) : TyOf K H (.str x) (.type "str")
  | flt (x : UInt64) : TyOf K H (.flt x) (.type "float")
  | lst {a : Addr} {xs : List V} (e : H a = some (.lst xs)) : TyOf K H (.ref a) (.type "list")
  | frz {a : Addr} {o : Obj} {xs : List V} (e : H a = some (.frz o (.lst xs))) : TyOf K H (.ref a) (.type "list")
  | tup {a : Addr} {xs : List V} (e : H a = some (.tup xs)) : TyOf K H (.ref a) (.type "tuple")
  | dK {a : Addr} {kvs : List (Key × V)} (e : H a = some (.dK kvs)) : TyOf K H (.ref a) (.type "dict")
  | dT {a : Addr} {kvs : List (List Key × V)} (e : H a = some (.dT kvs)) : TyOf K H (.ref a) (.type "dict")
  | ins {a C dx : Addr} {fs : List (Str × V)} (e : H a = some (.ins C dx fs)) (cl : Cls K C) (ha : PySem.W.findIn K (.ref C) "__class__" = some (some (.builtin "object.__class__")))
      (hn : PySem.W.specialIn K (.builtin "object.__class__") "__get__" = some (some (.builtin "getset_descriptor.__get__"))) (htk : PySem.W.takesIn K (.builtin "object.__class__") = some true)
      (hm : PySem.W.mroIn K C (.type "object") = some true) : TyOf K H (.ref a) (.ref C)
theorem isinst_ok {x : V} {u t : Value} (I : Inv X pins σ H s) (rx : RelV x u) (ty : TyOf X.K H x t) (e : PySem.W.kitOne X.K t c = some b) (h : ∀ tk, Q (.bool b) { s with toks := tk }) :
    wpAny (model X.prog X.w) A (call (.builtin "isinstance") [u, c]) Q E s := by
  cases ty with
  | non => cases (show u = Value.none from rx); exact PySem.W.kia_one PySem.W.kitx_none I.kIn True.intro e (fun z => nomatch z) h
  | bl y => cases (show u = Value.bool y from rx); exact PySem.W.kia_one PySem.W.kitx_bool I.kIn True.intro e (fun z => nomatch z) h
  | int i => obtain ⟨t, q⟩ := (show ∃ t, u = Value.int i t from rx); cases q; exact PySem.W.kia_one PySem.W.kitx_int I.kIn True.intro e (fun z => nomatch z) h
  | str y => obtain ⟨t, q⟩ := (show ∃ t, u = Value.str y t from rx); cases q; exact PySem.W.kia_one PySem.W.kitx_str I.kIn True.intro e (fun z => nomatch z) h
  | flt y => obtain ⟨t, q⟩ := (show ∃ t, u = Value.float y t from rx); cases q; exact PySem.W.kia_one PySem.W.kitx_float I.kIn True.intro e (fun z => nomatch z) h
  | @lst a xs ea =>
    cases (show u = Value.ref a from rx)
    obtain ⟨_, _, n, _, h1⟩ := (show ObjOk X.prog X.w H s.heap a (.lst xs) from I.hok a _ ea)
    exact PySem.W.kia_one PySem.W.kitx_list I.kIn ⟨_, h1, rfl⟩ e (fun z => nomatch z) h
  | @frz a ob xs ea =>
    cases (show u = Value.ref a from rx)
    obtain ⟨_, _, _, n, _, h1⟩ := (show ObjOk X.prog X.w H s.heap a (.frz ob (.lst xs)) from I.hok a _ ea)
    exact PySem.W.kia_one PySem.W.kitx_list I.kIn ⟨_, h1, rfl⟩ e (fun z => nomatch z) h
  | @tup a xs ea =>
    cases (show u = Value.ref a from rx)
    obtain ⟨_, _, _, p⟩ := (show ObjOk X.prog X.w H s.heap a (.tup xs) from I.hok a _ ea)
    obtain ⟨o, h1, h2, _⟩ := p
    exact PySem.W.kia_one PySem.W.kitx_tuple I.kIn ⟨o, h1, h2⟩ e (fun z => nomatch z) h
  | @dK a kvs ea =>
    cases (show u = Value.ref a from rx)
    obtain ⟨_, _, vs, _, p⟩ := (show ObjOk X.prog X.w H s.heap a (.dK kvs) from I.hok a _ ea)
    obtain ⟨o, es, ep, h1, h2, _⟩ := p
    exact PySem.W.kia_one PySem.W.kitx_dict I.kIn ⟨o, h1, h2.1⟩ e (fun z => nomatch z) h
  | @dT a kvs ea =>
    cases (show u = Value.ref a from rx)
    obtain ⟨_, _, xs, _, o, es, ep, h1, h2, _⟩ := (show ObjOk X.prog X.w H s.heap a (.dT kvs) from I.hok a _ ea)
    exact PySem.W.kia_one PySem.W.kitx_dict I.kIn ⟨o, h1, h2.1⟩ e (fun z => nomatch z) h
  | @ins a C dx fs ea cl ha hn htk hm =>
    cases (show u = Value.ref a from rx)
    obtain ⟨mA, O, _⟩ := ins_get I.hok ea
    obtain ⟨od, J, _⟩ := O.look
    exact PySem.W.kia_one (PySem.W.kitx_own (cl.get _) cl.hd ha hn htk hm) I.kIn J e (fun z => nomatch z) h
end
end L2
namespace L2
open PySem PySem.Spec PyProof.Rows
structure Room (k : Nat) (A : Around) : Prop where
  hd : A.handled = none
  dp : A.depth + 3 * k + 5 < recursionLimit
  un : A.units + 16 * k + 200 < cLine
theorem Room.mono {j k : Nat} {A : Around} (r : Room k A) (h : j ≤ k) : Room j A := ⟨r.hd, by have := r.dp; omega, by have := r.un; omega⟩
theorem Room.deeper {k : Nat} {A : Around} (r : Room (k + 1) A) (env : Env) : Room k (A.deeper env) :=
  ⟨r.hd, by have := r.dp; show A.depth + 1 + 3 * k + 5 < _; omega, by have := r.un; show A.units + 3 + 16 * k + 200 < _; omega⟩
theorem Room.depth {k : Nat} {A : Around} (r : Room k A) : A.depth < recursionLimit := by have := r.dp; omega
theorem Room.units {k : Nat} {A : Around} (r : Room k A) : A.units + 64 < cLine := by have := r.un; omega
def tNil : TA := fun _ H Q => Q [] H
def tCons (ta : TE) (tr : TA) : TA := fun σ H Q => ta σ H fun x H1 => tr σ H1 fun xs H2 => Q (x :: xs) H2
section
variable {X : Cx} {e : Expr} {es : List Expr} {te : TE} {t : TA} {pos : Pos}
theorem pa_nil : PA X [] tNil := fun _ _ _ _ H Q I h => Calls.spliced_nil ⟨[], H, I, .nil, h⟩
theorem pa_cons (ha : PE X e te) (hr : PA X es t) (hs : starEach (e :: es) X.env = (false, eval e X.env) :: starEach es X.env := by rfl) : PA X (e :: es) (tCons te t) := by
  intro pos pins s σ H Q I h
  rw [hs]
  show wpAny _ _ (spliced ((false, eval e X.env) :: backTo pos (starEach es X.env))) _ _ s
  refine Calls.spliced_cons (thn (ha pins s σ H _ I h) fun u s1 ⟨x, H1, I1, r1, q1⟩ => ?_)
  exact thn (hr pos pins s1 σ H1 _ I1 q1) fun us s2 ⟨xs, H2, I2, r2, q2⟩ => ⟨x :: xs, H2, I2, .cons r1 r2, q2⟩
def tTup (t : TA) : TE := fun σ H Q => t σ H fun xs H1 => xs.length ≤ sizeLine ∧ ∀ p, H1 p = none → Q (.ref p) (upd H1 p (.tup xs))
def tLst (t : TA) : TE := fun σ H Q => t σ H fun xs H1 => xs.length ≤ sizeLine ∧ ∀ p, H1 p = none → Q (.ref p) (upd H1 p (.lst xs))
theorem pe_tup {x1} (h : PA X es t) : PE X (.Tuple es x1 pos) (tTup t) := by
  intro pins s σ H Q I hq
  refine wpAny_Tuple_spliced (thn (h pos pins s σ H _ I hq) fun us s1 ⟨xs, H1, I1, r, z, q⟩ => ⟨by rw [← r.length]; exact z, ?_⟩)
  have hf : H1 s1.heap.objs.size = none := I1.hok.fresh (Nat.le_refl _)
  refine ⟨.ref s1.heap.objs.size, upd H1 s1.heap.objs.size (.tup xs), I1.laid (t' := s1.toks) (fun b u e => Heap.get?_push_of_some _ e) (Nat.le_refl _) ?_, rfl, q _ hf⟩
  exact ⟨z, us, r, ⟨_, Heap.get?_push_size _ rfl, rfl, _, rfl⟩⟩
theorem pe_lst (h : PA X es t) : PE X (.List es pos) (tLst t) := by
  intro pins s σ H Q I hq
  refine wpAny_List_spliced (thn (h pos pins s σ H _ I hq) fun us s1 ⟨xs, H1, I1, r, z, q⟩ => ⟨by rw [← r.length]; exact z, ?_⟩)
  have hf : H1 s1.heap.objs.size = none := I1.hok.fresh (Nat.le_refl _)
  refine ⟨.ref s1.heap.objs.size, upd H1 s1.heap.objs.size (.lst xs), I1.laid (t' := s1.toks) (fun b u e => Heap.get?_push_of_some _ e) (Nat.le_refl _) ?_, rfl, q _ hf⟩
  exact ⟨z, us, 0, r, Heap.get?_push_size _ rfl⟩
end
abbrev Sp := List V → Hp → VK → XK → Prop
abbrev CXT := List Env → Hp → Shared → XK → Value → Shared → Prop
structure Env0 (P : Program) (w : World) (K : PySem.W.Frag) (mg : Str → Option Value) (base : Heap) (A : Around) (outer : List Env) (s : Shared) (H : Hp) : Prop where
  frames : A.frames = some outer
  mod : Mod K mg base
  bs : ∀ b o, base.get? b = some o → s.heap.get? b = some o ∧ H b = none
  bsz : base.objs.size ≤ s.heap.objs.size
  funs : s.heap.FunFrames base outer
  frf : ∀ b ∈ frs outer, H b = none
  hok : HOk P w H s.heap
  bare : AllBare s.gens
def CE (outer : List Env) (P : Program) (w : World) (H : Hp) (s : Shared) (Q : VK) (u : Value) (s' : Shared) : Prop :=
  ∃ v H', s'.os = s.os ∧ AllBare s'.gens ∧ Un (frs outer) [] H H' s.heap s'.heap ∧ HOk P w H' s'.heap ∧ RelV v u ∧ Q v H'
def CR (CX : CXT) (outer : List Env) (P : Program) (w : World) (H : Hp) (s : Shared) (Q : VK) (E : XK) (r : Result) (s' : Shared) : Prop :=
  match r with
  | .ok (.ret u) => CE outer P w H s Q u s'
  | .ok _ => False
  | .error e => CX outer H s E e s'
structure FnOk (P : Program) (w : World) (K : PySem.W.Frag) (mg : Str → Option Value) (base : Heap) (CX : CXT) (k : Nat) (f : Addr) (fd : FuncData) (ps : List Str) (sp : Sp) : Prop where
  len : ∀ vs H Q E, sp vs H Q E → vs.length = ps.length
  run : ∀ (A : Around) (outer : List Env) (s : Shared) (H : Hp) (args : Args) (us : List Value) (vs : List V) (Q : VK) (E : XK), Room k A → Env0 P w K mg base A outer s H → BindsTo s fd args (ps.zip us) → Vals vs us → sp vs H Q E →
    codeAny (model P w) A (.call (.ref f) args) (CR CX outer P w H s Q E) s
theorem FnOk.imp {P : Program} {w : World} {K : PySem.W.Frag} {mg : Str → Option Value} {base : Heap} {CX : CXT} {k : Nat} {f : Addr} {fd : FuncData} {ps : List Str} {sp sp' : Sp} (F : FnOk P w K mg base CX k f fd ps sp)
    (h : ∀ vs H Q E, sp' vs H Q E → sp vs H Q E) : FnOk P w K mg base CX k f fd ps sp' :=
  ⟨fun vs H Q E q => F.len vs H Q E (h _ _ _ _ q), fun A outer s H args us vs Q E hr he hb hv hs => F.run A outer s H args us vs Q E hr he hb hv (h _ _ _ _ hs)⟩
section
variable {X : Cx} {pins : List (Addr × Obj)} {σ : St} {H : Hp} {s s' : Shared}
theorem Inv.env0 (I : Inv X pins σ H s) : Env0 X.prog X.w X.K X.mg X.base X.A X.stack s H :=
  ⟨I.ok.frames, I.ok.mod, I.bs, Nat.le_trans I.ok.bsz I.sz, I.stack, I.stkFree, I.hok, I.bare⟩
theorem Inv.after {Q : VK} {u : Value} (I : Inv X pins σ H s) (h : CE X.stack X.prog X.w H s Q u s') : EP X pins σ Q u s' := by
  obtain ⟨v, H', os, bare, un, hok, r, q⟩ := h
  obtain ⟨hh, g, d, t, os'⟩ := s'
  obtain rfl : os' = s.os := os
  exact ⟨v, H', I.call (h' := hh) (g' := g) (d' := d) (t' := t) (ch := []) un hok bare (fun b z => absurd z (by simp)), r, q⟩
end
def tCall (sp : Sp) (dvs : List V) (E : XK) (t : TA) : TE := fun σ H Q => t σ H fun vs H1 => sp (vs ++ dvs) H1 Q E
def tMeth (C : Addr) (m : Str) (sp : Sp) (dvs : List V) (E : XK) (ta : TE) (t : TA) : TE := fun σ H Q => ta σ H fun x H1 => ∃ a dx fs, x = .ref a ∧ H1 a = some (.ins C dx fs) ∧ fs.lookup m = none ∧
  t σ H1 fun vs H2 => sp (x :: (vs ++ dvs)) H2 Q E
def tMake (C : Addr) (sp : Sp) (dvs : List V) (E : XK) (t : TA) : TE := fun σ H Q => t σ H fun vs H1 => ∀ x dx, H1 x = none → H1 dx = none → dx ≠ x →
  sp (.ref x :: (vs ++ dvs)) (upd (upd H1 dx (.own x)) x (.ins C dx [])) (fun v H2 => v = .non ∧ Q (.ref x) H2) E
def Binds (K : PySem.W.Frag) (fd : FuncData) (ps : List Str) (ds : List Value) : Prop :=
  ∀ (s : Shared) (us : List Value), K.In s.heap → (us ++ ds).length = ps.length → BindsTo s fd ⟨us, []⟩ (ps.zip (us ++ ds))
theorem Binds.all {K : PySem.W.Frag} {fd : FuncData} {ps : List Str} (h : ∀ us : List Value, us.length = ps.length → bindArgs fd ⟨us, []⟩ = pure (ps.zip us)) : Binds K fd ps [] := fun s us _ hl => by
  rw [List.append_nil] at hl ⊢
  exact .of_eq (h us hl)
def Passes (CX : CXT) (X : Cx) (E : XK) : Prop := ∀ (pins : List (Addr × Obj)) (σ : St) (H : Hp) (s : Shared) (e : Value) (s' : Shared), Inv X pins σ H s → CX X.stack H s E e s' → X.xe e s'
section
variable {X : Cx} {CX : CXT} {k : Nat} {f C : Addr} {fd : FuncData} {ps : List Str} {sp : Sp} {dvs : List V} {ds : List Value} {E : XK} {x m : Str} {p pos apos : Pos} {e o : Expr} {es : List Expr} {ta : TE} {t : TA}
theorem run_fn {pins : List (Addr × Obj)} {σ : St} {H : Hp} {s : Shared} {Q : VK} {us : List Value} {vs : List V} (F : FnOk X.prog X.w X.K X.mg X.base CX k f fd ps sp) (hr : Room k X.A) (hb : Binds X.K fd ps ds) (hd : Vals dvs ds) (hx : Passes CX X E)
    (I : Inv X pins σ H s) (r : Vals vs us) (h : sp (vs ++ dvs) H Q E) : wpAny (model X.prog X.w) X.A (call (.ref f) us) (EP X pins σ Q) X.xe s := by
  have r2 : Vals (vs ++ dvs) (us ++ ds) := r.append hd
  have hl : (us ++ ds).length = ps.length := by rw [← r2.length]; exact F.len _ _ _ _ h
  refine wpAny_call (codeAny_mono (F.run X.A X.stack s H ⟨us, []⟩ (us ++ ds) (vs ++ dvs) Q E hr I.env0 (hb s us I.kIn hl) r2 h) fun r s' hq => ?_)
  cases r with
  | error e => exact hx pins σ H s e s' I hq
  | ok fl =>
    cases fl with
    | ret u => exact I.after hq
    | next => exact False.elim hq
    | brk => exact False.elim hq
    | cont => exact False.elim hq
theorem pe_call (F : FnOk X.prog X.w X.K X.mg X.base CX k f fd ps sp) (hr : Room k X.A) (hg : Gl X x) (hm : X.mg x = some (.ref f)) (hk : PySem.W.keepIn X.K (.ref f) = true) (hb : Binds X.K fd ps ds) (hd : Vals dvs ds) (hx : Passes CX X E)
    (ha : PA X (e :: es) t) (hdb : (x == ("__debug__" : Str)) = false := by decide) (he : starEach (e :: es) X.env = (false, eval e X.env) :: starEach es X.env := by rfl) (hpl : (backTo pos (starEach es X.env)).any (·.1) = false := by rfl) :
    PE X (.Call (.Name x p) (e :: es) [] pos) (tCall sp dvs E t) := by
  intro pins s σ H Q I h
  refine wpAny_Call_Name_kw (ld_glob I hg hm ?_ hdb)
  refine PySem.W.callWith_K (h₀ := X.base) I.ok.mod.kin hk (thn (ha pos pins s σ H _ I h) fun us s1 ⟨vs, H1, I1, r, q⟩ => ⟨I1.kIn, ?_⟩) he hpl
  exact run_fn F hr hb hd hx I1 r q
structure Mk (K : PySem.W.Frag) (C f : Addr) : Prop where
  makes : PySem.W.makesIn K C = true
  init : PySem.W.findIn K (.ref C) "__init__" = some (some (.ref f))
  fn : PySem.W.isFn K (.ref f) = true
  kp : PySem.W.keepIn K (.ref C) = true
end
def PK (X : Cx) (kws : List Keyword) (t : TA) : Prop :=
  ∀ (pos : Pos) (pins : List (Addr × Obj)) (s : Shared) (σ : St) (H : Hp) (Q : List V → Hp → Prop), Inv X pins σ H s → t σ H Q → wpAny (model X.prog X.w) X.A (evalAll ((backToKw pos (keywordEach kws X.env)).map (·.2))) (AP X pins σ Q) X.xe s
section
variable {X : Cx} {CX : CXT} {k : Nat} {f C : Addr} {fd : FuncData} {ps ks : List Str} {sp : Sp} {E : XK} {x m : Str} {p pos apos kpos : Pos} {e o : Expr} {es : List Expr} {kws : List Keyword} {te ta : TE} {t tk : TA} {nm : Option Str}
structure KBinds (K : PySem.W.Frag) (fd : FuncData) (ps ks : List Str) (g : List Value → List Value → List Value) (gV : List V → List V → List V) : Prop where
  to : ∀ (s : Shared) (us ws : List Value), K.In s.heap → (g us ws).length = ps.length → BindsTo s fd ⟨us, ks.zip ws⟩ (ps.zip (g us ws))
  rel : ∀ {vs : List V} {us : List Value} {zs : List V} {ws : List Value}, Vals vs us → Vals zs ws → Vals (gV vs zs) (g us ws)
def tCallK (sp : Sp) (gV : List V → List V → List V) (E : XK) (t tk : TA) : TE := fun σ H Q => t σ H fun vs H1 => tk σ H1 fun zs H2 => sp (gV vs zs) H2 Q E
variable {g : List Value → List Value → List Value} {gV : List V → List V → List V}
end
structure FnScope (N P : List Str) (sc : Scope) : Prop where
  kind : sc.kind = .function
  co : sc.isCoroutine = false
  gen : sc.isGenerator = false
  nd : N.Nodup
  pre : N.take P.length = P
  par : ∀ x ∈ P, sc.names.lookup x = some .local ∨ sc.names.lookup x = some .cell
  nofree : ∀ y ∈ sc.names, y.2 ≠ .free
theorem bindL_out {kindOf : Str → Option NameKind} {x : Str} : ∀ {binds : List (Str × Value)} {m : Str → Option Value}, (∀ v, (x, v) ∉ binds) → bindL kindOf binds m x = m x
  | [], _, _ => rfl
  | (n, v) :: r, m, h => by
    unfold bindL
    rw [bindL_out fun w hw => h w (List.mem_cons_of_mem _ hw)]
    split
    · have : x ≠ n := by rintro rfl; exact h v List.mem_cons_self
      simp [this]
    · rfl
theorem bindC_out {kindOf : Str → Option NameKind} {x : Str} : ∀ {binds : List (Str × Value)} {m : Str → Option Value}, (∀ v, (x, v) ∉ binds) → bindC kindOf binds m x = m x
  | [], _, _ => rfl
  | (n, v) :: r, m, h => by
    unfold bindC
    rw [bindC_out fun w hw => h w (List.mem_cons_of_mem _ hw)]
    split
    · rfl
    · have : x ≠ n := by rintro rfl; exact h v List.mem_cons_self
      simp [this]
theorem bindL_get {kindOf : Str → Option NameKind} {x : Str} {v : Value} : ∀ {P : List Str} {vs : List Value} {i : Nat} {m : Str → Option Value}, P.Nodup → P[i]? = some x → vs[i]? = some v → kindOf x = some .local →
    bindL kindOf (P.zip vs) m x = some v
  | [], _, _, _, _, h, _, _ => by simp at h
  | _ :: _, [], _, _, _, _, h, _ => by simp at h
  | p :: P, w :: vs, 0, m, nd, h1, h2, hk => by
    simp at h1 h2; subst h1; subst h2
    show bindL kindOf ((p, w) :: P.zip vs) m p = _
    unfold bindL
    rw [bindL_out fun v hv => (List.nodup_cons.mp nd).1 (List.of_mem_zip hv).1, if_pos hk]
    simp
  | p :: P, w :: vs, i + 1, m, nd, h1, h2, hk => by
    show bindL kindOf ((p, w) :: P.zip vs) m x = _
    unfold bindL
    exact bindL_get (i := i) (List.nodup_cons.mp nd).2 (by simpa using h1) (by simpa using h2) hk
theorem bindC_get {kindOf : Str → Option NameKind} {x : Str} {v : Value} : ∀ {P : List Str} {vs : List Value} {i : Nat} {m : Str → Option Value}, P.Nodup → P[i]? = some x → vs[i]? = some v → kindOf x ≠ some .local →
    bindC kindOf (P.zip vs) m x = some v
  | [], _, _, _, _, h, _, _ => by simp at h
  | _ :: _, [], _, _, _, _, h, _ => by simp at h
  | p :: P, w :: vs, 0, m, nd, h1, h2, hk => by
    simp at h1 h2; subst h1; subst h2
    show bindC kindOf ((p, w) :: P.zip vs) m p = _
    unfold bindC
    rw [bindC_out fun v hv => (List.nodup_cons.mp nd).1 (List.of_mem_zip hv).1, if_neg hk]
    simp
  | p :: P, w :: vs, i + 1, m, nd, h1, h2, hk => by
    show bindC kindOf ((p, w) :: P.zip vs) m x = _
    unfold bindC
    exact bindC_get (i := i) (List.nodup_cons.mp nd).2 (by simpa using h1) (by simpa using h2) hk
def start (N : List Str) (vs : List V) : St := vs.map some ++ List.replicate (N.length - vs.length) none
def cxOf (CX : CXT) (P : Program) (w : World) (K : PySem.W.Frag) (mg : Str → Option Value) (base : Heap) (N : List Str) (qual : Str) (scope : Scope) (f : Addr) (cd : Value) (A : Around) (outer : List Env) (s : Shared) (H : Hp) (E : XK) : Cx where
  prog := P
  w := w
  K := K
  mg := mg
  base := base
  A := A.deeper (envOfC qual scope s.heap.objs.size f cd)
  N := N
  s₀ := s
  H₀ := H
  env := envOfC qual scope s.heap.objs.size f cd
  outer := outer
  stack := envOfC qual scope s.heap.objs.size f cd :: outer
  ex := []
  calm := true
  fn := fun _ => true
  pn := []
  xe := fun e s' => wpAny (model P w) (A.deeper (envOfC qual scope s.heap.objs.size f cd)) (leaving (envOfC qual scope s.heap.objs.size f cd) e) (fun _ s'' => CX outer H s E e s'') (fun e' s'' => CX outer H s E e' s'') s'
theorem cell_has {sc : Scope} {n : Nat} {x : Str} (h : sc.names.lookup x = some .cell) : ∃ c, (cellsFrom n sc.names []).lookup x = some c := by
  have q := PySem.W.cellsFrom_some sc.names n [] (.inl h)
  exact Option.isSome_iff_exists.mp q
theorem inv_start {CX : CXT} {P : Program} {w : World} {K : PySem.W.Frag} {mg : Str → Option Value} {base : Heap} {N ps : List Str} {qual : Str} {scope : Scope} {f : Addr} {cd : Value} {A : Around} {outer : List Env} {s s1 : Shared} {H : Hp} {E : XK} {us : List Value} {vs : List V}
    (S : FnScope N ps scope) (hd : A.handled = none) (e0 : Env0 P w K mg base A outer s H) (hl : vs.length = ps.length) (r : Vals vs us)
    (x : InCallC s s.heap.objs.size (bindL (envOfC qual scope s.heap.objs.size f cd).kindOf (ps.zip us) fun _ => none) (cellsFrom (s.heap.objs.size + 1) scope.names []) (bindC (envOfC qual scope s.heap.objs.size f cd).kindOf (ps.zip us) fun _ => none) s1) :
    Inv (cxOf CX P w K mg base N qual scope f cd A outer s H E) [] (start N vs) H s1 := by
  have hpl : ps.length ≤ N.length := by have := congrArg List.length S.pre; rw [List.length_take] at this; omega
  obtain ⟨h1, tk, rfl, hk⟩ := x.done
  have noA : ∀ b : Addr, b ∉ (cxOf CX P w K mg base N qual scope f cd A outer s H E).ex := fun b z => absurd (show b ∈ ([] : List Addr) from z) (by simp)
  refine ⟨⟨e0.mod, S.kind, rfl, rfl, Nat.le_refl _, fun y z c h1 h2 => ?_, fun y hy => ?_, fun y c _ h => ?_, fun _ => hd, Around.frames_deeper e0.frames, .inr ⟨rfl, rfl⟩, fun b z => absurd z (noA b), e0.bs, e0.bsz, fun b _ _ => noA b, fun b z => absurd z (noA b), e0.funs, e0.frf⟩,
    rfl, e0.bare, Un.kept hk, ⟨_, x.toInCall.ns, fun i y v h1 h2 h3 => ?_⟩, fun y c h => ⟨_, x.cell y c h⟩, e0.hok.fresh (Nat.le_refl _), fun y c h => ?_, fun p hp => absurd (show p ∈ ([] : List (Addr × Obj)) from hp) (by simp), e0.hok.kept hk, ?_⟩
  · exact name_of_addr x.apart (PySem.mem_of_lookup h1) (PySem.mem_of_lookup h2)
  · have hy : scope.names.lookup y = some .cell ∨ scope.names.lookup y = some .free := hy
    rcases hy with hy | hy
    · exact cell_has hy
    · exact absurd rfl (S.nofree _ (PySem.mem_of_lookup hy))
  · exact Nat.le_of_lt (x.above y c (PySem.mem_of_lookup h))
  · have hi : i < vs.length := by
      unfold start at h2
      by_cases hi : i < vs.length
      · exact hi
      · rw [List.getElem?_append_right (by simpa using hi)] at h2
        rw [List.getElem?_replicate] at h2
        split at h2 <;> cases h2
    have ha : vs[i]? = some v := by
      unfold start at h2
      rw [List.getElem?_append_left (by simpa using hi), List.getElem?_map] at h2
      cases e : vs[i]? with
      | none => rw [e] at h2; cases h2
      | some a => rw [e] at h2; cases h2; rfl
    obtain ⟨u, hu, rv⟩ := r.get ha
    have hp : ps[i]? = some y := by
      rw [← S.pre, List.getElem?_take_of_lt (by omega)]; exact h1
    have ndP : ps.Nodup := by rw [← S.pre]; exact S.nd.sublist (List.take_sublist _ _)
    refine ⟨u, rv, ?_⟩
    rcases S.par y (List.mem_of_getElem? hp) with k | k
    · exact .inl ⟨k, bindL_get ndP hp hu k⟩
    · obtain ⟨c, e⟩ := cell_has (n := s.heap.objs.size + 1) k
      refine .inr ⟨.inl k, c, e, ?_⟩
      have q := x.cell y c e
      rw [bindC_get ndP hp hu (by show scope.names.lookup y ≠ _; rw [k]; decide)] at q
      exact q
  · exact e0.hok.fresh (Nat.le_of_lt (x.above y c (PySem.mem_of_lookup h)))
  · unfold start
    show _ = N.length
    rw [List.length_append, List.length_map, List.length_replicate]
    omega
theorem fn_of {CX : CXT} {P : Program} {w : World} {K : PySem.W.Frag} {mg : Str → Option Value} {base : Heap} {k : Nat} {f : Addr} {name qual : Str} {params : Arguments} {body : List Stmt} {scope : Scope} {dV kV doc pm cdv ct oc : Value} {an od : Option Addr}
    {osl : Array (Option Value)} {N ps : List Str} {sp : Sp} (lk : K.lookup f = some ⟨oc, od, .func (PySem.W.fnOf name qual params body scope dV kV doc pm an cdv ct), osl⟩) (hcd : PySem.W.codeIn K cdv qual = true) (S : FnScope N ps scope)
    (len : ∀ vs H Q E, sp vs H Q E → vs.length = ps.length)
    (hbody : ∀ (A : Around) (outer : List Env) (s : Shared) (H : Hp) (vs : List V) (Q : VK) (E : XK), Room k (A.deeper (envOfC qual scope s.heap.objs.size f cdv)) → sp vs H Q E →
      ∃ t, PSs (cxOf CX P w K mg base N qual scope f cdv A outer s H E) body t ∧ t { nx := fun _ H' => Q .non H', rt := Q } (start N vs) H) :
    FnOk P w K mg base CX (k + 1) f (PySem.W.fnOf name qual params body scope dV kV doc pm an cdv ct) ps sp := by
  refine ⟨len, fun A outer s H args us vs Q E hr e0 hb r hsp => ?_⟩
  have hl := len _ _ _ _ hsp
  have KX : K.In s.heap := e0.mod.kin.keeps fun b o e => (e0.bs b o e).1
  have lim : s.heap.NoLimit := e0.mod.nolimit.keeps fun b o e => (e0.bs b o e).1
  have hkind : ∀ y ∈ ps.zip us, scope.names.lookup y.1 = some .local ∨ (scope.names.lookup y.1 = some .cell ∧ ((cellsFrom (s.heap.objs.size + 1) scope.names []).lookup y.1).isSome = true) := fun ⟨n, v⟩ hy => by
    rcases S.par n (List.of_mem_zip hy).1 with q | q
    · exact .inl q
    · exact .inr ⟨q, PySem.W.cellsFrom_some _ _ _ (.inl q)⟩
  refine codeAny_call_function hr.depth (KX _ _ lk) rfl S.co S.gen rfl (PySem.W.codeRec_of KX hcd) (hb _ _ _ _ ?_)
  refine wpAny_newFunctionEnv_cells S.kind hkind fun env he s1 x => ?_
  subst he
  refine ⟨lim.keeps x.toInCall.keep, codeAny_func ?_⟩
  obtain ⟨t, ht, hq⟩ := hbody A outer s H vs Q E (hr.deeper _) hsp
  have I : Inv (cxOf CX P w K mg base N qual scope f cdv A outer s H E) [] (start N vs) H s1 := inv_start S hr.hd e0 hl r x
  refine wpAny_mono (ht [] s1 (start N vs) H _ I hq) (fun fl s' hs => ?_) fun e s' hs => hs
  have fin : ∀ {σ' : St} {H' : Hp} {v : V} {u : Value}, Inv (cxOf CX P w K mg base N qual scope f cdv A outer s H E) [] σ' H' s' → RelV v u → Q v H' → CE outer P w H s Q u s' :=
    fun {σ' H' v u} J rv q => ⟨v, H', J.os, J.bare, J.base, J.hok, rv, q⟩
  cases fl with
  | ret u =>
    obtain ⟨v, σ', H', J, rv, q⟩ := hs
    exact fin J rv q
  | next =>
    obtain ⟨σ', H', J, q⟩ := hs
    exact fin (v := V.non) (u := Value.none) J rfl q
  | brk =>
    obtain ⟨_, _, _, q⟩ := hs
    exact False.elim q
  | cont =>
    obtain ⟨_, _, _, q⟩ := hs
    exact False.elim q
end L2
namespace L2
open PySem PySem.Spec PyProof.Rows
section
variable {X : Cx} {x : Str} {p pos : Pos} {e : Expr} {es : List Expr} {t : TA} {id T : String} {r : List V → Hp → VK → Prop}
def tCB (r : List V → Hp → VK → Prop) (t : TA) : TE := fun σ H Q => t σ H fun vs H1 => r vs H1 Q
theorem pe_callB (hc : CallR X (.builtin id) r) (hg : Gl X x) (hm : X.mg x = none) (hv : bootBuiltins x = some (.builtin id)) (ha : PA X (e :: es) t) (hn : x ≠ "__name__" := by decide) (hdb : (x == ("__debug__" : Str)) = false := by decide)
    (he : starEach (e :: es) X.env = (false, eval e X.env) :: starEach es X.env := by rfl) (hpl : (backTo pos (starEach es X.env)).any (·.1) = false := by rfl) : PE X (.Call (.Name x p) (e :: es) [] pos) (tCB r t) := by
  intro pins s σ H Q I h
  refine wpAny_Call_Name_kw (ld_blt I hg hm hv ?_ hn hdb)
  exact PyProof.Rows.callWith_builtin1 (thn (ha pos pins s σ H _ I h) fun us s1 ⟨vs, H1, I1, r1, q1⟩ => hc pins s1 σ H1 vs us Q I1 r1 q1) he hpl
theorem pe_callTy (hc : CallR X (.type T) r) (hg : Gl X x) (hm : X.mg x = none) (hv : bootBuiltins x = some (.type T)) (ha : PA X (e :: es) t) (hn : x ≠ "__name__" := by decide) (hdb : (x == ("__debug__" : Str)) = false := by decide)
    (he : starEach (e :: es) X.env = (false, eval e X.env) :: starEach es X.env := by rfl) (hpl : (backTo pos (starEach es X.env)).any (·.1) = false := by rfl) : PE X (.Call (.Name x p) (e :: es) [] pos) (tCB r t) := by
  intro pins s σ H Q I h
  refine wpAny_Call_Name_kw (ld_blt I hg hm hv ?_ hn hdb)
  exact PyProof.Rows.callWith_type1 (thn (ha pos pins s σ H _ I h) fun us s1 ⟨vs, H1, I1, r1, q1⟩ => hc pins s1 σ H1 vs us Q I1 r1 q1) he hpl
end
end L2
namespace HT
open PySem PyProof.Rows
def lexLt : List Int → List Int → Bool
  | [], [] => false
  | [], _ :: _ => true
  | _ :: _, [] => false
  | x :: xs, y :: ys => if x = y then lexLt xs ys else decide (x < y)
section
open PySem.SeqAt
open PySem.AutoSeq1 (wpAny_loadPart')
open PySem.MeetsSeq PySem.MeetsSeq2 PySem.MeetsSeq3
end
section
variable {prog : Program} {w : World} {A : Around} {E : Value → Shared → Prop} {s : Shared}
theorem cat_tup {t b : Addr} {vs ws : List Value} {Q : Value → Shared → Prop} (ht : IsTup s.heap t vs.toArray) (hb : IsTup s.heap b ws.toArray) (hv : vs ≠ [])
    (h1 : ws = [] → Q (.ref t) s) (h2 : ws ≠ [] → Q (.ref s.heap.objs.size) { s with heap := s.heap.push { cls := .type "tuple", data := .seq (vs ++ ws).toArray } })
    (hsz : vs.length + ws.length ≤ sizeLine) : wpAny (model prog w) A (binaryOp .Add (.ref t) (.ref b)) Q E s := by
  obtain ⟨⟨cls, dd, data, sl⟩, ho, hc, n, hd⟩ := id ht
  obtain ⟨⟨cls2, dd2, data2, sl2⟩, ho2, hc2, n2, hd2⟩ := id hb
  simp only at hc hd hc2 hd2
  subst hc hd hc2 hd2
  have e : vs.toArray ++ ws.toArray = (vs ++ ws).toArray := by simp
  by_cases hw : ws = []
  · exact concat_meets ⟨_, ho, rfl⟩ ⟨_, ho2, rfl⟩ noFill_tuple_add seq_tuple_add PySem.F.slot_tuple_add PySem.F.entry_tuple_add (PySem.F.args_tuple_add_2 _ _)
      (tuple_addW1 t b vs.toArray ws.toArray n n2 dd dd2 sl sl2 (by simpa using hv) (by simp [hw])) ⟨ho, ho2, h1 hw⟩
  · refine concat_meets ⟨_, ho, rfl⟩ ⟨_, ho2, rfl⟩ noFill_tuple_add seq_tuple_add PySem.F.slot_tuple_add PySem.F.entry_tuple_add (PySem.F.args_tuple_add_2 _ _)
      (tuple_addW2 t b vs.toArray ws.toArray n n2 dd dd2 sl sl2 (by simpa using hv) (by simpa using hw) (by rw [List.size_toArray, List.size_toArray]; exact hsz)) ⟨ho, ho2, ?_⟩
    rw [e]
    exact h2 hw
def sIx (n d : Nat) : Option Int → Nat
  | none => d
  | some v => if v < 0 then (v + (n : Int)).toNat else min v.toNat n
theorem sIx_none (n d : Nat) : sIx n d none = d := rfl
theorem sIx_nat (n d k : Nat) : sIx n d (some (k : Int)) = min k n := by
  show (if (k : Int) < 0 then ((k : Int) + (n : Int)).toNat else min (k : Int).toNat n) = min k n
  rw [if_neg (by omega), Int.toNat_natCast]
theorem sIx_le (n d : Nat) (hd : d ≤ n) (o : Option Int) : sIx n d o ≤ n := by
  cases o with
  | none => exact hd
  | some v =>
    show (if v < 0 then (v + (n : Int)).toNat else min v.toNat n) ≤ n
    by_cases hv : v < 0
    · rw [if_pos hv]; omega
    · rw [if_neg hv]; exact Nat.min_le_right _ _
theorem clip_eq (v : Int) (n d : Nat) : (if v < 0 then max (v + (n : Int)) 0 else min v (n : Int)) = ((sIx n d (some v) : Nat) : Int) := by
  show (if v < 0 then max (v + (n : Int)) 0 else min v (n : Int)) = (((if v < 0 then (v + (n : Int)).toNat else min v.toNat n) : Nat) : Int)
  by_cases hv : v < 0
  · simp only [if_pos hv]; omega
  · simp only [if_neg hv]; omega
theorem adjust_gen (lo hi : Option Int) (n : Nat) : Builtin.Slice.sliceAdjust lo hi 1 (n : Int) = (((sIx n 0 lo : Nat) : Int), ((sIx n n hi : Nat) : Int)) := by
  have h1 : ¬ ((1 : Int) < 0) := by omega
  unfold Builtin.Slice.sliceAdjust
  simp only [h1, if_false]
  refine Prod.ext ?_ ?_
  · cases lo with
    | none => rfl
    | some v => exact clip_eq v n 0
  · cases hi with
    | none => rfl
    | some v => exact clip_eq v n n
theorem places_gen (i j : Nat) : Builtin.Slice.slicePlaces (i : Int) (j : Int) 1 = j - i := by
  unfold Builtin.Slice.slicePlaces
  have h1 : (1 : Int) > 0 := by omega
  simp only [h1, if_true, Int.ediv_one]
  split <;> omega
theorem slicePart_ {v : Value} {o : Option Int} {Q : Option Int → Shared → Prop} (p : IsPart v o) (h : Q o s) : wpAny (model prog w) A (Builtin.Slice.slicePartIndex v) Q E s := by
  cases p with
  | none => exact slicePart_none h
  | int i t => exact slicePart_int h
theorem sliceApplied_gen {sl : Addr} {vl vu : Value} {lo hi : Option Int} {n : Nat} {Q : Int × Int × Nat → Shared → Prop} (hs : s.heap.IsSliceOf sl vl vu .none) (pl : IsPart vl lo) (pu : IsPart vu hi)
    (h : Q (((sIx n 0 lo : Nat) : Int), 1, sIx n n hi - sIx n 0 lo) s) : wpAny (model prog w) A (Builtin.Slice.sliceApplied (.ref sl) (pure (n : Int))) Q E s := by
  obtain ⟨os, hos, hcs, hds⟩ := id hs
  unfold Builtin.Slice.sliceApplied Builtin.Slice.sliceFields
  refine wpAny_bind (wpAny_bind (wpAny_field hos hds (x := vl) rfl (wpAny_bind (wpAny_field hos hds (x := vu) rfl (wpAny_bind (wpAny_field hos hds (x := .none) rfl (wpAny_pure ?_)))))))
  refine wpAny_bind (slicePart_none ?_)
  show wpAny _ _ (if ((1 : Int) == 0) = true then _ else _) _ _ s
  rw [if_neg (by decide)]
  refine wpAny_bind (slicePart_ pl (wpAny_bind (slicePart_ pu (wpAny_bind (wpAny_pure ?_)))))
  show wpAny _ _ (match Builtin.Slice.sliceAdjust lo hi 1 (n : Int) with | (lo, hi) => pure (lo, (1 : Int), Builtin.Slice.slicePlaces lo hi 1)) _ _ s
  rw [adjust_gen lo hi n]
  show wpAny _ _ (pure (((sIx n 0 lo : Nat) : Int), (1 : Int), Builtin.Slice.slicePlaces ((sIx n 0 lo : Nat) : Int) ((sIx n n hi : Nat) : Int) 1)) _ _ s
  rw [places_gen]
  exact wpAny_pure h
theorem pick_gen (xs : Array Value) (i k : Nat) : ((List.range k).filterMap fun (m : Nat) => xs[((i : Int) + (m : Int) * 1).toNat]?).toArray = ((xs.toList.drop i).take k).toArray := by
  have e : (fun (m : Nat) => xs[((i : Int) + (m : Int) * 1).toNat]?) = fun m => xs[i + m]? := by
    funext m
    have : ((i : Int) + (m : Int) * 1).toNat = i + m := by omega
    rw [this]
  rw [e]
  have := pick_run xs i k
  rw [List.filterMap_map] at this
  have e2 : ((fun x => xs[x]?) ∘ fun x => i + x) = fun m => xs[i + m]? := rfl
  rw [e2] at this
  rw [this]
theorem getItem_tuple_cut {t sl : Addr} {items : Array Value} {vl vu : Value} {lo hi : Option Int} {Q : Value → Shared → Prop} (ht : IsTup s.heap t items) (hs : s.heap.IsSliceOf sl vl vu .none) (pl : IsPart vl lo) (pu : IsPart vu hi)
    (hw : ¬ (sIx items.size 0 lo = 0 ∧ sIx items.size items.size hi = items.size))
    (h : Q (.ref s.heap.objs.size) { s with heap := s.heap.push { cls := .type "tuple", data := .seq ((items.toList.drop (sIx items.size 0 lo)).take (sIx items.size items.size hi - sIx items.size 0 lo)).toArray } })
    (hsz : items.size ≤ sizeLine) : wpAny (model prog w) A (getItem (.ref t) (.ref sl)) Q E s := by
  have htake : sizeOk (.seq ((items.toList.drop (sIx items.size 0 lo)).take (sIx items.size items.size hi - sIx items.size 0 lo)).toArray) := by
    show ((items.toList.drop (sIx items.size 0 lo)).take (sIx items.size items.size hi - sIx items.size 0 lo)).toArray.size ≤ sizeLine
    rw [List.size_toArray, List.length_take, List.length_drop, Array.length_toList]
    omega
  have hj : sIx items.size items.size hi ≤ items.size := sIx_le _ _ (Nat.le_refl _) hi
  obtain ⟨os, hos, hcs, hds⟩ := id hs
  have hTs : s.TypeIs (.ref sl) "slice" := ⟨os, hos, hcs⟩
  unfold getItem
  try with_reducible refine wpAny_holding ?_
  first | refine wpAny_bind (wpAny_pure ?_) | skip
  refine wpAny_bind (wpAny_sequenceKey ht.typeIs (by decide) ?_)
  refine wpAny_bind (wpAny_callSpecial?_slot (name := Str.ofString "__getitem__") ht.typeIs PyProof.Rows.slot_tuple_getitem
    (wpAny_call_entry PyProof.Rows.slot_tuple_getitem ht.typeIs entry_tuple_getitem ?_ (args_tuple_getitem _ _)))
  show wpAny _ _ (Builtin.Tuple.tupleItemsOf (.ref t) >>= _) _ _ s
  refine wpAny_bind (tupleItemsOf_ ht ?_)
  refine wpAny_bind (wpAny_typeOf hTs ?_)
  rw [if_pos (by decide)]
  refine wpAny_bind (sliceApplied_gen hs pl pu ?_)
  have hno : ¬ ((((sIx items.size 0 lo : Nat) : Int) == 0 && (1 : Int) == 1 && (sIx items.size items.size hi - sIx items.size 0 lo) == items.size) = true) := by
    intro q
    rw [Bool.and_eq_true, Bool.and_eq_true] at q
    have q1 : ((sIx items.size 0 lo : Nat) : Int) = 0 := eq_of_beq q.1.1
    have q2 : sIx items.size items.size hi - sIx items.size 0 lo = items.size := eq_of_beq q.2
    exact hw ⟨by omega, by omega⟩
  show wpAny _ _ (if (((sIx items.size 0 lo : Nat) : Int) == 0 && (1 : Int) == 1 && (sIx items.size items.size hi - sIx items.size 0 lo) == items.size) = true then _ else _) _ _ s
  rw [if_neg hno, pick_gen]
  first
    | exact wpAny_bind (m := Builtin.Tuple.tupleExact _) (wpAny_newObj_type (wpAny_pure ⟨_, rfl, wpAny_pure h⟩) htake)
    | exact wpAny_bind (m := Builtin.Tuple.tupleExact _) (wpAny_newObj_type (wpAny_bind (wpAny_pure (wpAny_pure ⟨_, rfl, wpAny_pure h⟩))) htake)
    | exact wpAny_bind (wpAny_bind (m := Builtin.Tuple.tupleExact _) (wpAny_newObj_type (wpAny_pure (wpAny_pure ⟨_, rfl, wpAny_pure h⟩)) htake))
    | exact wpAny_bind (wpAny_bind (m := Builtin.Tuple.tupleExact _) (wpAny_newObj_type (wpAny_pure ⟨_, rfl, wpAny_pure h⟩) htake))
end
end HT
namespace L2
open PySem PySem.Spec PyProof.Rows
abbrev TO := St → Hp → (Option Int → Hp → Prop) → Prop
def PO (X : Cx) (e : Option Expr) (t : TO) : Prop :=
  ∀ (pins : List (Addr × Obj)) (s : Shared) (σ : St) (H : Hp) (Q : Option Int → Hp → Prop), Inv X pins σ H s → t σ H Q →
    wpAny (model X.prog X.w) X.A (evalPart e X.env) (fun u s' => ∃ o H', Inv X pins σ H' s' ∧ IsPart u o ∧ Q o H') X.xe s
def tNoPart : TO := fun _ H Q => Q none H
def tPart (t : TE) : TO := fun σ H Q => t σ H fun x H1 => ∃ i, x = .int i ∧ Q (some i) H1
section
variable {X : Cx} {e : Expr} {te : TE} {lo hi : Option Expr} {tl th : TO} {pos p2 : Pos}
theorem po_none : PO X none tNoPart := by
  intro pins s σ H Q I h
  rw [evalPart_none]
  exact wpAny_pure ⟨none, H, I, .none, h⟩
theorem po_some (h : PE X e te) : PO X (some e) (tPart te) := by
  intro pins s σ H Q I hw
  rw [evalPart_some]
  refine thn (h pins s σ H _ I hw) fun u s1 ⟨x, H1, I1, r1, q1⟩ => ?_
  obtain ⟨i, rfl, q⟩ := q1
  obtain ⟨t, rfl⟩ := r1
  exact ⟨some i, H1, I1, .int i t, q⟩
def SlR (X : Cx) (r : V → Option Int → Option Int → Hp → VK → Prop) : Prop :=
  ∀ (pins : List (Addr × Obj)) (s : Shared) (σ : St) (H : Hp) (x : V) (v vl vu : Value) (lo hi : Option Int) (sl : Addr) (Q : VK), Inv X pins σ H s → RelV x v → s.heap.IsSliceOf sl vl vu .none → IsPart vl lo → IsPart vu hi → r x lo hi H Q →
    ∃ T id, typeLookup (.type T) "__getitem__" = pure (some (.builtin id)) ∧ s.TypeIs v T ∧ wpAny (model X.prog X.w) X.A (getItem v (.ref sl)) (EP X pins σ Q) X.xe s
theorem SlR.or {r r' : V → Option Int → Option Int → Hp → VK → Prop} (h : SlR X r) (h' : SlR X r') : SlR X (fun x lo hi H Q => r x lo hi H Q ∨ r' x lo hi H Q) := by
  intro pins s σ H x v vl vu lo hi sl Q I rx hs pl pu q
  rcases q with q | q
  · exact h pins s σ H x v vl vu lo hi sl Q I rx hs pl pu q
  · exact h' pins s σ H x v vl vu lo hi sl Q I rx hs pl pu q
def tSl (r : V → Option Int → Option Int → Hp → VK → Prop) (te : TE) (tl th : TO) : TE := fun σ H Q => te σ H fun x H1 => tl σ H1 fun l H2 => th σ H2 fun u H3 => r x l u H3 Q
theorem pe_slice {r : V → Option Int → Option Int → Hp → VK → Prop} (hr : SlR X r) (he : PE X e te) (hl : PO X lo tl) (hu : PO X hi th) : PE X (.Subscript e (.Slice lo hi none p2) pos) (tSl r te tl th) := by
  intro pins s σ H Q I h
  refine Subscript_ (thn (he pins s σ H _ I h) fun v s1 ⟨x, H1, I1, r1, q1⟩ => ?_)
  refine wpAny_Slice (thn (hl pins s1 σ H1 _ I1 q1) fun vl s2 ⟨l, H2, I2, pl, q2⟩ => thn (hu pins s2 σ H2 _ I2 q2) fun vu s3 ⟨u, H3, I3, pu, q3⟩ => ?_)
  rw [evalPart_none]
  refine wpAny_pure ?_
  have I4 : Inv X pins σ H3 { s3 with heap := s3.heap.push { cls := .type "slice", data := .fields #[vl, vu, .none] } } := I3.kept (t' := s3.toks) fun b ob q => Heap.get?_push_of_some _ q
  obtain ⟨T, id, hT, ht, hg⟩ := hr pins { s3 with heap := s3.heap.push { cls := .type "slice", data := .fields #[vl, vu, .none] } } σ H3 x v vl vu l u s3.heap.objs.size Q I4 r1 (Heap.IsSliceOf.new ..) pl pu q3
  show wpAny (model X.prog X.w) X.A (subscriptTail e (.Slice lo hi none p2) v (.ref s3.heap.objs.size)) (EP X pins σ Q) X.xe { s3 with heap := s3.heap.push { cls := .type "slice", data := .fields #[vl, vu, .none] } }
  exact tail_any (ops := [.ref s3.heap.objs.size, v]) ht hT hg (by with_unfolding_all rfl)
def cutV (xs : List V) (lo hi : Option Int) : List V := (xs.drop (HT.sIx xs.length 0 lo)).take (HT.sIx xs.length xs.length hi - HT.sIx xs.length 0 lo)
theorem cutV_length (xs : List V) (lo hi : Option Int) : (cutV xs lo hi).length ≤ xs.length := by
  unfold cutV
  rw [List.length_take, List.length_drop]
  omega
def rSlT (K : PySem.W.Frag) : V → Option Int → Option Int → Hp → VK → Prop := fun x lo hi H Q => ∃ a xs, x = .ref a ∧ SqT K H a xs ∧
  ¬ (HT.sIx xs.length 0 lo = 0 ∧ HT.sIx xs.length xs.length hi = xs.length) ∧ ∀ p, H p = none → Q (.ref p) (upd H p (.tup (cutV xs lo hi)))
theorem sl_tup : SlR X (rSlT X.K) := by
  intro pins s σ H x v vl vu lo hi sl Q I rx hs pl pu h
  obtain ⟨a, xs, rfl, hx, hw, q⟩ := h
  cases rx
  obtain ⟨its, r, ht, hz⟩ := I.tuple hx
  have hlen : its.toArray.size = xs.length := by rw [List.size_toArray]; exact r.length.symm
  refine ⟨"tuple", _, PyProof.Rows.slot_tuple_getitem.lookup, ht.typeIs, ?_⟩
  refine HT.getItem_tuple_cut ht hs pl pu (by rw [hlen]; exact hw) ?_ (by rw [hlen]; exact hz)
  rw [hlen]
  refine ⟨.ref s.heap.objs.size, _, I.laid (t' := s.toks) (o := .tup (cutV xs lo hi)) (fun b ob q => Heap.get?_push_of_some _ q) (Nat.le_refl _) ?_, rfl, q _ (I.hok.fresh (Nat.le_refl _))⟩
  exact ⟨Nat.le_trans (cutV_length xs lo hi) hz, _, (r.drop (HT.sIx xs.length 0 lo)).take (HT.sIx xs.length xs.length hi - HT.sIx xs.length 0 lo), IsTup.new _ _⟩
def rLtT (K : PySem.W.Frag) : R2 := fun x y H Q => ∃ a b ns ms, x = .ref a ∧ y = .ref b ∧ SqT K H a (ns.map V.int) ∧ SqT K H b (ms.map V.int) ∧ Q (.bl (HT.lexLt ns ms)) H
def rCatT (K : PySem.W.Frag) : R2 := fun x y H Q => ∃ a b xs ys, x = .ref a ∧ y = .ref b ∧ SqT K H a xs ∧ SqT K H b ys ∧ xs ≠ [] ∧ xs.length + ys.length ≤ sizeLine ∧
  (ys = [] → Q (.ref a) H) ∧ (ys ≠ [] → ∀ p, H p = none → Q (.ref p) (upd H p (.tup (xs ++ ys))))
theorem Vals.nil_iff {xs : List V} {us : List Value} (r : Vals xs us) : us = [] ↔ xs = [] := by
  cases r with
  | nil => simp
  | cons _ _ => simp
theorem op_catT : OpR X (binaryOp .Add) (rCatT X.K) := by
  intro pins s σ H x y v u Q I rx ry h
  obtain ⟨a, b, xs, ys, rfl, rfl, ha, hb, hx, hz, q1, q2⟩ := h
  cases rx
  cases ry
  obtain ⟨its, r1, p1, _⟩ := I.tuple ha
  obtain ⟨its2, r2, p2, _⟩ := I.tuple hb
  refine HT.cat_tup p1 p2 (fun z => hx (r1.nil_iff.mp z)) (fun z => ⟨.ref a, H, I, rfl, q1 (r2.nil_iff.mp z)⟩) (fun z => ?_) (by rw [← r1.length, ← r2.length]; exact hz)
  refine ⟨.ref s.heap.objs.size, _, I.laid (t' := s.toks) (o := .tup (xs ++ ys)) (fun b ob q => Heap.get?_push_of_some _ q) (Nat.le_refl _) ?_, rfl, q2 (fun w => z (r2.nil_iff.mpr w)) _ (I.hok.fresh (Nat.le_refl _))⟩
  exact ⟨by rw [List.length_append]; exact hz, _, r1.append r2, IsTup.new _ _⟩
end
end L2
namespace L2
open PySem PySem.Spec PyProof.Rows
def ixN (n : Nat) (i : Int) : Option Nat := if 0 ≤ i then (if i < n then some i.toNat else none) else if -(n : Int) ≤ i then some (i + n).toNat else none
def atI {α : Type} (xs : List α) (i : Int) : Option α := (ixN xs.length i).bind fun j => xs[j]?
theorem ixN_seq {n : Nat} {i : Int} {j : Nat} (h : ixN n i = some j) : seqIndex? i n = some j ∧ j < n ∧ -(n : Int) ≤ i ∧ i < n := by
  unfold ixN at h
  by_cases h0 : 0 ≤ i
  · rw [if_pos h0] at h
    by_cases h1 : i < n
    · rw [if_pos h1] at h
      have e : i.toNat = j := Option.some.inj h
      exact ⟨by rw [seqIndex_of h0 h1, e], by omega, by omega, h1⟩
    · rw [if_neg h1] at h; cases h
  · rw [if_neg h0] at h
    by_cases h1 : -(n : Int) ≤ i
    · rw [if_pos h1] at h
      have e : (i + n).toNat = j := Option.some.inj h
      exact ⟨by rw [seqIndex_neg (by omega) h1, e], by omega, h1, by omega⟩
    · rw [if_neg h1] at h; cases h
theorem atI_get {α : Type} {xs : List α} {i : Int} {v : α} (h : atI xs i = some v) : ∃ j, seqIndex? i xs.length = some j ∧ xs[j]? = some v ∧ j < xs.length ∧ -(xs.length : Int) ≤ i ∧ i < xs.length := by
  unfold atI at h
  cases e : ixN xs.length i with
  | none => rw [e] at h; cases h
  | some j =>
    rw [e] at h
    obtain ⟨h1, h2, h3, h4⟩ := ixN_seq e
    exact ⟨j, h1, h, h2, h3, h4⟩
theorem atI_nat {α : Type} {xs : List α} {j : Nat} {v : α} (h : xs[j]? = some v) : atI xs (j : Int) = some v := by
  have hj : j < xs.length := (List.getElem?_eq_some_iff.mp h).1
  have e : ixN xs.length (j : Int) = some j := by
    unfold ixN
    rw [if_pos (by omega), if_pos (by omega)]; simp
  unfold atI; rw [e]; exact h
def PlainIx (b : Expr) : Prop := ∀ o i, subscripted b false o i = operate [o, i] (getItem o i)
def IxR (X : Cx) (r : R2) : Prop :=
  ∀ (value slice : Expr) (pins : List (Addr × Obj)) (s : Shared) (σ : St) (H : Hp) (x y : V) (v u : Value) (Q : VK), Inv X pins σ H s → RelV x v → RelV y u → r x y H Q →
    subscripted slice false v u = operate [v, u] (getItem v u) → wpAny (model X.prog X.w) X.A (subscriptTail value slice v u) (EP X pins σ Q) X.xe s
def MtR (X : Cx) (id : String) (r : V → List V → Hp → VK → Prop) : Prop :=
  ∀ (pins : List (Addr × Obj)) (s : Shared) (σ : St) (H : Hp) (x : V) (xs : List V) (v : Value) (us : List Value) (Q : VK), Inv X pins σ H s → RelV x v → Vals xs us → r x xs H Q →
    wpAny (model X.prog X.w) X.A (call (.builtin id) (v :: us)) (EP X pins σ Q) X.xe s
section
variable {X : Cx} {a b : Expr} {ta tb : TE} {pos : Pos}
theorem IxR.or {r r' : R2} (h : IxR X r) (h' : IxR X r') : IxR X (fun x y H Q => r x y H Q ∨ r' x y H Q) := by
  intro value slice pins s σ H x y v u Q I rx ry q hs
  rcases q with q | q
  · exact h value slice pins s σ H x y v u Q I rx ry q hs
  · exact h' value slice pins s σ H x y v u Q I rx ry q hs
theorem pe_ix {r : R2} (hr : IxR X r) (ha : PE X a ta) (hb : PE X b tb) (hs : PlainIx b) : PE X (.Subscript a b pos) (tOp r ta tb) := by
  intro pins s σ H Q I h
  exact Subscript_ (binT ha hb I h fun v u s2 x y H2 I2 rx ry q => hr a b pins s2 σ H2 x y v u Q I2 rx ry q (hs _ _))
def rIxL (K : PySem.W.Frag) : R2 := fun x y H Q => ∃ p xs i v, x = .ref p ∧ y = .int i ∧ SqL K H p xs ∧ atI xs i = some v ∧ Q v H
def rIxT (K : PySem.W.Frag) : R2 := fun x y H Q => ∃ p xs i v, x = .ref p ∧ y = .int i ∧ SqT K H p xs ∧ atI xs i = some v ∧ Q v H
def rIxS : R2 := fun x y H Q => ∃ z i c, x = .str z ∧ y = .int i ∧ z.length ≤ sizeLine ∧ atI z.cps.toList i = some c ∧ Q (.str ⟨#[c]⟩) H
theorem ix_list : IxR X (rIxL X.K) := by
  intro value slice pins s σ H x y v u Q I rx ry h hs
  obtain ⟨p, xs, i, z, rfl, rfl, hq, he, q⟩ := h
  cases rx
  obtain ⟨t, rfl⟩ := ry
  obtain ⟨its, r, pl, hz⟩ := I.list hq
  obtain ⟨j, h1, h2, h3, h4, h5⟩ := atI_get he
  obtain ⟨w, ew, rw'⟩ := r.get h2
  have hl := r.length
  have hn := line63
  have fin : EP X pins σ Q w s := ⟨z, H, I, rw', q⟩
  by_cases h0 : 0 ≤ i
  · have hj : i.toNat = j := by
      rw [seqIndex_of h0 h5] at h1
      exact Option.some.inj h1
    exact item_listR pl.isList h0 (by omega) (by rw [hj]; simpa using ew) fin hs
  · have hj : (i + (its.toArray.size : Int)).toNat = j := by
      rw [seqIndex_neg (by omega) h4] at h1
      rw [List.size_toArray, ← hl]
      exact Option.some.inj h1
    exact subscriptTail_builtinR (x := w) pl.isList.typeIs slot_list_getitem.lookup
      (wpAny_getItem_list_neg (Q := fun r s' => r = w ∧ EP X pins σ Q r s') pl.isList (by omega) (by rw [List.size_toArray] <;> omega) (by omega) (by rw [hj]; simpa using ew) ⟨rfl, fin⟩) hs
theorem ix_tup : IxR X (rIxT X.K) := by
  intro value slice pins s σ H x y v u Q I rx ry h hs
  obtain ⟨p, xs, i, z, rfl, rfl, hq, he, q⟩ := h
  cases rx
  obtain ⟨t, rfl⟩ := ry
  obtain ⟨its, r, pl, hz⟩ := I.tuple hq
  obtain ⟨j, h1, h2, h3, h4, h5⟩ := atI_get he
  obtain ⟨w, ew, rw'⟩ := r.get h2
  have hl := r.length
  have hn := line63
  have fin : EP X pins σ Q w s := ⟨z, H, I, rw', q⟩
  exact subscriptTail_builtinR (x := w) pl.typeIs slot_tuple_getitem.lookup
    (getItem_tuple (j := j) (Q := fun r s' => r = w ∧ EP X pins σ Q r s') pl (by omega) (by omega) (by rw [List.size_toArray, ← hl]; exact h1) (by simpa using ew) ⟨rfl, fin⟩) hs
def rIx (K : PySem.W.Frag) : R2 := fun x y H Q => rIxL K x y H Q ∨ rIxT K x y H Q ∨ rIxS x y H Q
theorem mapSeq_set (its : List Value) (n j : Nat) (u : Value) : Obj.mapSeq (·.setIfInBounds j u) { cls := .type "list", data := .seq its.toArray n } = { cls := .type "list", data := .seq (its.set j u).toArray n } := by
  simp [Obj.mapSeq]
theorem Inv.lst {pins : List (Addr × Obj)} {σ : St} {H : Hp} {s : Shared} {p : Addr} {xs : List V} (I : Inv X pins σ H s) (h : H p = some (.lst xs)) :
    ∃ (its : List Value) (n : Nat), Vals xs its ∧ s.heap.get? p = some { cls := .type "list", data := .seq its.toArray n } ∧ xs.length ≤ sizeLine := by
  obtain ⟨z, its, n, r, e⟩ := I.hok p _ h
  exact ⟨its, n, r, e, z⟩
theorem Inv.lstUpd {pins : List (Addr × Obj)} {σ : St} {H : Hp} {s : Shared} {p : Addr} {xs ys : List V} {its its' : List Value} {n n' : Nat} {f : Obj → Obj} (I : Inv X pins σ H s) (h : H p = some (.lst xs))
    (ho : s.heap.get? p = some { cls := .type "list", data := .seq its.toArray n }) (hf : f { cls := .type "list", data := .seq its.toArray n } = { cls := .type "list", data := .seq its'.toArray n' }) (r : Vals ys its') (hz : ys.length ≤ sizeLine) (t : Nat) :
    Inv X pins σ (upd H p (.lst ys)) { s with heap := s.heap.update p f, toks := t } := by
  have e : (s.heap.update p f).get? p = some { cls := .type "list", data := .seq its'.toArray n' } := by
    rw [Heap.get?_update_self f ho (by rw [hf] <;> rfl), hf]
  refine I.write (x := p) (e := p) (by rw [h]; trivial) (.inl rfl) (fun b u hb q => (Heap.get?_update_other _ _ (Ne.symm hb)).trans q) ⟨_, e⟩ ?_
  exact ⟨hz, its', n', r, e⟩
def rSetL : V → V → V → Hp → (Hp → Prop) → Prop := fun o i v H Q => ∃ p xs k j, o = .ref p ∧ i = .int k ∧ H p = some (.lst xs) ∧ ixN xs.length k = some j ∧ Q (upd H p (.lst (xs.set j v)))
theorem set_list : PSet X rSetL := by
  intro pins s σ H o i v ov iv u Q I ro ri rv h
  obtain ⟨p, xs, k, j, rfl, rfl, hp, hj, q⟩ := h
  cases ro
  obtain ⟨t, rfl⟩ := ri
  obtain ⟨its, n, r, ho, hz⟩ := I.lst hp
  obtain ⟨h1, h2, h3, h4⟩ := ixN_seq hj
  have hl := r.length
  have hn := line63
  have I' : Inv X pins σ (upd H p (.lst (xs.set j v))) { s with heap := s.heap.update p (Obj.mapSeq (·.setIfInBounds j u)) } :=
    I.lstUpd hp ho (mapSeq_set its n j u) (r.set rv j) (by rw [List.length_set]; exact hz) s.toks
  by_cases h0 : 0 ≤ k
  · have hk : k.toNat = j := by
      rw [seqIndex_of h0 h4] at h1
      exact Option.some.inj h1
    exact PySem.W.ki_setAt ho h0 (by omega) (by rw [List.size_toArray, ← hl]; exact h4) (by rw [hk]; exact ⟨_, I', q⟩)
  · have hk : (k + (its.toArray.size : Int)).toNat = j := by
      rw [seqIndex_neg (by omega) h3] at h1
      rw [List.size_toArray, ← hl]
      exact Option.some.inj h1
    exact PySem.W.ki_setBack ho (by omega) (by rw [List.size_toArray, ← hl]; exact h3) (by omega) (by rw [hk]; exact ⟨_, I', q⟩)
theorem slice_bounds (lo hi : Option Int) (n : Nat) : (sliceBounds lo hi none n).1 = ((HT.sIx n 0 lo : Nat) : Int) ∧ (sliceBounds lo hi none n).2.1 = ((HT.sIx n n hi : Nat) : Int) ∧ (sliceBounds lo hi none n).2.2 = 1 := by
  refine ⟨?_, ?_, rfl⟩
  · cases lo with
    | none => simp [sliceBounds, HT.sIx]
    | some i =>
      simp only [sliceBounds, HT.sIx, Option.getD_none, show (1 : Int) > 0 by decide, if_true]
      by_cases h : i < 0
      · simp only [h, if_true] <;> omega
      · simp only [h, if_false] <;> omega
  · cases hi with
    | none => simp [sliceBounds, HT.sIx]
    | some i =>
      simp only [sliceBounds, HT.sIx, Option.getD_none, show (1 : Int) > 0 by decide, if_true]
      by_cases h : i < 0
      · simp only [h, if_true] <;> omega
      · simp only [h, if_false] <;> omega
theorem slicePick_cut (its : List Value) (lo hi : Option Int) : slicePick its.toArray lo hi none = ((its.drop (HT.sIx its.length 0 lo)).take (HT.sIx its.length its.length hi - HT.sIx its.length 0 lo)).toArray := by
  obtain ⟨h1, h2, h3⟩ := slice_bounds lo hi its.toArray.size
  unfold slicePick
  rw [h1, h2, h3]
  simp only [sliceRange_one, pick_run, List.size_toArray] <;> rfl
def rSlL (K : PySem.W.Frag) : V → Option Int → Option Int → Hp → VK → Prop := fun x lo hi H Q => ∃ a xs, x = .ref a ∧ SqL K H a xs ∧ ∀ p, H p = none → Q (.ref p) (upd H p (.lst (cutV xs lo hi)))
theorem sl_list : SlR X (rSlL X.K) := by
  intro pins s σ H x v vl vu lo hi sl Q I rx hs pl pu h
  obtain ⟨a, xs, rfl, hx, q⟩ := h
  cases rx
  obtain ⟨its, r, ht, hz⟩ := I.list hx
  have hlen := r.length
  refine ⟨"list", _, slot_list_getitem.lookup, ht.isList.typeIs, ?_⟩
  refine wpAny_getItem_list_slice ht.isList hs pl pu .none (by simp) ?_ (by rw [List.size_toArray] <;> omega)
  rw [slicePick_cut, ← hlen]
  refine ⟨.ref s.heap.objs.size, _, I.laid (t' := s.toks) (o := .lst (cutV xs lo hi)) (fun b ob q => Heap.get?_push_of_some _ q) (Nat.le_refl _) ?_, rfl, q _ (I.hok.fresh (Nat.le_refl _))⟩
  exact ⟨Nat.le_trans (cutV_length xs lo hi) hz, _, 0, (r.drop (HT.sIx xs.length 0 lo)).take (HT.sIx xs.length xs.length hi - HT.sIx xs.length 0 lo), Heap.get?_push_size _ rfl⟩
def flatV : V → Bool
  | .non => true
  | .bl _ => true
  | .int _ => true
  | .str _ => true
  | _ => false
def eqV : V → V → Bool
  | .non, .non => true
  | .bl a, .bl b => a == b
  | .bl a, .int b => (if a then 1 else 0) == b
  | .int a, .bl b => a == (if b then 1 else 0)
  | .int a, .int b => a == b
  | .str a, .str b => a == b
  | _, _ => false
theorem eqAt_V {A : Around} {s : Shared} {y x : V} {u v : Value} (ry : RelV y u) (rx : RelV x v) (fy : flatV y = true) (fx : flatV x = true) : SeqAt.EqAt A s u v (eqV y x) := by
  cases y with
  | non =>
    cases ry
    cases x with
    | non => cases rx; exact SeqAt.EqAt.same _
    | bl b => cases rx; exact SeqAt.EqAt.none_bool b
    | int b => obtain ⟨t, rfl⟩ := rx; exact SeqAt.EqAt.none_int b t
    | str b => obtain ⟨t, rfl⟩ := rx; exact SeqAt.EqAt.none_str b t
    | _ => exact absurd (show false = true from fx) Bool.false_ne_true
  | bl a =>
    cases ry
    cases x with
    | non => cases rx; exact SeqAt.EqAt.bool_none a
    | bl b => cases rx; exact SeqAt.EqAt.bool_bool a b
    | int b => obtain ⟨t, rfl⟩ := rx; exact SeqAt.EqAt.bool_int a b t
    | str b => obtain ⟨t, rfl⟩ := rx; exact SeqAt.EqAt.bool_str a b t
    | _ => exact absurd (show false = true from fx) Bool.false_ne_true
  | int a =>
    obtain ⟨t', rfl⟩ := ry
    cases x with
    | non => cases rx; exact SeqAt.EqAt.int_none a t'
    | bl b => cases rx; exact SeqAt.EqAt.int_bool a t' b
    | int b => obtain ⟨t, rfl⟩ := rx; exact SeqAt.EqAt.int_int a t' b t
    | str b => obtain ⟨t, rfl⟩ := rx; exact SeqAt.EqAt.int_str a t' b t
    | _ => exact absurd (show false = true from fx) Bool.false_ne_true
  | str a =>
    obtain ⟨t', rfl⟩ := ry
    cases x with
    | non => cases rx; exact SeqAt.EqAt.str_none a t'
    | bl b => cases rx; exact SeqAt.EqAt.str_bool a t' b
    | int b => obtain ⟨t, rfl⟩ := rx; exact SeqAt.EqAt.str_int a t' b t
    | str b => obtain ⟨t, rfl⟩ := rx; exact SeqAt.EqAt.str_str a t' b t
    | _ => exact absurd (show false = true from fx) Bool.false_ne_true
  | _ => exact absurd (show false = true from fy) Bool.false_ne_true
def eqU (x : V) (u : Value) : Bool := match u with
  | .none => eqV .non x
  | .bool b => eqV (.bl b) x
  | .int i _ => eqV (.int i) x
  | .str z _ => eqV (.str z) x
  | _ => false
theorem eqU_of {x y : V} {u : Value} (r : RelV y u) (f : flatV y = true) : eqU x u = eqV y x := by
  cases y with
  | non => cases r; rfl
  | bl b => cases r; rfl
  | int i => obtain ⟨t, rfl⟩ := r; rfl
  | str z => obtain ⟨t, rfl⟩ := r; rfl
  | _ => exact absurd (show false = true from f) Bool.false_ne_true
theorem any_eqU {x : V} : ∀ {xs : List V} {us : List Value}, Vals xs us → xs.all flatV = true → us.any (eqU x) = xs.any fun y => eqV y x
  | _, _, .nil, _ => rfl
  | y :: xs, u :: us, .cons r t, f => by
    rw [List.all_cons, Bool.and_eq_true] at f
    rw [List.any_cons, List.any_cons, eqU_of r f.1, any_eqU t f.2]
theorem mem_eqAt {A : Around} {s : Shared} {x : V} {v : Value} (rx : RelV x v) (fx : flatV x = true) : ∀ {xs : List V} {us : List Value}, Vals xs us → xs.all flatV = true → ∀ u ∈ us, SeqAt.EqAt A s u v (eqU x u)
  | _, _, .nil, _ => fun u hu => by cases hu
  | y :: xs, u :: us, .cons r t, f => fun u' hu => by
    rw [List.all_cons, Bool.and_eq_true] at f
    rcases List.mem_cons.mp hu with rfl | hu
    · rw [eqU_of r f.1]; exact eqAt_V r rx f.1 fx
    · exact mem_eqAt rx fx t f.2 u' hu
def inV (x : V) (xs : List V) : Bool := xs.any fun y => eqV y x
def rIn (K : PySem.W.Frag) (neg : Bool) : R2 := fun x y H Q => ∃ p xs, y = .ref p ∧ (SqL K H p xs ∨ SqT K H p xs) ∧ flatV x = true ∧ xs.all flatV = true ∧ Q (.bl (if neg then !inV x xs else inV x xs)) H
theorem op_in_seq : OpR X (compareOp .In) (rIn X.K false) := by
  intro pins s σ H x y v u Q I rx ry h
  obtain ⟨p, xs, rfl, hq, fx, fs, q⟩ := h
  cases ry
  rcases hq with hq | hq
  · obtain ⟨its, r, pl, hz⟩ := I.list hq
    refine SeqAt.in_listAt (eqU x) pl.isList (fun w hw => mem_eqAt rx fx r fs w (by simpa using hw)) ⟨.bl _, H, I, rfl, ?_⟩
    rw [show its.toArray.any (eqU x) = its.any (eqU x) by simp, any_eqU r fs]
    exact q
  · obtain ⟨its, r, pl, hz⟩ := I.tuple hq
    refine SeqAt.in_tupleAt (eqU x) pl (fun w hw => mem_eqAt rx fx r fs w (by simpa using hw)) ⟨.bl _, H, I, rfl, ?_⟩
    rw [show its.toArray.any (eqU x) = its.any (eqU x) by simp, any_eqU r fs]
    exact q
theorem call_len_seq : CallR X (.builtin "len") (fun xs H Q => ∃ p ys, xs = [.ref p] ∧ (SqL X.K H p ys ∨ SqT X.K H p ys) ∧ Q (.int ys.length) H) := by
  intro pins s σ H xs us Q I r h
  obtain ⟨p, ys, rfl, hq, q⟩ := h
  obtain ⟨u, rfl, rx⟩ := vals1 r
  cases rx
  have hn := line63
  rcases hq with hq | hq
  · obtain ⟨its, r', pl, hz⟩ := I.list hq
    have hlen := r'.length
    exact Calls.call_len_list pl.isList (by simp only [List.size_toArray] <;> omega) ⟨.int ys.length, H, I.tok _, ⟨s.toks + 1, by rw [List.size_toArray, hlen]⟩, q⟩
  · obtain ⟨its, r', pl, hz⟩ := I.tuple hq
    have hlen := r'.length
    exact len_tuple pl (by simp only [List.size_toArray] <;> omega) ⟨.int ys.length, H, I.tok _, ⟨s.toks + 1, by rw [List.size_toArray, hlen]⟩, q⟩
theorem CallR.or {f : Value} {r r' : List V → Hp → VK → Prop} (h : CallR X f r) (h' : CallR X f r') : CallR X f (fun xs H Q => r xs H Q ∨ r' xs H Q) := by
  intro pins s σ H xs us Q I rs q
  rcases q with q | q
  · exact h pins s σ H xs us Q I rs q
  · exact h' pins s σ H xs us Q I rs q
theorem call_list_of : CallR X (.type "list") (fun xs H Q => ∃ p ys, xs = [.ref p] ∧ (SqL X.K H p ys ∨ SqT X.K H p ys) ∧ ∀ l, H l = none → Q (.ref l) (upd H l (.lst ys))) := by
  intro pins s σ H xs us Q I r h
  obtain ⟨p, ys, rfl, hq, q⟩ := h
  obtain ⟨u, rfl, rx⟩ := vals1 r
  cases rx
  have fin : ∀ (its : List Value), Vals ys its → ys.length ≤ sizeLine → ∀ (h' : Heap) (c' : Nat), (∀ b o', s.heap.get? b = some o' → h'.get? b = some o') →
      h'.get? s.heap.objs.size = some { cls := .type "list", dict := none, data := .seq its.toArray c', slots := #[] } → EP X pins σ Q (.ref s.heap.objs.size) { s with heap := h' } := fun its r' hz h' c' kp e =>
    ⟨.ref s.heap.objs.size, _, I.laid (t' := s.toks) kp (Nat.le_refl _) (show ObjOk X.prog X.w _ h' _ (.lst ys) from ⟨hz, its, c', r', e⟩), rfl, q _ (I.hok.fresh (Nat.le_refl _))⟩
  rcases hq with hq | hq
  · obtain ⟨its, r', pl, hz⟩ := I.list hq
    have hlen := r'.length
    obtain ⟨o, ho, hc, n, hd⟩ := pl.isList
    exact call_list_seq p (.inl rfl) ho hc hd (fun h' c' kp e => fin its r' hz h' c' kp e) (by simp only [List.size_toArray] <;> omega)
  · obtain ⟨its, r', pl, hz⟩ := I.tuple hq
    have hlen := r'.length
    obtain ⟨o, ho, hc, n, hd⟩ := pl
    exact call_list_seq p (.inr rfl) ho hc hd (fun h' c' kp e => fin its r' hz h' c' kp e) (by simp only [List.size_toArray] <;> omega)
theorem call_tuple_of : CallR X (.type "tuple") (fun xs H Q => ∃ p ys, xs = [.ref p] ∧ ((SqL X.K H p ys ∧ ∀ l, H l = none → Q (.ref l) (upd H l (.tup ys))) ∨ (SqT X.K H p ys ∧ Q (.ref p) H))) := by
  intro pins s σ H xs us Q I r h
  obtain ⟨p, ys, rfl, h⟩ := h
  obtain ⟨u, rfl, rx⟩ := vals1 r
  cases rx
  rcases h with ⟨hq, q⟩ | ⟨hq, q⟩
  · obtain ⟨its, r', pl, hz⟩ := I.list hq
    have hlen := r'.length
    refine call_tuple_list pl.isList (fun h' kp => ?_) (by simp only [List.size_toArray] <;> omega)
    have I1 : Inv X pins σ H { s with heap := h' } := I.kept (t' := s.toks) kp
    have I2 : Inv X pins σ (upd H h'.objs.size (.tup ys)) { s with heap := h'.push { cls := .type "tuple", data := .seq its.toArray } } :=
      I1.laid (t' := s.toks) (fun b o e => Heap.get?_push_of_some _ e) (Nat.le_refl _) (show ObjOk X.prog X.w _ _ _ (.tup ys) from ⟨hz, its, r', IsTup.new _ _⟩)
    exact ⟨.ref h'.objs.size, _, I2, rfl, q _ (I1.hok.fresh (Nat.le_refl _))⟩
  · obtain ⟨its, r', pl, hz⟩ := I.tuple hq
    exact call_tuple_same pl ⟨.ref p, H, I, rfl, q⟩
def tyV (K : PySem.W.Frag) (T : String) (x : V) (H : Hp) : Prop := match x with
  | .str _ => T = "str"
  | .int _ => T = "int"
  | .ref p => (T = "list" ∧ ∃ xs, SqL K H p xs) ∨ (T = "tuple" ∧ ∃ o, K.lookup p = some o ∧ o.cls = .type "tuple" ∧ o.dict = none) ∨
      (T = "dict" ∧ ((∃ kvs, H p = some (.dK kvs)) ∨ ∃ kvs, H p = some (.dT kvs))) ∨ (T = "set" ∧ ∃ S n, H p = some (.set S n))
  | _ => False
theorem tyV_is {pins : List (Addr × Obj)} {σ : St} {H : Hp} {s : Shared} {T : String} {x : V} {v : Value} (I : Inv X pins σ H s) (r : RelV x v) (ty : tyV X.K T x H) :
    s.TypeIs v T ∧ ∀ a, v = .ref a → ∃ ob, s.heap.get? a = some ob ∧ ob.dict = none := by
  cases x with
  | str z =>
    obtain ⟨t, rfl⟩ := r
    cases (show T = "str" from ty)
    exact ⟨typeIs_str s z t, fun _ e => nomatch e⟩
  | int i =>
    obtain ⟨t, rfl⟩ := r
    cases (show T = "int" from ty)
    exact ⟨typeIs_int s i t, fun _ e => nomatch e⟩
  | ref p =>
    cases r
    rcases ty with ⟨rfl, xs, hq⟩ | ⟨rfl, o, hk, hc, hd⟩ | ⟨rfl, hk⟩ | ⟨rfl, S, n, hk⟩
    · obtain ⟨its, _, pl, _⟩ := I.list hq
      refine ⟨pl.isList.typeIs, fun a e => ?_⟩
      cases e
      obtain ⟨o, n, e, c, hd, _⟩ := pl
      exact ⟨o, e, hd⟩
    · refine ⟨⟨o, I.kIn p o hk, hc⟩, fun a e => ?_⟩
      cases e
      exact ⟨o, I.kIn _ o hk, hd⟩
    · have z : ∃ o, s.heap.get? p = some o ∧ o.ExactDict := by
        rcases hk with ⟨kvs, hk⟩ | ⟨kvs, hk⟩
        · obtain ⟨_, _, _, _, o, _, _, e, ex, _⟩ := I.hok p _ hk
          exact ⟨o, e, ex⟩
        · obtain ⟨_, _, _, _, o, _, _, e, ex, _⟩ := I.hok p _ hk
          exact ⟨o, e, ex⟩
      obtain ⟨o, e, ex⟩ := z
      refine ⟨⟨o, e, ex.1⟩, fun a e2 => ?_⟩
      cases e2
      exact ⟨o, e, ex.2.1⟩
    · obtain ⟨o, _, _, _, e, ex, _⟩ := I.hok p _ hk
      refine ⟨⟨o, e, ex.1⟩, fun a e2 => ?_⟩
      cases e2
      exact ⟨o, e, ex.2.1⟩
  | _ => exact False.elim ty
def tBM0 (K : PySem.W.Frag) (T : String) (r : V → List V → Hp → VK → Prop) (to : TE) : TE := fun σ H Q => to σ H fun x H1 => tyV K T x H1 ∧ r x [] H1 Q
def tBM (K : PySem.W.Frag) (T : String) (r : V → List V → Hp → VK → Prop) (to : TE) (t : TA) : TE := fun σ H Q => to σ H fun x H1 => tyV K T x H1 ∧ t σ H1 fun xs H2 => r x xs H2 Q
variable {o e : Expr} {es : List Expr} {to : TE} {t : TA} {name : Str} {apos cpos : Pos} {T id : String} {r : V → List V → Hp → VK → Prop}
theorem pe_bm (pa : PlainAttrs T) (slot : Slot T name id) (hty : typeOf (.builtin id) = pure (.type "method_descriptor")) (hm : MtR X id r) (ho : PE X o to) (ha : PA X (e :: es) t)
    (hbase : attributeBase o name X.env (eval o X.env) = eval o X.env := by rfl)
    (hfew : ((backTo cpos (starEach (e :: es) X.env)).all (fun x => !x.1) && (backToKw cpos (keywordEach [] X.env)).all (fun x => x.1.isSome)
      && decide ((e :: es).length + ([] : List Keyword).length + (if ([] : List Keyword).isEmpty then 0 else 1) < 30)) = true := by rfl)
    (hline : (apos.endLine == cpos.line) = true := by rfl) (hs : starEach (e :: es) X.env = (false, eval e X.env) :: starEach es X.env := by rfl) (hplain : (backTo cpos (starEach es X.env)).any (·.1) = false := by rfl) :
    PE X (.Call (.Attribute o name apos) (e :: es) [] cpos) (tBM X.K T r to t) := by
  intro pins s σ H Q I h
  refine wpAny_Call_method_late hbase hfew hline rfl (thn (ho pins s σ H _ I h) fun v s1 ⟨x, H1, I1, r1, ty, q1⟩ => ?_)
  obtain ⟨h1, h2⟩ := tyV_is I1 r1 ty
  refine ⟨T, id, pa, slot, hty, h1, h2, ?_⟩
  have hA := ha cpos pins s1 σ H1 _ I1 q1
  rw [hs] at hA ⊢
  refine Calls.callWith_builtin (by show (false || (backTo cpos (starEach es X.env)).any (·.1)) = false; rw [hplain] <;> rfl) (Calls.evalArgs_plain ?_)
  exact thn hA fun us s2 ⟨vs, H2, I2, r2, q2⟩ => hm pins s2 σ H2 x vs v us Q I2 r1 r2 q2
/- xs.append(e), list.index on a module's tuple .. are MtR facts of 06m -/
end
end L2
namespace L2
open PySem PySem.Spec PyProof.Rows
def MtM (X : Cx) (id : String) (r : V → List V → Hp → VK → Prop) : Prop :=
  ∀ (pins : List (Addr × Obj)) (s : Shared) (σ : St) (H : Hp) (x : V) (xs : List V) (v : Value) (us : List Value) (Q : VK), Inv X pins σ H s → RelV x v → Vals xs us → r x xs H Q →
    wpAny (model X.prog X.w) X.A (call (.builtin id) (v :: us)) (EP X pins σ Q) X.xe s
theorem Vals.one : ∀ {x : V} {us : List Value}, Vals [x] us → ∃ u, us = [u] ∧ RelV x u
  | _, _, .cons r .nil => ⟨_, rfl, r⟩
section
variable {X : Cx} {pins : List (Addr × Obj)} {σ : St} {H : Hp} {s : Shared} {l b : Addr} {xs ys zs : List V}
theorem Inv.lset {its its' : List Value} {n : Nat} {f : Array Value → Array Value} {t' : Nat} (I : Inv X pins σ H s) (hH : H l = some (.lst xs))
    (e : s.heap.get? l = some { cls := .type "list", data := .seq its.toArray n }) (hf : f its.toArray = its'.toArray) (hv : Vals ys its') (hz : ys.length ≤ sizeLine) :
    Inv X pins σ (upd H l (.lst ys)) { s with heap := s.heap.update l (Obj.mapSeq f), toks := t' } := by
  have q := PySem.IsL.update e f
  rw [hf] at q
  refine I.write (x := l) (e := l) (by rw [hH]; exact trivial) (.inl rfl) (fun b' u hb hu => (Heap.get?_update_other s.heap (Obj.mapSeq f) (Ne.symm hb)).trans hu) ⟨_, q⟩ ?_
  exact ⟨hz, its', _, hv, q⟩
theorem Inv.lnew {its : List Value} {t' : Nat} (I : Inv X pins σ H s) (hv : Vals ys its) (hz : ys.length ≤ sizeLine) :
    Inv X pins σ (upd H s.heap.objs.size (.lst ys)) { s with heap := s.heap.push { cls := .type "list", data := .seq its.toArray }, toks := t' } :=
  I.laid (fun _ _ q => Heap.get?_push_of_some _ q) (Nat.le_refl _) ⟨hz, its, 0, hv, Heap.get?_push_size _ rfl⟩
theorem Inv.fresh (I : Inv X pins σ H s) : H s.heap.objs.size = none := I.hok.fresh (Nat.le_refl _)
theorem Inv.lstM (I : Inv X pins σ H s) (hH : H l = some (.lst xs)) : xs.length ≤ sizeLine ∧ ∃ (its : List Value) (n : Nat), Vals xs its ∧ xs.length = its.length ∧ s.heap.get? l = some { cls := .type "list", data := .seq its.toArray n } := by
  obtain ⟨z, its, n, r, e⟩ := I.hok l _ hH
  exact ⟨z, its, n, r, r.length, e⟩
end
section
variable {X : Cx}
def rAppend : V → List V → Hp → VK → Prop := fun x vs H Q => ∃ l xs y, x = .ref l ∧ vs = [y] ∧ H l = some (.lst xs) ∧ xs.length < sizeLine ∧ Q .non (upd H l (.lst (xs ++ [y])))
theorem mt_append : MtM X "list.append" rAppend := by
  intro pins s σ H x vs v us Q I rx rv h
  obtain ⟨l, xs, y, rfl, rfl, hH, hz, q⟩ := h
  cases rx
  obtain ⟨u, rfl, ru⟩ := rv.one
  obtain ⟨z, its, n, r, hl, e⟩ := I.lstM hH
  refine call_meets F.slot_list_append ⟨_, e, rfl⟩ F.entry_list_append (F.args_list_append_2 _ _) (PySem.list_append l its.toArray n u (by rw [List.size_toArray]; omega)) ⟨e, ?_⟩
  refine ⟨.non, _, I.lset (its' := its ++ [u]) hH e (by simp) (r.append (.cons ru .nil)) ?_, rfl, q⟩
  rw [List.length_append, List.length_singleton]
  omega
def rExtend : V → List V → Hp → VK → Prop := fun x vs H Q => ∃ l b xs zs, x = .ref l ∧ vs = [.ref b] ∧ H l = some (.lst xs) ∧ H b = some (.lst zs) ∧ xs.length + zs.length ≤ sizeLine ∧ Q .non (upd H l (.lst (xs ++ zs)))
def rPop : V → List V → Hp → VK → Prop := fun x vs H Q => ∃ l xs y, x = .ref l ∧ vs = [] ∧ H l = some (.lst xs) ∧ xs[xs.length - 1]? = some y ∧ Q y (upd H l (.lst xs.dropLast))
def rPopAt : V → List V → Hp → VK → Prop := fun x vs H Q => ∃ l xs i k y, x = .ref l ∧ vs = [.int i] ∧ H l = some (.lst xs) ∧ -(2 ^ 63) ≤ i ∧ i < 2 ^ 63 ∧ seqIndex? i xs.length = some k ∧ xs[k]? = some y ∧ Q y (upd H l (.lst (xs.eraseIdx k)))
def rReverse : V → List V → Hp → VK → Prop := fun x vs H Q => ∃ l xs, x = .ref l ∧ vs = [] ∧ H l = some (.lst xs) ∧ Q .non (upd H l (.lst xs.reverse))
def rClear : V → List V → Hp → VK → Prop := fun x vs H Q => ∃ l xs, x = .ref l ∧ vs = [] ∧ H l = some (.lst xs) ∧ Q .non (upd H l (.lst []))
def rCat : R2 := fun x y H Q => ∃ l b xs zs, x = .ref l ∧ y = .ref b ∧ H l = some (.lst xs) ∧ H b = some (.lst zs) ∧ xs.length + zs.length ≤ sizeLine ∧ ∀ p, H p = none → Q (.ref p) (upd H p (.lst (xs ++ zs)))
def rRep : R2 := fun x y H Q => ∃ l k xs, x = .ref l ∧ y = .int k ∧ H l = some (.lst xs) ∧ -(2 ^ 63) ≤ k ∧ k < 2 ^ 63 ∧ xs.length * k.toNat ≤ sizeLine ∧
  ∀ p, H p = none → Q (.ref p) (upd H p (.lst (List.replicate k.toNat xs).flatten))
end
section
variable {prog : Program} {w : World} {A : Around} {E : Value → Shared → Prop} {s : Shared}
set_option maxRecDepth 100000 in
end
section
variable {X : Cx}
end
end L2
namespace Att
open PySem PySem.W PySem.Calls PyProof.Rows
theorem ints_of_wellAll {P : Params} {h : Heap} : ∀ (ns : List Int) (vs : List Value), WellAll P h vs (ns.map WData.int) → IntsAre vs ns := by
  intro ns
  induction ns with
  | nil =>
    intro vs w
    rw [List.map_nil] at w
    cases w
    exact .nil
  | cons n ns ih =>
    intro vs w
    rw [List.map_cons] at w
    cases w with
    | cons a b =>
      cases a
      exact .cons _ _ (ih _ b)
theorem script_of {l : OpenLaw} {n : Nat} (hn : l.most = some n) {P : Params} {h : Heap} {args : List WData} {vals : List Value}
    (hpre : l.row.toRowW.claim.pre args = true) (hwl : WellAll P h vals args) :
    ∃ a vs ns, vals = [Value.ref a] ∧ args = [WData.list (ns.map WData.int)] ∧ h.get? a = some { cls := .type "list", data := .seq vs.toArray } ∧ IntsAre vs ns ∧ ns.length ≤ n := by
  have hsh : WShape.hasAll [] args [.list .int] = true := (pre_splitW hpre).1
  have hc : l.pre.holds [] { args := args } = true := (pre_splitW hpre).2
  obtain ⟨d, r, rfl, h1, h2⟩ := hasAllW_cons hsh
  obtain rfl := hasAllW_nil h2
  obtain ⟨xs, rfl, h3⟩ := hasW_list h1
  obtain ⟨ns, rfl⟩ := items_int h3
  have hlen : ns.length ≤ n := by
    unfold OpenLaw.pre at hc
    have h4 : (WTm.not (.lt (.lit (.int (n : Int))) (.len (.arg 0)))).holds [] { args := [.list (ns.map .int)] } = true := by
      have h4 := (holds_andW hc).1
      rw [hn] at h4
      exact h4
    have h5 := condW_of h4 (w_not (w_lt w_lit (w_len_list (w_arg rfl))))
    rw [List.length_map] at h5
    refine Nat.le_of_not_lt fun q => ?_
    have q' : (n : Int) < ((ns.length : Nat) : Int) := by omega
    first
      | (rw [decide_eq_true q'] at h5; exact absurd h5 (by decide))
      | (simp at h5; omega)
  cases hwl with
  | cons w1 w2 =>
    cases w2
    cases w1 with
    | list ho hall => exact ⟨_, _, ns, rfl, rfl, ho, ints_of_wellAll ns _ hall, hlen⟩
theorem post_true (l : OpenLaw) (args : List WData) : l.row.toRowW.claim.post args (.bool true) args = true :=
  postW_of (r := l.row.toRowW) (X := (true == true))
    (show WShape.has [] (.bool true) .bool = true by first | rfl | decide | simp [WShape.has, WShape.arms, WShape.armsAll])
    (show (WTm.eq .res (.lit (.bool true))).value [] { args := args, res := some (.bool true), after := args } = some (.bool (true == true)) from w_eq_bool (w_res rfl) w_lit) rfl
theorem attach_call {l : OpenLaw} {n : Nat} {q : Program} {loose : List Str} {XP : (Str → Option Value) → Heap → Prop} {YP : World → Heap → Prop} {d : DefRec}
    (hn : l.most = some n) (hdf : d.params.defaults = [])
    (call : ∀ (w : World) (s₀ s₁ : Shared) (mg mb : Str → Option Value) (fa : Addr) (o : Obj) (pm cd doc : Value) (a : Addr) (vs : List Value) (ns : List Int),
      Ground q loose [] XP w s₀ mg mb s₁.heap → YP w s₁.heap →
      s₁.heap.get? fa = some o → o.data = .func (docDef d.name d.params d.body d.scope pm cd doc) → s₁.heap.CodeRec cd d.name → mg d.name = some (.ref fa) →
      s₁.heap.get? a = some { cls := .type "list", data := .seq vs.toArray } → IntsAre vs ns → ns.length ≤ n → s₁.gens = #[] →
      codeAny (model l.prog w) callerA (.call (.ref fa) ⟨[.ref a], []⟩) (fun r s' => r = .ok (.ret (.bool true)) ∧ OldK s₁.heap s'.heap ∧ s'.os = s₁.os ∧ AllBare s'.gens) s₁) :
    WalkO q loose XP YP l.row.toRowW d [] (fun f vs => PySem.call f vs) := by
  intro w s₀ s₁ mg mb G Y fa o pm cd doc dV kV ho hd hcd hD hmg hg args vals as hpre hlay hrd hwl hlo
  obtain rfl : dV = .none := Dflts.none hD hdf
  obtain rfl : kV = .none := Dflts.noKw hD
  obtain ⟨a, vs, ns, rfl, rfl, hobj, hints, hlen⟩ := script_of hn hpre hwl
  refine enter_call (codeAny_mono (call w s₀ s₁ mg mb fa o pm cd doc a vs ns G Y ho (fd_plain hd) hcd hmg hobj hints hlen hg) fun r s' hq => ?_)
  obtain ⟨rfl, h2, h3, h4⟩ := hq
  exact ⟨.inl ⟨.bool true, .bool true, [], rfl, fun _ => rfl, .bool true, post_true l _, fun _ => ⟨List.Pairwise.nil, fun _ hm => (nomatch hm)⟩⟩, h2, h3, h4⟩
section
variable {prog : Program} {w : World} {A : Around} {E : Value → Shared → Prop} {s : Shared} {K : Frag}
def noObjs (h : Heap) : Heap := { h with objs := #[] }
def ledger (h : Heap) (L d : Addr) : List (Addr × Obj) := (List.range h.objs.size).filterMap fun a => if a = L ∨ a = d then none else (h.get? a).map fun o => (a, o)
end
end Att
namespace L2
open PySem PySem.Spec PyProof.Rows
theorem vals_ints : ∀ {vs : List Value} {ns : List Int}, IntsAre vs ns → Vals (ns.map V.int) vs
  | _, _, .nil => .nil
  | _, _, .cons n t h => .cons ⟨t, rfl⟩ (vals_ints h)
def Only (H : Hp) : Prop := ∀ b, H b = none ∨ ∃ o xs, H b = some (.frz o (.lst xs))
theorem law_call {P : Program} {w : World} {K : PySem.W.Frag} {mg mb : Str → Option Value} {CX : CXT} {k : Nat} {fa a : Addr} {fd : FuncData} {x : Str} {sp : Sp} {s₁ : Shared} {vs : List Value} {ns : List Int}
    (KX : K.In s₁.heap) (hns : s₁.heap.Ns mainGlobals mg) (hb : s₁.heap.Ns builtinsNs mb) (hbb : ∀ x : Str, x ≠ "__name__" → mb x = bootBuiltins x) (hlim : s₁.heap.NoLimit) (hg : s₁.gens = #[])
    (ha : s₁.heap.get? a = some { cls := .type "list", data := .seq vs.toArray }) (hi : IntsAre vs ns) (hl : ns.length ≤ sizeLine) (hr : Room k callerA)
    (F : ∀ base : Heap, K.In base → base.Ns mainGlobals mg → FnOk P w K mg base CX k fa fd [x] sp) (hbind : ∀ (s : Shared) (u : Value), BindsTo s fd ⟨[u], []⟩ [(x, u)])
    (hsp : ∀ H : Hp, Only H → SqL K H a (ns.map V.int) → sp [.ref a] H (fun v _ => v = .bl true) fun _ _ _ => False)
    (hCX : ∀ H e s', CX [] H s₁ (fun _ _ _ => False) e s' → False) :
    codeAny (model P w) callerA (.call (.ref fa) ⟨[.ref a], []⟩) (fun r s' => r = .ok (.ret (.bool true)) ∧ OldK s₁.heap s'.heap ∧ s'.os = s₁.os ∧ AllBare s'.gens) s₁ := by
  have rv := vals_ints hi
  have lenV := hi.length
  have core : ∀ H : Hp, Only H → SqL K H a (ns.map V.int) → HOk P w H s₁.heap → (∀ b, H b ≠ none → b = a) → (H a ≠ none → K.lookup a = none) →
      codeAny (model P w) callerA (.call (.ref fa) ⟨[.ref a], []⟩) (fun r s' => r = .ok (.ret (.bool true)) ∧ OldK s₁.heap s'.heap ∧ s'.os = s₁.os ∧ AllBare s'.gens) s₁ := by
    intro H hO hS hok hA hK
    have base_of : ∀ {b : Addr} {o : Obj}, s₁.heap.get? b = some o → H b = none → (hidT s₁.heap H).get? b = some o := fun e n => hidT_get e n
    have noA : ∀ {b : Addr} {o : Obj} {es : Array DictEntry} {ep : Nat}, s₁.heap.get? b = some o → o.data = .dict es ep → H b = none := fun {b o es ep} e d => by
      cases q : H b with
      | none => rfl
      | some u =>
        have e' : b = a := hA b (by rw [q]; simp)
        subst e'
        rw [ha] at e; cases e
        have d' : Data.seq vs.toArray _ = Data.dict es ep := d
        cases d'
    have nsK : ∀ {b : Addr} {m : Str → Option Value}, s₁.heap.Ns b m → (hidT s₁.heap H).Ns b m := fun {b m} ⟨o, es, ep, e, d, r⟩ => ⟨o, es, ep, base_of e (noA e d), d, r⟩
    have hKb : K.In (hidT s₁.heap H) := fun b o e => base_of (KX b o e) (by
      cases q : H b with
      | none => rfl
      | some u =>
        have e' : b = a := hA b (by rw [q]; simp)
        subst e'
        rw [hK (by rw [q]; simp)] at e; cases e)
    have hM : Mod K mg (hidT s₁.heap H) := ⟨hKb, nsK hns, ⟨mb, nsK hb, hbb⟩, let ⟨mc, h1, h2⟩ := hlim; ⟨mc, nsK h1, h2⟩⟩
    have e0 : Env0 P w K mg (hidT s₁.heap H) callerA [] s₁ H := ⟨rfl, hM, fun b o e => of_hidT e, Nat.le_of_eq (hidT_size _ _), trivial, fun b hb => absurd (show b ∈ ([] : List Addr) from hb) (by simp), hok, .of_eq hg⟩
    refine codeAny_mono ((F _ hKb (nsK hns)).run callerA [] s₁ H ⟨[.ref a], []⟩ [.ref a] [.ref a] _ _ hr e0 (hbind s₁ (.ref a)) (.cons rfl .nil) (hsp H hO hS)) fun r s' h => ?_
    cases r with
    | error e => exact (hCX H e s' h).elim
    | ok fl =>
      cases fl with
      | next => exact False.elim h
      | brk => exact False.elim h
      | cont => exact False.elim h
      | ret u =>
        obtain ⟨v, H', os, bare, un, hok', r', q⟩ := h
        have q' : v = .bl true := q
        subst q'
        obtain rfl : u = Value.bool true := r'
        refine ⟨rfl, OldK.of_keep fun b o e => ?_, os, bare⟩
        cases q : H b with
        | none => exact un.keep b o e q (by intro z; exact absurd (show b ∈ ([] : List Addr) from z) (by simp)) (by simp)
        | some u =>
          rcases hO b with z | ⟨ob, xs, z⟩
          · rw [q] at z; cases z
          · have z2 := un.frzs b ob _ z
            obtain ⟨e1, _⟩ := hok b _ z
            obtain ⟨e2, _⟩ := hok' b _ z2
            rw [e] at e1; cases e1
            exact e2
  cases hk : K.lookup a with
  | some o =>
    have e := KX a o hk
    rw [ha] at e
    cases e
    refine core (fun _ => none) (fun _ => .inl rfl) (.inr ⟨_, vs.toArray, _, hk, rfl, rfl, rfl, by rw [List.size_toArray, lenV]; exact hl, by simpa using rv⟩) (fun b u z => by have z' : (none : Option HO) = some u := z; cases z') (fun b z => absurd rfl z) fun z => absurd rfl z
  | none =>
    refine core (fun b => if b = a then some (.frz { cls := .type "list", data := .seq vs.toArray } (.lst (ns.map V.int))) else none) (fun b => ?_) (.inl (.inr ⟨{ cls := .type "list", data := .seq vs.toArray }, if_pos rfl⟩)) (fun b u z => ?_) (fun b z => ?_) fun _ => hk
    · by_cases hb : b = a
      · exact .inr ⟨_, _, if_pos hb⟩
      · exact .inl (if_neg hb)
    · by_cases hb : b = a
      · have z' := (if_pos hb).symm.trans z
        cases z'
        subst hb
        exact ⟨ha, by rw [List.length_map]; exact hl, vs, _, rv, ha⟩
      · have z' := (if_neg hb).symm.trans z
        cases z'
    · by_cases hb : b = a
      · exact hb
      · exact absurd (if_neg hb) z
end L2
namespace L2
open PySem PySem.Spec PyProof.Rows
abbrev KOf {K : PySem.W.Frag} {h : Heap} (_ : K.In h) : PySem.W.Frag := K
end L2
/- THE LAST THEOREM (shape; LID, My.* are yours):
   My.Adr: a structure of the addresses that your layer names (classes, functions); My.Txt K t: a structure (Prop) of the equations over K;
   My.txt_mk : {K} {implicit addresses ..} (e1 : nsIn K mainGlobals "law" = some (some (.ref f))) (e2 : K.lookup f = some ⟨oc, od, .func (fnOf "law" "law" params body scope dV kV doc pm an cdv ct), sl⟩) (e3 : codeIn K cdv "law" = true) .. : ∃ t, My.Txt K t
set_option maxRecDepth 100000 in
set_option maxHeartbeats 0 in
theorem PySem.Challenge.cw_LID_holds : PySem.Challenge.rw_LID.Holds := by
  w_on; o_law; k_head; (case hw => w_witness2)
  k_fill
  refine L2.walk_of (l := PySem.Challenge.rw_LID) (n := 63) (k := 40) (x := "script") (CX := fun w => ..) (sp := fun _ => My.sp_law) rfl (by decide) rfl ⟨rfl, by decide, by decide⟩ (fun w h Y => PySem.W.kIn_of Y) ?F ?S ?C
  case F =>
    intro w mg fa h KX G hmg
    have T : ∃ t, My.Txt (L2.KOf KX) t := by
      dsimp only [L2.KOf]                          -- K must stand as «<heap const> w.params» for k_is
      refine' My.txt_mk ?e1 ?e2 ?e3 ..
      (case e1 => PySem.W.k_is)                    -- in the order: a name -> its address -> its object -> its parts
      (case e2 => PySem.W.k_is)
      ..
    obtain ⟨t, T⟩ := T
    have e0 := hmg.symm.trans (PySem.W.mg_of KX G T.law)
    cases e0                                       -- fa is the law's own address
    exact ⟨_, fun s u => .of_eq rfl, fun base kb nb => My.law_fn T kb nb⟩     -- if «.of_eq rfl» comes too early: refine' ⟨_, ?b, fun base kb nb => My.law_fn T kb nb⟩; exact fun s u => .of_eq rfl
  case S => exact fun w H a ns hl hO hS => ..
  case C => exact ..
(the tactic k_is has no namespace: write k_is) -/
namespace L2
open PySem PySem.Spec PyProof.Rows
def inClass (s : Stmt) (j : Nat) : Stmt := match s with
  | .ClassDef _ _ _ body _ _ _ _ _ _ _ => body.getD j (.Pass ⟨0, 0, 0, 0⟩)
  | _ => .Pass ⟨0, 0, 0, 0⟩
def defArgs (s : Stmt) : Arguments := match s with
  | .FunctionDef _ a _ _ _ _ _ _ _ _ => a
  | _ => { posonlyargs := [], args := [], vararg := none, kwonlyargs := [], kw_defaults := [], kwarg := none, defaults := [] }
def defBody (s : Stmt) : List Stmt := match s with
  | .FunctionDef _ _ b _ _ _ _ _ _ _ => b
  | _ => []
def defScope (s : Stmt) : Scope := match s with
  | .FunctionDef _ _ _ _ _ _ sc _ _ _ => sc
  | _ => { kind := .function, names := [], isGenerator := false, isCoroutine := false }
abbrev CX0 : CXT := fun _ _ _ _ _ _ => False
abbrev E0 : XK := fun _ _ _ => False
structure Fun (K : PySem.W.Frag) (x qual : Str) (st : Stmt) (f : Addr) (fd : FuncData) : Prop where
  ex : ∃ (oc : Value) (od : Option Addr) (kV doc pm : Value) (an : Option Addr) (cdv ct : Value) (osl : Array (Option Value)),
    fd = PySem.W.fnOf x qual (defArgs st) (defBody st) (defScope st) .none kV doc pm an cdv ct ∧ K.lookup f = some ⟨oc, od, .func fd, osl⟩ ∧ PySem.W.codeIn K cdv qual = true
  kp : PySem.W.keepIn K (.ref f) = true
section
variable {P : Program} {w : World} {K : PySem.W.Frag} {mg : Str → Option Value} {base : Heap}
theorem Fun.binds {x qual : Str} {st : Stmt} {f : Addr} {fd : FuncData} {ps : List Str} (F : Fun K x qual st f fd)
    (h : ∀ (kV doc pm : Value) (an : Option Addr) (cdv ct : Value) (us : List Value), us.length = ps.length → bindArgs (PySem.W.fnOf x qual (defArgs st) (defBody st) (defScope st) .none kV doc pm an cdv ct) ⟨us, []⟩ = pure (ps.zip us)) : Binds K fd ps [] := by
  obtain ⟨oc, od, kV, doc, pm, an, cdv, ct, osl, rfl, lk, hcd⟩ := F.ex
  exact .all (h kV doc pm an cdv ct)
theorem fun_mk {x qual : Str} {st : Stmt} {f : Addr} {oc : Value} {od an : Option Addr} {osl : Array (Option Value)} {kV doc pm cdv ct : Value} (l : K.lookup f = some ⟨oc, od, .func (PySem.W.fnOf x qual (defArgs st) (defBody st) (defScope st) .none kV doc pm an cdv ct), osl⟩)
    (c : PySem.W.codeIn K cdv qual = true) (k : PySem.W.keepIn K (.ref f) = true) : Fun K x qual st f (PySem.W.fnOf x qual (defArgs st) (defBody st) (defScope st) .none kV doc pm an cdv ct) := ⟨⟨oc, od, kV, doc, pm, an, cdv, ct, osl, rfl, l, c⟩, k⟩
end
theorem small1000 {n : Nat} (h : n ≤ 1000) : n < sizeLine := Nat.lt_of_le_of_lt h (by decide)
section
variable {X : Cx}
end
def Same (H H' : Hp) : Prop := ∀ b o, H b = some o → H' b = some o
theorem Same.refl (H : Hp) : Same H H := fun _ _ h => h
theorem Same.trans {H H1 H2 : Hp} (a : Same H H1) (b : Same H1 H2) : Same H H2 := fun c o h => b c o (a c o h)
theorem Same.free {H H' : Hp} (e : Same H H') {l : Addr} (h : H' l = Option.none) : H l = Option.none := by
  cases q : H l with
  | none => rfl
  | some o =>
    rw [e l o q] at h
    cases h
theorem Same.seq {K : PySem.W.Frag} {H H' : Hp} {a : Addr} {xs : List V} (e : Same H H') (h : SqL K H a xs) : SqL K H' a xs := by
  rcases h with (h | ⟨o, h⟩) | h
  · exact .inl (.inl (e _ _ h))
  · exact .inl (.inr ⟨o, e _ _ h⟩)
  · exact .inr h
end L2
namespace L2
open PySem
theorem closure_go {env : Env} : ∀ (names : List (Str × NameKind)) (cs : List (Str × Addr)), (∀ y ∈ names, y.2 = .free → ∃ c, env.cells.lookup y.1 = some c) → (∀ x c, cs.lookup x = some c → env.cells.lookup x = some c) →
    ∃ cl, (do
      let mut cs := cs
      for (name, kind) in names do
        if kind == .free then cs := (name, ← cellOf env name) :: cs
      return cs : Sem (List (Str × Addr))) = pure cl ∧ (∀ x c, cl.lookup x = some c → env.cells.lookup x = some c) ∧ (∀ y ∈ names, y.2 = .free → (cl.lookup y.1).isSome = true) ∧ ∀ x, (cs.lookup x).isSome = true → (cl.lookup x).isSome = true := by
  intro names
  induction names with
  | nil => intro cs _ h; exact ⟨cs, rfl, h, fun y hy => (nomatch hy), fun _ h => h⟩
  | cons y r ih =>
    intro cs hf hc
    obtain ⟨n, k⟩ := y
    have hr : ∀ y ∈ r, y.2 = .free → ∃ c, env.cells.lookup y.1 = some c := fun y hy => hf y (List.mem_cons_of_mem _ hy)
    by_cases hk : k = .free
    · obtain ⟨c, e⟩ := hf (n, k) List.mem_cons_self hk
      have e' : env.cells.lookup n = some c := e
      have hc' : ∀ x c', List.lookup x ((n, c) :: cs) = some c' → env.cells.lookup x = some c' := fun x c' q => by
        rw [List.lookup_cons] at q
        cases hx : x == n with
        | true =>
          rw [hx] at q
          obtain rfl : c = c' := Option.some.inj q
          rw [eq_of_beq hx]; exact e'
        | false => rw [hx] at q; exact hc x c' q
      obtain ⟨cl, h1, h2, h3, h4⟩ := ih ((n, c) :: cs) hr hc'
      refine ⟨cl, ?_, h2, fun y hy hyf => ?_, fun x hx => ?_⟩
      · rw [← h1]
        simp only [List.forIn_cons]
        subst hk
        have ec : cellOf env n = pure c := by unfold cellOf; rw [e']
        simp only [beq_self_eq_true, if_true, ec]
        rfl
      · rcases List.mem_cons.mp hy with rfl | hy
        · refine h4 n ?_
          rw [List.lookup_cons, beq_self_eq_true]; rfl
        · exact h3 y hy hyf
      · refine h4 x ?_
        rw [List.lookup_cons]
        cases x == n with
        | true => rfl
        | false => exact hx
    · obtain ⟨cl, h1, h2, h3, h4⟩ := ih cs hr hc
      refine ⟨cl, ?_, h2, fun y hy hyf => ?_, h4⟩
      · rw [← h1]
        simp only [List.forIn_cons]
        have : (k == NameKind.free) = false := by simpa using hk
        simp only [this, Bool.false_eq_true, if_false]
        rfl
      · rcases List.mem_cons.mp hy with rfl | hy
        · exact absurd hyf hk
        · exact h3 y hy hyf
theorem closure_ok {env : Env} {scope : Scope} (hf : ∀ y ∈ scope.names, y.2 = .free → ∃ c, env.cells.lookup y.1 = some c) :
    ∃ cl, closureFor scope env = pure cl ∧ (∀ x c, cl.lookup x = some c → env.cells.lookup x = some c) ∧ (∀ y ∈ scope.names, y.2 = .free → (cl.lookup y.1).isSome = true) := by
  obtain ⟨cl, h1, h2, h3, _⟩ := closure_go scope.names [] hf (fun x c q => by simp at q)
  exact ⟨cl, h1, h2, h3⟩
section
variable {prog : Program} {w : World} {A : Around} {R : Result → Shared → Prop} {s : Shared}
theorem compLoop_any {elt target iter : Expr} {ifs : List Expr} {scope : Scope} {pos : Pos} {it acc : Value} {env : Env} (I : Nat → Shared → Prop)
    (turn : ∀ n s, I n s → wpAny (model prog w) A (pyNext it) (fun r s₁ => match r with
      | none => R (.ok .next) s₁
      | some v => wpAny (model prog w) A (letOwnedTupleGo target it v) (fun _ s₂ => wpAny (model prog w) A (assign target env v) (fun _ s₃ =>
          wpAny (model prog w) A (forIn ifs true fun c r => if r = true then do let ok ← isTrue c env (eval c env); pure (ForInStep.yield ok) else pure (ForInStep.yield r)) (fun ok s₄ =>
            if ok = true then wpAny (model prog w) A (eval elt env) (fun x s₅ =>
              wpAny (model prog w) A (call (.builtin "list.append") [acc, x]) (fun _ s₆ => ∃ m, m < n ∧ I m s₆) (fun _ _ => False) s₅) (fun _ _ => False) s₄
            else ∃ m, m < n ∧ I m s₄) (fun _ _ => False) s₃) (fun _ _ => False) s₂) (fun _ _ => False) s₁) (fun _ _ => False) s)
    (n : Nat) (h : I n s) :
    codeAny (model prog w) A (.compLoop (.ListComp elt [⟨target, iter, ifs, 0⟩] scope pos) 0 it acc env) R s := by
  refine codeAny_loop rfl I (fun n s hI => ?_) n h
  show wpAny _ A ((compTurn (.ListComp elt [⟨target, iter, ifs, 0⟩] scope pos) 0 it acc env).onRaise (fun x => do noteFrame x env; theTreesLotGoes x)) _ _ s
  refine wpAny_noted ?_
  rw [compTurn_list]
  refine wpAny_bind (wpAny_standAt (wpAny_bind (wpAny_mono (turn n s hI) (fun r s₁ h₁ => ?_) fun _ _ h' => h'.elim)))
  cases r with
  | none => exact wpAny_pure h₁
  | some v =>
    refine wpAny_bind (wpAny_mono h₁ (fun _ s₂ h₂ => ?_) fun _ _ h' => h'.elim)
    refine wpAny_bind (wpAny_mono h₂ (fun _ s₃ h₃ => wpAny_bind (wpAny_mono h₃ (fun ok s₄ h₄ => ?_) fun _ _ h' => h'.elim)) fun _ _ h' => h'.elim)
    cases ok with
    | false => exact wpAny_pure ⟨rfl, h₄⟩
    | true =>
      exact wpAny_bind (wpAny_bind (wpAny_mono h₄ (fun x s₅ h₅ => wpAny_bind (wpAny_mono h₅ (fun _ s₆ h₆ => wpAny_pure (wpAny_pure ⟨rfl, h₆⟩)) fun _ _ h' => h'.elim)) fun _ _ h' => h'.elim))
end
end L2
namespace L2
open PySem PySem.Spec PyProof.Rows
def blk (X : Cx) (scope : Scope) (cl : List (Str × Addr)) (C : Addr) (NB : List Str) (s₂ : Shared) (H₂ : Hp) (ex : List Addr) (pl : List (Addr × Obj)) : Cx where
  prog := X.prog
  w := X.w
  K := X.K
  mg := X.mg
  base := X.base
  A := X.A
  N := NB
  s₀ := s₂
  H₀ := H₂
  env := compEnvC scope cl C X.env
  outer := X.stack
  stack := X.stack
  ex := ex
  fn := fun _ => false
  calm := X.calm
  pn := X.pn ++ pl
  xe := fun _ _ => False
def bσ (nl : Nat) (ix : List Nat) (σ : St) : St := List.replicate nl none ++ ix.map fun i => (σ[i]?).getD none
theorem bσ_len (nl : Nat) (ix : List Nat) (σ : St) : (bσ nl ix σ).length = nl + ix.length := by
  unfold bσ; rw [List.length_append, List.length_replicate, List.length_map]
theorem bσ_get {nl : Nat} {ix : List Nat} {σ : St} {j : Nat} {v : V} (h : (bσ nl ix σ)[j]? = some (some v)) : nl ≤ j ∧ ∃ i, ix[j - nl]? = some i ∧ σ[i]? = some (some v) := by
  unfold bσ at h
  by_cases hj : j < nl
  · rw [List.getElem?_append_left (by rw [List.length_replicate]; exact hj), List.getElem?_replicate, if_pos hj] at h
    cases h
  · rw [List.getElem?_append_right (by rw [List.length_replicate]; omega), List.length_replicate, List.getElem?_map] at h
    refine ⟨by omega, ?_⟩
    cases e : ix[j - nl]? with
    | none => rw [e] at h; cases h
    | some i =>
      rw [e] at h
      refine ⟨i, rfl, ?_⟩
      cases q : σ[i]? with
      | none => rw [Option.map_some, q] at h; cases h
      | some o =>
        rw [Option.map_some, q] at h
        exact h
def blkB (sc : Scope) (N : List Str) (scope : Scope) (lv fv : List Str) (ix : List Nat) : Bool :=
  scope.kind == .function && scope.names.all (fun y => y.2 != .cell) && scope.names.all (fun y => y.2 != .local || scope.names.lookup y.1 == some .local) &&
  scope.names.all (fun y => y.2 != .free || sc.names.lookup y.1 == some .cell || sc.names.lookup y.1 == some .free) && decide (lv ++ fv).Nodup &&
  fv.all (fun x => scope.names.any fun y => y.1 == x && y.2 == .free) && fv.all (fun x => scope.names.lookup x == some .free) && fv.length == ix.length && (fv.zip ix).all (fun p => N[p.2]? == some p.1)
structure BlkSc (sc : Scope) (N : List Str) (scope : Scope) (lv fv : List Str) (ix : List Nat) : Prop where
  kind : scope.kind = .function
  cell : ∀ y ∈ scope.names, y.2 ≠ .cell
  loc : ∀ y ∈ scope.names, y.2 = .local → scope.names.lookup y.1 = some .local
  free : ∀ y ∈ scope.names, y.2 = .free → sc.names.lookup y.1 = some .cell ∨ sc.names.lookup y.1 = some .free
  nd : (lv ++ fv).Nodup
  fvs : ∀ x ∈ fv, (x, NameKind.free) ∈ scope.names
  look : ∀ x ∈ fv, scope.names.lookup x = some .free
  len : fv.length = ix.length
  at_ : ∀ (j : Nat) (x : Str) (i : Nat), fv[j]? = some x → ix[j]? = some i → N[i]? = some x
theorem blkSc {sc : Scope} {N : List Str} {scope : Scope} {lv fv : List Str} {ix : List Nat} (h : blkB sc N scope lv fv ix = true) : BlkSc sc N scope lv fv ix := by
  unfold blkB at h
  simp only [Bool.and_eq_true, List.all_eq_true, decide_eq_true_eq] at h
  obtain ⟨⟨⟨⟨⟨⟨⟨⟨h1, h2⟩, h3⟩, h4⟩, h5⟩, h6⟩, h9⟩, h7⟩, h8⟩ := h
  refine ⟨eq_of_beq h1, fun y hy => by simpa using h2 y hy, fun y hy e => ?_, fun y hy e => ?_, h5, fun x hx => ?_, fun x hx => eq_of_beq (h9 x hx), eq_of_beq h7, fun j x i e1 e2 => ?_⟩
  · have := h3 y hy
    rw [e] at this
    simpa using this
  · have := h4 y hy
    rw [e] at this
    simpa using this
  · have := h6 x hx
    rw [List.any_eq_true] at this
    obtain ⟨y, hy, q⟩ := this
    rw [Bool.and_eq_true] at q
    obtain ⟨n, k⟩ := y
    have q1 : n = x := eq_of_beq q.1
    have q2 : k = NameKind.free := eq_of_beq q.2
    subst q1 q2
    exact hy
  · have hz : (fv.zip ix)[j]? = some (x, i) := by rw [List.getElem?_zip_eq_some]; exact ⟨e1, e2⟩
    exact eq_of_beq (h8 (x, i) (List.mem_of_getElem? hz))
theorem relabel_free {env : Env} {scope : Scope} (hc : ∀ y ∈ scope.names, y.2 ≠ .cell) {x : Str} (h : (relabel scope env).names.lookup x = some .cell ∨ (relabel scope env).names.lookup x = some .free) : (x, NameKind.free) ∈ scope.names := by
  have key : ∀ (names : List (Str × NameKind)) (k : NameKind), (∀ y ∈ names, y.2 ≠ .cell) → (k = .cell ∨ k = .free) →
      (names.map fun (n, k) => if (k == NameKind.free && env.scope.kind == .function && env.kindOf n == some .cell) then (n, NameKind.cell) else (n, k)).lookup x = some k → (x, NameKind.free) ∈ names := by
    intro names k hc hk
    induction names with
    | nil => intro q; simp at q
    | cons y r ih =>
      obtain ⟨n, k0⟩ := y
      intro q
      rw [List.map_cons] at q
      have hr : ∀ y ∈ r, y.2 ≠ .cell := fun y hy => hc y (List.mem_cons_of_mem _ hy)
      dsimp only at q
      by_cases hcond : (k0 == NameKind.free && env.scope.kind == .function && env.kindOf n == some .cell) = true
      · rw [if_pos hcond, List.lookup_cons] at q
        have hf : k0 = .free := by
          rw [Bool.and_eq_true, Bool.and_eq_true] at hcond
          exact eq_of_beq hcond.1.1
        cases hx : x == n with
        | true => rw [eq_of_beq hx, hf]; exact List.mem_cons_self
        | false => rw [hx] at q; exact List.mem_cons_of_mem _ (ih hr q)
      · rw [if_neg hcond, List.lookup_cons] at q
        cases hx : x == n with
        | true =>
          rw [hx] at q
          have e : k0 = k := Option.some.inj q
          rcases hk with hk | hk
          · exact absurd (e.trans hk) (hc (n, k0) List.mem_cons_self)
          · rw [eq_of_beq hx, e, hk]; exact List.mem_cons_self
        | false => rw [hx] at q; exact List.mem_cons_of_mem _ (ih hr q)
  rcases h with h | h
  · exact key scope.names .cell hc (.inl rfl) h
  · exact key scope.names .free hc (.inr rfl) h
theorem relabel_vis {env : Env} {scope : Scope} {x : Str} (h : (relabel scope env).names.lookup x = some .local ∨ (relabel scope env).names.lookup x = some .cell ∨ (relabel scope env).names.lookup x = some .free) (hf : (x, NameKind.free) ∈ scope.names)
    (hl : ∀ y ∈ scope.names, y.2 = .local → scope.names.lookup y.1 = some .local) (hn : scope.names.lookup x ≠ some .local) :
    (relabel scope env).names.lookup x = some .cell ∨ (relabel scope env).names.lookup x = some .free := by
  rcases h with h | h
  · exfalso
    have key : ∀ (names : List (Str × NameKind)), (names.map fun (n, k) => if (k == NameKind.free && env.scope.kind == .function && env.kindOf n == some .cell) then (n, NameKind.cell) else (n, k)).lookup x = some .local → names.lookup x = some .local := by
      intro names
      induction names with
      | nil => intro q; simp at q
      | cons y r ih =>
        obtain ⟨n, k0⟩ := y
        intro q
        rw [List.map_cons] at q
        dsimp only at q
        rw [List.lookup_cons]
        by_cases hcond : (k0 == NameKind.free && env.scope.kind == .function && env.kindOf n == some .cell) = true
        · rw [if_pos hcond, List.lookup_cons] at q
          cases hx : x == n with
          | true => rw [hx] at q; cases q
          | false => rw [hx] at q; exact ih q
        · rw [if_neg hcond, List.lookup_cons] at q
          cases hx : x == n with
          | true => rw [hx] at q; exact q
          | false => rw [hx] at q; exact ih q
    exact hn (key scope.names h)
  · exact h
def Kp (nl : Nat) (σ σ2 : St) : Prop := σ2.length = σ.length ∧ ∀ j, nl ≤ j → σ2[j]? = σ[j]?
theorem Kp.refl {nl : Nat} (σ : St) : Kp nl σ σ := ⟨rfl, fun _ _ => rfl⟩
theorem Kp.trans {nl : Nat} {a b c : St} (h1 : Kp nl a b) (h2 : Kp nl b c) : Kp nl a c := ⟨h2.1.trans h1.1, fun j hj => (h2.2 j hj).trans (h1.2 j hj)⟩
def GK (nl : Nat) (g : TG) : Prop := ∀ x σ H (Q Q' : St → Hp → Prop), (∀ σ2 H2, Kp nl σ σ2 → Q σ2 H2 → Q' σ2 H2) → g x σ H Q → g x σ H Q'
def GsK (nl : Nat) (g : TGs) : Prop := ∀ xs σ H (Q Q' : St → Hp → Prop), (∀ σ2 H2, Kp nl σ σ2 → Q σ2 H2 → Q' σ2 H2) → g xs σ H Q → g xs σ H Q'
theorem gk_name {nl i : Nat} (h : i < nl) : GK nl (gName i) := fun x σ H Q Q' f q => f _ _ ⟨List.length_set .., fun j hj => List.getElem?_set_ne (by omega)⟩ q
theorem gsk_nil {nl : Nat} : GsK nl gNil := fun xs σ H Q Q' f q => ⟨q.1, f _ _ (.refl σ) q.2⟩
theorem gsk_cons {nl : Nat} {t : TG} {u : TGs} (h1 : GK nl t) (h2 : GsK nl u) : GsK nl (gCons t u) := fun xs σ H Q Q' f ⟨v, r, e, q⟩ =>
  ⟨v, r, e, h1 v σ H _ _ (fun σ1 H1 k1 q1 => h2 r σ1 H1 _ _ (fun σ2 H2 k2 q2 => f σ2 H2 (k1.trans k2) q2) q1) q⟩
theorem gk_tup {nl n : Nat} {K : PySem.W.Frag} {t : TGs} (h : GsK nl t) : GK nl (gTup K n t) := fun x σ H Q Q' f ⟨a, xs, e, h1, h2, q⟩ => ⟨a, xs, e, h1, h2, h xs σ H _ _ f q⟩
def PTs (X : Cx) (ifs : List Expr) (t : TT) : Prop :=
  ∀ (pins : List (Addr × Obj)) (s : Shared) (σ : St) (H : Hp) (Q : Bool → Hp → Prop), Inv X pins σ H s → t σ H Q →
    wpAny (model X.prog X.w) X.A (forIn ifs true fun c r => if r = true then do let ok ← isTrue c X.env (eval c X.env); pure (ForInStep.yield ok) else pure (ForInStep.yield r)) (TP X pins σ Q) X.xe s
theorem pts_nil {X : Cx} : PTs X [] (fun _ H Q => Q true H) := fun pins s σ H Q I h => wpAny_tests_nil ⟨H, I, h⟩
def cLoop (nl : Nat) (ix : List Nat) (g : TG) (tt : TT) (te : TE) (σ : St) (Q : VK) (J : It) (H1 : Hp) : Prop :=
  ∃ W : Nat → Nat → List V → Hp → Prop, (∃ m, W 0 m [] H1) ∧ ∀ i m ys H, W i m ys H →
    (J.stop i H ∧ ∀ l, H l = none → Q (.ref l) (upd H l (.lst ys))) ∨
    (J.go i H ∧ ys.length < sizeLine ∧ ∀ x H', J.yld i H x H' → g x (bσ nl ix σ) H' fun σ2 H2 => tt σ2 H2 fun b H3 =>
      if b = true then te σ2 H3 fun y H4 => ∃ m', m' < m ∧ W (i + 1) m' (ys ++ [y]) H4 else ∃ m', m' < m ∧ W (i + 1) m' ys H3)
def tComp (wi : TI) (nl : Nat) (ix : List Nat) (g : TG) (tt : TT) (te : TE) : TE := fun σ H Q => wi σ H (cLoop nl ix g tt te σ Q)
section
variable {X : Cx} {target iter elt : Expr} {ifs : List Expr} {scope sc : Scope} {pos : Pos} {N lv fv : List Str} {ix : List Nat} {g : TG} {tt : TT} {te : TE}
theorem comp_core {RR : Value → Addr → Result → Shared → Prop} {E : Value → Shared → Prop} {pins : List (Addr × Obj)} {σ : St} {H₂ : Hp} {s₂ : Shared} {it : Addr} {fp : List Addr} {tn : Nat → Heap → Prop} {J : It} {Q : VK} {cl : List (Str × Addr)}
    (hc : X.calm = true) (hsc : X.env.scope = sc) (hN : X.N = N) (S : BlkSc sc N scope lv fv ix) (I2 : Inv X pins σ H₂ s₂) (T : Turn X.prog X.w X.K target J fp it tn) (st0 : tn 0 s₂.heap) (hfp : ∀ b ∈ fp, FpOk X pins H₂ b)
    (c1 : ∀ x c, cl.lookup x = some c → X.env.cells.lookup x = some c) (c2 : ∀ y ∈ scope.names, y.2 = .free → (cl.lookup y.1).isSome = true)
    (hg : ∀ C s₂ H₂ ex pl, PG (blk X scope cl C (lv ++ fv) s₂ H₂ ex pl) target g) (hgk : GK lv.length g)
    (ht : ∀ C s₂ H₂ ex pl, PTs (blk X scope cl C (lv ++ fv) s₂ H₂ ex pl) ifs tt) (he : ∀ C s₂ H₂ ex pl, PE (blk X scope cl C (lv ++ fv) s₂ H₂ ex pl) elt te)
    (hW : cLoop lv.length ix g tt te σ Q J H₂)
    (hRR : ∀ D C s' m ys H', s'.heap.Ns C m → Inv X pins σ (upd H' D (.lst ys)) s' → FpOk X pins (upd H' D (.lst ys)) C → Q (.ref D) (upd H' D (.lst ys)) → RR (.ref D) C (.ok .next) s') :
    wpAny (model X.prog X.w) X.A (newList []) (fun acc s₃ => wpAny (model X.prog X.w) X.A (newFunctionEnv scope X.env.globals cl [] X.env.qual none .none (some X.env)) (fun cenv s₄ =>
      codeAny (model X.prog X.w) X.A (.compStart (.ListComp elt [⟨target, iter, ifs, 0⟩] scope pos) 0 (.ref it) acc { cenv with scope := relabel scope X.env }) (RR acc cenv.locals) s₄) E s₃) E s₂ := by
  obtain ⟨W, ⟨m0, w0⟩, turn⟩ := hW
  refine wpAny_newObj_type (wpAny_newFunctionEnv S.cell (by intro y hy; simp at hy) (fun h₁ hns₁ hsb₁ => ?_) S.kind)
  dsimp only at hns₁ hsb₁ ⊢
  generalize hG2 : s₂.heap.push { cls := .type "list", dict := none, data := .seq ([] : List Value).toArray } = G2 at hns₁ hsb₁ ⊢
  have hC : G2.objs.size = s₂.heap.objs.size + 1 := by rw [← hG2, Heap.size_push]
  have hDC : s₂.heap.objs.size ≠ G2.objs.size := by rw [hC]; exact Nat.ne_of_lt (Nat.lt_succ_self _)
  have hCle : s₂.heap.objs.size ≤ G2.objs.size := by rw [hC]; exact Nat.le_succ _
  have hneD : ∀ b o, s₂.heap.get? b = some o → b ≠ s₂.heap.objs.size := fun b o e => Nat.ne_of_lt (Heap.lt_size e)
  have hneC : ∀ b o, s₂.heap.get? b = some o → b ≠ G2.objs.size := fun b o e => Nat.ne_of_lt (Nat.lt_of_lt_of_le (Heap.lt_size e) hCle)
  have old : ∀ b o, s₂.heap.get? b = some o → h₁.get? b = some o := fun b o e => hsb₁.extBut b o (hneC b o e) (Heap.get?_push_of_some _ (hG2 ▸ Heap.get?_push_of_some _ e))
  have hacc : h₁.get? s₂.heap.objs.size = some { cls := .type "list", data := .seq ([] : List Value).toArray } := hsb₁.extBut _ _ hDC (Heap.get?_push_of_some _ (hG2 ▸ Heap.get?_push_size _ rfl))
  have fpo : ∀ b ∈ fp, ∃ o, s₂.heap.get? b = some o ∧ ∀ v, o.data ≠ .cell v := T.obj 0 _ st0
  have HD : H₂ s₂.heap.objs.size = none := I2.hok.fresh (Nat.le_refl _)
  have cellLt : ∀ x c, cl.lookup x = some c → c < s₂.heap.objs.size := fun x c e => by
    obtain ⟨v, q⟩ := I2.cell x c (c1 x c e)
    exact q.lt
  have frLt : ∀ b ∈ frs X.stack, b < s₂.heap.objs.size := fun b hb => by
    obtain ⟨_, o, ho, _⟩ := I2.stack.mem hb
    exact Heap.lt_size ho
  have okB : ∀ ex, ex = s₂.heap.objs.size :: fp → (blk X scope cl G2.objs.size (lv ++ fv) s₂ H₂ ex pins).Ok := by
    rintro ex rfl
    refine ⟨I2.ok.mod, S.kind, I2.ok.glob, I2.ok.blt, hCle, fun x y c e1 e2 => I2.ok.inj x y c (c1 x c e1) (c1 y c e2), fun x hx => ?_, fun x c e => (nomatch e), I2.ok.hd, I2.ok.frames, .inl rfl, fun b hb => ?_, I2.bs, Nat.le_trans I2.ok.bsz I2.sz, fun b o e hb => ?_, fun b hb hfr => ?_, I2.stack, I2.stkFree⟩
    · have hm := relabel_free (env := X.env) S.cell hx
      have := c2 _ hm rfl
      cases q : cl.lookup x with
      | none => rw [show ((x, NameKind.free) : Str × NameKind).1 = x from rfl, q] at this; cases this
      | some c => exact ⟨c, q⟩
    · rcases List.mem_cons.mp hb with rfl | hb
      · exact ⟨hDC, fun x c e => Nat.ne_of_lt (cellLt x c e)⟩
      · obtain ⟨o, e, _⟩ := fpo b hb
        exact ⟨hneC b o e, fun x c e => (hfp b hb).2.2.2.2.1 x c (c1 x c e)⟩
    · rcases List.mem_cons.mp hb with rfl | hb
      · exact absurd (Heap.lt_size (I2.bs _ o e).1) (Nat.lt_irrefl _)
      · rcases (hfp b hb).2.2.2.1 with z | z
        · exact I2.ok.noex b o e z
        · exact absurd (Nat.lt_of_lt_of_le (Heap.lt_size e) (Nat.le_trans I2.ok.bsz z)) (Nat.lt_irrefl _)
    · rcases List.mem_cons.mp hb with rfl | hb
      · exact absurd (frLt _ hfr) (Nat.lt_irrefl _)
      · rcases List.mem_cons.mp (I2.stkSub b hfr) with z | z
        · exact (hfp b hb).2.1 z
        · exact (hfp b hb).2.2.1 z
  have IB : ∀ tk, Inv (blk X scope cl G2.objs.size (lv ++ fv) s₂ H₂ (s₂.heap.objs.size :: fp) pins) [(s₂.heap.objs.size, { cls := .type "list", data := .seq ([] : List Value).toArray })] (bσ lv.length ix σ) H₂ { s₂ with heap := h₁, toks := tk } := by
    intro tk
    refine ⟨okB _ rfl, rfl, I2.bare, Un.kept old, ⟨_, hns₁, fun j x v e1 e2 e3 => ?_⟩, fun x c e => ?_, I2.hok.fresh hCle, fun x c e => I2.freeC x c (c1 x c e), fun p hp => ?_, I2.hok.kept old, ?_⟩
    · obtain ⟨hj, i, ei, ev⟩ := bσ_get e2
      have ex : fv[j - lv.length]? = some x := by
        have e1' : (lv ++ fv)[j]? = some x := e1
        rw [List.getElem?_append_right hj] at e1'
        exact e1'
      have hNi : X.N[i]? = some x := by rw [hN]; exact S.at_ _ _ _ ex ei
      have hxf : x ∈ fv := List.mem_of_getElem? ex
      have hmem := S.fvs x hxf
      have hkind := S.free _ hmem rfl
      have hvX : Vis X.env.scope x := by rw [hsc]; exact .inr hkind
      obtain ⟨m, _, hl⟩ := id I2.loc
      obtain ⟨u, ru, lk⟩ := hl i x v hNi ev hvX
      refine ⟨u, ru, ?_⟩
      have hkX : X.env.kindOf x = some .cell ∨ X.env.kindOf x = some .free := by
        show X.env.scope.names.lookup x = some .cell ∨ X.env.scope.names.lookup x = some .free
        rw [hsc]; exact hkind
      rcases lk with ⟨k, _⟩ | ⟨_, c, ec, hcell⟩
      · rcases hkX with q | q <;> (rw [k] at q; cases q)
      · have hnl : scope.names.lookup x ≠ some .local := by
          rw [S.look x hxf]
          exact fun q => (nomatch q)
        have := c2 _ hmem rfl
        cases q : cl.lookup x with
        | none => rw [show ((x, NameKind.free) : Str × NameKind).1 = x from rfl, q] at this; cases this
        | some c' =>
          have := c1 x c' q
          rw [ec] at this
          obtain rfl : c = c' := Option.some.inj this
          refine .inr ⟨relabel_vis e3 hmem S.loc hnl, c, q, ?_⟩
          obtain ⟨o, ho, hd⟩ := hcell
          exact ⟨o, old _ _ ho, hd⟩
    · obtain ⟨v, o, ho, hd⟩ := I2.cell x c (c1 x c e)
      exact ⟨v, o, old _ _ ho, hd⟩
    · rcases List.mem_append.mp hp with hp | hp
      · obtain ⟨e, n, ne, nf, d⟩ := I2.pin p hp
        refine ⟨old _ _ e, n, hneC _ _ e, fun z => ?_, d⟩
        rcases List.mem_cons.mp (I2.stkSub _ z) with z | z
        · exact ne z
        · exact nf z
      · obtain rfl : p = _ := List.mem_singleton.mp hp
        exact ⟨hacc, HD, hDC, fun z => absurd (frLt _ z) (Nat.lt_irrefl _), fun v z => (nomatch z)⟩
    · rw [bσ_len]
      show lv.length + ix.length = (lv ++ fv).length
      rw [List.length_append, S.len]
  have hDf : ∀ b ∈ fp, b ≠ s₂.heap.objs.size := fun b hb => by
    obtain ⟨o, e, _⟩ := fpo b hb
    exact hneD b o e
  have fpB : ∀ {H' : Hp} {od : Obj}, (∀ b ∈ fp, H' b = none) → ∀ b ∈ fp, FpOk (blk X scope cl G2.objs.size (lv ++ fv) s₂ H₂ (s₂.heap.objs.size :: fp) pins) [(s₂.heap.objs.size, od)] H' b := fun hn b hb => by
    obtain ⟨o, e, _⟩ := fpo b hb
    obtain ⟨_, f1, f2, f3, f4, f5⟩ := hfp b hb
    refine ⟨hn b hb, hneC b o e, fun z => ?_, .inl (List.mem_cons_of_mem _ hb), fun x c q => f4 x c (c1 x c q), fun p hp => ?_⟩
    · rcases List.mem_cons.mp (I2.stkSub _ z) with z | z
      · exact f1 z
      · exact f2 z
    · rcases List.mem_append.mp hp with hp | hp
      · exact f5 p hp
      · obtain rfl : p = _ := List.mem_singleton.mp hp
        exact (hDf b hb).symm
  have loop : ∀ s₃ : Shared, (∃ tk, s₃ = { s₂ with heap := h₁, toks := tk }) →
      codeAny (model X.prog X.w) X.A (.compLoop (.ListComp elt [⟨target, iter, ifs, 0⟩] scope pos) 0 (.ref it) (.ref s₂.heap.objs.size) (compEnvC scope cl G2.objs.size X.env))
        (RR (.ref s₂.heap.objs.size) G2.objs.size) s₃ := by
    rintro s₃ ⟨tk, rfl⟩
    refine compLoop_any (fun n s' => ∃ (i : Nat) (ys : List V) (H' : Hp) (its : List Value) (nn : Nat), Inv (blk X scope cl G2.objs.size (lv ++ fv) s₂ H₂ (s₂.heap.objs.size :: fp) pins) [(s₂.heap.objs.size, { cls := .type "list", data := .seq its.toArray nn })] (bσ lv.length ix σ) H' s' ∧
      tn i s'.heap ∧ (∀ b ∈ fp, H' b = none) ∧ Vals ys its ∧ ys.length ≤ sizeLine ∧ W i n ys H') ?_ m0
      ⟨0, [], H₂, [], 0, IB tk, T.keep _ _ _ st0 fun b _ o e => old b o e, fun b hb => (hfp b hb).1, .nil, Nat.zero_le _, w0⟩
    rintro n s3 ⟨i, ys, H3, its, nn, I3, st3, fr3, rv, hz, w3⟩
    rcases turn i n ys H3 w3 with ⟨stop, q⟩ | ⟨go, hlt, step⟩
    · refine wpAny_mono (T.done (blk X scope cl G2.objs.size (lv ++ fv) s₂ H₂ (s₂.heap.objs.size :: fp) pins) rfl rfl rfl hc i _ s3 _ H3 (fun _ _ => False) I3 (fpB fr3) st3 stop) (fun r s4 ⟨hr, I4⟩ => ?_) fun _ _ h => h
      subst hr
      obtain ⟨m4, hn4, _⟩ := id I4.loc
      obtain ⟨eD, nD, _⟩ := I4.pin (_, _) (List.mem_append_right _ (List.mem_singleton.mpr rfl))
      have nD' : H3 s₂.heap.objs.size = none := nD
      have hDb : ∀ b u, H₂ b = some u → b ≠ s₂.heap.objs.size := fun b u e => ne_of_none e HD
      have hex : ∀ b o, s₂.heap.get? b = some o → b ∉ fp → b ∉ s₂.heap.objs.size :: fp := fun b o e hx z => (List.mem_cons.mp z).elim (hneD b o e) hx
      have ub : Un (frs X.stack) (s₂.heap.objs.size :: fp) H₂ H3 s₂.heap s4.heap := I4.base
      have un : Un (frs X.stack) fp H₂ (upd H3 s₂.heap.objs.size (.lst ys)) s₂.heap s4.heap :=
        ⟨fun b o e nb hb hx => ub.keep b o e nb hb (hex b o e hx), fun b o e nb hb hx => ub.slot b o e nb hb (hex b o e hx), fun b o e nb hx => by rw [upd_ne (hneD b o e)]; exact ub.free b o e nb (hex b o e hx), fun b o e hx => ub.there b o e (hex b o e hx),
          fun b xs e => by rw [upd_ne (hDb b _ e)]; exact ub.tups b xs e, fun b o u e => by rw [upd_ne (hDb b _ e)]; exact ub.frzs b o u e, fun b ps e => by rw [upd_ne (hDb b _ e)]; exact ub.tbls b ps e⟩
      have hok : HOk X.prog X.w (upd H3 s₂.heap.objs.size (.lst ys)) s4.heap := fun a o e => by
        by_cases ha : a = s₂.heap.objs.size
        · subst ha
          rw [upd_same] at e; cases e
          exact ⟨hz, its, nn, rv, eD⟩
        · rw [upd_ne ha] at e
          exact (I4.hok a o e).stay (fun _ _ _ q => q) (fun c q => by rw [upd_ne (ne_of_none q nD')]; exact q) fun c xs q => by rw [upd_ne (ne_of_none q nD')]; exact q
      have IX : Inv X pins σ (upd H3 s₂.heap.objs.size (.lst ys)) s4 := I2.call' (ch := fp) I4.os un hok I4.bare fun b hb => ⟨(hfp b hb).2.2.2.1, (hfp b hb).2.1, (hfp b hb).2.2.2.2.1, (hfp b hb).2.2.2.2.2⟩
      exact hRR _ _ s4 m4 ys H3 hn4 IX (I2.fpOk hCle (by rw [upd_ne (Ne.symm hDC)]; exact I4.free)) (q _ nD')
    · refine wpAny_mono (T.item (blk X scope cl G2.objs.size (lv ++ fv) s₂ H₂ (s₂.heap.objs.size :: fp) pins) rfl rfl rfl hc i _ s3 _ H3 (fun _ _ => False) I3 (fpB fr3) st3 go) (fun r s4 ⟨u, hr, h4⟩ => ?_) fun _ _ h => h
      subst hr
      refine thn h4 fun _ s5 ⟨x, H5, I5, r5, y5, st5, fr5⟩ => ?_
      have I5' := I5.pinned (fpB fr5) (T.obj _ _ st5)
      refine thn (hg _ _ _ _ _ _ s5 _ H5 x u _ I5' r5 (hgk x _ _ _ (fun σ2 H2 => Kp lv.length (bσ lv.length ix σ) σ2 ∧ _) (fun σ2 H2 k q => ⟨k, q⟩) (step x H5 y5))) fun _ s6 ⟨σ6, H6, I6, k6, q6⟩ => ?_
      refine thn (ht _ _ _ _ _ _ s6 σ6 H6 _ I6 q6) fun ok s7 ⟨H7, I7, q7⟩ => ?_
      have again : ∀ {s8 : Shared} {H8 : Hp} {its' : List Value} {n' m' : Nat} {zs : List V}, Inv (blk X scope cl G2.objs.size (lv ++ fv) s₂ H₂ (s₂.heap.objs.size :: fp) pins) (pinsAt fp s5.heap) σ6 H8 s8 → s8.heap.get? s₂.heap.objs.size = some { cls := .type "list", data := .seq its'.toArray n' } →
          H8 s₂.heap.objs.size = none → Vals zs its' → zs.length ≤ sizeLine → W (i + 1) m' zs H8 → ∃ (i : Nat) (ys : List V) (H' : Hp) (its : List Value) (nn : Nat), Inv (blk X scope cl G2.objs.size (lv ++ fv) s₂ H₂ (s₂.heap.objs.size :: fp) pins) [(s₂.heap.objs.size, { cls := .type "list", data := .seq its.toArray nn })] (bσ lv.length ix σ) H' s8 ∧
          tn i s8.heap ∧ (∀ b ∈ fp, H' b = none) ∧ Vals ys its ∧ ys.length ≤ sizeLine ∧ W i m' ys H' := fun {s8 H8 its' n' m' zs} I8 e8 n8 v8 z8 w8 => by
        refine ⟨i + 1, zs, H8, its', n', ?_, T.keep _ _ _ st5 fun b hb o e => (I8.pin (b, o) (List.mem_append_right _ (mem_pinsAt hb e))).1, fun b hb => ?_, v8, z8, w8⟩
        · refine (I8.weak (by rw [k6.1]) fun j v e => ?_).pins_of fun p hp => ?_
          · obtain ⟨hj, _⟩ := bσ_get e
            rw [k6.2 j hj]; exact e
          · obtain rfl : p = _ := List.mem_singleton.mp hp
            exact ⟨e8, n8, hDC, fun z => absurd (frLt _ z) (Nat.lt_irrefl _), fun v z => (nomatch z)⟩
        · obtain ⟨o, e, d⟩ := T.obj _ _ st5 b hb
          exact (I8.pin (b, o) (List.mem_append_right _ (mem_pinsAt hb e))).2.1
      cases ok with
      | false =>
        rw [if_neg Bool.false_ne_true] at q7 ⊢
        obtain ⟨m', hm, w7⟩ := q7
        obtain ⟨eD, nD, _⟩ := I7.pin (_, _) (List.mem_append_right _ (List.mem_append_left _ (List.mem_singleton.mpr rfl)))
        exact ⟨m', hm, again (I7.pins_of fun p hp => I7.pin p (List.mem_append_right _ (List.mem_append_right _ hp))) eD nD rv hz w7⟩
      | true =>
        rw [if_pos rfl] at q7 ⊢
        refine thn (he _ _ _ _ _ _ s7 σ6 H7 _ I7 q7) fun v s8 ⟨y, H8, I8, r8, m', hm, w8⟩ => ?_
        obtain ⟨eD, nD, _⟩ := I8.pin (_, _) (List.mem_append_right _ (List.mem_append_left _ (List.mem_singleton.mpr rfl)))
        have hl := rv.length
        refine call_meets F.slot_list_append ⟨_, eD, rfl⟩ F.entry_list_append (F.args_list_append_2 _ _) (PySem.list_append s₂.heap.objs.size its.toArray nn v (by rw [List.size_toArray]; omega)) ⟨eD, ?_⟩
        have q8 := PySem.IsL.update eD (·.push v)
        have I8' := (I8.pins_of (pins' := pinsAt fp s5.heap) fun p hp => I8.pin p (List.mem_append_right _ (List.mem_append_right _ hp))).turned (t' := s8.toks) (it := s₂.heap.objs.size) (h' := s8.heap.update s₂.heap.objs.size (Obj.mapSeq (·.push v)))
          (fun b o hb e => (Heap.get?_update_other s8.heap _ (Ne.symm hb)).trans e) nD hDC (.inl List.mem_cons_self) (fun x c e => Nat.ne_of_lt (cellLt x c e)) fun p hp => ?_
        · refine ⟨m', hm, again (its' := its ++ [v]) (n' := nn + 1) I8' (by rw [q8]; simp) nD (rv.append (.cons r8 .nil)) ?_ w8⟩
          rw [List.length_append, List.length_singleton]; omega
        · rcases List.mem_append.mp hp with hp | hp
          · rcases List.mem_append.mp hp with hp | hp
            · exact hneD _ _ (I2.pin p (List.mem_append_left _ hp)).1
            · exact hneD _ _ (I2.pin p (List.mem_append_right _ hp)).1
          · exact hDf _ (of_pinsAt hp).1
  exact codeAny_compStart_list (loop _ ⟨_, rfl⟩) (T.self _ 0 _ _ _ (T.keep _ _ _ st0 fun b _ o e => old b o e) (loop _ ⟨_, rfl⟩))
theorem clos_of {pins : List (Addr × Obj)} {σ : St} {H : Hp} {s : Shared} (I : Inv X pins σ H s) (hsc : X.env.scope = sc) (S : BlkSc sc N scope lv fv ix) :
    ∃ cl, closureFor scope X.env = pure cl ∧ (∀ x c, cl.lookup x = some c → X.env.cells.lookup x = some c) ∧ (∀ y ∈ scope.names, y.2 = .free → (cl.lookup y.1).isSome = true) := by
  refine closure_ok fun y hy hf => I.ok.has y.1 ?_
  show X.env.scope.names.lookup y.1 = some .cell ∨ X.env.scope.names.lookup y.1 = some .free
  rw [hsc]
  exact S.free y hy hf
theorem pe_comp {wi : TI} (hc : X.calm = true) (hsc : X.env.scope = sc) (hN : X.N = N) (S : BlkSc sc N scope lv fv ix) (hi : PI X target iter wi)
    (hg : ∀ cl C s₂ H₂ ex pl, PG (blk X scope cl C (lv ++ fv) s₂ H₂ ex pl) target g) (hgk : GK lv.length g)
    (ht : ∀ cl C s₂ H₂ ex pl, PTs (blk X scope cl C (lv ++ fv) s₂ H₂ ex pl) ifs tt) (he : ∀ cl C s₂ H₂ ex pl, PE (blk X scope cl C (lv ++ fv) s₂ H₂ ex pl) elt te)
    (hs : ∀ x, foldedSetIterable iter X.env x = pure x := by intro _; rfl) : PE X (.ListComp elt [⟨target, iter, ifs, 0⟩] scope pos) (tComp wi lv.length ix g tt te) := by
  intro pins s σ H Q I h
  obtain ⟨cl, k1, k2, k3⟩ := clos_of I hsc S
  rw [eval_ListComp]
  refine wpAny_comprehension_free (use := none) rfl hs k1 S.kind S.loc (thn (hi pins s σ H _ I h) fun v s1 h1 => thn h1 fun itv s2 h2 => ?_)
  obtain ⟨it, fp, tn, J, H2, e, I2, T, st2, f2, hW⟩ := h2
  subst e
  refine comp_core (RR := fun acc C => compPost (model X.prog X.w) X.A X.xe none (EP X pins σ Q) acc C) hc hsc hN S I2 T st2 f2 k2 k3 (hg cl) hgk (ht cl) (he cl) hW ?_
  intro D C s' m ys H' hn IX f q
  refine ⟨m, hn, fun h' hs' => ⟨.ref D, _, IX.turned (t' := s'.toks) (fun b o hb e => (hs'.2 b hb).trans e) f.1 f.2.1 f.2.2.2.1 f.2.2.2.2.1 f.2.2.2.2.2, rfl, q⟩⟩
theorem ps_setC {wi : TI} {i : Nat} {y : Str} {py spos : Pos} (hNd : X.N.Nodup) (hiN : X.N[i]? = some y) (hx : Loc X.env.scope y) (hc : X.calm = true) (hsc : X.env.scope = sc) (hN : X.N = N) (S : BlkSc sc N scope lv fv ix) (hi : PI X target iter wi)
    (hg : ∀ cl C s₂ H₂ ex pl, PG (blk X scope cl C (lv ++ fv) s₂ H₂ ex pl) target g) (hgk : GK lv.length g)
    (ht : ∀ cl C s₂ H₂ ex pl, PTs (blk X scope cl C (lv ++ fv) s₂ H₂ ex pl) ifs tt) (he : ∀ cl C s₂ H₂ ex pl, PE (blk X scope cl C (lv ++ fv) s₂ H₂ ex pl) elt te)
    (hsw : swapsWith (.ListComp elt [⟨target, iter, ifs, 0⟩] scope pos) (some (.Name y py)) spos.line X.env = pure true := by rfl) (hs : ∀ x, foldedSetIterable iter X.env x = pure x := by intro _; rfl)
    (hf : X.fn y = true ∨ X.env.scope.names.lookup y = some .local := by first | exact .inl rfl | exact .inr rfl | assumption) :
    PS X (.Assign [.Name y py] (.ListComp elt [⟨target, iter, ifs, 0⟩] scope pos) spos) (tAsg (tComp wi lv.length ix g tt te) (gName i)) := by
  intro pins s σ H D I h
  obtain ⟨cl, k1, k2, k3⟩ := clos_of I hsc S
  rw [exec_Assign_Name_used _ _ _ _ hsw]
  refine wpAny_bind (wpAny_standAt (wpAny_bind ?_))
  show wpAny _ X.A (do let _ ← comprehension (.ListComp elt [⟨target, iter, ifs, 0⟩] scope pos) scope X.env _ (newList []) false (eval iter X.env) (some (assign (.Name y py) X.env))) _ _ s
  refine wpAny_bind (wpAny_mono (wpAny_comprehension_free (use := some (assign (.Name y py) X.env)) (Q := fun _ s' => SP X pins D .next s') rfl hs k1 S.kind S.loc
    (thn (hi pins s σ H _ I h) fun v s1 h1 => thn h1 fun itv s2 h2 => ?_)) (fun _ s' hq => wpAny_pure (wpAny_pure hq)) fun _ _ e => e)
  obtain ⟨it, fp, tn, J, H2, e, I2, T, st2, f2, hW⟩ := h2
  subst e
  refine comp_core (RR := fun acc C => compPost (model X.prog X.w) X.A X.xe (some (assign (.Name y py) X.env)) (fun _ s' => SP X pins D .next s') acc C) hc hsc hN S I2 T st2 f2 k2 k3 (hg cl) hgk (ht cl) (he cl) hW ?_
  intro D' C s' m ys H' hn IX f q
  show wpAny _ X.A (assign (.Name y py) X.env (.ref D')) _ _ _
  refine wpAny_assign_Name (store_ok2 IX hNd hiN hx (v := .ref D') rfl (fun s'' I'' ⟨a, ha, hb⟩ => ?_) hf)
  have haC : C ≠ a := by
    rcases hb with z | z
    · rw [z]; exact f.2.1
    · exact (f.2.2.2.2.1 y a z).symm
  refine ⟨m, hn.sameBut ha haC, fun h' hs' => ⟨_, _, I''.turned (t' := s''.toks) (fun b o hb e => (hs'.2 b hb).trans e) f.1 f.2.1 f.2.2.2.1 f.2.2.2.2.1 f.2.2.2.2.2, q⟩⟩
def Nx (n i : Nat) (P : Prop) : Prop := ∃ m', m' < n - i ∧ m' = n - (i + 1) ∧ i + 1 ≤ n ∧ P
end
def Def (P : Program) (w : World) (K : PySem.W.Frag) (mg : Str → Option Value) (base : Heap) (x : Str) (ps : List Str) (k : Nat) (sp : Sp) : Prop :=
  ∃ f fd, FnOk P w K mg base CX0 k f fd ps sp ∧ Binds K fd ps [] ∧ PySem.W.keepIn K (.ref f) = true ∧ mg x = some (.ref f)
theorem pe_constI {X : Cx} {x : Str} {i : Int} {pos : Pos} (hm : ∃ t, X.mg x = some (.int i t)) (hg : Gl X x := by rfl) (hd : (x == ("__debug__" : Str)) = false := by decide) : PE X (.Name x pos) (tC (.int i)) := by
  obtain ⟨t, e⟩ := hm
  exact pe_glob hg e ⟨t, rfl⟩ hd
theorem Same.tup {K : PySem.W.Frag} {H H' : Hp} {a : Addr} {xs : List V} (e : Same H H') (h : SqT K H a xs) : SqT K H' a xs := by
  rcases h with (h | ⟨o, h⟩) | h
  · exact .inl (.inl (e _ _ h))
  · exact .inl (.inr ⟨o, e _ _ h⟩)
  · exact .inr h
theorem same_new {H : Hp} {p : Addr} (h : H p = none) (o : HO) : Same H (upd H p o) := fun b u q => by rw [upd_ne (ne_of_none q h)]; exact q
end L2
namespace PySem
open Sem (wp)
section
variable {prog : Program} {w : World} {A : Around} {E : Value → Shared → Prop} {s : Shared}
theorem nextOf_tuple_item {it t : Addr} {i : Nat} {items} {x : Value} {Q : Value → Shared → Prop} (hit : s.heap.IsTupleIter it t i)
    (ht : s.heap.IsTuple t items) (hx : items[i]? = some x)
    (hQ : ∀ h', h'.IsTupleIter it t (i + 1) → Heap.SameBut it s.heap h' → Q x { s with heap := h' }) :
    wpAny (model prog w) A (Builtin.SmallTypes.nextOf (.ref it)) Q E s := by
  obtain ⟨o, ho, hc, hd⟩ := id hit
  obtain ⟨ol, hol, _, nl, hdl⟩ := ht
  unfold Builtin.SmallTypes.nextOf
  refine wpAny_bind (wpAny_callSpecial?_slot (name := Str.ofString "__next__") hit.typeIs F.slot_tuple_iterator_next
    (wpAny_call_entry F.slot_tuple_iterator_next hit.typeIs F.entry_tuple_iterator_next ?_ (F.args_tuple_iterator_next_1 _)))
  show wpAny _ _ (field (.ref it) 0 >>= _) _ _ s
  refine wpAny_bind (wpAny_field ho hd (x := .ref t) rfl ?_)
  show wpAny _ _ (if (Value.ref t == Value.none) = true then _ else _) _ _ s
  rw [if_neg (show ¬ ((Value.ref t == Value.none) = true) from Bool.false_ne_true)]
  show wpAny _ _ (field (.ref it) 1 >>= _) _ _ s
  refine wpAny_bind (wpAny_field ho hd (x := .int i 0) rfl ?_)
  show wpAny _ _ (seqItems? (.ref t) >>= _) _ _ s
  refine wpAny_bind (wpAny_seqItems hol hdl ?_)
  simp only [Int.toNat_natCast, hx]
  refine wpAny_bind (wpAny_setField ho hd (by simp) (wpAny_pure ⟨x, rfl, wpAny_pure (hQ _ ?_ (Heap.SameBut.update ..))⟩))
  exact ⟨_, Heap.get?_update_self _ ho (Obj.isFreed_of_fields (Obj.data_mapFields hd _)), (Obj.cls_mapFields ..).trans hc, by
    rw [Obj.data_mapFields hd]; simp [rawInt]⟩
theorem nextOf_tuple_end {it t : Addr} {i : Nat} {items} {Q : Value → Shared → Prop} (hh : A.handled = none)
    (hit : s.heap.IsTupleIter it t i) (ht : s.heap.IsTuple t items) (hx : items[i]? = none)
    (hE : ∀ h' e, Heap.ExtBut it s.heap h' → (∃ o, h'.get? e = some o ∧ o.cls = .type "StopIteration") → E (.ref e) { s with heap := h' }) :
    wpAny (model prog w) A (Builtin.SmallTypes.nextOf (.ref it)) Q E s := by
  obtain ⟨o, ho, hc, hd⟩ := id hit
  obtain ⟨ol, hol, _, nl, hdl⟩ := ht
  unfold Builtin.SmallTypes.nextOf
  refine wpAny_bind (wpAny_callSpecial?_slot (name := Str.ofString "__next__") hit.typeIs F.slot_tuple_iterator_next
    (wpAny_call_entry F.slot_tuple_iterator_next hit.typeIs F.entry_tuple_iterator_next ?_ (F.args_tuple_iterator_next_1 _)))
  show wpAny _ _ (field (.ref it) 0 >>= _) _ _ s
  refine wpAny_bind (wpAny_field ho hd (x := .ref t) rfl ?_)
  show wpAny _ _ (if (Value.ref t == Value.none) = true then _ else _) _ _ s
  rw [if_neg (show ¬ ((Value.ref t == Value.none) = true) from Bool.false_ne_true)]
  show wpAny _ _ (field (.ref it) 1 >>= _) _ _ s
  refine wpAny_bind (wpAny_field ho hd (x := .int i 0) rfl ?_)
  show wpAny _ _ (seqItems? (.ref t) >>= _) _ _ s
  refine wpAny_bind (wpAny_seqItems hol hdl ?_)
  simp only [Int.toNat_natCast, hx]
  refine wpAny_bind (wpAny_rule (wpAny_bind (wpAny_setField ho hd (by simp) ?_)))
  show wpAny _ _ (newExc (.type "StopIteration") [] >>= _) _ _ _
  refine wpAny_bind ?_
  simp only [newExc, newTuple]
  refine wpAny_bind (wpAny_newObj_type ?_ (by size_fits))
  refine wpAny_bind (m := firstArgMember _ _) (wpAny_of_eq (a := Value.none) (by first | rfl | (simp only [firstArgMember]; rfl)) ?_)
  refine wpAny_newObj_type ?_ (by size_fits)
  simp only [raiseNew]
  refine wpAny_bind (wpAny_handled ?_)
  first | rw [show A.in1.handled = none from hh] | rw [hh]
  refine wpAny_bind (wpAny_pure (wpAny_throw ?_))
  exact hE _ _ (((Heap.SameBut.update ..).extBut.push _).push _) ⟨_, Heap.get?_push_size _ rfl, rfl⟩
end
structure Z2Apart (z TI TO i1 i2 l1 l2 : Addr) : Prop where
  TI_z : TI ≠ z
  TO_z : TO ≠ z
  i1_z : i1 ≠ z
  i2_z : i2 ≠ z
  TO_TI : TO ≠ TI
  i1_TI : i1 ≠ TI
  i2_TI : i2 ≠ TI
  i1_TO : i1 ≠ TO
  i2_TO : i2 ≠ TO
  i2_i1 : i2 ≠ i1
  l1_z : l1 ≠ z
  l1_TO : l1 ≠ TO
  l1_i1 : l1 ≠ i1
  l1_i2 : l1 ≠ i2
  l2_z : l2 ≠ z
  l2_TO : l2 ≠ TO
  l2_i1 : l2 ≠ i1
  l2_i2 : l2 ≠ i2
theorem Z2Apart.new {n l1 l2 : Nat} (hl1 : l1 < n) (hl2 : l2 < n) : Z2Apart (n + 4) (n + 2) (n + 3) n (n + 1) l1 l2 where
  TI_z := (show @Ne Nat _ _ by omega)
  TO_z := (show @Ne Nat _ _ by omega)
  i1_z := (show @Ne Nat _ _ by omega)
  i2_z := (show @Ne Nat _ _ by omega)
  TO_TI := (show @Ne Nat _ _ by omega)
  i1_TI := (show @Ne Nat _ _ by omega)
  i2_TI := (show @Ne Nat _ _ by omega)
  i1_TO := (show @Ne Nat _ _ by omega)
  i2_TO := (show @Ne Nat _ _ by omega)
  i2_i1 := (show @Ne Nat _ _ by omega)
  l1_z := (show @Ne Nat _ _ by omega)
  l1_TO := (show @Ne Nat _ _ by omega)
  l1_i1 := (show @Ne Nat _ _ by omega)
  l1_i2 := (show @Ne Nat _ _ by omega)
  l2_z := (show @Ne Nat _ _ by omega)
  l2_TO := (show @Ne Nat _ _ by omega)
  l2_i1 := (show @Ne Nat _ _ by omega)
  l2_i2 := (show @Ne Nat _ _ by omega)
abbrev IsZ2 (h : Heap) (T : Addr) (b1 b2 : Value) : Prop := h.get? T = some { cls := .type "tuple", data := .seq #[b1, b2] }
section
variable {prog : Program} {w : World} {A : Around} {E : Value → Shared → Prop} {s : Shared}
theorem upd_Z2 {T : Addr} {b1 b2 x : Value} {k : Nat} {Q : Unit → Shared → Prop} (hT : IsZ2 s.heap T b1 b2)
    (h : ∀ h', h'.get? T = some { cls := .type "tuple", data := .seq ((#[b1, b2] : Array Value).setIfInBounds k x) } → Heap.SameBut T s.heap h' → Q () { s with heap := h' }) :
    wpAny (model prog w) A (updateSeq T (·.setIfInBounds k x)) Q E s := by
  refine wpAny_updateSeq hT rfl (h _ ?_ (Heap.SameBut.update ..))
  rw [Heap.get?_update_self _ hT rfl]
  simp [Obj.mapSeq]
theorem Z2_item {z TI TO i1 i2 l1 l2 : Addr} {k1 k2 : Nat} {X1 X2 : Array Value} {b1 b2 : Value} {x1 x2 : Value} {Q : Value → Shared → Prop} (D : Z2Apart z TI TO i1 i2 l1 l2)
    (hz : IsZip s.heap z TI TO .none) (hTI : IsZ2 s.heap TI (.ref i1) (.ref i2)) (hTO : IsZ2 s.heap TO b1 b2)
    (hi1 : s.heap.IsTupleIter i1 l1 k1) (hi2 : s.heap.IsTupleIter i2 l2 k2) (hl1 : s.heap.IsTuple l1 X1) (hl2 : s.heap.IsTuple l2 X2) (hx1 : X1[k1]? = some x1) (hx2 : X2[k2]? = some x2)
    (hQ : ∀ h', IsZip h' z TI TO (rawInt s.heap.objs.size) → IsZ2 h' TO x1 x2 → h'.IsTupleIter i1 l1 (k1 + 1) → h'.IsTupleIter i2 l2 (k2 + 1) → IsZ2 h' s.heap.objs.size x1 x2 → h'.objs.size = s.heap.objs.size + 1 → (∀ c o, c ≠ z → c ≠ TO → c ≠ i1 → c ≠ i2 → s.heap.get? c = some o → h'.get? c = some o) → Q (.ref s.heap.objs.size) { s with heap := h' }) :
    wpAny (model prog w) A (Builtin.«zip.__next__» ⟨[.ref z], []⟩) (fun fin s' => ∃ v, fin = .done (.ret v) ∧ Q v s') E s := by
  show wpAny _ _ (field (.ref z) 2 >>= _) _ _ _
  refine wpAny_bind (wpAny_field hz rfl (x := .bool false) rfl ?_)
  show wpAny _ _ (field (.ref z) 3 >>= _) _ _ _
  refine wpAny_bind (wpAny_field hz rfl (x := .ref TI) rfl ?_)
  refine wpAny_bind (wpAny_seqItems hTI rfl ?_)
  show wpAny _ _ (Builtin.SmallTypes.ownedTupleIsFree (.ref z) >>= _) _ _ _
  refine wpAny_bind ?_
  unfold Builtin.SmallTypes.ownedTupleIsFree
  refine wpAny_bind (wpAny_field hz rfl (x := .none) rfl (wpAny_pure ?_))
  simp only [if_true]
  refine wpAny_bind (wpAny_rule ?_)
  refine wpAny_bind (wpAny_field hz rfl (x := .ref TO) rfl ?_)
  refine wpAny_bind (wpAny_setField_rec hz (by simp) fun g1 hz1 hs1 => ?_)
  replace hz1 : IsZip g1 z TI TO .ellipsis := hz1
  refine wpAny_bind ?_
  simp only [List.zipIdx_cons, List.zipIdx_nil, List.forIn_cons, List.forIn_nil]
  refine wpAny_bind (wpAny_bind (wpAny_onRaise ?_))
  show wpAny _ _ (Builtin.SmallTypes.nextOf (.ref i1) >>= _) _ _ _
  refine wpAny_bind (nextOf_tuple_item (hi1.extBut hs1.extBut D.i1_z) (hl1.extBut hs1.extBut D.l1_z) hx1 fun g2 ht2 hs2 => wpAny_pure ?_)
  have hTO2 : IsZ2 g2 TO b1 b2 := (hs2.extBut _ _ (Ne.symm D.i1_TO) (hs1.extBut _ _ D.TO_z hTO))
  refine wpAny_bind (wpAny_seqItems hTO2 rfl ?_)
  refine wpAny_bind (upd_Z2 hTO2 fun g3 hTO3 hs3 => ?_)
  replace hTO3 : IsZ2 g3 TO x1 b2 := hTO3
  refine wpAny_bind (wpAny_letGo (wpAny_pure ?_))
  refine wpAny_bind (wpAny_bind (wpAny_onRaise ?_))
  show wpAny _ _ (Builtin.SmallTypes.nextOf (.ref i2) >>= _) _ _ _
  refine wpAny_bind (nextOf_tuple_item (((hi2.extBut hs1.extBut D.i2_z).extBut hs2.extBut D.i2_i1).extBut hs3.extBut D.i2_TO) (((hl2.extBut hs1.extBut D.l2_z).extBut hs2.extBut D.l2_i1).extBut hs3.extBut D.l2_TO) hx2 fun g4 ht4 hs4 => wpAny_pure ?_)
  have hTO4 : IsZ2 g4 TO x1 b2 := (hs4.extBut _ _ (Ne.symm D.i2_TO) hTO3)
  refine wpAny_bind (wpAny_seqItems hTO4 rfl ?_)
  refine wpAny_bind (upd_Z2 hTO4 fun g5 hTO5 hs5 => ?_)
  replace hTO5 : IsZ2 g5 TO x1 x2 := hTO5
  refine wpAny_bind (wpAny_letGo (wpAny_pure (wpAny_pure ?_)))
  refine wpAny_bind (wpAny_seqItems hTO5 rfl ?_)
  refine wpAny_bind (wpAny_newTuple ?_)
  have hsz : g5.objs.size = s.heap.objs.size := by rw [hs5.1, hs4.1, hs3.1, hs2.1, hs1.1]
  have hzN : IsZip g5 z TI TO .ellipsis := (hs5.extBut _ _ (Ne.symm D.TO_z) (hs4.extBut _ _ (Ne.symm D.i2_z) (hs3.extBut _ _ (Ne.symm D.TO_z) (hs2.extBut _ _ (Ne.symm D.i1_z) hz1))))
  have hkN : ∀ c o, c ≠ z → c ≠ TO → c ≠ i1 → c ≠ i2 → s.heap.get? c = some o → g5.get? c = some o := fun c o c_z c_TO c_i1 c_i2 e => (hs5.extBut _ _ c_TO (hs4.extBut _ _ c_i2 (hs3.extBut _ _ c_TO (hs2.extBut _ _ c_i1 (hs1.extBut _ _ c_z e)))))
  have hn1 : g5.IsTupleIter i1 l1 (k1 + 1) := (((ht2.extBut hs3.extBut D.i1_TO).extBut hs4.extBut (Ne.symm D.i2_i1)).extBut hs5.extBut D.i1_TO)
  have hn2 : g5.IsTupleIter i2 l2 (k2 + 1) := (ht4.extBut hs5.extBut D.i2_TO)
  have hzlt : z < g5.objs.size := Heap.lt_size hzN
  show wpAny _ _ (Builtin.SmallTypes.ownedTupleHandOut (.ref z) (.ref g5.objs.size) >>= _) _ _ _
  refine wpAny_bind ?_
  unfold Builtin.SmallTypes.ownedTupleHandOut
  have hzP : IsZip (g5.push { cls := .type "tuple", data := .seq #[x1, x2] }) z TI TO .ellipsis := Heap.get?_push_of_some _ hzN
  refine wpAny_bind (wpAny_setField_rec hzP (by simp) fun gA hzA hsA => ?_)
  replace hzA : IsZip gA z TI TO (rawInt g5.objs.size) := hzA
  refine wpAny_setField_rec hzA (by simp) fun gB hzB hsB => ?_
  replace hzB : IsZip gB z TI TO (rawInt g5.objs.size) := hzB
  have up : ∀ c o, c ≠ z → g5.get? c = some o → gB.get? c = some o := fun c o c1 e => hsB.extBut _ _ c1 (hsA.extBut _ _ c1 (Heap.get?_push_of_some _ e))
  have hT : IsZ2 gB g5.objs.size x1 x2 := hsB.extBut _ _ (Nat.ne_of_gt hzlt) (hsA.extBut _ _ (Nat.ne_of_gt hzlt) (Heap.get?_push_size _ rfl))
  have hsB' : gB.objs.size = g5.objs.size + 1 := by rw [hsB.1, hsA.1, Heap.size_push]
  rw [hsz] at hzB hT hsB'
  refine wpAny_pure ⟨_, rfl, ?_⟩
  show Q (.ref g5.objs.size) _
  rw [hsz]
  exact hQ gB hzB (up _ _ D.TO_z hTO5) (hn1.at fun o e => up _ o D.i1_z e) (hn2.at fun o e => up _ o D.i2_z e) hT hsB' fun c o c_z c_TO c_i1 c_i2 e => up c o c_z (hkN c o c_z c_TO c_i1 c_i2 e)
theorem Z2_end {z TI TO i1 i2 l1 l2 : Addr} {k1 k2 : Nat} {X1 X2 : Array Value} {b1 b2 : Value} {Q : Fin → Shared → Prop} (hh : A.handled = none) (D : Z2Apart z TI TO i1 i2 l1 l2)
    (hz : IsZip s.heap z TI TO .none) (hTI : IsZ2 s.heap TI (.ref i1) (.ref i2)) (hTO : IsZ2 s.heap TO b1 b2)
    (hi1 : s.heap.IsTupleIter i1 l1 k1) (hi2 : s.heap.IsTupleIter i2 l2 k2) (hl1 : s.heap.IsTuple l1 X1) (hl2 : s.heap.IsTuple l2 X2) (hend : X1[k1]? = none ∨ X2[k2]? = none)
    (hE : ∀ h' e, (∀ c o, c ≠ z → c ≠ TO → c ≠ i1 → c ≠ i2 → s.heap.get? c = some o → h'.get? c = some o) → (∃ o, h'.get? e = some o ∧ o.cls = .type "StopIteration") → E (.ref e) { s with heap := h' }) :
    wpAny (model prog w) A (Builtin.«zip.__next__» ⟨[.ref z], []⟩) Q E s := by
  show wpAny _ _ (field (.ref z) 2 >>= _) _ _ _
  refine wpAny_bind (wpAny_field hz rfl (x := .bool false) rfl ?_)
  show wpAny _ _ (field (.ref z) 3 >>= _) _ _ _
  refine wpAny_bind (wpAny_field hz rfl (x := .ref TI) rfl ?_)
  refine wpAny_bind (wpAny_seqItems hTI rfl ?_)
  show wpAny _ _ (Builtin.SmallTypes.ownedTupleIsFree (.ref z) >>= _) _ _ _
  refine wpAny_bind ?_
  unfold Builtin.SmallTypes.ownedTupleIsFree
  refine wpAny_bind (wpAny_field hz rfl (x := .none) rfl (wpAny_pure ?_))
  simp only [if_true]
  refine wpAny_bind (wpAny_rule ?_)
  refine wpAny_bind (wpAny_field hz rfl (x := .ref TO) rfl ?_)
  refine wpAny_bind (wpAny_setField_rec hz (by simp) fun g1 hz1 hs1 => ?_)
  replace hz1 : IsZip g1 z TI TO .ellipsis := hz1
  refine wpAny_bind ?_
  simp only [List.zipIdx_cons, List.zipIdx_nil, List.forIn_cons, List.forIn_nil]
  refine wpAny_bind (wpAny_bind (wpAny_onRaise ?_))
  show wpAny _ _ (Builtin.SmallTypes.nextOf (.ref i1) >>= _) _ _ _
  cases hx1 : X1[k1]? with
  | none =>
    refine wpAny_bind (nextOf_tuple_end hh (hi1.extBut hs1.extBut D.i1_z) (hl1.extBut hs1.extBut D.l1_z) hx1 fun g e hse he => ?_)
    obtain ⟨oe, hoe, hce⟩ := he
    have hzE : IsZip g z TI TO .ellipsis := hse _ _ (Ne.symm D.i1_z) hz1
    have hez : e ≠ z := fun x => by subst x; rw [hzE] at hoe; cases hoe; simp at hce
    refine wpAny_setField_rec hzE (by simp) fun g' _ hsg => hE g' e (fun c o c_z c_TO c_i1 c_i2 x => hsg.extBut _ _ c_z (hse _ _ c_i1 (hs1.extBut _ _ c_z x))) ⟨oe, hsg.extBut _ _ hez hoe, hce⟩
  | some x1 =>
    refine wpAny_bind (nextOf_tuple_item (hi1.extBut hs1.extBut D.i1_z) (hl1.extBut hs1.extBut D.l1_z) hx1 fun g2 ht2 hs2 => wpAny_pure ?_)
    have hTO2 : IsZ2 g2 TO b1 b2 := (hs2.extBut _ _ (Ne.symm D.i1_TO) (hs1.extBut _ _ D.TO_z hTO))
    refine wpAny_bind (wpAny_seqItems hTO2 rfl ?_)
    refine wpAny_bind (upd_Z2 hTO2 fun g3 hTO3 hs3 => ?_)
    replace hTO3 : IsZ2 g3 TO x1 b2 := hTO3
    refine wpAny_bind (wpAny_letGo (wpAny_pure ?_))
    refine wpAny_bind (wpAny_bind (wpAny_onRaise ?_))
    show wpAny _ _ (Builtin.SmallTypes.nextOf (.ref i2) >>= _) _ _ _
    cases hx2 : X2[k2]? with
    | none =>
      refine wpAny_bind (nextOf_tuple_end hh (((hi2.extBut hs1.extBut D.i2_z).extBut hs2.extBut D.i2_i1).extBut hs3.extBut D.i2_TO) (((hl2.extBut hs1.extBut D.l2_z).extBut hs2.extBut D.l2_i1).extBut hs3.extBut D.l2_TO) hx2 fun g e hse he => ?_)
      obtain ⟨oe, hoe, hce⟩ := he
      have hzE : IsZip g z TI TO .ellipsis := hse _ _ (Ne.symm D.i2_z) (hs3.extBut _ _ (Ne.symm D.TO_z) (hs2.extBut _ _ (Ne.symm D.i1_z) hz1))
      have hez : e ≠ z := fun x => by subst x; rw [hzE] at hoe; cases hoe; simp at hce
      refine wpAny_setField_rec hzE (by simp) fun g' _ hsg => hE g' e (fun c o c_z c_TO c_i1 c_i2 x => hsg.extBut _ _ c_z (hse _ _ c_i2 (hs3.extBut _ _ c_TO (hs2.extBut _ _ c_i1 (hs1.extBut _ _ c_z x))))) ⟨oe, hsg.extBut _ _ hez hoe, hce⟩
    | some x2 =>
      rcases hend with h | h
      · rw [hx1] at h; cases h
      · rw [hx2] at h; cases h
theorem pyNext_Z2_item {z TI TO i1 i2 l1 l2 : Addr} {k1 k2 : Nat} {X1 X2 : Array Value} {b1 b2 : Value} {x1 x2 : Value} {Q : Option Value → Shared → Prop} (D : Z2Apart z TI TO i1 i2 l1 l2)
    (hz : IsZip s.heap z TI TO .none) (hTI : IsZ2 s.heap TI (.ref i1) (.ref i2)) (hTO : IsZ2 s.heap TO b1 b2)
    (hi1 : s.heap.IsTupleIter i1 l1 k1) (hi2 : s.heap.IsTupleIter i2 l2 k2) (hl1 : s.heap.IsTuple l1 X1) (hl2 : s.heap.IsTuple l2 X2) (hx1 : X1[k1]? = some x1) (hx2 : X2[k2]? = some x2)
    (hQ : ∀ h', IsZip h' z TI TO (rawInt s.heap.objs.size) → IsZ2 h' TO x1 x2 → h'.IsTupleIter i1 l1 (k1 + 1) → h'.IsTupleIter i2 l2 (k2 + 1) → IsZ2 h' s.heap.objs.size x1 x2 → h'.objs.size = s.heap.objs.size + 1 → (∀ c o, c ≠ z → c ≠ TO → c ≠ i1 → c ≠ i2 → s.heap.get? c = some o → h'.get? c = some o) → Q (some (.ref s.heap.objs.size)) { s with heap := h' }) :
    wpAny (model prog w) A (pyNext (.ref z)) Q E s := by
  have hT : s.TypeIs (.ref z) "zip" := ⟨_, hz, rfl⟩
  unfold pyNext
  exact wpAny_bind (wpAny_attempt (wpAny_callSpecial?_slot (name := Str.ofString "__next__") hT F.slot_zip_next
    (wpAny_call_entry F.slot_zip_next hT F.entry_zip_next
      (Z2_item D hz hTI hTO hi1 hi2 hl1 hl2 hx1 hx2 fun h' a1 a2 a3 a4 a5 a6 a7 => wpAny_pure (hQ h' a1 a2 a3 a4 a5 a6 a7)) (F.args_zip_next_1 _))))
theorem pyNext_Z2_end {z TI TO i1 i2 l1 l2 : Addr} {k1 k2 : Nat} {X1 X2 : Array Value} {b1 b2 : Value} {Q : Option Value → Shared → Prop} (hh : A.handled = none) (D : Z2Apart z TI TO i1 i2 l1 l2)
    (hz : IsZip s.heap z TI TO .none) (hTI : IsZ2 s.heap TI (.ref i1) (.ref i2)) (hTO : IsZ2 s.heap TO b1 b2)
    (hi1 : s.heap.IsTupleIter i1 l1 k1) (hi2 : s.heap.IsTupleIter i2 l2 k2) (hl1 : s.heap.IsTuple l1 X1) (hl2 : s.heap.IsTuple l2 X2) (hend : X1[k1]? = none ∨ X2[k2]? = none)
    (hQ : ∀ h', (∀ c o, c ≠ z → c ≠ TO → c ≠ i1 → c ≠ i2 → s.heap.get? c = some o → h'.get? c = some o) → Q none { s with heap := h' }) : wpAny (model prog w) A (pyNext (.ref z)) Q E s := by
  have hT : s.TypeIs (.ref z) "zip" := ⟨_, hz, rfl⟩
  unfold pyNext
  refine wpAny_bind (wpAny_attempt (wpAny_callSpecial?_slot (name := Str.ofString "__next__") hT F.slot_zip_next
    (wpAny_call_entry F.slot_zip_next hT F.entry_zip_next (Z2_end hh D hz hTI hTO hi1 hi2 hl1 hl2 hend fun h' e hk he => ?_) (F.args_zip_next_1 _))))
  obtain ⟨o, ho, hc⟩ := he
  refine wpAny_bind (wpAny_isInstance (T := "StopIteration") (b := true) ⟨o, ho, hc⟩ isSubtype_stop ?_)
  exact wpAny_pure (hQ _ hk)
abbrev Z2H1 (h : Heap) (l1 l2 : Addr) : Heap := (h).push { cls := .type "tuple_iterator", data := .fields #[.ref l1, .int 0 0] }
abbrev Z2H2 (h : Heap) (l1 l2 : Addr) : Heap := (Z2H1 h l1 l2).push { cls := .type "tuple_iterator", data := .fields #[.ref l2, .int 0 0] }
abbrev Z2H3 (h : Heap) (l1 l2 : Addr) : Heap := (Z2H2 h l1 l2).push { cls := .type "tuple", data := .seq #[(.ref h.objs.size), (.ref (Z2H1 h l1 l2).objs.size)] }
abbrev Z2H4 (h : Heap) (l1 l2 : Addr) : Heap := (Z2H3 h l1 l2).push { cls := .type "tuple", data := .seq #[.none, .none] }
abbrev Z2H5 (h : Heap) (l1 l2 : Addr) : Heap := (Z2H4 h l1 l2).push { cls := .type "zip", data := .fields #[.none, .bool false, .bool false, .ref (Z2H2 h l1 l2).objs.size, .ref (Z2H3 h l1 l2).objs.size] }
theorem meets_Z2_new (l1 l2 : Addr) (X1 X2 : Array Value) :
    Meets (Builtin.«zip.__new__» ⟨[.type "zip", .ref l1, .ref l2], []⟩) (fun _ R s => s.heap.IsTuple l1 X1 ∧ s.heap.IsTuple l2 X2 ∧
      R (.ok (.ret (.ref (Z2H4 s.heap l1 l2).objs.size))) { s with heap := Z2H5 s.heap l1 l2 }) :=
  .of_wp fun prog w A R s h => by
    obtain ⟨hp, g, d, tk, os⟩ := s; obtain ⟨hl1, hl2, h⟩ := h
    have hsub := sub_zip
    have hL1 : Heap.IsTuple (Shared.heap ⟨hp, g, d, tk, os⟩) l1 X1 := hl1
    have hL2 : Heap.IsTuple (Shared.heap ⟨(hp).push { cls := .type "tuple_iterator", data := .fields #[.ref l1, .int 0 0] }, g, d, tk, os⟩) l2 X2 := (Heap.IsTuple.push hl2 _)
    wp_walk using wpAny_pyIter_tuple hL1, wpAny_pyIter_tuple hL2
    exact ⟨_, rfl, h⟩
theorem typeCall_Z2 (va0 va1 : Value) : checkTypeCall "zip" ⟨[va0, va1], []⟩ = pure () := by kernel_rfl
theorem newCall_Z2 (va0 va1 : Value) : checkBuiltinCall "zip.__new__" ⟨[.type "zip", va0, va1], []⟩ = pure () := by kernel_rfl
theorem initArgs_Z2 (ob va0 va1 : Value) : argsOk "object.__init__" ⟨[ob, va0, va1], []⟩ := by
  unfold argsOk; rw [signature?_of (id := "object.__init__") (n := ['_', '_', 't', 'i', 'n', 'i', '_', '_']) (o := ['t', 'c', 'e', 'j', 'b', 'o']) (by kernel_rfl) F.owner_object]; kernel_rfl
theorem call_Z2 {l1 l2 : Addr} {X1 X2 : Array Value} {Q : Value → Shared → Prop} (hl1 : s.heap.IsTuple l1 X1) (hl2 : s.heap.IsTuple l2 X2)
    (h : ∀ h', IsZip h' (s.heap.objs.size + 4) (s.heap.objs.size + 2) (s.heap.objs.size + 3) .none → IsZ2 h' (s.heap.objs.size + 2) (.ref s.heap.objs.size) (.ref (s.heap.objs.size + 1)) → IsZ2 h' (s.heap.objs.size + 3) .none .none → h'.IsTupleIter s.heap.objs.size l1 0 → h'.IsTupleIter (s.heap.objs.size + 1) l2 0 → h'.objs.size = s.heap.objs.size + 5 →
      (∀ c o, s.heap.get? c = some o → h'.get? c = some o) → Q (.ref (s.heap.objs.size + 4)) { s with heap := h' }) :
    wpAny (model prog w) A (call (.type "zip") [.ref l1, .ref l2]) Q E s := by
  refine callType_new F.called_zip (by decide) (typeCall_Z2 _ _) (newCall_Z2 _ _) (fun obj => initArgs_Z2 obj _ _) F.entry_zip_new
    (meets_Z2_new l1 l2 X1 X2) ⟨hl1, hl2, ?_⟩
  have z1 : (Z2H1 s.heap l1 l2).objs.size = s.heap.objs.size + 1 := Heap.size_push ..
  have z2 : (Z2H2 s.heap l1 l2).objs.size = s.heap.objs.size + 2 := by rw [Heap.size_push, z1]
  have z3 : (Z2H3 s.heap l1 l2).objs.size = s.heap.objs.size + 3 := by rw [Heap.size_push, z2]
  have z4 : (Z2H4 s.heap l1 l2).objs.size = s.heap.objs.size + 4 := by rw [Heap.size_push, z3]
  have z5 : (Z2H5 s.heap l1 l2).objs.size = s.heap.objs.size + 5 := by rw [Heap.size_push, z4]
  have q5 : (Z2H5 s.heap l1 l2).get? (Z2H4 s.heap l1 l2).objs.size = some _ := Heap.get?_push_size _ rfl
  have q4 : (Z2H5 s.heap l1 l2).get? (Z2H3 s.heap l1 l2).objs.size = some _ := Heap.get?_push_of_some _ (Heap.get?_push_size _ rfl)
  have q3 : (Z2H5 s.heap l1 l2).get? (Z2H2 s.heap l1 l2).objs.size = some _ := Heap.get?_push_of_some _ (Heap.get?_push_of_some _ (Heap.get?_push_size _ rfl))
  have q2 : (Z2H5 s.heap l1 l2).get? (Z2H1 s.heap l1 l2).objs.size = some _ := Heap.get?_push_of_some _ (Heap.get?_push_of_some _ (Heap.get?_push_of_some _ (Heap.get?_push_size _ rfl)))
  have q1 : (Z2H5 s.heap l1 l2).get? s.heap.objs.size = some _ := Heap.get?_push_of_some _ (Heap.get?_push_of_some _ (Heap.get?_push_of_some _ (Heap.get?_push_of_some _ (Heap.get?_push_size _ rfl))))
  show _ ∧ _
  rw [z2, z3, z4] at q5
  rw [z1, z2] at q3
  rw [z3] at q4
  rw [z1] at q2
  rw [z4]
  exact ⟨⟨_, q5, rfl⟩, h _ q5 q3 q4 ⟨_, q1, rfl, rfl⟩ ⟨_, q2, rfl, rfl⟩ z5 fun c o x => Heap.get?_push_of_some _ (Heap.get?_push_of_some _ (Heap.get?_push_of_some _ (Heap.get?_push_of_some _ (Heap.get?_push_of_some _ (x)))))⟩
end
structure Z3Apart (z TI TO i1 i2 i3 l1 l2 l3 : Addr) : Prop where
  TI_z : TI ≠ z
  TO_z : TO ≠ z
  i1_z : i1 ≠ z
  i2_z : i2 ≠ z
  i3_z : i3 ≠ z
  TO_TI : TO ≠ TI
  i1_TI : i1 ≠ TI
  i2_TI : i2 ≠ TI
  i3_TI : i3 ≠ TI
  i1_TO : i1 ≠ TO
  i2_TO : i2 ≠ TO
  i3_TO : i3 ≠ TO
  i2_i1 : i2 ≠ i1
  i3_i1 : i3 ≠ i1
  i3_i2 : i3 ≠ i2
  l1_z : l1 ≠ z
  l1_TO : l1 ≠ TO
  l1_i1 : l1 ≠ i1
  l1_i2 : l1 ≠ i2
  l1_i3 : l1 ≠ i3
  l2_z : l2 ≠ z
  l2_TO : l2 ≠ TO
  l2_i1 : l2 ≠ i1
  l2_i2 : l2 ≠ i2
  l2_i3 : l2 ≠ i3
  l3_z : l3 ≠ z
  l3_TO : l3 ≠ TO
  l3_i1 : l3 ≠ i1
  l3_i2 : l3 ≠ i2
  l3_i3 : l3 ≠ i3
abbrev IsZ3 (h : Heap) (T : Addr) (b1 b2 b3 : Value) : Prop := h.get? T = some { cls := .type "tuple", data := .seq #[b1, b2, b3] }
section
variable {prog : Program} {w : World} {A : Around} {E : Value → Shared → Prop} {s : Shared}
abbrev Z3H1 (h : Heap) (l1 l2 l3 : Addr) : Heap := (h).push { cls := .type "tuple_iterator", data := .fields #[.ref l1, .int 0 0] }
abbrev Z3H2 (h : Heap) (l1 l2 l3 : Addr) : Heap := (Z3H1 h l1 l2 l3).push { cls := .type "tuple_iterator", data := .fields #[.ref l2, .int 0 0] }
abbrev Z3H3 (h : Heap) (l1 l2 l3 : Addr) : Heap := (Z3H2 h l1 l2 l3).push { cls := .type "tuple_iterator", data := .fields #[.ref l3, .int 0 0] }
abbrev Z3H4 (h : Heap) (l1 l2 l3 : Addr) : Heap := (Z3H3 h l1 l2 l3).push { cls := .type "tuple", data := .seq #[(.ref h.objs.size), (.ref (Z3H1 h l1 l2 l3).objs.size), (.ref (Z3H2 h l1 l2 l3).objs.size)] }
abbrev Z3H5 (h : Heap) (l1 l2 l3 : Addr) : Heap := (Z3H4 h l1 l2 l3).push { cls := .type "tuple", data := .seq #[.none, .none, .none] }
abbrev Z3H6 (h : Heap) (l1 l2 l3 : Addr) : Heap := (Z3H5 h l1 l2 l3).push { cls := .type "zip", data := .fields #[.none, .bool false, .bool false, .ref (Z3H3 h l1 l2 l3).objs.size, .ref (Z3H4 h l1 l2 l3).objs.size] }
end
end PySem
namespace L2
open PySem PySem.Spec PyProof.Rows
section
variable {X : Cx}
theorem ints_at {ns : List Int} {its : List Value} (r : Vals (ns.map V.int) its) : ∀ (i : Nat) (v : Value), its.toArray[i]? = some v → ∃ t, v = .int (ns.getD i 0) t := by
  intro i v e
  have e' : its[i]? = some v := by simpa using e
  have hi : i < its.length := (List.getElem?_eq_some_iff.mp e').1
  have hl := r.length
  rw [List.length_map] at hl
  have hi' : i < ns.length := by omega
  obtain ⟨u, eu, ru⟩ := r.get (i := i) (x := .int ns[i]) (by rw [List.getElem?_map, List.getElem?_eq_getElem hi'] <;> rfl)
  rw [e'] at eu
  obtain rfl : v = u := Option.some.inj eu
  obtain ⟨t, rfl⟩ := ru
  exact ⟨t, by rw [List.getD_eq_getElem?_getD, List.getElem?_eq_getElem hi'] <;> rfl⟩
theorem old_of {s : Shared} {ob : Obj} {h' : Heap} (hk : ∀ b o, b ∉ [s.heap.objs.size] → (s.heap.push ob).get? b = some o → h'.get? b = some o) : ∀ b o, s.heap.get? b = some o → h'.get? b = some o := fun b o e =>
  hk b o (fun hm => absurd (List.mem_singleton.mp hm ▸ Heap.lt_size e) (Nat.lt_irrefl _)) (Heap.get?_push_of_some _ e)
theorem lt_push {s : Shared} {ob : Obj} {l : Addr} (hl : l < s.heap.objs.size) : ∀ b ∈ [s.heap.objs.size, l], b < (s.heap.push ob).objs.size := fun b hb => by
  rw [Heap.size_push]
  rcases List.mem_cons.mp hb with rfl | hb
  · exact Nat.lt_succ_self _
  · obtain rfl := List.mem_singleton.mp hb
    exact Nat.lt_succ_of_lt hl
theorem call_sum (hc : X.calm = true) : CallR X (.builtin "sum") (fun xs H Q => ∃ (p : Addr) (ns : List Int), xs = [.ref p] ∧ (SqL X.K H p (ns.map V.int) ∨ SqT X.K H p (ns.map V.int)) ∧ Q (.int ns.sum) H) := by
  intro pins s σ H xs us Q I r h
  obtain ⟨p, ns, rfl, hq, q⟩ := h
  obtain ⟨u, rfl, rx⟩ := vals1 r
  cases rx
  have fin : ∀ {its : List Value} (rv : Vals (ns.map V.int) its) {s₂ s' : Shared} {t' : Tok}, (∀ b o, s.heap.get? b = some o → s'.heap.get? b = some o) → s'.gens = s.gens → s'.drawn = s.drawn → s'.os = s.os →
      EP X pins σ Q (.int (preSum (fun i => ns.getD i 0) its.toArray.size) t') s' := fun {its} rv {s₂ s' t'} hk hg hd ho => by
    have hl := rv.length
    rw [List.length_map] at hl
    obtain ⟨h', g', d', tk', o'⟩ := s'
    cases hg; cases hd; cases ho
    refine ⟨.int ns.sum, H, I.kept (t' := tk') hk, ⟨t', ?_⟩, q⟩
    rw [preSum_getD, List.size_toArray, ← hl, List.take_length]
  rcases hq with hq | hq
  · obtain ⟨its, rv, pl, hz⟩ := I.list hq
    have hlt : p < s.heap.objs.size := by obtain ⟨_, e, _⟩ := pl.isList; exact Heap.lt_size e
    refine call_sum_walkAnyS (wpAny_pyIter_list pl.isList ?_)
    refine ⟨_, _, _, _, _, _, _, fun i => ns.getD i 0, rfl, (Walks.list (A := X.A.in1) (I.ok.hd hc) s.heap.objs.size p (Nat.ne_of_lt hlt) its.toArray).toS, ⟨⟨_, Heap.get?_push_size _ rfl, rfl, rfl⟩, pl.isList.push _⟩, lt_push hlt, ints_at rv, fun s' t' hm => ?_⟩
    exact fin rv (s₂ := s) (old_of hm.heap) hm.gens hm.drawn hm.os
  · obtain ⟨its, rv, pl, hz⟩ := I.tuple hq
    have hlt : p < s.heap.objs.size := by obtain ⟨_, e, _⟩ := pl; exact Heap.lt_size e
    refine call_sum_walkAnyS (wpAny_pyIter_tuple (show s.heap.IsTuple p its.toArray from pl) ?_)
    refine ⟨_, _, _, _, _, _, _, fun i => ns.getD i 0, rfl, (Walks.tuple (A := X.A.in1) (I.ok.hd hc) s.heap.objs.size p (Nat.ne_of_lt hlt) its.toArray).toS, ⟨⟨_, Heap.get?_push_size _ rfl, rfl, rfl⟩, Heap.IsTuple.push (show s.heap.IsTuple p its.toArray from pl) _⟩, lt_push hlt, ints_at rv, fun s' t' hm => ?_⟩
    exact fin rv (s₂ := s) (old_of hm.heap) hm.gens hm.drawn hm.os
theorem call_maxT (hc : X.calm = true) : CallR X (.builtin "max") (fun xs H Q => ∃ (p : Addr) (ns : List Int), xs = [.ref p] ∧ SqT X.K H p (ns.map V.int) ∧ ns ≠ [] ∧ ∀ m, m ∈ ns → (∀ x ∈ ns, x ≤ m) → Q (.int m) H) := by
  intro pins s σ H xs us Q I r h
  obtain ⟨p, ns, rfl, hq, hne, q⟩ := h
  obtain ⟨u, rfl, rx⟩ := vals1 r
  cases rx
  obtain ⟨its, rv, pl, hz⟩ := I.tuple hq
  have hl := rv.length
  rw [List.length_map] at hl
  have hlt : p < s.heap.objs.size := by obtain ⟨_, e, _⟩ := pl; exact Heap.lt_size e
  have hpos : 0 < ns.length := List.length_pos_iff.mpr hne
  refine call_max_walk (wpAny_pyIter_tuple (show s.heap.IsTuple p its.toArray from pl) ?_)
  refine ⟨_, _, _, _, _, _, _, rfl, Walks.tuple (A := X.A.in1) (I.ok.hd hc) s.heap.objs.size p (Nat.ne_of_lt hlt) its.toArray, ⟨⟨_, Heap.get?_push_size _ rfl, rfl, rfl⟩, Heap.IsTuple.push (show s.heap.IsTuple p its.toArray from pl) _⟩, lt_push hlt, by rw [List.size_toArray]; omega,
    CmpOf.ints_gt (fun i => ns.getD i 0) (ints_at rv), fun v h' tk hP hk => ?_⟩
  obtain ⟨h1, h2⟩ := argBest_gt (fun i => ns.getD i 0) (its.toArray.size - 1)
  obtain ⟨t, rfl⟩ := ints_at rv _ _ hP
  rw [List.size_toArray, ← hl] at h1 h2
  rw [List.size_toArray, ← hl]
  refine ⟨.int _, H, I.kept (t' := tk) (old_of hk), ⟨t, rfl⟩, q _ ?_ fun x hx => ?_⟩
  · rw [List.getD_eq_getElem?_getD, List.getElem?_eq_getElem (by omega)]
    exact List.getElem_mem _
  · obtain ⟨j, hj, e⟩ := List.mem_iff_getElem.mp hx
    have := h2 j (by omega)
    rw [List.getD_eq_getElem?_getD (l := ns) (i := j), List.getElem?_eq_getElem hj] at this
    subst e
    exact this
end
section
variable {X : Cx}
theorem Inv.turnedAll {t' : Nat} {ch : List Addr} {h' : Heap} {pins : List (Addr × Obj)} {σ : St} {H : Hp} {s : Shared} (I : Inv X pins σ H s) (f : ∀ b ∈ ch, FpOk X pins H b) (k : ∀ b o, b ∉ ch → s.heap.get? b = some o → h'.get? b = some o) :
    Inv X pins σ H { s with heap := h', toks := t' } := by
  have nch : ∀ b u, H b = some u → b ∉ ch := fun b u e z => by rw [(f b z).1] at e; cases e
  refine I.step (g' := s.gens) (d' := s.drawn) (ch := ch) (fun b hb => ⟨(f b hb).2.2.2.1, (f b hb).2.1, (f b hb).2.2.2.2.1, (f b hb).2.2.2.2.2⟩) (fun b o _ _ hc e _ => k b o hc e) (fun b o _ _ hc e _ => ⟨o.slots, k b o hc e⟩) (fun _ _ _ _ n => n)
    (fun b o hc e => ⟨o, k b o hc e⟩) (fun _ _ e => e) (fun _ _ _ e => e) (fun b ps e => ⟨#[], by rw [e]; simp⟩) (fun m hm => ?_) (fun b u e => ?_) I.bare
  · obtain ⟨o, es, ep, ho, r⟩ := hm
    exact ⟨o, es, ep, k _ o (fun z => (f _ z).2.1 rfl) ho, r⟩
  · refine (I.hok b u e).stay (fun c v hc q => k c v ?_ q) (fun _ q => q) fun _ _ q => q
    rcases hc with z | z
    · rw [z]; exact nch b u e
    · exact nch c _ z
def Itz2 (K : PySem.W.Frag) (a1 a2 : Addr) : It :=
  ⟨fun i H => ∃ xs1 xs2 x1 x2, SqT K H a1 xs1 ∧ SqT K H a2 xs2 ∧ xs1[i]? = some x1 ∧ xs2[i]? = some x2,
   fun i H v H' => ∃ p, H p = none ∧ v = .ref p ∧ ∀ xs1 xs2 x1 x2, SqT K H a1 xs1 → SqT K H a2 xs2 → xs1[i]? = some x1 → xs2[i]? = some x2 → H' = upd H p (.tup [x1, x2]),
   fun i H => ∃ xs1 xs2, SqT K H a1 xs1 ∧ SqT K H a2 xs2 ∧ (xs1.length ≤ i ∨ xs2.length ≤ i)⟩
theorem turn_zip2 {P : Program} {w : World} {K : PySem.W.Frag} {es : List Expr} {kk : Nat} {pos : Pos} (z TI TO i1 i2 a1 a2 : Addr) (D : Z2Apart z TI TO i1 i2 a1 a2) :
    Turn P w K (.Tuple es kk pos) (Itz2 K a1 a2) [z, TI, TO, i1, i2] z (fun i h => IsZip h z TI TO .none ∧ IsZ2 h TI (.ref i1) (.ref i2) ∧ (∃ b1 b2, IsZ2 h TO b1 b2) ∧ h.IsTupleIter i1 a1 i ∧ h.IsTupleIter i2 a2 i) where
  mem := by simp
  obj := fun i h st c hc => by
    obtain ⟨hz, hTI, ⟨b1, b2, hTO⟩, ⟨o1, e1, _, d1⟩, ⟨o2, e2, _, d2⟩⟩ := st
    simp only [List.mem_cons, List.not_mem_nil, or_false] at hc
    rcases hc with rfl | rfl | rfl | rfl | rfl
    · exact ⟨_, hz, fun v z => (nomatch z)⟩
    · exact ⟨_, hTI, fun v z => (nomatch z)⟩
    · exact ⟨_, hTO, fun v z => (nomatch z)⟩
    · exact ⟨_, e1, fun v z => by rw [d1] at z; cases z⟩
    · exact ⟨_, e2, fun v z => by rw [d2] at z; cases z⟩
  keep := fun i h h' st k => by
    obtain ⟨hz, hTI, ⟨b1, b2, hTO⟩, h1, h2⟩ := st
    exact ⟨k z (by simp) _ hz, k TI (by simp) _ hTI, ⟨b1, b2, k TO (by simp) _ hTO⟩, h1.at fun o e => k i1 (by simp) o e, h2.at fun o e => k i2 (by simp) o e⟩
  item := by
    intro X hP hw hK hc i pins s σ H E I hf st hg
    subst hP hw hK
    obtain ⟨hz, hTI, ⟨b1, b2, hTO⟩, h1, h2⟩ := st
    obtain ⟨xs1, xs2, x1, x2, hq1, hq2, hx1, hx2⟩ := hg
    obtain ⟨its1, rv1, p1, _⟩ := I.tuple hq1
    obtain ⟨u1, hu1, ru1⟩ := rv1.get hx1
    obtain ⟨its2, rv2, p2, _⟩ := I.tuple hq2
    obtain ⟨u2, hu2, ru2⟩ := rv2.get hx2
    refine pyNext_Z2_item D hz hTI hTO h1 h2 p1 p2 (x1 := u1) (x2 := u2) (by simpa using hu1) (by simpa using hu2) fun h' hz' hTO' h1' h2' hT hsz hk => ?_
    refine ⟨_, rfl, ?_⟩
    refine wpAny_letOwnedTupleGo_zip hz' fun h'' hz'' hs'' => ?_
    have hTI' : IsZ2 h' TI (.ref i1) (.ref i2) := hk _ _ D.TI_z (Ne.symm D.TO_TI) (Ne.symm D.i1_TI) (Ne.symm D.i2_TI) hTI
    have hzlt : z < s.heap.objs.size := Heap.lt_size hz
    have up : ∀ c o, c ≠ z → c ≠ TO → c ≠ i1 → c ≠ i2 → s.heap.get? c = some o → h''.get? c = some o := fun c o c1 c2 c3 c4 e => hs''.extBut _ _ c1 (hk c o c1 c2 c3 c4 e)
    have upc : ∀ c o, c ∉ [z, TI, TO, i1, i2] → s.heap.get? c = some o → h''.get? c = some o := fun c o hc e => by
      simp only [List.mem_cons, List.not_mem_nil, or_false, not_or] at hc
      exact up c o hc.1 hc.2.2.1 hc.2.2.2.1 hc.2.2.2.2 e
    have I1 : Inv X pins σ H { s with heap := h'', toks := s.toks } := I.turnedAll (ch := [z, TI, TO, i1, i2]) hf upc
    have hT'' : h''.get? s.heap.objs.size = some { cls := .type "tuple", data := .seq #[u1, u2] } := hs''.extBut _ _ (Nat.ne_of_gt hzlt) hT
    have fresh : H s.heap.objs.size = none := I.hok.fresh (Nat.le_refl _)
    have I2 : Inv X pins σ (upd H s.heap.objs.size (.tup [x1, x2])) { s with heap := h'', toks := s.toks } := by
      refine I.step (g' := s.gens) (d' := s.drawn) (ch := [z, TI, TO, i1, i2]) (fun b hb => ⟨(hf b hb).2.2.2.1, (hf b hb).2.1, (hf b hb).2.2.2.2.1, (hf b hb).2.2.2.2.2⟩) (fun c o _ _ hc e _ => upc c o hc e) (fun c o _ _ hc e _ => ⟨o.slots, upc c o hc e⟩) (fun c o _ e n => by rw [upd_ne (Nat.ne_of_lt (Heap.lt_size e))]; exact n)
        (fun c o hc e => ⟨o, upc c o hc e⟩) (fun c xs e => by rw [upd_ne (ne_of_none e fresh)]; exact e) (fun c o u e => by rw [upd_ne (ne_of_none e fresh)]; exact e) (fun c ps e => ⟨#[], by rw [upd_ne (ne_of_none e fresh), e]; simp⟩) (fun m hm => ?_) (fun c u e => ?_) I.bare
      · obtain ⟨o, es, ep, ho, r⟩ := hm
        exact ⟨o, es, ep, upc _ o (fun z => (hf _ z).2.1 rfl) ho, r⟩
      · by_cases hcs : c = s.heap.objs.size
        · subst hcs
          rw [upd_same] at e; cases e
          exact ⟨by show 2 ≤ sizeLine; decide, [u1, u2], .cons ru1 (.cons ru2 .nil), ⟨_, hT'', rfl, _, rfl⟩⟩
        · rw [upd_ne hcs] at e
          exact (I1.hok c u e).stay (fun _ _ _ q => q) (fun d q => by rw [upd_ne (ne_of_none q fresh)]; exact q) fun d xs q => by rw [upd_ne (ne_of_none q fresh)]; exact q
    refine ⟨.ref s.heap.objs.size, _, I2, rfl, ⟨s.heap.objs.size, fresh, rfl, fun xs1' xs2' x1' x2' ha1 ha2 hb1 hb2 => ?_⟩, ⟨hz'', hs''.extBut _ _ D.TI_z hTI', ⟨_, _, hs''.extBut _ _ D.TO_z hTO'⟩, h1'.extBut hs''.extBut D.i1_z, h2'.extBut hs''.extBut D.i2_z⟩, fun b hb => ?_⟩
    · have q0 : True := trivial
      rw [I.tuple_inj ha1 hq1, hx1] at hb1
      rw [I.tuple_inj ha2 hq2, hx2] at hb2
      cases hb1
      cases hb2
      rfl
    · rw [upd_ne (fun q => ?_)]
      · exact (hf b hb).1
      · subst q
        obtain ⟨o1, e1, _⟩ := h1
        obtain ⟨o2, e2, _⟩ := h2
        simp only [List.mem_cons, List.not_mem_nil, or_false] at hb
        rcases hb with q | q | q | q | q
        · rw [← q] at hz; exact absurd (Heap.lt_size hz) (Nat.lt_irrefl _)
        · rw [← q] at hTI; exact absurd (Heap.lt_size hTI) (Nat.lt_irrefl _)
        · rw [← q] at hTO; exact absurd (Heap.lt_size hTO) (Nat.lt_irrefl _)
        · rw [← q] at e1; exact absurd (Heap.lt_size e1) (Nat.lt_irrefl _)
        · rw [← q] at e2; exact absurd (Heap.lt_size e2) (Nat.lt_irrefl _)
  done := by
    intro X hP hw hK hc i pins s σ H E I hf st hg
    subst hP hw hK
    obtain ⟨hz, hTI, ⟨b1, b2, hTO⟩, h1, h2⟩ := st
    obtain ⟨xs1, xs2, hq1, hq2, hend⟩ := hg
    obtain ⟨its1, rv1, p1, _⟩ := I.tuple hq1
    have l1 := rv1.length
    obtain ⟨its2, rv2, p2, _⟩ := I.tuple hq2
    have l2 := rv2.length
    refine pyNext_Z2_end (I.ok.hd hc) D hz hTI hTO h1 h2 p1 p2 ?_ fun h' hk => ⟨rfl, I.turnedAll (t' := s.toks) (ch := [z, TI, TO, i1, i2]) hf fun c o hc e => ?_⟩
    · rcases hend with q | q
      · exact (.inl (by rw [Array.getElem?_eq_none]; simp; omega))
      · exact (.inr ((by rw [Array.getElem?_eq_none]; simp; omega)))
    · simp only [List.mem_cons, List.not_mem_nil, or_false, not_or] at hc
      exact hk c o hc.1 hc.2.2.1 hc.2.2.2.1 hc.2.2.2.2 e
  self := fun _ _ _ _ _ st h => wpAny_pyIter_zip st.1 h
def iZip2 (K : PySem.W.Frag) (ta : TA) : TI := fun σ H R => ta σ H fun vs H1 => ∃ a1 a2 : Addr, vs = [.ref a1, .ref a2] ∧ (∃ xs, SqT K H1 a1 xs) ∧ (∃ xs, SqT K H1 a2 xs) ∧ R (Itz2 K a1 a2) H1
theorem pi_zip2 {es : List Expr} {kk : Nat} {tpos : Pos} {e1 e2 : Expr} {ta : TA} {p pos : Pos} (hg : Gl X "zip") (hm : X.mg "zip" = none) (ha : PA X [e1, e2] ta) (hs0 : starEach [e1, e2] X.env = [(false, eval e1 X.env), (false, eval e2 X.env)] := by rfl) (hs1 : starEach [e2] X.env = [(false, eval e2 X.env)] := by rfl) : PI X (.Tuple es kk tpos) (.Call (.Name "zip" p) [e1, e2] [] pos) (iZip2 X.K ta) := by
  intro pins s σ H R I h
  refine Call_ (ld_blt I hg hm boot_zip (PyProof.Rows.callWith_type1 (thn (ha pos pins s σ H _ I h) fun us s1 ⟨vs, H1, I1, r1, q1⟩ => ?_) (by rw [hs0, hs1]) (by rw [hs1]; rfl)))
  obtain ⟨a1, a2, e, ⟨xs1, hq1⟩, ⟨xs2, hq2⟩, q⟩ := q1
  subst e
  cases r1 with
  | cons ra r1 =>
    cases r1 with
    | cons rb r1 =>
      cases r1
      cases ra
      cases rb
      obtain ⟨its1, rv1, p1, _⟩ := I1.tuple hq1
      have lt1 : a1 < s1.heap.objs.size := by obtain ⟨_, e, _⟩ := p1; exact Heap.lt_size e
      obtain ⟨its2, rv2, p2, _⟩ := I1.tuple hq2
      have lt2 : a2 < s1.heap.objs.size := by obtain ⟨_, e, _⟩ := p2; exact Heap.lt_size e
      refine call_Z2 p1 p2 fun h' hz hTI hTO h1 h2 hsz hk => ?_
      refine wpAny_pyIter_zip hz ?_
      refine ⟨_, [(s1.heap.objs.size + 4), (s1.heap.objs.size + 2), (s1.heap.objs.size + 3), s1.heap.objs.size, (s1.heap.objs.size + 1)], _, _, H1, rfl, I1.kept (t' := s1.toks) hk, turn_zip2 _ _ _ _ _ a1 a2 (Z2Apart.new lt1 lt2), ⟨hz, hTI, ⟨_, _, hTO⟩, h1, h2⟩, fun b hb => ?_, q⟩
      have hle : s1.heap.objs.size ≤ b := by
        simp only [List.mem_cons, List.not_mem_nil, or_false] at hb
        rcases hb with rfl | rfl | rfl | rfl | rfl <;> first | exact Nat.le_refl _ | exact Nat.le_add_right _ _
      exact I1.fpOk hle (I1.hok.fresh hle)
def Itz3 (K : PySem.W.Frag) (a1 a2 a3 : Addr) : It :=
  ⟨fun i H => ∃ xs1 xs2 xs3 x1 x2 x3, SqT K H a1 xs1 ∧ SqT K H a2 xs2 ∧ SqT K H a3 xs3 ∧ xs1[i]? = some x1 ∧ xs2[i]? = some x2 ∧ xs3[i]? = some x3,
   fun i H v H' => ∃ p, H p = none ∧ v = .ref p ∧ ∀ xs1 xs2 xs3 x1 x2 x3, SqT K H a1 xs1 → SqT K H a2 xs2 → SqT K H a3 xs3 → xs1[i]? = some x1 → xs2[i]? = some x2 → xs3[i]? = some x3 → H' = upd H p (.tup [x1, x2, x3]),
   fun i H => ∃ xs1 xs2 xs3, SqT K H a1 xs1 ∧ SqT K H a2 xs2 ∧ SqT K H a3 xs3 ∧ (xs1.length ≤ i ∨ xs2.length ≤ i ∨ xs3.length ≤ i)⟩
def iZip3 (K : PySem.W.Frag) (ta : TA) : TI := fun σ H R => ta σ H fun vs H1 => ∃ a1 a2 a3 : Addr, vs = [.ref a1, .ref a2, .ref a3] ∧ (∃ xs, SqT K H1 a1 xs) ∧ (∃ xs, SqT K H1 a2 xs) ∧ (∃ xs, SqT K H1 a3 xs) ∧ R (Itz3 K a1 a2 a3) H1
end
end L2
namespace L2
open PySem PySem.Spec PyProof.Rows
inductive EqD (K : PySem.W.Frag) (H : Hp) : Nat → V → V → Bool → Prop where
  | flat {n : Nat} {x y : V} (hx : flatV x = true) (hy : flatV y = true) : EqD K H n x y (eqV x y)
  | same {n : Nat} (x : V) (h : ∀ s, x ≠ .str s) (h' : ∀ s, x ≠ .byt s) (h'' : ∀ s, x ≠ .flt s) : EqD K H n x x true
  | tup {n : Nat} {p q : Addr} {xs ys : List V} (e : Nat → Bool) (hp : SqT K H p xs) (hq : SqT K H q ys) (hne : p ≠ q) (he : ∀ (j : Nat) (x y : V), xs[j]? = some x → ys[j]? = some y → EqD K H n x y (e j)) :
      EqD K H (n + 1) (.ref p) (.ref q) ((List.range (min xs.length ys.length)).all e && xs.length == ys.length)
section
variable {X : Cx} {pins : List (Addr × Obj)} {σ : St} {H : Hp} {s : Shared}
theorem EqD.at_ (I : Inv X pins σ H s) {n : Nat} {x y : V} {b : Bool} (h : EqD X.K H n x y b) : ∀ {A : Around} {u v : Value}, A.units + n < cLine → RelV x u → RelV y v → SeqAt.EqAt A s u v b := by
  induction h with
  | flat hx hy => intro A u v _ rx ry; exact eqAt_V rx ry hx hy
  | same x h h' h'' =>
    intro A u v _ rx ry
    cases x with
    | non => cases rx; cases ry; exact SeqAt.EqAt.same _
    | bl b => cases rx; cases ry; exact SeqAt.EqAt.same _
    | int i =>
      have := eqAt_V (A := A) (s := s) rx ry rfl rfl
      have e : eqV (.int i) (.int i) = true := by show (i == i) = true; exact beq_self_eq_true i
      rw [e] at this; exact this
    | str z => exact absurd rfl (h z)
    | byt z => exact absurd rfl (h' z)
    | flt z => exact absurd rfl (h'' z)
    | ref a => cases rx; cases ry; exact SeqAt.EqAt.same _
    | ty t => cases rx; cases ry; exact SeqAt.EqAt.same _
  | @tup n p q xs ys e hp hq hne he ih =>
    intro A u v hu rx ry
    cases rx; cases ry
    obtain ⟨its, r1, p1, _⟩ := I.tuple hp
    obtain ⟨its2, r2, p2, _⟩ := I.tuple hq
    have l1 := r1.length
    have l2 := r2.length
    have key := SeqAt.RcAt.tuples (A := A) (s := s) (l := p) (b := q) (items := its.toArray) (items2 := its2.toArray) (e := e) p1 p2 (by omega) (fun j h1 h2 => ?_)
    · rw [List.size_toArray, List.size_toArray, ← l1, ← l2] at key
      exact SeqAt.EqAt.of_refs hne key
    · have j1 : j < xs.length := by rw [l1]; simpa using h1
      have j2 : j < ys.length := by rw [l2]; simpa using h2
      obtain ⟨a, ea, ra⟩ := r1.get (List.getElem?_eq_getElem j1)
      obtain ⟨b, eb, rb⟩ := r2.get (List.getElem?_eq_getElem j2)
      have ea' : its.toArray[j] = a := by
        have : its[j]? = some its[j] := List.getElem?_eq_getElem (by simpa using h1)
        rw [ea] at this
        simpa using (Option.some.inj this).symm
      have eb' : its2.toArray[j] = b := by
        have : its2[j]? = some its2[j] := List.getElem?_eq_getElem (by simpa using h2)
        rw [eb] at this
        simpa using (Option.some.inj this).symm
      rw [ea', eb']
      exact ih j _ _ (List.getElem?_eq_getElem j1) (List.getElem?_eq_getElem j2) (by show A.units + 1 + n < cLine; omega) ra rb
end
section
variable {X : Cx}
def rEqT (K : PySem.W.Frag) : R2 := fun x y H Q => ∃ (p q : Addr) (xs ys : List V) (e : Nat → Bool) (n : Nat), x = .ref p ∧ y = .ref q ∧ SqT K H p xs ∧ SqT K H q ys ∧ n ≤ 60 ∧ (∀ (j : Nat) (x y : V), xs[j]? = some x → ys[j]? = some y → EqD K H n x y (e j)) ∧
  Q (.bl ((List.range (min xs.length ys.length)).all e && xs.length == ys.length)) H
theorem op_eqT (hu : X.A.units + 64 < cLine) : OpR X (compareOp .Eq) (rEqT X.K) := by
  intro pins s σ H x y v u Q I rx ry h
  obtain ⟨p, q, xs, ys, e, n, rfl, rfl, hp, hq, hn, he, k⟩ := h
  cases rx; cases ry
  obtain ⟨its, r1, p1, _⟩ := I.tuple hp
  obtain ⟨its2, r2, p2, _⟩ := I.tuple hq
  have l1 := r1.length
  have l2 := r2.length
  refine SeqAt.eq_tupleAt (e := e) p1 p2 (by omega) (fun j h1 h2 => ?_) ?_
  · have j1 : j < xs.length := by rw [l1]; simpa using h1
    have j2 : j < ys.length := by rw [l2]; simpa using h2
    obtain ⟨a, ea, ra⟩ := r1.get (List.getElem?_eq_getElem j1)
    obtain ⟨b, eb, rb⟩ := r2.get (List.getElem?_eq_getElem j2)
    have ea' : its.toArray[j] = a := by
      have : its[j]? = some its[j] := List.getElem?_eq_getElem (by simpa using h1)
      rw [ea] at this
      simpa using (Option.some.inj this).symm
    have eb' : its2.toArray[j] = b := by
      have : its2[j]? = some its2[j] := List.getElem?_eq_getElem (by simpa using h2)
      rw [eb] at this
      simpa using (Option.some.inj this).symm
    rw [ea', eb']
    exact (he j _ _ (List.getElem?_eq_getElem j1) (List.getElem?_eq_getElem j2)).at_ I (by show X.A.units + 1 + n < cLine; omega) ra rb
  · refine ⟨.bl _, H, I, rfl, ?_⟩
    rw [List.size_toArray, List.size_toArray, ← l1, ← l2]
    exact k
def rEqL (K : PySem.W.Frag) : R2 := fun x y H Q => ∃ (p q : Addr) (xs ys : List V) (e : Nat → Bool) (n : Nat), x = .ref p ∧ y = .ref q ∧ SqL K H p xs ∧ SqL K H q ys ∧ n ≤ 60 ∧ (∀ (j : Nat) (x y : V), xs[j]? = some x → ys[j]? = some y → EqD K H n x y (e j)) ∧
  (xs.length = ys.length → Q (.bl ((List.range xs.length).all e)) H) ∧ (xs.length ≠ ys.length → Q (.bl false) H)
theorem op_eqL (hu : X.A.units + 64 < cLine) : OpR X (compareOp .Eq) (rEqL X.K) := by
  intro pins s σ H x y v u Q I rx ry h
  obtain ⟨p, q, xs, ys, e, n, rfl, rfl, hp, hq, hn, he, k1, k2⟩ := h
  cases rx; cases ry
  obtain ⟨its, r1, p1, _⟩ := I.list hp
  obtain ⟨its2, r2, p2, _⟩ := I.list hq
  have l1 := r1.length
  have l2 := r2.length
  by_cases hl : xs.length = ys.length
  · refine SeqAt.eq_listAt (e := e) p1.isList p2.isList (by rw [List.size_toArray, List.size_toArray]; omega) (by omega) (fun j h1 h2 => ?_) ?_
    · have j1 : j < xs.length := by rw [l1]; simpa using h1
      have j2 : j < ys.length := by rw [l2]; simpa using h2
      obtain ⟨a, ea, ra⟩ := r1.get (List.getElem?_eq_getElem j1)
      obtain ⟨b, eb, rb⟩ := r2.get (List.getElem?_eq_getElem j2)
      have ea' : its.toArray[j] = a := by
        have : its[j]? = some its[j] := List.getElem?_eq_getElem (by simpa using h1)
        rw [ea] at this
        simpa using (Option.some.inj this).symm
      have eb' : its2.toArray[j] = b := by
        have : its2[j]? = some its2[j] := List.getElem?_eq_getElem (by simpa using h2)
        rw [eb] at this
        simpa using (Option.some.inj this).symm
      rw [ea', eb']
      exact (he j _ _ (List.getElem?_eq_getElem j1) (List.getElem?_eq_getElem j2)).at_ I (by show X.A.units + 1 + n < cLine; omega) ra rb
    · refine ⟨.bl _, H, I, rfl, ?_⟩
      rw [List.size_toArray, ← l1]
      exact k1 hl
  · refine SeqAt.eq_list_lengthsAt p1.isList p2.isList (by rw [List.size_toArray, List.size_toArray, ← l1, ← l2]; simpa using hl) (by omega) ⟨.bl _, H, I, rfl, k2 hl⟩
end
theorem bt_int : bootBuiltins "int" = some (.type "int") := by decide +kernel
theorem bt_bool : bootBuiltins "bool" = some (.type "bool") := by decide +kernel
theorem bt_tuple : bootBuiltins "tuple" = some (.type "tuple") := by decide +kernel
theorem bt_list : bootBuiltins "list" = some (.type "list") := by decide +kernel
theorem bt_isinstance : bootBuiltins "isinstance" = some (.builtin "isinstance") := by decide +kernel
theorem bt_max : bootBuiltins "max" = some (.builtin "max") := by decide +kernel
theorem bt_sum : bootBuiltins "sum" = some (.builtin "sum") := by decide +kernel
end L2
namespace L2
open PySem PySem.Spec PyProof.Rows
inductive PV where
  | non | bl (b : Bool) | int (i : Int) | str (x : Str) | tup (xs : List PV) | lst (xs : List PV) | dic
structure XC where
  cls : Str
  flds : List (Str × PV)
def XC.fo (c : XC) : Option Nat := match c.flds with
  | [(x, .int i)] => if x = "at" ∧ 0 ≤ i then some i.toNat else none
  | _ => none
inductive Res (α : Type) where
  | ok (a : α) | exc (c : XC) | bad
def Res.bind {α β : Type} (r : Res α) (k : α → Res β) : Res β := match r with
  | .ok a => k a
  | .exc c => .exc c
  | .bad => .bad
inductive Rp (K : PySem.W.Frag) (H : Hp) : V → PV → Prop where
  | non : Rp K H .non .non
  | bl (b : Bool) : Rp K H (.bl b) (.bl b)
  | int (i : Int) : Rp K H (.int i) (.int i)
  | str (x : Str) : Rp K H (.str x) (.str x)
  | tup {a : Addr} {xs : List V} {ps : List PV} (h : SqT K H a xs) (hl : xs.length = ps.length) (he : ∀ (i : Nat) (x : V) (p : PV), xs[i]? = some x → ps[i]? = some p → Rp K H x p) : Rp K H (.ref a) (.tup ps)
  | lst {a : Addr} {xs : List V} {ps : List PV} (h : SqL K H a xs) (hl : xs.length = ps.length) (he : ∀ (i : Nat) (x : V) (p : PV), xs[i]? = some x → ps[i]? = some p → Rp K H x p) : Rp K H (.ref a) (.lst ps)
  | dic {a : Addr} {kvs : List (Key × V)} (h : H a = some (.dK kvs)) : Rp K H (.ref a) .dic
structure Rps (K : PySem.W.Frag) (H : Hp) (xs : List V) (ps : List PV) : Prop where
  len : xs.length = ps.length
  get : ∀ (i : Nat) (x : V) (p : PV), xs[i]? = some x → ps[i]? = some p → Rp K H x p
section
variable {K : PySem.W.Frag} {H H' : Hp}
theorem Rp.same {x : V} {p : PV} (e : Same H H') (h : Rp K H x p) : Rp K H' x p := by
  induction h with
  | non => exact .non
  | bl b => exact .bl b
  | int i => exact .int i
  | str x => exact .str x
  | tup h hl _ ih => exact .tup (e.tup h) hl ih
  | lst h hl _ ih => exact .lst (e.seq h) hl ih
  | dic h => exact .dic (e _ _ h)
theorem Rps.same {xs : List V} {ps : List PV} (e : Same H H') (h : Rps K H xs ps) : Rps K H' xs ps := ⟨h.len, fun i x p e1 e2 => (h.get i x p e1 e2).same e⟩
theorem Rps.nil : Rps K H [] [] := ⟨rfl, fun i x p e => by simp at e⟩
theorem Rps.cons {x : V} {p : PV} {xs : List V} {ps : List PV} (h : Rp K H x p) (t : Rps K H xs ps) : Rps K H (x :: xs) (p :: ps) := ⟨by simp [t.len], fun i y q e1 e2 => by
  cases i with
  | zero => simp at e1 e2; subst e1 e2; exact h
  | succ i => simp at e1 e2; exact t.get i y q e1 e2⟩
theorem Rps.app {xs ys : List V} {ps qs : List PV} (h : Rps K H xs ps) (t : Rps K H ys qs) : Rps K H (xs ++ ys) (ps ++ qs) := ⟨by simp [h.len, t.len], fun i y q e1 e2 => by
  have hl := h.len
  by_cases hi : i < xs.length
  · rw [List.getElem?_append_left hi] at e1
    rw [List.getElem?_append_left (by omega)] at e2
    exact h.get i y q e1 e2
  · rw [List.getElem?_append_right (by omega)] at e1
    rw [List.getElem?_append_right (by omega), ← hl] at e2
    exact t.get _ y q e1 e2⟩
theorem Rps.one {x : V} {p : PV} (h : Rp K H x p) : Rps K H [x] [p] := .cons h .nil
theorem Rps.at_ {xs : List V} {ps : List PV} {i : Nat} {p : PV} (h : Rps K H xs ps) (e : ps[i]? = some p) : ∃ x, xs[i]? = some x ∧ Rp K H x p := by
  have hi : i < ps.length := (List.getElem?_eq_some_iff.mp e).1
  have hi' : i < xs.length := by rw [h.len]; exact hi
  exact ⟨xs[i], List.getElem?_eq_getElem hi', h.get i _ _ (List.getElem?_eq_getElem hi') e⟩
theorem Rps.at' {xs : List V} {ps : List PV} {i : Nat} {x : V} (h : Rps K H xs ps) (e : xs[i]? = some x) : ∃ p, ps[i]? = some p ∧ Rp K H x p := by
  have hi : i < xs.length := (List.getElem?_eq_some_iff.mp e).1
  have hi' : i < ps.length := by rw [← h.len]; exact hi
  exact ⟨ps[i], List.getElem?_eq_getElem hi', h.get i _ _ e (List.getElem?_eq_getElem hi')⟩
theorem Rps.set {xs : List V} {ps : List PV} {x : V} {p : PV} (h : Rps K H xs ps) (r : Rp K H x p) (j : Nat) : Rps K H (xs.set j x) (ps.set j p) := ⟨by simp [h.len], fun i y q e1 e2 => by
  have hl := h.len
  by_cases hj : j = i
  · subst hj
    by_cases hi : j < xs.length
    · rw [List.getElem?_set_self hi] at e1
      rw [List.getElem?_set_self (by omega)] at e2
      cases e1; cases e2; exact r
    · rw [List.getElem?_eq_none (by simp; omega)] at e1; cases e1
  · rw [List.getElem?_set_ne hj] at e1 e2
    exact h.get i y q e1 e2⟩
theorem Rps.drop {xs : List V} {ps : List PV} (h : Rps K H xs ps) (j : Nat) : Rps K H (xs.drop j) (ps.drop j) := ⟨by simp [h.len], fun i y q e1 e2 => by
  rw [List.getElem?_drop] at e1 e2
  exact h.get _ y q e1 e2⟩
theorem Rps.take {xs : List V} {ps : List PV} (h : Rps K H xs ps) (j : Nat) : Rps K H (xs.take j) (ps.take j) := ⟨by simp [h.len], fun i y q e1 e2 => by
  rw [List.getElem?_take] at e1 e2
  split at e1 <;> first | cases e1 | skip
  rename_i hi
  rw [if_pos hi] at e2
  exact h.get _ y q e1 e2⟩
theorem Rp.tupOf {a : Addr} {xs : List V} {ps : List PV} (h : SqT K H a xs) (r : Rps K H xs ps) : Rp K H (.ref a) (.tup ps) := .tup h r.len r.get
theorem Rp.lstOf {a : Addr} {xs : List V} {ps : List PV} (h : SqL K H a xs) (r : Rps K H xs ps) : Rp K H (.ref a) (.lst ps) := .lst h r.len r.get
theorem Rp.isTup {x : V} {ps : List PV} (h : Rp K H x (.tup ps)) : ∃ a xs, x = .ref a ∧ SqT K H a xs ∧ Rps K H xs ps := by
  cases h with
  | tup h hl he => exact ⟨_, _, rfl, h, hl, he⟩
theorem Rp.isLst {x : V} {ps : List PV} (h : Rp K H x (.lst ps)) : ∃ a xs, x = .ref a ∧ SqL K H a xs ∧ Rps K H xs ps := by
  cases h with
  | lst h hl he => exact ⟨_, _, rfl, h, hl, he⟩
theorem Rps.ints {xs : List V} {ns : List Int} (h : Rps K H xs (ns.map .int)) : xs = ns.map V.int := by
  refine List.ext_getElem? fun i => ?_
  have hl := h.len
  rw [List.length_map] at hl
  rw [List.getElem?_map]
  by_cases hi : i < ns.length
  · obtain ⟨x, e, r⟩ := h.at_ (i := i) (p := .int ns[i]) (by simp [hi])
    rw [e, List.getElem?_eq_getElem hi]
    cases r; rfl
  · rw [List.getElem?_eq_none (by omega), List.getElem?_eq_none (by omega)]; rfl
end
structure Ext (B H B' H' : Hp) : Prop where
  b : Same B B'
  h : Same H H'
  bh : Same B' H'
  nw : ∀ a o, H a = some o → B a = none → B' a = none
theorem Ext.refl {B H : Hp} (s : Same B H) : Ext B H B H := ⟨.refl _, .refl _, s, fun _ _ _ h => h⟩
theorem Ext.trans {B H B1 H1 B2 H2 : Hp} (x : Ext B H B1 H1) (y : Ext B1 H1 B2 H2) : Ext B H B2 H2 := ⟨x.b.trans y.b, x.h.trans y.h, y.bh, fun a o e n => y.nw a o (x.h a o e) (x.nw a o e n)⟩
theorem Ext.new {B H : Hp} {p : Addr} {o : HO} (s : Same B H) (n : H p = none) : Ext B H (upd B p o) (upd H p o) := by
  have nb : B p = none := s.free n
  refine ⟨same_new nb o, same_new n o, fun b u e => ?_, fun a u e nB => ?_⟩
  · by_cases hb : b = p
    · subst hb; rw [upd_same] at e ⊢; exact e
    · rw [upd_ne hb] at e ⊢; exact s b u e
  · rw [upd_ne (ne_of_none e n)]; exact nB
theorem Ext.newO {B H : Hp} {p : Addr} {o : HO} (s : Same B H) (n : H p = none) : Ext B H B (upd H p o) := ⟨.refl _, same_new n o, s.trans (same_new n o), fun a u e nB => nB⟩
inductive Sl where
  | no | val (p : PV) | own (ps : List PV) | exc (c : XC)
def excφ (a C : Addr) (D : Option Addr) : Heap → Prop := fun h => ∃ o vs, h.get? a = some o ∧ o.cls = .ref C ∧ o.data = .fields vs ∧ o.dict = D
def fldφ (d : Addr) (k : Nat) : Heap → Prop := fun h => ∃ t, h.Ns1 d (fun y => if y = "at" then some (.int k t) else none)
def FldH (H : Hp) (D : Option Addr) (fo : Option Nat) : Prop := match fo with
  | none => D = none
  | some k => ∃ d, D = some d ∧ H d = some (.ext (fldφ d k))
theorem FldH.mono {H H' : Hp} {D : Option Addr} {fo : Option Nat} (f : FldH H D fo) (h : ∀ d φ, H d = some (.ext φ) → H' d = some (.ext φ)) : FldH H' D fo := by
  cases fo with
  | none => exact f
  | some k => obtain ⟨d, e, q⟩ := f; exact ⟨d, e, h d _ q⟩
abbrev PEnv := List Sl
structure RE (K : PySem.W.Frag) (Z B H : Hp) (σ : St) (ρ : PEnv) : Prop where
  len : σ.length = ρ.length
  val : ∀ (i : Nat) (p : PV), ρ[i]? = some (.val p) → ∃ v, σ[i]? = some (some v) ∧ Rp K B v p
  own : ∀ (i : Nat) (ps : List PV), ρ[i]? = some (.own ps) → ∃ a xs, σ[i]? = some (some (.ref a)) ∧ Z a = none ∧ B a = none ∧ H a = some (.lst xs) ∧ Rps K B xs ps
  exc : ∀ (i : Nat) (c : XC), ρ[i]? = some (.exc c) → ∃ a C, σ[i]? = some (some (.ref a)) ∧ Z a = none ∧ B a = none ∧ PySem.W.nsIn K mainGlobals c.cls = some (some (.ref C)) ∧ ∃ D, H a = some (.ext (excφ a C D)) ∧ FldH H D c.fo
  ne : ∀ (i j : Nat) (a : Addr) (ps qs : List PV), ρ[i]? = some (.own ps) → ρ[j]? = some (.own qs) → σ[i]? = some (some (.ref a)) → σ[j]? = some (some (.ref a)) → i = j
section
variable {K : PySem.W.Frag} {Z B H B' H' : Hp} {σ : St} {ρ : PEnv}
theorem RE.ext (r : RE K Z B H σ ρ) (x : Ext B H B' H') : RE K Z B' H' σ ρ := ⟨r.len, fun i p e => let ⟨v, h1, h2⟩ := r.val i p e; ⟨v, h1, h2.same x.b⟩, fun i ps e =>
  let ⟨a, xs, h1, h2, h3, h4, h5⟩ := r.own i ps e; ⟨a, xs, h1, h2, x.nw a _ h4 h3, x.h _ _ h4, h5.same x.b⟩, fun i c e =>
  let ⟨a, C, h1, h2, h3, h4, D, h5, h6⟩ := r.exc i c e; ⟨a, C, h1, h2, x.nw a _ h5 h3, h4, D, x.h _ _ h5, h6.mono fun d φ q => x.h _ _ q⟩, r.ne⟩
theorem RE.setVal (r : RE K Z B H σ ρ) {v : V} {p : PV} (h : Rp K B v p) (i : Nat) : RE K Z B H (σ.set i (some v)) (ρ.set i (.val p)) := by
  have hl := r.len
  have key : ∀ {j : Nat} {s : Sl}, (ρ.set i (.val p))[j]? = some s → (j = i ∧ s = .val p ∧ i < σ.length) ∨ (j ≠ i ∧ ρ[j]? = some s) := fun {j s} e => by
    by_cases hj : i = j
    · subst hj
      by_cases hi : i < ρ.length
      · rw [List.getElem?_set_self hi] at e; cases e; exact .inl ⟨rfl, rfl, by omega⟩
      · rw [List.getElem?_eq_none (by simp; omega)] at e; cases e
    · rw [List.getElem?_set_ne hj] at e; exact .inr ⟨Ne.symm hj, e⟩
  refine ⟨by simp [hl], fun j q e => ?_, fun j qs e => ?_, fun j c e => ?_, fun j k a ps qs e1 e2 e3 e4 => ?_⟩
  · rcases key e with ⟨rfl, e', hi⟩ | ⟨hj, e'⟩
    · cases e'; exact ⟨v, List.getElem?_set_self hi, h⟩
    · obtain ⟨w, h1, h2⟩ := r.val j q e'
      exact ⟨w, by rw [List.getElem?_set_ne (Ne.symm hj)]; exact h1, h2⟩
  · rcases key e with ⟨rfl, e', hi⟩ | ⟨hj, e'⟩
    · cases e'
    · obtain ⟨a, xs, h1, h2⟩ := r.own j qs e'
      exact ⟨a, xs, by rw [List.getElem?_set_ne (Ne.symm hj)]; exact h1, h2⟩
  · rcases key e with ⟨rfl, e', hi⟩ | ⟨hj, e'⟩
    · cases e'
    · obtain ⟨a, C, h1, h2⟩ := r.exc j c e'
      exact ⟨a, C, by rw [List.getElem?_set_ne (Ne.symm hj)]; exact h1, h2⟩
  · rcases key e1 with ⟨_, e', _⟩ | ⟨hj, e1'⟩
    · cases e'
    rcases key e2 with ⟨_, e', _⟩ | ⟨hk, e2'⟩
    · cases e'
    rw [List.getElem?_set_ne (Ne.symm hj)] at e3
    rw [List.getElem?_set_ne (Ne.symm hk)] at e4
    exact r.ne j k a ps qs e1' e2' e3 e4
end
def XTr (h0 : Heap) (ps : List Addr) (H : Hp) (h : Heap) (e : Addr) (vs : Array Value) (fl : Value) : Prop :=
  ∃ T oT ts, vs[1]? = some (.ref T) ∧ T ≠ e ∧ T ∉ ps ∧ H T = none ∧ h0.get? T = none ∧ h.get? T = some oT ∧ oT.data = .fields ts ∧ ts[3]? = some fl
def Fld (h0 : Heap) (ps : List Addr) (H : Hp) (h : Heap) (e : Addr) (fo : Option Nat) : Prop := match fo with
  | none => ∃ oe, h.get? e = some oe ∧ oe.dict = none
  | some k => ∃ oe d t, h.get? e = some oe ∧ oe.dict = some d ∧ h.Ns1 d (fun y => if y = "at" then some (.int k t) else none) ∧ H d = none ∧ h0.get? d = none ∧ d ∉ ps
theorem Fld.less {h0 : Heap} {ps qs : List Addr} {H : Hp} {h : Heap} {e : Addr} {fo : Option Nat} (f : Fld h0 ps H h e fo) (hs : ∀ d, d ∉ ps → d ∉ qs) : Fld h0 qs H h e fo := by
  cases fo with
  | none => exact f
  | some k => obtain ⟨oe, d, t, q1, q2, q3, q4, q5, q6⟩ := f; exact ⟨oe, d, t, q1, q2, q3, q4, q5, hs d q6⟩
structure XAt (h0 : Heap) (ps : List Addr) (L : Addr) (H : Hp) (h : Heap) (e : Addr) (cls : Value) (fo : Option Nat) : Prop where
  fr : H e = none
  nw : h0.get? e = none
  np : e ∉ ps
  fd : Fld h0 (L :: ps) H h e fo
  ob : ∃ oe vs a0, h.get? e = some oe ∧ oe.cls = cls ∧ oe.data = .fields vs ∧ vs[0]? = some a0 ∧ (vs[1]? = some .none ∨ XTr h0 ps H h e vs .none ∨ XTr h0 ps H h e vs (rawInt L))
def ExcIs (X : Cx) (pins : List (Addr × Obj)) (H : Hp) (c : XC) (x : Value) (s' : Shared) : Prop := ∃ e C, x = .ref e ∧ X.mg c.cls = some (.ref C) ∧ XAt X.s₀.heap ((X.pn ++ pins).map (·.1)) X.env.locals H s'.heap e (.ref C) c.fo
abbrev RelT (α β : Type) := PySem.W.Frag → Hp → β → α → Prop
def Out {α β : Type} (X : Cx) (Rel : RelT α β) (σ : St) (B H : Hp) (Q : β → Hp → Prop) (r : Res α) : Prop := match r with
  | .ok a => ∀ v H' B', Ext B H B' H' → Rel X.K B' v a → Q v H'
  | .exc c => ∀ pins x s' H' B', Inv X pins σ H' s' → Ext B H B' H' → ExcIs X pins H' c x s' → X.xe x s'
  | .bad => False
theorem Out.bind {α β α' β' : Type} {X : Cx} {Rel : RelT α β} {Rel' : RelT α' β'} {σ : St} {B H : Hp} {Q : β → Hp → Prop} {Q' : β' → Hp → Prop} {r : Res α'} {k : α' → Res α} (o : Out X Rel σ B H Q (r.bind k))
    (h : ∀ a v B1 H1, r = .ok a → Ext B H B1 H1 → Rel' X.K B1 v a → Out X Rel σ B1 H1 Q (k a) → Q' v H1) : Out X Rel' σ B H Q' r := by
  cases r with
  | bad => exact o
  | exc c => exact o
  | ok a =>
    intro v H1 B1 x rel
    refine h a v B1 H1 rfl x rel ?_
    have o' : Out X Rel σ B H Q (k a) := o
    cases e : k a with
    | bad => rw [e] at o'; exact o'
    | exc c => rw [e] at o'; exact fun pins y s' H' B' I x' ex => o' pins y s' H' B' I (x.trans x') ex
    | ok b => rw [e] at o'; exact fun w H' B' x' rel' => o' w H' B' (x.trans x') rel'
theorem Out.now {α β : Type} {X : Cx} {Rel : RelT α β} {σ : St} {B H : Hp} {Q : β → Hp → Prop} {a : α} {v : β} (o : Out X Rel σ B H Q (.ok a)) (s : Same B H) (r : Rel X.K B v a) : Q v H := o v H B (.refl s) r
def tG {α β : Type} (X : Cx) (Rel : RelT α β) (g : PEnv → Res α) : St → Hp → (β → Hp → Prop) → Prop := fun σ H Q => ∃ Z B ρ, Same B H ∧ RE X.K Z B H σ ρ ∧ Out X Rel σ B H Q (g ρ)
abbrev tE (X : Cx) (g : PEnv → Res PV) : TE := tG X Rp g
abbrev tAr (X : Cx) (g : PEnv → Res (List PV)) : TA := tG X Rps g
abbrev RelB : RelT Bool Bool := fun _ _ b c => b = c
abbrev tTs (X : Cx) (g : PEnv → Res Bool) : TT := tG X RelB g
abbrev PP (X : Cx) (e : Expr) (g : PEnv → Res PV) : Prop := PE X e (tE X g)
abbrev PPA (X : Cx) (es : List Expr) (g : PEnv → Res (List PV)) : Prop := PA X es (tAr X g)
abbrev PPT (X : Cx) (e : Expr) (g : PEnv → Res Bool) : Prop := PT X e (tTs X g)
abbrev PPW (X : Cx) (e : Expr) (g : PEnv → Res Bool) : Prop := PW X e (tTs X g)
theorem PE_mono {X : Cx} {e : Expr} {t t' : TE} (h : PE X e t) (m : ∀ σ H Q, t' σ H Q → t σ H Q) : PE X e t' := fun pins s σ H Q I q => h pins s σ H Q I (m σ H Q q)
theorem PT_mono {X : Cx} {e : Expr} {t t' : TT} (h : PT X e t) (m : ∀ σ H Q, t' σ H Q → t σ H Q) : PT X e t' := fun pins s σ H Q I q => h pins s σ H Q I (m σ H Q q)
theorem PW_mono {X : Cx} {e : Expr} {t t' : TT} (h : PW X e t) (m : ∀ σ H Q, t' σ H Q → t σ H Q) : PW X e t' := fun w pins s σ H Q I q => h w pins s σ H Q I (m σ H Q q)
theorem PA_mono {X : Cx} {e : List Expr} {t t' : TA} (h : PA X e t) (m : ∀ σ H Q, t' σ H Q → t σ H Q) : PA X e t' := fun pos pins s σ H Q I q => h pos pins s σ H Q I (m σ H Q q)
theorem PS_mono {X : Cx} {e : Stmt} {t t' : TS} (h : PS X e t) (m : ∀ D σ H, t' D σ H → t D σ H) : PS X e t' := fun pins s σ H D I q => h pins s σ H D I (m D σ H q)
theorem PSs_mono {X : Cx} {e : List Stmt} {t t' : TS} (h : PSs X e t) (m : ∀ D σ H, t' D σ H → t D σ H) : PSs X e t' := fun pins s σ H D I q => h pins s σ H D I (m D σ H q)
def look (i : Nat) : PEnv → Res PV := fun ρ => match ρ[i]? with
  | some (.val p) => .ok p
  | _ => .bad
def lookO (i : Nat) : PEnv → Res PV := fun ρ => match ρ[i]? with
  | some (.own ps) => .ok (.lst ps)
  | _ => .bad
def cst (p : PV) : PEnv → Res PV := fun _ => .ok p
section
variable {X : Cx}
theorem pp_var (i : Nat) {x : Str} {pos : Pos} (hN : X.N[i]? = some x := by rfl) (hv : Vis X.env.scope x := by first | exact Or.inl rfl | exact Or.inr (Or.inl rfl) | exact Or.inr (Or.inr rfl)) (hd : (x == ("__debug__" : Str)) = false := by decide)
    (hcd : (x == ("__classdict__" : Str)) = false := by decide) : PP X (.Name x pos) (look i) := by
  refine PE_mono (pe_var hN hv hd hcd) fun σ H Q ⟨Z, B, ρ, s, re, o⟩ => ?_
  unfold look at o
  split at o
  · rename_i p e
    obtain ⟨v, h1, h2⟩ := re.val i p e
    exact ⟨v, h1, o.now s h2⟩
  · exact o.elim
theorem pp_cst {e : Expr} {v : V} {p : PV} (h : PE X e (tC v)) (r : ∀ K H, Rp K H v p) : PP X e (cst p) := PE_mono h fun σ H Q ⟨Z, B, ρ, s, re, o⟩ => o.now s (r _ _)
theorem pp_int {i j pos} : PP X (.Constant (.int i) j pos) (cst (.int i)) := pp_cst pe_int fun _ _ => .int i
theorem pp_bl {i j pos} : PP X (.Constant (.bool i) j pos) (cst (.bl i)) := pp_cst pe_bl fun _ _ => .bl i
theorem pp_non {j pos} : PP X (.Constant .none j pos) (cst .non) := pp_cst pe_non fun _ _ => .non
theorem pp_str {x j pos} : PP X (.Constant (.str x) j pos) (cst (.str x)) := pp_cst pe_str fun _ _ => .str x
theorem pp_constI {x : Str} {i : Int} {pos : Pos} (hm : ∃ t, X.mg x = some (.int i t)) (hg : Gl X x := by rfl) (hd : (x == ("__debug__" : Str)) = false := by decide) : PP X (.Name x pos) (cst (.int i)) := pp_cst (pe_constI hm hg hd) fun _ _ => .int i
def b2 (f : PV → PV → Res PV) (g h : PEnv → Res PV) : PEnv → Res PV := fun ρ => (g ρ).bind fun x => (h ρ).bind fun y => f x y
def OpP (X : Cx) (r : R2) (f : PV → PV → Res PV) : Prop := ∀ σ B H Q x y p q, Same B H → Rp X.K B x p → Rp X.K B y q → Out X Rp σ B H Q (f p q) → r x y H Q
theorem b2_op {a b : PEnv → Res PV} {r : R2} {f : PV → PV → Res PV} (hp : OpP X r f) (σ : St) (H : Hp) (Q : VK) (h : tE X (b2 f a b) σ H Q) : tOp r (tE X a) (tE X b) σ H Q := by
  obtain ⟨Z, B, ρ, s, re, o⟩ := h
  refine ⟨Z, B, ρ, s, re, o.bind fun x' x B1 H1 _ e1 r1 o1 => ?_⟩
  refine ⟨Z, B1, ρ, e1.bh, re.ext e1, o1.bind fun y' y B2 H2 _ e2 r2 o2 => ?_⟩
  exact hp σ B2 H2 Q x y x' y' e2.bh (r1.same e2.b) r2 o2
theorem pp_op {op : Operator} {r : R2} {f : PV → PV → Res PV} {a b : Expr} {ga gb : PEnv → Res PV} {pos : Pos} (ho : OpR X (binaryOp op) r) (hp : OpP X r f) (ha : PP X a ga) (hb : PP X b gb) : PP X (.BinOp a op b pos) (b2 f ga gb) :=
  PE_mono (pe_op ho ha hb) (b2_op hp)
theorem pp_cmp {op : CmpOp} {r : R2} {f : PV → PV → Res PV} {a b : Expr} {ga gb : PEnv → Res PV} {pos : Pos} (ho : OpR X (compareOp op) r) (hp : OpP X r f) (ha : PP X a ga) (hb : PP X b gb) (hm : behindInMarks op b = false) : PP X (.Compare a [op] [b] pos) (b2 f ga gb) :=
  PE_mono (pe_cmpR ho ha hb hm) (b2_op hp)
def asB (p : PV) : Res Bool := match p with
  | .bl b => .ok b
  | _ => .bad
def bB (g : PEnv → Res PV) : PEnv → Res Bool := fun ρ => (g ρ).bind asB
theorem asB_out {σ : St} {B H : Hp} {Q : Bool → Hp → Prop} {v : V} {p : PV} (s : Same B H) (r : Rp X.K B v p) (o : Out X RelB σ B H Q (asB p)) : ∃ k, v = .bl k ∧ Q k H := by
  cases r <;> first | exact (show False from o).elim | skip
  exact ⟨_, rfl, o.now (Rel := RelB) s rfl⟩
theorem ppt_cmp {op : CmpOp} {r : R2} {f : PV → PV → Res PV} {a b : Expr} {ga gb : PEnv → Res PV} {pos : Pos} (ho : OpR X (compareOp op) r) (hp : OpP X r f) (ha : PP X a ga) (hb : PP X b gb) (hm : behindInMarks op b = false) : PPT X (.Compare a [op] [b] pos) (bB (b2 f ga gb)) := by
  refine PT_mono (pt_cmpR ho ha hb hm) fun σ H Q ⟨Z, B, ρ, s, re, o⟩ => ?_
  exact b2_op hp σ H _ ⟨Z, B, ρ, s, re, o.bind fun p v B1 H1 _ e1 r1 o1 => asB_out e1.bh r1 o1⟩
def tru (p : PV) : Res Bool := match p with
  | .non => .ok false
  | .bl b => .ok b
  | .int i => .ok (i != 0)
  | .str y => if y.length ≤ sizeLine then .ok ((y.length : Int) != 0) else .bad
  | .tup xs => .ok (!xs.isEmpty)
  | .lst xs => .ok (!xs.isEmpty)
  | .dic => .bad
def bT (g : PEnv → Res PV) : PEnv → Res Bool := fun ρ => (g ρ).bind tru
theorem Rps.empty {K : PySem.W.Frag} {H : Hp} {xs : List V} {ps : List PV} (r : Rps K H xs ps) : xs.isEmpty = ps.isEmpty := by
  have := r.len
  cases xs <;> cases ps <;> first | rfl | (simp at this)
theorem tru_out {σ : St} {B H : Hp} {Q : Bool → Hp → Prop} {v : V} {p : PV} (s : Same B H) (r : Rp X.K B v p) (o : Out X RelB σ B H Q (tru p)) : ∃ k, TruV X.K v H k ∧ Q k H := by
  cases r with
  | non => exact ⟨_, rfl, o.now (Rel := RelB) s rfl⟩
  | bl b => exact ⟨_, rfl, o.now (Rel := RelB) s rfl⟩
  | int i => exact ⟨_, rfl, o.now (Rel := RelB) s rfl⟩
  | str y =>
    unfold tru at o
    dsimp only at o
    split at o
    · rename_i h; exact ⟨_, ⟨h, rfl⟩, o.now (Rel := RelB) s rfl⟩
    · exact (show False from o).elim
  | @tup a xs ps h hl he =>
    exact ⟨_, .inr (.inl ⟨_, s.tup h, rfl⟩), o.now (Rel := RelB) s (by rw [Rps.empty (⟨hl, he⟩ : Rps X.K B xs ps)])⟩
  | @lst a xs ps h hl he =>
    exact ⟨_, .inl ⟨_, s.seq h, rfl⟩, o.now (Rel := RelB) s (by rw [Rps.empty (⟨hl, he⟩ : Rps X.K B xs ps)])⟩
  | dic h => exact (show False from o).elim
theorem ppt_val {a : Expr} {ga : PEnv → Res PV} (ha : PP X a ga) (he : ∀ whole, isTrue a X.env whole = (do let v ← whole; standAt a.pos; holding [v] (truthy v)) := by intro _; rfl) : PPT X a (bT ga) := by
  refine PT_mono (pt_truth ha he) fun σ H Q ⟨Z, B, ρ, s, re, o⟩ => ?_
  exact ⟨Z, B, ρ, s, re, o.bind fun p v B1 H1 _ e1 r1 o1 => tru_out e1.bh r1 o1⟩
def nB (g : PEnv → Res Bool) : PEnv → Res Bool := fun ρ => (g ρ).bind fun b => .ok (!b)
def aB (g h : PEnv → Res Bool) : PEnv → Res Bool := fun ρ => (g ρ).bind fun b => if b = true then h ρ else .ok false
def oB (g h : PEnv → Res Bool) : PEnv → Res Bool := fun ρ => (g ρ).bind fun b => if b = true then .ok true else h ρ
theorem ppt_not {a : Expr} {g : PEnv → Res Bool} {pos : Pos} (h : PPT X a g) : PPT X (.UnaryOp .Not a pos) (nB g) :=
  PT_mono (pt_not h) fun σ H Q ⟨Z, B, ρ, s, re, o⟩ => ⟨Z, B, ρ, s, re, o.bind fun b c B1 H1 _ e1 r1 o1 => o1.now (Rel := RelB) e1.bh (by cases r1; rfl)⟩
theorem ppw_and1 {a : Expr} {g : PEnv → Res Bool} {pos : Pos} (h : PPT X a g) : PPW X (.BoolOp .And [a] pos) g := pw_and1 h
theorem ppw_or1 {a : Expr} {g : PEnv → Res Bool} {pos : Pos} (h : PPT X a g) : PPW X (.BoolOp .Or [a] pos) g := pw_or1 h
theorem ppw_and {a b : Expr} {rest : List Expr} {g h : PEnv → Res Bool} {pos : Pos} (ha : PPT X a g) (hb : PPW X (.BoolOp .And (b :: rest) pos) h) : PPW X (.BoolOp .And (a :: b :: rest) pos) (aB g h) :=
  PW_mono (pw_and ha hb) fun σ H Q ⟨Z, B, ρ, s, re, o⟩ => ⟨Z, B, ρ, s, re, o.bind fun b c B1 H1 _ e1 r1 o1 => by
    cases r1
    cases b with
    | true => rw [if_pos rfl] at o1 ⊢; exact ⟨Z, B1, ρ, e1.bh, re.ext e1, o1⟩
    | false => rw [if_neg Bool.false_ne_true] at o1 ⊢; exact o1.now (Rel := RelB) e1.bh rfl⟩
theorem ppw_or {a b : Expr} {rest : List Expr} {g h : PEnv → Res Bool} {pos : Pos} (ha : PPT X a g) (hb : PPW X (.BoolOp .Or (b :: rest) pos) h) : PPW X (.BoolOp .Or (a :: b :: rest) pos) (oB g h) :=
  PW_mono (pw_or ha hb) fun σ H Q ⟨Z, B, ρ, s, re, o⟩ => ⟨Z, B, ρ, s, re, o.bind fun b c B1 H1 _ e1 r1 o1 => by
    cases r1
    cases b with
    | false => rw [if_neg Bool.false_ne_true] at o1 ⊢; exact ⟨Z, B1, ρ, e1.bh, re.ext e1, o1⟩
    | true => rw [if_pos rfl] at o1 ⊢; exact o1.now (Rel := RelB) e1.bh rfl⟩
def nV (g : PEnv → Res PV) : PEnv → Res PV := fun ρ => (g ρ).bind fun x => (asB x).bind fun b => .ok (.bl (!b))
def aV (g h : PEnv → Res PV) : PEnv → Res PV := fun ρ => (g ρ).bind fun x => (asB x).bind fun b => if b = true then h ρ else .ok (.bl false)
def oV (g h : PEnv → Res PV) : PEnv → Res PV := fun ρ => (g ρ).bind fun x => (asB x).bind fun b => if b = true then .ok (.bl true) else h ρ
theorem asB_bind {β : Type} {Rel : RelT PV β} {σ : St} {B H : Hp} {Q : β → Hp → Prop} {v : V} {p : PV} {k : Bool → Res PV} (r : Rp X.K B v p) (o : Out X Rel σ B H Q ((asB p).bind k)) : ∃ c, v = .bl c ∧ Out X Rel σ B H Q (k c) := by
  cases r <;> first | exact (show False from o).elim | skip
  exact ⟨_, rfl, o⟩
theorem pp_not {a : Expr} {g : PEnv → Res PV} {pos : Pos} (h : PP X a g) : PP X (.UnaryOp .Not a pos) (nV g) :=
  PE_mono (pe_not h) fun σ H Q ⟨Z, B, ρ, s, re, o⟩ => ⟨Z, B, ρ, s, re, o.bind fun p v B1 H1 _ e1 r1 o1 => by
    obtain ⟨c, rfl, o2⟩ := asB_bind r1 o1
    exact ⟨c, rfl, o2.now e1.bh (.bl _)⟩⟩
theorem pp_one {op} {a : Expr} {g : PEnv → Res PV} {pos : Pos} (h : PP X a g) : PP X (.BoolOp op [a] pos) g := pe_one h
theorem pp_and {a b : Expr} {rest : List Expr} {g h : PEnv → Res PV} {pos : Pos} (ha : PP X a g) (hb : PP X (.BoolOp .And (b :: rest) pos) h) : PP X (.BoolOp .And (a :: b :: rest) pos) (aV g h) :=
  PE_mono (pe_and ha hb) fun σ H Q ⟨Z, B, ρ, s, re, o⟩ => ⟨Z, B, ρ, s, re, o.bind fun p v B1 H1 _ e1 r1 o1 => by
    obtain ⟨c, rfl, o2⟩ := asB_bind r1 o1
    refine ⟨c, rfl, ?_⟩
    cases c with
    | true => rw [if_pos rfl] at o2 ⊢; exact ⟨Z, B1, ρ, e1.bh, re.ext e1, o2⟩
    | false => rw [if_neg Bool.false_ne_true] at o2 ⊢; exact o2.now e1.bh (.bl _)⟩
def iV (c : PEnv → Res Bool) (g h : PEnv → Res PV) : PEnv → Res PV := fun ρ => (c ρ).bind fun b => if b = true then g ρ else h ρ
def aNil : PEnv → Res (List PV) := fun _ => .ok []
def aCons (g : PEnv → Res PV) (h : PEnv → Res (List PV)) : PEnv → Res (List PV) := fun ρ => (g ρ).bind fun x => (h ρ).bind fun xs => .ok (x :: xs)
theorem ppa_nil : PPA X [] aNil := PA_mono pa_nil fun σ H Q ⟨Z, B, ρ, s, re, o⟩ => o.now (Rel := Rps) s .nil
theorem ppa_cons {e : Expr} {es : List Expr} {g : PEnv → Res PV} {h : PEnv → Res (List PV)} (ha : PP X e g) (hr : PPA X es h) (hs : starEach (e :: es) X.env = (false, eval e X.env) :: starEach es X.env := by rfl) : PPA X (e :: es) (aCons g h) :=
  PA_mono (pa_cons ha hr hs) fun σ H Q ⟨Z, B, ρ, s, re, o⟩ => ⟨Z, B, ρ, s, re, o.bind fun p v B1 H1 _ e1 r1 o1 => ⟨Z, B1, ρ, e1.bh, re.ext e1, o1.bind fun ps vs B2 H2 _ e2 r2 o2 => o2.now (Rel := Rps) e2.bh (.cons (r1.same e2.b) r2)⟩⟩
def mkT (xs : List PV) : Res PV := if xs.length ≤ sizeLine then .ok (.tup xs) else .bad
def mkL (xs : List PV) : Res PV := if xs.length ≤ sizeLine then .ok (.lst xs) else .bad
def eTup (g : PEnv → Res (List PV)) : PEnv → Res PV := fun ρ => (g ρ).bind mkT
def eLst (g : PEnv → Res (List PV)) : PEnv → Res PV := fun ρ => (g ρ).bind mkL
theorem newT {σ : St} {B H : Hp} {Q : VK} {p : Addr} {xs : List V} {ps : List PV} (s : Same B H) (r : Rps X.K B xs ps) (n : H p = none) (o : Out X Rp σ B H Q (.ok (.tup ps))) : Q (.ref p) (upd H p (.tup xs)) :=
  o _ _ _ (Ext.new s n) (.tupOf (.of upd_same) (r.same (same_new (s.free n) _)))
theorem newL {σ : St} {B H : Hp} {Q : VK} {p : Addr} {xs : List V} {ps : List PV} (s : Same B H) (r : Rps X.K B xs ps) (n : H p = none) (o : Out X Rp σ B H Q (.ok (.lst ps))) : Q (.ref p) (upd H p (.lst xs)) :=
  o _ _ _ (Ext.new s n) (.lstOf (.of upd_same) (r.same (same_new (s.free n) _)))
theorem pp_tup {es : List Expr} {x1 : Nat} {pos : Pos} {g : PEnv → Res (List PV)} (h : PPA X es g) : PP X (.Tuple es x1 pos) (eTup g) :=
  PE_mono (pe_tup h) fun σ H Q ⟨Z, B, ρ, s, re, o⟩ => ⟨Z, B, ρ, s, re, o.bind fun p v B1 H1 _ e1 r1 o1 => by
    unfold mkT at o1
    split at o1
    · rename_i hz; exact ⟨by rw [r1.len]; exact hz, fun q n => newT e1.bh r1 n o1⟩
    · exact (show False from o1).elim⟩
theorem pp_lst {es : List Expr} {pos : Pos} {g : PEnv → Res (List PV)} (h : PPA X es g) : PP X (.List es pos) (eLst g) :=
  PE_mono (pe_lst h) fun σ H Q ⟨Z, B, ρ, s, re, o⟩ => ⟨Z, B, ρ, s, re, o.bind fun p v B1 H1 _ e1 r1 o1 => by
    unfold mkL at o1
    split at o1
    · rename_i hz; exact ⟨by rw [r1.len]; exact hz, fun q n => newL e1.bh r1 n o1⟩
    · exact (show False from o1).elim⟩
end
end L2
namespace L2
open PySem PySem.Spec PyProof.Rows
section
variable {X : Cx}
def i2 (f : Int → Int → Res PV) : PV → PV → Res PV := fun p q => match p, q with
  | .int i, .int j => f i j
  | _, _ => .bad
theorem opP_i0 {g : Int → Int → V} {f : Int → Int → PV} (h : ∀ i j K B, Rp K B (g i j) (f i j)) : OpP X (rI0 g) (i2 fun i j => .ok (f i j)) := by
  intro σ B H Q x y p q s r1 r2 o
  cases r1 <;> first | exact (show False from o).elim | skip
  cases r2 <;> first | exact (show False from o).elim | skip
  exact ⟨_, _, rfl, rfl, Out.now (Rel := Rp) o s (h _ _ _ _)⟩
theorem opP_iC {C : Int → Int → Prop} [∀ i j, Decidable (C i j)] {g : Int → Int → V} {f : Int → Int → PV} (h : ∀ i j K B, Rp K B (g i j) (f i j)) : OpP X (rI C g) (i2 fun i j => if C i j then .ok (f i j) else .bad) := by
  intro σ B H Q x y p q s r1 r2 o
  cases r1 <;> first | exact (show False from o).elim | skip
  cases r2 <;> first | exact (show False from o).elim | skip
  rename_i i j
  have o' : Out X Rp σ B H Q (if C i j then .ok (f i j) else .bad) := o
  by_cases hc : C i j
  · rw [if_pos hc] at o'
    exact ⟨_, _, rfl, rfl, hc, Out.now (Rel := Rp) o' s (h _ _ _ _)⟩
  · rw [if_neg hc] at o'; exact (show False from o').elim
instance (i j : Int) : Decidable (CMul i j) := by unfold CMul; exact inferInstance
instance (i j : Int) : Decidable (CDiv i j) := by unfold CDiv; exact inferInstance
instance (i j : Int) : Decidable (CPow i j) := by unfold CPow; exact inferInstance
def subP : PV → PV → Res PV := i2 fun i j => .ok (.int (i - j))
def mulP : PV → PV → Res PV := i2 fun i j => if CMul i j then .ok (.int (i * j)) else .bad
def modP : PV → PV → Res PV := i2 fun i j => if 0 < j then .ok (.int (i % j)) else .bad
def divP : PV → PV → Res PV := i2 fun i j => if CDiv i j then .ok (.int (i / j)) else .bad
def powP : PV → PV → Res PV := i2 fun i j => if CPow i j then .ok (.int (i ^ j.toNat)) else .bad
def ltP : PV → PV → Res PV := i2 fun i j => .ok (.bl (decide (i < j)))
def leP : PV → PV → Res PV := i2 fun i j => .ok (.bl (decide (i ≤ j)))
def gtP : PV → PV → Res PV := i2 fun i j => .ok (.bl (decide (j < i)))
def geP : PV → PV → Res PV := i2 fun i j => .ok (.bl (decide (j ≤ i)))
variable {a b : Expr} {ga gb : PEnv → Res PV} {pos : Pos}
theorem pp_mul (ha : PP X a ga) (hb : PP X b gb) : PP X (.BinOp a .Mult b pos) (b2 mulP ga gb) := pp_op op_mul (opP_iC fun _ _ _ _ => .int _) ha hb
theorem pp_mod (ha : PP X a ga) (hb : PP X b gb) : PP X (.BinOp a .Mod b pos) (b2 modP ga gb) := pp_op op_mod (opP_iC (C := fun _ j => 0 < j) fun _ _ _ _ => .int _) ha hb
theorem pp_fdiv (ha : PP X a ga) (hb : PP X b gb) : PP X (.BinOp a .FloorDiv b pos) (b2 divP ga gb) := pp_op op_fdiv (opP_iC fun _ _ _ _ => .int _) ha hb
theorem pp_pow (ha : PP X a ga) (hb : PP X b gb) : PP X (.BinOp a .Pow b pos) (b2 powP ga gb) := pp_op op_pow (opP_iC fun _ _ _ _ => .int _) ha hb
theorem opP_lt : OpP X (rI0 fun i j => .bl (decide (i < j))) ltP := opP_i0 fun _ _ _ _ => .bl _
theorem opP_gt : OpP X (rI0 fun i j => .bl (decide (j < i))) gtP := opP_i0 fun _ _ _ _ => .bl _
theorem opP_ge : OpP X (rI0 fun i j => .bl (decide (j ≤ i))) geP := opP_i0 fun _ _ _ _ => .bl _
theorem ppt_lt (ha : PP X a ga) (hb : PP X b gb) : PPT X (.Compare a [.Lt] [b] pos) (bB (b2 ltP ga gb)) := ppt_cmp op_lt opP_lt ha hb (nomark _)
theorem ppt_gt (ha : PP X a ga) (hb : PP X b gb) : PPT X (.Compare a [.Gt] [b] pos) (bB (b2 gtP ga gb)) := ppt_cmp op_gt opP_gt ha hb (nomark _)
theorem ppt_ge (ha : PP X a ga) (hb : PP X b gb) : PPT X (.Compare a [.GtE] [b] pos) (bB (b2 geP ga gb)) := ppt_cmp op_ge opP_ge ha hb (nomark _)
def rCat0 (K : PySem.W.Frag) : R2 := fun x y H Q => ∃ a b, x = .ref a ∧ y = .ref b ∧ SqT K H a [] ∧ (∃ ys, SqT K H b ys) ∧ Q (.ref b) H
theorem op_cat0 : OpR X (binaryOp .Add) (rCat0 X.K) := by
  intro pins s σ H x y v u Q I rx ry h
  obtain ⟨a, b, rfl, rfl, ha, ⟨ys, hb⟩, q⟩ := h
  cases rx
  cases ry
  obtain ⟨its, r1, p1, _⟩ := I.tuple ha
  obtain ⟨its2, r2, p2, _⟩ := I.tuple hb
  cases r1
  obtain ⟨⟨cls, dd, data, sl⟩, ho, hc, n, hd⟩ := id p1
  obtain ⟨⟨cls2, dd2, data2, sl2⟩, ho2, hc2, n2, hd2⟩ := id p2
  simp only at hc hd hc2 hd2
  subst hc hd hc2 hd2
  exact concat_meets ⟨_, ho, rfl⟩ ⟨_, ho2, rfl⟩ noFill_tuple_add seq_tuple_add PySem.F.slot_tuple_add PySem.F.entry_tuple_add (PySem.F.args_tuple_add_2 _ _)
    (tuple_addW0 a b _ its2.toArray n n2 dd dd2 sl sl2 rfl) ⟨ho, ho2, .ref b, H, I, rfl, q⟩
def addP : PV → PV → Res PV := fun p q => match p, q with
  | .int i, .int j => .ok (.int (i + j))
  | .tup xs, .tup ys => if xs.length + ys.length ≤ sizeLine then .ok (.tup (xs ++ ys)) else .bad
  | .str x, .str y => if x.length + y.length ≤ sizeLine then .ok (.str (x ++ y)) else .bad
  | _, _ => .bad
theorem Rps.isNil {K : PySem.W.Frag} {H : Hp} {ps : List PV} (r : Rps K H [] ps) : ps = [] := List.length_eq_zero_iff.mp r.len.symm
theorem pp_add (ha : PP X a ga) (hb : PP X b gb) : PP X (.BinOp a .Add b pos) (b2 addP ga gb) := by
  refine pp_op ((op_add.or op_add_str).or (op_catT.or op_cat0)) ?_ ha hb
  intro σ B H Q x y p q s r1 r2 o
  cases r1 with
  | int i =>
    cases r2 <;> first | exact (show False from o).elim | skip
    exact .inl (.inl ⟨_, _, rfl, rfl, Out.now (Rel := Rp) o s (.int _)⟩)
  | str i =>
    cases r2 <;> first | exact (show False from o).elim | skip
    rename_i j
    have o' : Out X Rp σ B H Q (if i.length + j.length ≤ sizeLine then .ok (.str (i ++ j)) else .bad) := o
    split at o'
    · rename_i hz; exact .inl (.inr ⟨_, _, rfl, rfl, hz, Out.now (Rel := Rp) o' s (.str _)⟩)
    · exact (show False from o').elim
  | @tup a1 xs ps h hl he =>
    cases r2 <;> first | exact (show False from o).elim | skip
    rename_i a2 ys qs h2 hl2 he2
    have o' : Out X Rp σ B H Q (if ps.length + qs.length ≤ sizeLine then .ok (.tup (ps ++ qs)) else .bad) := o
    have R1 : Rps X.K B xs ps := ⟨hl, he⟩
    have R2' : Rps X.K B ys qs := ⟨hl2, he2⟩
    split at o'
    · rename_i hz
      by_cases hx : xs = []
      · subst hx
        have e := R1.isNil
        subst e
        exact .inr (.inr ⟨a1, a2, rfl, rfl, (s.tup h), ⟨ys, (s.tup h2)⟩, Out.now (Rel := Rp) o' s (.tupOf h2 R2')⟩)
      · refine .inr (.inl ⟨a1, a2, xs, ys, rfl, rfl, (s.tup h), (s.tup h2), hx, by omega, fun hy => ?_, fun hy pn n => ?_⟩)
        · subst hy
          have e := R2'.isNil
          subst e
          exact Out.now (Rel := Rp) o' s (by rw [List.append_nil]; exact .tupOf h R1)
        · exact newT s (R1.app R2') n o'
    · exact (show False from o').elim
  | _ => exact (show False from o).elim
def eqS : PV → PV → Option Bool := fun p q => match p, q with
  | .non, .non => some true | .non, .int _ => some false | .int _, .non => some false | .non, .bl _ => some false | .bl _, .non => some false | .non, .str _ => some false | .str _, .non => some false
  | .int i, .int j => some (decide (i = j)) | .bl i, .bl j => some (decide (i = j)) | .str i, .str j => some (decide (i = j))
  | .int _, .str _ => some false | .str _, .int _ => some false | .bl _, .str _ => some false | .str _, .bl _ => some false
  | _, _ => none
def ofB (o : Option Bool) : Res PV := match o with
  | some b => .ok (.bl b)
  | none => .bad
def eqE : PV → PV → Option Bool := fun p q => match p, q with
  | .tup xs, .tup [] => some xs.isEmpty
  | .lst xs, .lst [] => some xs.isEmpty
  | p, q => eqS p q
def eqP : PV → PV → Res PV := fun p q => ofB (eqE p q)
theorem eqS_ok {K : PySem.W.Frag} {B : Hp} {x y : V} {p q : PV} {k : Bool} (r1 : Rp K B x p) (r2 : Rp K B y q) (e : eqS p q = some k) : scal x y = true ∧ decide (x = y) = k := by
  cases r1 <;> cases r2 <;> first | (cases e; exact ⟨rfl, by simp⟩) | (exact absurd e (fun z => nomatch z))
theorem out_ofB {σ : St} {B H : Hp} {Q : VK} {o : Option Bool} (h : Out X Rp σ B H Q (ofB o)) : ∃ k, o = some k ∧ Out X Rp σ B H Q (.ok (.bl k)) := by
  cases o with
  | none => exact (show False from h).elim
  | some k => exact ⟨k, rfl, h⟩
theorem opP_eq : OpP X (fun x y H Q => rEq x y H Q ∨ (rEqT X.K x y H Q ∨ rEqL X.K x y H Q)) eqP := by
  intro σ B H Q x y p q s r1 r2 o
  obtain ⟨k, e, o'⟩ := out_ofB o
  unfold eqE at e
  split at e
  · rename_i ps
    cases e
    obtain ⟨a1, xs, rfl, h1, R1⟩ := r1.isTup
    obtain ⟨a2, ys, rfl, h2, R2'⟩ := r2.isTup
    have hy : ys = [] := List.length_eq_zero_iff.mp (by rw [R2'.len]; rfl)
    subst hy
    refine .inr (.inl ⟨a1, a2, xs, [], fun _ => true, 0, rfl, rfl, (s.tup h1), (s.tup h2), by omega, fun j x y _ e => by simp at e, ?_⟩)
    refine Out.now (Rel := Rp) o' s ?_
    rw [← R1.empty]
    cases xs with
    | nil => exact .bl _
    | cons z zs => exact .bl _
  · rename_i ps
    cases e
    obtain ⟨a1, xs, rfl, h1, R1⟩ := r1.isLst
    obtain ⟨a2, ys, rfl, h2, R2'⟩ := r2.isLst
    have hy : ys = [] := List.length_eq_zero_iff.mp (by rw [R2'.len]; rfl)
    subst hy
    refine .inr (.inr ⟨a1, a2, xs, [], fun _ => true, 0, rfl, rfl, (s.seq h1), (s.seq h2), by omega, fun j x y _ e => by simp at e, fun hl => ?_, fun hl => ?_⟩)
    · have hx : xs = [] := List.length_eq_zero_iff.mp hl
      subst hx
      have := R1.isNil
      subst this
      exact Out.now (Rel := Rp) o' s (.bl _)
    · refine Out.now (Rel := Rp) o' s ?_
      rw [← R1.empty]
      cases xs with
      | nil => exact absurd rfl hl
      | cons z zs => exact .bl _
  · obtain ⟨e1, e2⟩ := eqS_ok r1 r2 e
    exact .inl ⟨e1, Out.now (Rel := Rp) o' s (by rw [e2]; exact .bl _)⟩
theorem pp_eq (hu : X.A.units + 64 < cLine) (ha : PP X a ga) (hb : PP X b gb) : PP X (.Compare a [.Eq] [b] pos) (b2 eqP ga gb) := pp_cmp (op_eq.or ((op_eqT hu).or (op_eqL hu))) opP_eq ha hb (nomark _)
theorem ppt_eq (hu : X.A.units + 64 < cLine) (ha : PP X a ga) (hb : PP X b gb) : PPT X (.Compare a [.Eq] [b] pos) (bB (b2 eqP ga gb)) := ppt_cmp (op_eq.or ((op_eqT hu).or (op_eqL hu))) opP_eq ha hb (nomark _)
def neP : PV → PV → Res PV := fun p q => ofB ((eqS p q).map (!·))
theorem opP_ne : OpP X rNe neP := by
  intro σ B H Q x y p q s r1 r2 o
  obtain ⟨k, e, o'⟩ := out_ofB o
  obtain ⟨k', e1, rfl⟩ := Option.map_eq_some_iff.mp e
  obtain ⟨h1, h2⟩ := eqS_ok r1 r2 e1
  exact ⟨h1, Out.now (Rel := Rp) o' s (by rw [h2]; exact .bl _)⟩
theorem ppt_ne (ha : PP X a ga) (hb : PP X b gb) : PPT X (.Compare a [.NotEq] [b] pos) (bB (b2 neP ga gb)) := ppt_cmp op_ne opP_ne ha hb (nomark _)
def isNP : PV → PV → Res PV := fun p q => match q with
  | .non => .ok (.bl (match p with | .non => true | _ => false))
  | _ => .bad
def notNP : PV → PV → Res PV := fun p q => match q with
  | .non => .ok (.bl (match p with | .non => false | _ => true))
  | _ => .bad
def ofO (o : Option PV) : Res PV := match o with
  | some p => .ok p
  | none => .bad
def ixP : PV → PV → Res PV := fun p q => match p, q with
  | .tup xs, .int i => ofO (atI xs i)
  | .lst xs, .int i => ofO (atI xs i)
  | _, _ => .bad
theorem Rps.atI {K : PySem.W.Frag} {H : Hp} {xs : List V} {ps : List PV} {i : Int} {p : PV} (h : Rps K H xs ps) (e : L2.atI ps i = some p) : ∃ x, L2.atI xs i = some x ∧ Rp K H x p := by
  unfold L2.atI at e ⊢
  rw [h.len]
  cases q : ixN ps.length i with
  | none => rw [q] at e; cases e
  | some j => rw [q] at e; exact h.at_ e
theorem out_ofO {σ : St} {B H : Hp} {Q : VK} {o : Option PV} (h : Out X Rp σ B H Q (ofO o)) : ∃ k, o = some k ∧ Out X Rp σ B H Q (.ok k) := by
  cases o with
  | none => exact (show False from h).elim
  | some k => exact ⟨k, rfl, h⟩
theorem opP_ix : OpP X (fun x y H Q => rIxL X.K x y H Q ∨ rIxT X.K x y H Q) ixP := by
  intro σ B H Q x y p q s r1 r2 o
  cases r1 with
  | @tup a1 xs ps h hl he =>
    cases r2 <;> first | exact (show False from o).elim | skip
    obtain ⟨k, e, o'⟩ := out_ofO o
    obtain ⟨v, e', r⟩ := Rps.atI (⟨hl, he⟩ : Rps X.K B xs ps) e
    exact .inr ⟨_, _, _, _, rfl, rfl, (s.tup h), e', Out.now (Rel := Rp) o' s r⟩
  | @lst a1 xs ps h hl he =>
    cases r2 <;> first | exact (show False from o).elim | skip
    obtain ⟨k, e, o'⟩ := out_ofO o
    obtain ⟨v, e', r⟩ := Rps.atI (⟨hl, he⟩ : Rps X.K B xs ps) e
    exact .inl ⟨_, _, _, _, rfl, rfl, (s.seq h), e', Out.now (Rel := Rp) o' s r⟩
  | _ => exact (show False from o).elim
theorem pp_ix (ha : PP X a ga) (hb : PP X b gb) (hs : PlainIx b := by intro _ _; rfl) : PP X (.Subscript a b pos) (b2 ixP ga gb) := PE_mono (pe_ix (ix_list.or ix_tup) ha hb hs) (b2_op opP_ix)
theorem pp_ixO (i : Nat) {x : Str} {p1 : Pos} (hb : PP X b gb) (hN : X.N[i]? = some x := by rfl) (hv : Vis X.env.scope x := by first | exact Or.inl rfl | exact Or.inr (Or.inl rfl) | exact Or.inr (Or.inr rfl)) (hd : (x == ("__debug__" : Str)) = false := by decide)
    (hcd : (x == ("__classdict__" : Str)) = false := by decide) (hs : PlainIx b := by intro _ _; rfl) : PP X (.Subscript (.Name x p1) b pos) (b2 ixP (lookO i) gb) := by
  refine PE_mono (pe_ix ix_list (pe_var hN hv hd hcd) hb hs) fun σ H Q ⟨Z, B, ρ, s, re, o⟩ => ?_
  unfold b2 lookO at o
  split at o
  case h_2 => exact (show False from o).elim
  rename_i ps e
  obtain ⟨ad, xs, h1, h2, h3, h4, h5⟩ := re.own i ps e
  have o : Out X Rp σ B H Q ((gb ρ).bind fun y => ixP (.lst ps) y) := o
  refine ⟨.ref ad, h1, Z, B, ρ, s, re, o.bind fun q v B1 H1 _ e1 r1 o1 => ?_⟩
  cases r1 <;> first | exact (show False from o1).elim | skip
  obtain ⟨k, ek, o'⟩ := out_ofO o1
  obtain ⟨v, e', r⟩ := h5.atI ek
  exact ⟨_, _, _, _, rfl, rfl, .inl (.inl (e1.h _ _ h4)), e', Out.now (Rel := Rp) o' e1.bh (r.same e1.b)⟩
def oNone : PEnv → Res (Option Int) := fun _ => .ok none
def oSome (g : PEnv → Res PV) : PEnv → Res (Option Int) := fun ρ => (g ρ).bind fun p => match p with | .int i => .ok (some i) | _ => .bad
abbrev RelI : RelT (Option Int) (Option Int) := fun _ _ b c => b = c
abbrev PPO (X : Cx) (e : Option Expr) (g : PEnv → Res (Option Int)) : Prop := PO X e (tG X RelI g)
theorem ppo_none : PPO X none oNone := by
  intro pins s σ H Q I ⟨Z, B, ρ, sb, re, o⟩
  exact po_none pins s σ H Q I (o.now (Rel := RelI) sb rfl)
theorem ppo_some (ha : PP X a ga) : PPO X (some a) (oSome ga) := by
  intro pins s σ H Q I ⟨Z, B, ρ, sb, re, o⟩
  refine po_some ha pins s σ H Q I ⟨Z, B, ρ, sb, re, o.bind fun p v B1 H1 _ e1 r1 o1 => ?_⟩
  cases r1 <;> first | exact (show False from o1).elim | skip
  exact ⟨_, rfl, o1.now (Rel := RelI) e1.bh rfl⟩
def cutP (xs : List PV) (lo hi : Option Int) : List PV := (xs.drop (HT.sIx xs.length 0 lo)).take (HT.sIx xs.length xs.length hi - HT.sIx xs.length 0 lo)
def slP : PV → Option Int → Option Int → Res PV := fun p lo hi => match p with
  | .tup xs => if HT.sIx xs.length 0 lo = 0 ∧ HT.sIx xs.length xs.length hi = xs.length then .bad else .ok (.tup (cutP xs lo hi))
  | .lst xs => .ok (.lst (cutP xs lo hi))
  | _ => .bad
def eSl (g : PEnv → Res PV) (l h : PEnv → Res (Option Int)) : PEnv → Res PV := fun ρ => (g ρ).bind fun x => (l ρ).bind fun lo => (h ρ).bind fun hi => slP x lo hi
theorem Rps.cut {K : PySem.W.Frag} {H : Hp} {xs : List V} {ps : List PV} (h : Rps K H xs ps) (lo hi : Option Int) : Rps K H (cutV xs lo hi) (cutP ps lo hi) := by
  unfold cutV cutP
  rw [h.len]
  exact (h.drop _).take _
theorem pp_slice {lo hi : Option Expr} {l h : PEnv → Res (Option Int)} {p2 : Pos} (ha : PP X a ga) (hl : PPO X lo l) (hh : PPO X hi h) : PP X (.Subscript a (.Slice lo hi none p2) pos) (eSl ga l h) := by
  refine PE_mono (pe_slice (sl_tup.or sl_list) ha hl hh) fun σ H Q ⟨Z, B, ρ, s, re, o⟩ => ⟨Z, B, ρ, s, re, o.bind fun p v B1 H1 _ e1 r1 o1 => ?_⟩
  refine ⟨Z, B1, ρ, e1.bh, re.ext e1, o1.bind fun i i' B2 H2 _ e2 r2 o2 => ?_⟩
  refine ⟨Z, B2, ρ, e2.bh, (re.ext e1).ext e2, o2.bind fun j j' B3 H3 _ e3 r3 o3 => ?_⟩
  cases r2; cases r3
  have r := (r1.same e2.b).same e3.b
  cases r with
  | @tup a1 xs ps h1 hl1 he1 =>
    have R1 : Rps X.K B3 xs ps := ⟨hl1, he1⟩
    unfold slP at o3
    dsimp only at o3
    split at o3
    · exact (show False from o3).elim
    · rename_i hn
      exact .inl ⟨a1, xs, rfl, (e3.bh.tup h1), by rw [R1.len]; exact hn, fun q n => newT e3.bh (R1.cut i j) n o3⟩
  | @lst a1 xs ps h1 hl1 he1 =>
    have R1 : Rps X.K B3 xs ps := ⟨hl1, he1⟩
    exact .inr ⟨a1, xs, rfl, (e3.bh.seq h1), fun q n => newL e3.bh (R1.cut i j) n o3⟩
  | _ => exact (show False from o3).elim
def eC (f : List PV → Res PV) (g : PEnv → Res (List PV)) : PEnv → Res PV := fun ρ => (g ρ).bind f
def CalP (X : Cx) (r : List V → Hp → VK → Prop) (f : List PV → Res PV) : Prop := ∀ σ B H Q xs ps, Same B H → Rps X.K B xs ps → Out X Rp σ B H Q (f ps) → r xs H Q
theorem pp_callB {x : Str} {id : String} {r : List V → Hp → VK → Prop} {f : List PV → Res PV} {e : Expr} {es : List Expr} {g : PEnv → Res (List PV)} {p : Pos} (hc : CallR X (.builtin id) r) (hp : CalP X r f) (hg : Gl X x) (hm : X.mg x = none) (hv : bootBuiltins x = some (.builtin id)) (ha : PPA X (e :: es) g)
    (hn : x ≠ "__name__" := by decide) (hdb : (x == ("__debug__" : Str)) = false := by decide) (he : starEach (e :: es) X.env = (false, eval e X.env) :: starEach es X.env := by rfl) (hpl : (backTo pos (starEach es X.env)).any (·.1) = false := by rfl) :
    PP X (.Call (.Name x p) (e :: es) [] pos) (eC f g) :=
  PE_mono (pe_callB hc hg hm hv ha hn hdb he hpl) fun σ H Q ⟨Z, B, ρ, s, re, o⟩ => ⟨Z, B, ρ, s, re, o.bind fun ps xs B1 H1 _ e1 r1 o1 => hp σ B1 H1 Q xs ps e1.bh r1 o1⟩
theorem pp_callTy {x : Str} {id : String} {r : List V → Hp → VK → Prop} {f : List PV → Res PV} {e : Expr} {es : List Expr} {g : PEnv → Res (List PV)} {p : Pos} (hc : CallR X (.type id) r) (hp : CalP X r f) (hg : Gl X x) (hm : X.mg x = none) (hv : bootBuiltins x = some (.type id)) (ha : PPA X (e :: es) g)
    (hn : x ≠ "__name__" := by decide) (hdb : (x == ("__debug__" : Str)) = false := by decide) (he : starEach (e :: es) X.env = (false, eval e X.env) :: starEach es X.env := by rfl) (hpl : (backTo pos (starEach es X.env)).any (·.1) = false := by rfl) :
    PP X (.Call (.Name x p) (e :: es) [] pos) (eC f g) :=
  PE_mono (pe_callTy hc hg hm hv ha hn hdb he hpl) fun σ H Q ⟨Z, B, ρ, s, re, o⟩ => ⟨Z, B, ρ, s, re, o.bind fun ps xs B1 H1 _ e1 r1 o1 => hp σ B1 H1 Q xs ps e1.bh r1 o1⟩
theorem Rps.one' {K : PySem.W.Frag} {H : Hp} {xs : List V} {p : PV} (r : Rps K H xs [p]) : ∃ x, xs = [x] ∧ Rp K H x p := by
  obtain ⟨x, e, r'⟩ := r.at_ (i := 0) (p := p) rfl
  have := r.len
  match xs, this, e with
  | [y], _, e => exact ⟨y, rfl, by simp at e; subst e; exact r'⟩
theorem Rps.two' {K : PySem.W.Frag} {H : Hp} {xs : List V} {p q : PV} (r : Rps K H xs [p, q]) : ∃ x y, xs = [x, y] ∧ Rp K H x p ∧ Rp K H y q := by
  obtain ⟨x, e, r1⟩ := r.at_ (i := 0) (p := p) rfl
  obtain ⟨y, e2, r2⟩ := r.at_ (i := 1) (p := q) rfl
  have := r.len
  match xs, this, e, e2 with
  | [u, v], _, e, e2 => exact ⟨u, v, rfl, by simp at e; subst e; exact r1, by simp at e2; subst e2; exact r2⟩
def lenP : List PV → Res PV := fun ps => match ps with
  | [.tup xs] => .ok (.int xs.length)
  | [.lst xs] => .ok (.int xs.length)
  | _ => .bad
theorem calP_len : CalP X (fun xs H Q => ∃ p ys, xs = [.ref p] ∧ (SqL X.K H p ys ∨ SqT X.K H p ys) ∧ Q (.int ys.length) H) lenP := by
  intro σ B H Q xs ps s r o
  unfold lenP at o
  split at o
  · obtain ⟨x, rfl, r1⟩ := r.one'
    obtain ⟨a1, xs, rfl, h1, R1⟩ := r1.isTup
    exact ⟨a1, xs, rfl, .inr ((s.tup h1)), by rw [R1.len]; exact Out.now (Rel := Rp) o s (.int _)⟩
  · obtain ⟨x, rfl, r1⟩ := r.one'
    obtain ⟨a1, xs, rfl, h1, R1⟩ := r1.isLst
    exact ⟨a1, xs, rfl, .inl ((s.seq h1)), by rw [R1.len]; exact Out.now (Rel := Rp) o s (.int _)⟩
  · exact (show False from o).elim
def intsP : List PV → Option (List Int)
  | [] => some []
  | .int i :: ps => (intsP ps).map (i :: ·)
  | _ => none
theorem intsP_ok : ∀ {ps : List PV} {ns : List Int}, intsP ps = some ns → ps = ns.map .int
  | [], ns, e => by cases e; rfl
  | .int i :: ps, ns, e => by
    obtain ⟨ms, e1, rfl⟩ := Option.map_eq_some_iff.mp e
    rw [intsP_ok e1]; rfl
theorem intsP_map (ns : List Int) : intsP (ns.map .int) = some ns := by
  induction ns with
  | nil => rfl
  | cons i ns ih => show (intsP (ns.map .int)).map (i :: ·) = _; rw [ih]; rfl
def sumP : List PV → Res PV := fun ps => match ps with
  | [.tup xs] => match intsP xs with | some ns => .ok (.int ns.sum) | none => .bad
  | [.lst xs] => match intsP xs with | some ns => .ok (.int ns.sum) | none => .bad
  | _ => .bad
theorem calP_sum : CalP X (fun xs H Q => ∃ (p : Addr) (ns : List Int), xs = [.ref p] ∧ (SqL X.K H p (ns.map V.int) ∨ SqT X.K H p (ns.map V.int)) ∧ Q (.int ns.sum) H) sumP := by
  intro σ B H Q xs ps s r o
  unfold sumP at o
  split at o
  · split at o
    · rename_i e
      have e' := intsP_ok e
      subst e'
      obtain ⟨x, rfl, r1⟩ := r.one'
      obtain ⟨a1, xs, rfl, h1, R1⟩ := r1.isTup
      rw [R1.ints] at h1
      exact ⟨a1, _, rfl, .inr ((s.tup h1)), Out.now (Rel := Rp) o s (.int _)⟩
    · exact (show False from o).elim
  · split at o
    · rename_i e
      have e' := intsP_ok e
      subst e'
      obtain ⟨x, rfl, r1⟩ := r.one'
      obtain ⟨a1, xs, rfl, h1, R1⟩ := r1.isLst
      rw [R1.ints] at h1
      exact ⟨a1, _, rfl, .inl ((s.seq h1)), Out.now (Rel := Rp) o s (.int _)⟩
    · exact (show False from o).elim
  · exact (show False from o).elim
def maxI : List Int → Int
  | [] => 0
  | [x] => x
  | x :: y :: r => max x (maxI (y :: r))
theorem maxI_spec : ∀ {ns : List Int}, ns ≠ [] → maxI ns ∈ ns ∧ ∀ x ∈ ns, x ≤ maxI ns
  | [x], _ => ⟨by simp [maxI], by simp [maxI]⟩
  | x :: y :: r, _ => by
    obtain ⟨h1, h2⟩ := maxI_spec (ns := y :: r) (by simp)
    refine ⟨?_, fun z hz => ?_⟩
    · show max x (maxI (y :: r)) ∈ _
      rcases Int.le_total x (maxI (y :: r)) with h | h
      · rw [Int.max_eq_right h]; exact List.mem_cons_of_mem _ h1
      · rw [Int.max_eq_left h]; exact List.mem_cons_self
    · show z ≤ max x (maxI (y :: r))
      rcases List.mem_cons.mp hz with rfl | hz
      · exact Int.le_max_left _ _
      · exact Int.le_trans (h2 z hz) (Int.le_max_right _ _)
theorem maxI_eq {ns : List Int} {m : Int} (h : ns ≠ []) (h1 : m ∈ ns) (h2 : ∀ x ∈ ns, x ≤ m) : m = maxI ns := by
  obtain ⟨g1, g2⟩ := maxI_spec h
  exact Int.le_antisymm (g2 m h1) (h2 _ g1)
def maxP : List PV → Res PV := fun ps => match ps with
  | [.tup xs] => match intsP xs with | some (n :: ns) => .ok (.int (maxI (n :: ns))) | _ => .bad
  | [.int i, .int j] => .ok (.int (if j > i then j else i))
  | _ => .bad
theorem calP_max : CalP X (fun xs H Q => (∃ (p : Addr) (ns : List Int), xs = [.ref p] ∧ SqT X.K H p (ns.map V.int) ∧ ns ≠ [] ∧ ∀ m, m ∈ ns → (∀ x ∈ ns, x ≤ m) → Q (.int m) H) ∨ (∃ i j, xs = [.int i, .int j] ∧ Q (.int (if j > i then j else i)) H)) maxP := by
  intro σ B H Q xs ps s r o
  unfold maxP at o
  split at o
  · split at o
    · rename_i n ns e
      have e' := intsP_ok e
      subst e'
      obtain ⟨x, rfl, r1⟩ := r.one'
      obtain ⟨a1, xs, rfl, h1, R1⟩ := r1.isTup
      rw [R1.ints] at h1
      exact .inl ⟨a1, _, rfl, (s.tup h1), by simp, fun m g1 g2 => by rw [maxI_eq (by simp) g1 g2]; exact Out.now (Rel := Rp) o s (.int _)⟩
    · exact (show False from o).elim
  · obtain ⟨x, y, rfl, r1, r2⟩ := r.two'
    cases r1; cases r2
    exact .inr ⟨_, _, rfl, Out.now (Rel := Rp) o s (.int _)⟩
  · exact (show False from o).elim
def tupleP : List PV → Res PV := fun ps => match ps with
  | [.tup xs] => .ok (.tup xs)
  | [.lst xs] => .ok (.tup xs)
  | _ => .bad
theorem calP_tuple : CalP X (fun xs H Q => ∃ p ys, xs = [.ref p] ∧ ((SqL X.K H p ys ∧ ∀ l, H l = none → Q (.ref l) (upd H l (.tup ys))) ∨ (SqT X.K H p ys ∧ Q (.ref p) H))) tupleP := by
  intro σ B H Q xs ps s r o
  unfold tupleP at o
  split at o
  · obtain ⟨x, rfl, r1⟩ := r.one'
    obtain ⟨a1, xs, rfl, h1, R1⟩ := r1.isTup
    exact ⟨a1, xs, rfl, .inr ⟨(s.tup h1), Out.now (Rel := Rp) o s (.tupOf h1 R1)⟩⟩
  · obtain ⟨x, rfl, r1⟩ := r.one'
    obtain ⟨a1, xs, rfl, h1, R1⟩ := r1.isLst
    exact ⟨a1, xs, rfl, .inl ⟨(s.seq h1), fun l n => newT s R1 n o⟩⟩
  · exact (show False from o).elim
def listP : List PV → Res PV := fun ps => match ps with
  | [.tup xs] => .ok (.lst xs)
  | [.lst xs] => .ok (.lst xs)
  | _ => .bad
theorem calP_list : CalP X (fun xs H Q => ∃ p ys, xs = [.ref p] ∧ (SqL X.K H p ys ∨ SqT X.K H p ys) ∧ ∀ l, H l = none → Q (.ref l) (upd H l (.lst ys))) listP := by
  intro σ B H Q xs ps s r o
  unfold listP at o
  split at o
  · obtain ⟨x, rfl, r1⟩ := r.one'
    obtain ⟨a1, xs, rfl, h1, R1⟩ := r1.isTup
    exact ⟨a1, xs, rfl, .inr ((s.tup h1)), fun l n => newL s R1 n o⟩
  · obtain ⟨x, rfl, r1⟩ := r.one'
    obtain ⟨a1, xs, rfl, h1, R1⟩ := r1.isLst
    exact ⟨a1, xs, rfl, .inl ((s.seq h1)), fun l n => newL s R1 n o⟩
  · exact (show False from o).elim
def intP : List PV → Res PV := fun ps => match ps with
  | [.int i] => .ok (.int i)
  | [.bl k] => .ok (.int (if k then 1 else 0))
  | _ => .bad
theorem calP_int : CalP X (fun xs H Q => (∃ i, xs = [.int i] ∧ Q (.int i) H) ∨ ∃ k, xs = [.bl k] ∧ Q (.int (if k then 1 else 0)) H) intP := by
  intro σ B H Q xs ps s r o
  unfold intP at o
  split at o
  · obtain ⟨x, rfl, r1⟩ := r.one'
    cases r1
    exact .inl ⟨_, rfl, Out.now (Rel := Rp) o s (.int _)⟩
  · obtain ⟨x, rfl, r1⟩ := r.one'
    cases r1
    exact .inr ⟨_, rfl, Out.now (Rel := Rp) o s (.int _)⟩
  · exact (show False from o).elim
def aOwn (i : Nat) : PEnv → Res (List PV) := fun ρ => (lookO i ρ).bind fun x => .ok [x]
theorem ownA {σ : St} {H : Hp} {Q : VK} {i : Nat} {f : List PV → Res PV} {r : List V → Hp → VK → Prop} (hp : ∀ {Z B : Hp} {ρ : PEnv} {a : Addr} {xs : List V} {ps : List PV}, Same B H → RE X.K Z B H σ ρ → H a = some (.lst xs) → Rps X.K B xs ps → Out X Rp σ B H Q (f [.lst ps]) → r [.ref a] H Q) (h : tE X (eC f (aOwn i)) σ H Q) :
    tCB r (tCons (tVar i) tNil) σ H Q := by
  obtain ⟨Z, B, ρ, s, re, o⟩ := h
  unfold eC aOwn lookO at o
  split at o
  case h_2 => exact (show False from o).elim
  rename_i ps e
  obtain ⟨ad, xs, h1, h2, h3, h4, h5⟩ := re.own i ps e
  exact ⟨.ref ad, h1, hp s re h4 h5 o⟩
theorem pp_tupleO (i : Nat) {x : Str} {p p1 : Pos} (hg : Gl X "tuple") (hm : X.mg "tuple" = none) (hN : X.N[i]? = some x := by rfl) (hv : Vis X.env.scope x := by first | exact Or.inl rfl | exact Or.inr (Or.inl rfl) | exact Or.inr (Or.inr rfl)) (hd : (x == ("__debug__" : Str)) = false := by decide)
    (hcd : (x == ("__classdict__" : Str)) = false := by decide) : PP X (.Call (.Name "tuple" p) [.Name x p1] [] pos) (eC tupleP (aOwn i)) :=
  PE_mono (pe_callTy call_tuple_of hg hm bt_tuple (pa_cons (pe_var hN hv hd hcd) pa_nil)) fun σ H Q h => ownA (fun {Z B ρ ad xs ps} s re h1 R1 o => ⟨ad, xs, rfl, .inl ⟨.inl (.inl h1), fun l n => newT s R1 n o⟩⟩) h
def isT (c : String) (p : PV) : Option Bool := match c, p with
  | "int", .int _ => some true | "int", .bl _ => some true | "int", .non => some false | "int", .str _ => some false | "int", .tup _ => some false | "int", .lst _ => some false | "int", .dic => some false
  | "bool", .int _ => some false | "bool", .bl _ => some true | "bool", .non => some false | "bool", .str _ => some false | "bool", .tup _ => some false | "bool", .lst _ => some false | "bool", .dic => some false
  | "tuple", .int _ => some false | "tuple", .bl _ => some false | "tuple", .non => some false | "tuple", .str _ => some false | "tuple", .tup _ => some true | "tuple", .lst _ => some false | "tuple", .dic => some false
  | "list", .int _ => some false | "list", .bl _ => some false | "list", .non => some false | "list", .str _ => some false | "list", .tup _ => some false | "list", .lst _ => some true | "list", .dic => some false
  | "str", .int _ => some false | "str", .bl _ => some false | "str", .non => some false | "str", .str _ => some true | "str", .tup _ => some false | "str", .lst _ => some false | "str", .dic => some false
  | _, _ => none
def kindS : PV → String
  | .non => "NoneType" | .bl _ => "bool" | .int _ => "int" | .str _ => "str" | .tup _ => "tuple" | .lst _ => "list" | .dic => "dict"
def kitT (a c : String) : Option Bool := if (Value.type a == Value.type c) = true then some true else if PySem.W.kitMeta c = true then (fastBuiltinMro a).map (·.contains (.type c)) else none
theorem kitT_eq {K : PySem.W.Frag} {a c : String} : PySem.W.kitOne K (.type a) (.type c) = kitT a c := rfl
theorem kitT_all : (["NoneType", "bool", "int", "str", "tuple", "list", "dict"].all fun a => ["int", "bool", "tuple", "list", "str"].all fun c => kitT a c == some (a == c || (a == "bool" && c == "int"))) = true := by decide +kernel
theorem kitT_ok {a c : String} (ha : a ∈ ["NoneType", "bool", "int", "str", "tuple", "list", "dict"]) (hc : c ∈ ["int", "bool", "tuple", "list", "str"]) : kitT a c = some (a == c || (a == "bool" && c == "int")) :=
  eq_of_beq (List.all_eq_true.mp (List.all_eq_true.mp kitT_all a ha) c hc)
theorem isT_ok {K : PySem.W.Frag} {c : String} {p : PV} {b : Bool} (e : isT c p = some b) : PySem.W.kitOne K (.type (kindS p)) (.type c) = some b := by
  rw [kitT_eq]
  unfold isT at e
  split at e <;> first | (cases e; rw [kitT_ok (by simp [kindS]) (by simp)]; rfl) | cases e
def isP (c : String) (g : PEnv → Res PV) : PEnv → Res PV := fun ρ => (g ρ).bind fun p => ofB (isT c p)
theorem isinst_rp {pins : List (Addr × Obj)} {σ : St} {H : Hp} {s : Shared} {x : V} {u : Value} {p : PV} {c : Value} {b : Bool} {A : Around} {E : Value → Shared → Prop} {Q : Value → Shared → Prop} (I : Inv X pins σ H s) (rx : RelV x u) (r : Rp X.K H x p) (e : PySem.W.kitOne X.K (.type (kindS p)) c = some b) (h : ∀ tk, Q (.bool b) { s with toks := tk }) :
    wpAny (model X.prog X.w) A (call (.builtin "isinstance") [u, c]) Q E s := by
  cases r with
  | non => exact isinst_ok I rx .non e h
  | bl y => exact isinst_ok I rx (.bl y) e h
  | int i => exact isinst_ok I rx (.int i) e h
  | str y => exact isinst_ok I rx (.str y) e h
  | @tup a xs ps hh _ _ =>
    cases (show u = Value.ref a from rx)
    obtain ⟨its, _, ⟨o, h1, h2, _⟩, _⟩ := I.tuple hh
    exact PySem.W.kia_one PySem.W.kitx_tuple I.kIn ⟨o, h1, h2⟩ e (fun z => nomatch z) h
  | @lst a xs ps hh _ _ =>
    cases (show u = Value.ref a from rx)
    obtain ⟨its, _, ⟨o, n, h1, h2, _⟩, _⟩ := I.list hh
    exact PySem.W.kia_one PySem.W.kitx_list I.kIn ⟨o, h1, h2⟩ e (fun z => nomatch z) h
  | @dic a kvs hh =>
    cases (show u = Value.ref a from rx)
    obtain ⟨_, _, _, _, o, _, _, h1, ex, _⟩ := I.hok a _ hh
    exact PySem.W.kia_one PySem.W.kitx_dict I.kIn ⟨o, h1, ex.1⟩ e (fun z => nomatch z) h
theorem call_isP : CallR X (.builtin "isinstance") (fun xs H Q => ∃ (x : V) (c : String) (p : PV) (b : Bool), xs = [x, .ty c] ∧ Rp X.K H x p ∧ PySem.W.kitOne X.K (.type (kindS p)) (.type c) = some b ∧ Q (.bl b) H) := by
  intro pins s σ H xs us Q I r h
  obtain ⟨x, c, p, b, rfl, rp, e, q⟩ := h
  obtain ⟨u, w', rfl, r1, r2⟩ := vals2 r
  have e2 : w' = Value.type c := r2
  subst e2
  exact isinst_rp I r1 rp e fun tk => ⟨.bl b, H, I.tok tk, rfl, q⟩
theorem pp_isT {n : Str} {c : String} {p p2 : Pos} (ha : PP X a ga) (hg : Gl X "isinstance") (hm : X.mg "isinstance" = none) (hg2 : Gl X n) (hm2 : X.mg n = none) (hv : bootBuiltins n = some (.type c)) (hn : n ≠ "__name__" := by decide) (hdb : (n == ("__debug__" : Str)) = false := by decide)
    (hs : starEach [a, .Name n p2] X.env = (false, eval a X.env) :: starEach [.Name n p2] X.env := by rfl) (hpl : (backTo pos (starEach [.Name n p2] X.env)).any (·.1) = false := by rfl) : PP X (.Call (.Name "isinstance" p) [a, .Name n p2] [] pos) (isP c ga) := by
  refine PE_mono (pe_callB call_isP hg hm bt_isinstance (pa_cons ha (pa_cons (pe_bltn (v := .ty c) hg2 hm2 hv rfl hn hdb) pa_nil) hs) (by decide) (by decide) hs hpl) fun σ H Q ⟨Z, B, ρ, s, re, o⟩ => ?_
  refine ⟨Z, B, ρ, s, re, o.bind fun q v B1 H1 _ e1 r1 o1 => ?_⟩
  obtain ⟨k, e, o'⟩ := out_ofB o1
  exact ⟨v, c, q, k, rfl, r1.same e1.bh, isT_ok e, Out.now (Rel := Rp) o' e1.bh (.bl _)⟩
end
end L2
namespace Tw
open PySem PySem.Spec PyProof.Rows L2
section
variable {K : PySem.W.Frag} {H H' : Hp} {a r : Addr} {n : Nat} {ns : List Int} {m : List Int × List Int} {ms : List (List Int × List Int)}
def Scr (K : PySem.W.Frag) (H : Hp) (a : Addr) : Prop := ∃ ns : List Int, SqL K H a (ns.map V.int) ∧ ns.length ≤ 63
def Row (K : PySem.W.Frag) (H : Hp) (a : Addr) (n : Nat) (ns : List Int) : Prop := SqT K H a (ns.map V.int) ∧ ns.length = n ∧ ∀ x ∈ ns, 0 ≤ x
def Mv (K : PySem.W.Frag) (H : Hp) (n : Nat) (r : Addr) (m : List Int × List Int) : Prop := ∃ p q, SqT K H r [.ref p, .ref q] ∧ Row K H p n m.1 ∧ Row K H q n m.2 ∧ (∀ x ∈ m.1, x ≤ 9) ∧ ∀ x ∈ m.2, x ≤ 9
def Nt (K : PySem.W.Frag) (H : Hp) (a : Addr) (n : Nat) (ms : List (List Int × List Int)) : Prop :=
  ∃ (r : Addr) (rs : List Addr), SqT K H a [.int n, .ref r] ∧ SqT K H r (rs.map V.ref) ∧ Paired (Mv K H n) rs ms ∧ 1 ≤ n ∧ n ≤ 6 ∧ ms.length ≤ 10
end
structure Fn (K : PySem.W.Frag) (mg : Str → Option Value) (x : Str) (ps : List Str) (st : Stmt) : Prop where
  ex : ∃ f fd, Fun K x x st f fd ∧ Binds K fd ps [] ∧ mg x = some (.ref f)
theorem Fn.mk' {K : PySem.W.Frag} {mg : Str → Option Value} {x : Str} {ps : List Str} {st : Stmt} {f : Addr} {fd : FuncData} (F : Fun K x x st f fd) (m : mg x = some (.ref f))
    (h : ∀ (kV doc pm : Value) (an : Option Addr) (cdv ct : Value) (us : List Value), us.length = ps.length → bindArgs (PySem.W.fnOf x x (defArgs st) (defBody st) (defScope st) .none kV doc pm an cdv ct) ⟨us, []⟩ = pure (ps.zip us)) : Fn K mg x ps st := ⟨f, fd, F, F.binds h, m⟩
end Tw
namespace L2
open PySem PySem.Spec PyProof.Rows
structure Walk (K : PySem.W.Frag) (B : Hp) (J : It) (ps : List PV) : Prop where
  go : ∀ i H B', Same B B' → Same B' H → i < ps.length → J.go i H
  yld : ∀ i H B' x H' p, Same B B' → Same B' H → J.yld i H x H' → ps[i]? = some p → ∃ B'', Ext B' H B'' H' ∧ Rp K B'' x p
  stop : ∀ H B', Same B B' → Same B' H → J.stop ps.length H
abbrev RelW : RelT (List PV) It := Walk
abbrev tIt (X : Cx) (g : PEnv → Res (List PV)) : TI := tG X RelW g
abbrev PPI (X : Cx) (tg iter : Expr) (g : PEnv → Res (List PV)) : Prop := PI X tg iter (tIt X g)
theorem PI_mono {X : Cx} {tg iter : Expr} {t t' : TI} (h : PI X tg iter t) (m : ∀ σ H Q, t' σ H Q → t σ H Q) : PI X tg iter t' := fun pins s σ H Q I q => h pins s σ H Q I (m σ H Q q)
section
variable {K : PySem.W.Frag} {B : Hp}
theorem walk_range (lo : Int) (n : Nat) : Walk K B (Itr lo n) ((List.range n).map fun (k : Nat) => .int (lo + k)) := by
  refine ⟨fun i H B' _ _ hi => by (show i < n); simpa using hi, fun i H B' x H' p _ s ⟨e1, e2⟩ hp => ?_, fun H B' _ _ => by show n ≤ _; simp⟩
  subst e1 e2
  rw [List.getElem?_map] at hp
  obtain ⟨j, hj, e⟩ := Option.map_eq_some_iff.mp hp
  have hj' : j = i := by
    rw [List.getElem?_range] at hj
    · exact (Option.some.inj hj).symm
    · have := (List.getElem?_eq_some_iff.mp hj).1
      simpa using this
  subst hj' e
  exact ⟨B', .refl s, .int _⟩
end
section
variable {X : Cx} {tg : Expr}
def iSeq (K : PySem.W.Frag) (tl : TE) : TI := fun σ H R => tl σ H fun x H1 => (∃ a, x = .ref a ∧ (∃ xs, SqL K H1 a xs) ∧ R (Itl K a) H1) ∨ (∃ a, x = .ref a ∧ (∃ xs, SqT K H1 a xs) ∧ R (Itt K a) H1)
theorem pi_seq {l : Expr} {tl : TE} (hl : PE X l tl) : PI X tg l (iSeq X.K tl) := by
  intro pins s σ H R I h
  refine thn (hl pins s σ H _ I h) fun v s1 ⟨x, H1, I1, r1, q1⟩ => ?_
  rcases q1 with ⟨a, e, ⟨xs, hq⟩, q⟩ | ⟨a, e, ⟨xs, hq⟩, q⟩
  · subst e
    cases r1
    obtain ⟨its, rv, p, hz⟩ := I1.list hq
    refine wpAny_pyIter_list p.isList ?_
    refine ⟨s1.heap.objs.size, [s1.heap.objs.size], _, _, H1, rfl, I1.kept (t' := s1.toks) fun b o e => Heap.get?_push_of_some _ e, turn_list a _, ⟨_, Heap.get?_push_size _ rfl, rfl, rfl⟩, fun b hb => ?_, q⟩
    have e : b = s1.heap.objs.size := by simpa using hb
    subst e
    exact I1.fpOk (Nat.le_refl _) (I1.hok.fresh (Nat.le_refl _))
  · subst e
    cases r1
    obtain ⟨its, rv, p, hz⟩ := I1.tuple hq
    refine wpAny_pyIter_tuple (show s1.heap.IsTuple a its.toArray from p) ?_
    refine ⟨s1.heap.objs.size, [s1.heap.objs.size], _, _, H1, rfl, I1.kept (t' := s1.toks) fun b o e => Heap.get?_push_of_some _ e, turn_tuple a _, ⟨_, Heap.get?_push_size _ rfl, rfl, rfl⟩, fun b hb => ?_, q⟩
    have e : b = s1.heap.objs.size := by simpa using hb
    subst e
    exact I1.fpOk (Nat.le_refl _) (I1.hok.fresh (Nat.le_refl _))
theorem walk_tup {B : Hp} {a : Addr} {xs : List V} {ps : List PV} (h : SqT X.K B a xs) (r : Rps X.K B xs ps) : Walk X.K B (Itt X.K a) ps := by
  refine ⟨fun i H B' e s hi => ?_, fun i H B' x H' p e s ⟨e1, e2⟩ hp => ?_, fun H B' e s => ⟨xs, (s.tup (e.tup h)), by rw [r.len]; exact Nat.le_refl _⟩⟩
  · obtain ⟨x, hx, _⟩ := r.at_ (i := i) (List.getElem?_eq_getElem hi)
    exact ⟨xs, x, (s.tup (e.tup h)), hx⟩
  · subst e1
    have hx := e2 xs ((s.tup (e.tup h)))
    exact ⟨B', .refl s, (r.get i x p hx hp).same e⟩
def itemsP : PV → Res (List PV) := fun p => match p with
  | .tup xs => .ok xs
  | .lst xs => .ok xs
  | _ => .bad
def iSq (g : PEnv → Res PV) : PEnv → Res (List PV) := fun ρ => (g ρ).bind itemsP
theorem ppi_seq {l : Expr} {g : PEnv → Res PV} (hl : PP X l g) : PPI X tg l (iSq g) := by
  refine PI_mono (pi_seq hl) fun σ H R ⟨Z, B, ρ, s, re, o⟩ => ⟨Z, B, ρ, s, re, o.bind fun p v B1 H1 _ e1 r1 o1 => ?_⟩
  cases r1 with
  | @tup a xs ps h hl he =>
    exact .inr ⟨a, rfl, ⟨xs, (e1.bh.tup h)⟩, o1 _ _ _ (.refl e1.bh) (walk_tup h ⟨hl, he⟩)⟩
  | @lst a xs ps h hl he =>
    refine .inl ⟨a, rfl, ⟨xs, (e1.bh.seq h)⟩, o1 _ _ _ (.refl e1.bh) ?_⟩
    have R1 : Rps X.K B1 xs ps := ⟨hl, he⟩
    refine ⟨fun i H B' e s hi => ?_, fun i H B' x H' p e s ⟨e1, e2⟩ hp => ?_, fun H B' e s => ⟨xs, (s.seq (e.seq h)), by rw [R1.len]; exact Nat.le_refl _⟩⟩
    · obtain ⟨x, hx, _⟩ := R1.at_ (i := i) (List.getElem?_eq_getElem hi)
      exact ⟨xs, x, (s.seq (e.seq h)), hx⟩
    · subst e1
      have hx := e2 xs ((s.seq (e.seq h)))
      exact ⟨B', .refl s, (R1.get i x p hx hp).same e⟩
  | _ => exact (show False from o1).elim
def rngL (lo : Int) (n : Nat) : List PV := (List.range n).map fun (k : Nat) => .int (lo + k)
def rng1 : List PV → Res (List PV) := fun ps => match ps with
  | [.int j] => if -(2 ^ 62) ≤ j ∧ j < 2 ^ 62 then .ok (rngL 0 j.toNat) else .bad
  | _ => .bad
def rng2 : List PV → Res (List PV) := fun ps => match ps with
  | [.int i, .int j] => if -(2 ^ 62) ≤ i ∧ i < 2 ^ 62 ∧ -(2 ^ 62) ≤ j ∧ j < 2 ^ 62 then .ok (rngL i (j - i).toNat) else .bad
  | _ => .bad
def iRg (f : List PV → Res (List PV)) (g : PEnv → Res (List PV)) : PEnv → Res (List PV) := fun ρ => (g ρ).bind f
theorem ppi_range1 {a : Expr} {g : PEnv → Res (List PV)} {p pos : Pos} (hg : Gl X "range") (hm : X.mg "range" = none) (ha : PPA X [a] g) (hs : starEach [a] X.env = [(false, eval a X.env)] := by rfl) : PPI X tg (.Call (.Name "range" p) [a] [] pos) (iRg rng1 g) := by
  refine PI_mono (pi_range1 hg hm ha hs) fun σ H R ⟨Z, B, ρ, s, re, o⟩ => ⟨Z, B, ρ, s, re, o.bind fun ps vs B1 H1 _ e1 r1 o1 => ?_⟩
  unfold rng1 at o1
  split at o1
  · rename_i j
    split at o1
    · rename_i hj
      obtain ⟨v, rfl, r'⟩ := r1.one'
      cases r'
      exact ⟨_, rfl, hj.1, hj.2, o1 _ _ _ (.refl e1.bh) (walk_range 0 _)⟩
    · exact (show False from o1).elim
  · exact (show False from o1).elim
def zip2P (xs ys : List PV) : List PV := List.zipWith (fun x y => .tup [x, y]) xs ys
def zipP2 : List PV → Res (List PV) := fun ps => match ps with
  | [.tup xs, .tup ys] => .ok (zip2P xs ys)
  | _ => .bad
theorem walk_zip2 {B : Hp} {a1 a2 : Addr} {xs1 xs2 : List V} {ps1 ps2 : List PV} (h1 : SqT X.K B a1 xs1) (r1 : Rps X.K B xs1 ps1) (h2 : SqT X.K B a2 xs2) (r2 : Rps X.K B xs2 ps2) : Walk X.K B (Itz2 X.K a1 a2) (zip2P ps1 ps2) := by
  have hlen : (zip2P ps1 ps2).length = min ps1.length ps2.length := by unfold zip2P; rw [List.length_zipWith]
  have l1 := r1.len
  have l2 := r2.len
  have up : ∀ {H B' : Hp} {a : Addr} {xs : List V}, Same B B' → Same B' H → SqT X.K B a xs → SqT X.K H a xs := fun e s h => (s.tup (e.tup h))
  refine ⟨fun i H B' e s hi => ?_, fun i H B' x H' p e s y hp => ?_, fun H B' e s => ⟨xs1, xs2, up e s h1, up e s h2, by rw [hlen]; omega⟩⟩
  · rw [hlen] at hi
    obtain ⟨x1, e1, _⟩ := r1.at_ (i := i) (List.getElem?_eq_getElem (by omega))
    obtain ⟨x2, e2, _⟩ := r2.at_ (i := i) (List.getElem?_eq_getElem (by omega))
    exact ⟨xs1, xs2, x1, x2, up e s h1, up e s h2, e1, e2⟩
  · obtain ⟨q, hn, rfl, hq⟩ := y
    unfold zip2P at hp
    rw [List.getElem?_zipWith] at hp
    cases e1 : ps1[i]? with
    | none => rw [e1] at hp; simp at hp
    | some p1 =>
      cases e2 : ps2[i]? with
      | none => rw [e1, e2] at hp; simp at hp
      | some p2 =>
        rw [e1, e2] at hp
        simp at hp
        subst hp
        obtain ⟨x1, f1, g1⟩ := r1.at_ e1
        obtain ⟨x2, f2, g2⟩ := r2.at_ e2
        have := hq xs1 xs2 x1 x2 (up e s h1) (up e s h2) f1 f2
        subst this
        have sn := same_new (s.free hn) (HO.tup [x1, x2])
        exact ⟨upd B' q (.tup [x1, x2]), Ext.new s hn, .tupOf (.of upd_same) (.cons ((g1.same e).same sn) (.one ((g2.same e).same sn)))⟩
theorem ppi_zip2 {es : List Expr} {kk : Nat} {tpos : Pos} {e1 e2 : Expr} {g : PEnv → Res (List PV)} {p pos : Pos} (hg : Gl X "zip") (hm : X.mg "zip" = none) (ha : PPA X [e1, e2] g) (hs0 : starEach [e1, e2] X.env = [(false, eval e1 X.env), (false, eval e2 X.env)] := by rfl) (hs1 : starEach [e2] X.env = [(false, eval e2 X.env)] := by rfl) :
    PPI X (.Tuple es kk tpos) (.Call (.Name "zip" p) [e1, e2] [] pos) (iRg zipP2 g) := by
  refine PI_mono (pi_zip2 hg hm ha hs0 hs1) fun σ H R ⟨Z, B, ρ, s, re, o⟩ => ⟨Z, B, ρ, s, re, o.bind fun ps vs B1 H1 _ e1 r1 o1 => ?_⟩
  unfold zipP2 at o1
  split at o1
  · obtain ⟨v, w, rfl, r', r''⟩ := r1.two'
    obtain ⟨a1, xs1, rfl, h1, R1⟩ := r'.isTup
    obtain ⟨a2, xs2, rfl, h2, R2'⟩ := r''.isTup
    exact ⟨a1, a2, rfl, ⟨xs1, (e1.bh.tup h1)⟩, ⟨xs2, (e1.bh.tup h2)⟩, o1 _ _ _ (.refl e1.bh) (walk_zip2 h1 R1 h2 R2')⟩
  · exact (show False from o1).elim
def zip3P : List PV → List PV → List PV → List PV
  | x :: xs, y :: ys, z :: zs => .tup [x, y, z] :: zip3P xs ys zs
  | _, _, _ => []
def zipP3 : List PV → Res (List PV) := fun ps => match ps with
  | [.tup xs, .tup ys, .tup zs] => .ok (zip3P xs ys zs)
  | _ => .bad
end
end L2
namespace L2
open PySem PySem.Spec PyProof.Rows
theorem Res.bind_assoc {α β γ : Type} (r : Res α) (k : α → Res β) (l : β → Res γ) : (r.bind k).bind l = r.bind fun a => (k a).bind l := by cases r <;> rfl
def nox {α : Type} (r : Res α) : Res α := match r with
  | .ok a => .ok a
  | _ => .bad
theorem Out.later {α β : Type} {X : Cx} {Rel : RelT α β} {σ : St} {B H B1 H1 : Hp} {Q : β → Hp → Prop} {r : Res α} (o : Out X Rel σ B H Q r) (x : Ext B H B1 H1) : Out X Rel σ B1 H1 Q r := by
  cases r with
  | bad => exact o
  | exc c => exact fun pins y s' H' B' I x' ex => o pins y s' H' B' I (x.trans x') ex
  | ok b => exact fun w H' B' x' rel' => o w H' B' (x.trans x') rel'
def TgR (K : PySem.W.Frag) (g : TG) (m : PV → PEnv → Res PEnv) : Prop := ∀ (Z B H : Hp) (σ : St) (ρ ρ' : PEnv) (v : V) (p : PV) (Q : St → Hp → Prop), Same B H → RE K Z B H σ ρ → Rp K B v p → m p ρ = .ok ρ' → (∀ σ', RE K Z B H σ' ρ' → Q σ' H) → g v σ H Q
def TgsR (K : PySem.W.Frag) (g : TGs) (m : List PV → PEnv → Res PEnv) : Prop := ∀ (Z B H : Hp) (σ : St) (ρ ρ' : PEnv) (v : List V) (p : List PV) (Q : St → Hp → Prop), Same B H → RE K Z B H σ ρ → Rps K B v p → m p ρ = .ok ρ' → (∀ σ', RE K Z B H σ' ρ' → Q σ' H) → g v σ H Q
def tgN (i : Nat) : PV → PEnv → Res PEnv := fun p ρ => .ok (ρ.set i (.val p))
def tgNil : List PV → PEnv → Res PEnv := fun ps ρ => match ps with | [] => .ok ρ | _ => .bad
def tgCons (m : PV → PEnv → Res PEnv) (n : List PV → PEnv → Res PEnv) : List PV → PEnv → Res PEnv := fun ps ρ => match ps with | p :: r => (m p ρ).bind (n r) | [] => .bad
def tgT (n : Nat) (m : List PV → PEnv → Res PEnv) : PV → PEnv → Res PEnv := fun p ρ => match p with | .tup ps => if ps.length = n then m ps ρ else .bad | _ => .bad
section
variable {K : PySem.W.Frag}
theorem tgr_name (i : Nat) : TgR K (gName i) (tgN i) := fun Z B H σ ρ ρ' v p Q s re r e h => by cases e; exact h _ (re.setVal r i)
theorem tgsr_nil : TgsR K gNil tgNil := fun Z B H σ ρ ρ' v p Q s re r e h => by
  cases p with
  | nil => cases e; exact ⟨List.length_eq_zero_iff.mp r.len, h _ re⟩
  | cons _ _ => cases e
theorem tgsr_cons {t : TG} {u : TGs} {m : PV → PEnv → Res PEnv} {n : List PV → PEnv → Res PEnv} (h1 : TgR K t m) (h2 : TgsR K u n) : TgsR K (gCons t u) (tgCons m n) := fun Z B H σ ρ ρ' v p Q s re r e h => by
  cases p with
  | nil => cases e
  | cons p ps =>
    have l := r.len
    cases v with
    | nil => simp at l
    | cons v vs =>
      have e' : (m p ρ).bind (n ps) = .ok ρ' := e
      cases q : m p ρ with
      | bad => rw [q] at e'; cases e'
      | exc c => rw [q] at e'; cases e'
      | ok ρ1 =>
        rw [q] at e'
        exact ⟨v, vs, rfl, h1 Z B H σ ρ ρ1 v p _ s re (r.get 0 v p rfl rfl) q fun σ1 re1 => h2 Z B H σ1 ρ1 ρ' vs ps Q s re1 ⟨by simpa using l, fun i x y e1 e2 => r.get (i + 1) x y (by simpa using e1) (by simpa using e2)⟩ e' h⟩
theorem tgr_tup {t : TGs} {n : Nat} {m : List PV → PEnv → Res PEnv} (h1 : TgsR K t m) : TgR K (gTup K n t) (tgT n m) := fun Z B H σ ρ ρ' v p Q s re r e h => by
  cases r with
  | @tup a xs ps hh hl he =>
    have e' : (if ps.length = n then m ps ρ else .bad) = .ok ρ' := e
    split at e'
    · rename_i hn
      exact ⟨a, xs, rfl, (s.tup hh), by rw [hl]; exact hn, h1 Z B H σ ρ ρ' xs ps Q s re ⟨hl, he⟩ e' h⟩
    · cases e'
  | _ => cases e
end
def bρ (nl : Nat) (ix : List Nat) (ρ : PEnv) : PEnv := List.replicate nl .no ++ ix.map fun i => (ρ[i]?).getD .no
theorem bρ_get {nl : Nat} {ix : List Nat} {ρ : PEnv} {j : Nat} {s : Sl} (h : (bρ nl ix ρ)[j]? = some s) (hn : s ≠ .no) : nl ≤ j ∧ ∃ i, ix[j - nl]? = some i ∧ ρ[i]? = some s := by
  unfold bρ at h
  by_cases hj : j < nl
  · rw [List.getElem?_append_left (by rw [List.length_replicate]; exact hj), List.getElem?_replicate, if_pos hj] at h
    cases h; exact absurd rfl hn
  · rw [List.getElem?_append_right (by rw [List.length_replicate]; omega), List.length_replicate, List.getElem?_map] at h
    refine ⟨by omega, ?_⟩
    obtain ⟨i, e, q⟩ := Option.map_eq_some_iff.mp h
    refine ⟨i, e, ?_⟩
    cases z : ρ[i]? with
    | none => rw [z] at q; exact absurd q.symm hn
    | some u => rw [z] at q; exact congrArg some q
theorem bσ_at {nl : Nat} {ix : List Nat} {σ : St} {j i : Nat} {v : V} (hj : nl ≤ j) (h1 : ix[j - nl]? = some i) (h2 : σ[i]? = some (some v)) : (bσ nl ix σ)[j]? = some (some v) := by
  unfold bσ
  rw [List.getElem?_append_right (by rw [List.length_replicate]; exact hj), List.length_replicate, List.getElem?_map, h1]
  simp [h2]
theorem RE.blk {K : PySem.W.Frag} {Z B H : Hp} {σ : St} {ρ : PEnv} {nl : Nat} {ix : List Nat} (r : RE K Z B H σ ρ) (nd : ix.Nodup) : RE K Z B H (bσ nl ix σ) (bρ nl ix ρ) := by
  refine ⟨by unfold bσ bρ; simp, fun i p e => ?_, fun i ps e => ?_, fun i c e => ?_, fun j k a ps qs e1 e2 e3 e4 => ?_⟩
  · obtain ⟨hj, i', h1, h2⟩ := bρ_get e (fun z => nomatch z)
    obtain ⟨v, g1, g2⟩ := r.val i' p h2
    exact ⟨v, bσ_at hj h1 g1, g2⟩
  · obtain ⟨hj, i', h1, h2⟩ := bρ_get e (fun z => nomatch z)
    obtain ⟨a, xs, g1, g2⟩ := r.own i' ps h2
    exact ⟨a, xs, bσ_at hj h1 g1, g2⟩
  · obtain ⟨hj, i', h1, h2⟩ := bρ_get e (fun z => nomatch z)
    obtain ⟨a, C, g1, g2⟩ := r.exc i' c h2
    exact ⟨a, C, bσ_at hj h1 g1, g2⟩
  · obtain ⟨hj, i1, h1, h2⟩ := bρ_get e1 (fun z => nomatch z)
    obtain ⟨hk, i2, h3, h4⟩ := bρ_get e2 (fun z => nomatch z)
    obtain ⟨_, i1', q1, q2⟩ := bσ_get e3
    obtain ⟨_, i2', q3, q4⟩ := bσ_get e4
    rw [h1] at q1; cases q1
    rw [h3] at q3; cases q3
    have := r.ne i1 i2 a ps qs h2 h4 q2 q4
    subst this
    have l1 := (List.getElem?_eq_some_iff.mp h1)
    have l3 := (List.getElem?_eq_some_iff.mp h3)
    obtain ⟨b1, c1⟩ := l1
    obtain ⟨b3, c3⟩ := l3
    have pw := List.pairwise_iff_getElem.mp nd
    rcases Nat.lt_trichotomy (j - nl) (k - nl) with hlt | heq | hlt
    · exact absurd (c1.trans c3.symm) (pw _ _ b1 b3 hlt)
    · omega
    · exact absurd (c3.trans c1.symm) (pw _ _ b3 b1 hlt)
def tG0 {α β : Type} (K : PySem.W.Frag) (Rel : RelT α β) (g : PEnv → Res α) : St → Hp → (β → Hp → Prop) → Prop := fun σ H Q => ∃ Z B ρ a, Same B H ∧ RE K Z B H σ ρ ∧ g ρ = .ok a ∧ ∀ v H' B', Ext B H B' H' → Rel K B' v a → Q v H'
theorem tG0.g {α β : Type} {X : Cx} {Rel : RelT α β} {g : PEnv → Res α} {σ : St} {H : Hp} {Q : β → Hp → Prop} (h : tG0 X.K Rel g σ H Q) : tG X Rel g σ H Q := by
  obtain ⟨Z, B, ρ, a, s, re, e, q⟩ := h
  exact ⟨Z, B, ρ, s, re, by rw [e]; exact q⟩
def compF (m : PV → PEnv → Res PEnv) (gt : PEnv → Res Bool) (ge : PEnv → Res PV) (ρ : PEnv) : List PV → Res (List PV)
  | [] => .ok []
  | p :: ps => (nox (m p ρ)).bind fun ρ1 => (nox (gt ρ1)).bind fun b => if b = true then (nox (ge ρ1)).bind fun y => (compF m gt ge ρ ps).bind fun ys => .ok (y :: ys) else compF m gt ge ρ ps
def compG (nl : Nat) (ix : List Nat) (gi : PEnv → Res (List PV)) (m : PV → PEnv → Res PEnv) (gt : PEnv → Res Bool) (ge : PEnv → Res PV) : PEnv → Res (List PV) := fun ρ => (gi ρ).bind fun ps => if ps.length < sizeLine then compF m gt ge (bρ nl ix ρ) ps else .bad
def tF (X : Cx) (g : PEnv → Res (List PV)) : TE := fun σ H Q => tG X Rps g σ H fun xs H' => ∀ p, H' p = none → Q (.ref p) (upd H' p (.lst xs))
theorem compF_step {m : PV → PEnv → Res PEnv} {gt : PEnv → Res Bool} {ge : PEnv → Res PV} {ρ : PEnv} {p : PV} {ps : List PV} {X : Cx} {σ : St} {B H : Hp} {Q : List V → Hp → Prop} {qs : List PV} (o : Out X Rps σ B H Q ((compF m gt ge ρ (p :: ps)).bind fun zs => .ok (qs ++ zs))) :
    ∃ ρ1 b, m p ρ = .ok ρ1 ∧ gt ρ1 = .ok b ∧ (b = true → ∃ y, ge ρ1 = .ok y ∧ Out X Rps σ B H Q ((compF m gt ge ρ ps).bind fun zs => .ok ((qs ++ [y]) ++ zs))) ∧ (b = false → Out X Rps σ B H Q ((compF m gt ge ρ ps).bind fun zs => .ok (qs ++ zs))) := by
  unfold compF at o
  cases e1 : m p ρ with
  | bad => rw [e1] at o; exact (show False from o).elim
  | exc c => rw [e1] at o; exact (show False from o).elim
  | ok ρ1 =>
    rw [e1] at o
    have o1 : Out X Rps σ B H Q (((nox (gt ρ1)).bind fun b => if b = true then (nox (ge ρ1)).bind fun y => (compF m gt ge ρ ps).bind fun ys => .ok (y :: ys) else compF m gt ge ρ ps).bind fun zs => .ok (qs ++ zs)) := o
    cases e2 : gt ρ1 with
    | bad => rw [e2] at o1; exact (show False from o1).elim
    | exc c => rw [e2] at o1; exact (show False from o1).elim
    | ok b =>
      rw [e2] at o1
      have o2 : Out X Rps σ B H Q ((if b = true then (nox (ge ρ1)).bind fun y => (compF m gt ge ρ ps).bind fun ys => .ok (y :: ys) else compF m gt ge ρ ps).bind fun zs => .ok (qs ++ zs)) := o1
      refine ⟨ρ1, b, rfl, e2, fun hb => ?_, fun hb => ?_⟩
      · rw [if_pos hb] at o2
        cases e3 : ge ρ1 with
        | bad => rw [e3] at o2; exact (show False from o2).elim
        | exc c => rw [e3] at o2; exact (show False from o2).elim
        | ok y =>
          rw [e3] at o2
          have o3 : Out X Rps σ B H Q (((compF m gt ge ρ ps).bind fun ys => .ok (y :: ys)).bind fun zs => .ok (qs ++ zs)) := o2
          rw [Res.bind_assoc] at o3
          refine ⟨y, rfl, ?_⟩
          have e : (fun zs => Res.ok (qs ++ [y] ++ zs)) = fun ys => (Res.ok (y :: ys)).bind fun zs => .ok (qs ++ zs) := by
            funext zs; show Res.ok _ = Res.ok _; rw [List.append_assoc]; rfl
          rw [e]; exact o3
      · rw [if_neg (by rw [hb]; exact Bool.false_ne_true)] at o2
        exact o2
section
variable {X : Cx} {target iter elt : Expr} {ifs : List Expr} {scope sc : Scope} {pos : Pos} {N lv fv : List Str} {ix : List Nat} {g : TG}
theorem comp_ok {nl : Nat} {gi : PEnv → Res (List PV)} {m : PV → PEnv → Res PEnv} {gt : PEnv → Res Bool} {ge : PEnv → Res PV} (hm : TgR X.K g m) (nd : ix.Nodup) (σ : St) (H : Hp) (Q : VK) (h : tF X (compG nl ix gi m gt ge) σ H Q) :
    tComp (tIt X gi) nl ix g (tG0 X.K RelB gt) (tG0 X.K Rp ge) σ H Q := by
  obtain ⟨Z, B, ρ, s, re, o⟩ := h
  refine ⟨Z, B, ρ, s, re, o.bind fun ps J B1 H1 _ e1 wk o1 => ?_⟩
  split at o1
  case isFalse => exact (show False from o1).elim
  rename_i hz
  have rb : RE X.K Z B1 H1 (bσ nl ix σ) (bρ nl ix ρ) := (re.ext e1).blk nd
  refine ⟨fun i k ys H2 => ∃ B2 qs, k = ps.length - i ∧ i ≤ ps.length ∧ Ext B1 H1 B2 H2 ∧ Rps X.K B2 ys qs ∧ ys.length ≤ i ∧ Out X Rps σ B2 H2 (fun xs H' => ∀ p, H' p = none → Q (.ref p) (upd H' p (.lst xs))) ((compF m gt ge (bρ nl ix ρ) (ps.drop i)).bind fun zs => .ok (qs ++ zs)),
    ⟨ps.length, B1, [], rfl, Nat.zero_le _, .refl e1.bh, .nil, Nat.le_refl _, ?_⟩, ?_⟩
  · rw [List.drop_zero]
    have : (compF m gt ge (bρ nl ix ρ) ps).bind (fun zs => .ok ([] ++ zs)) = compF m gt ge (bρ nl ix ρ) ps := by
      cases compF m gt ge (bρ nl ix ρ) ps <;> rfl
    rw [this]; exact o1
  · rintro i k ys H2 ⟨B2, qs, rfl, hi, e2, ry, hy, o2⟩
    by_cases hlt : i < ps.length
    · rw [List.drop_eq_getElem_cons hlt] at o2
      obtain ⟨ρ1, b, q1, q2, q3, q4⟩ := compF_step o2
      refine .inr ⟨wk.go i H2 B2 e2.b e2.bh hlt, by omega, fun x H3 y => ?_⟩
      obtain ⟨B3, e3, r3⟩ := wk.yld i H2 B2 x H3 _ e2.b e2.bh y (List.getElem?_eq_getElem hlt)
      refine hm Z B3 H3 _ _ ρ1 x _ _ e3.bh ((rb.ext e2).ext e3) r3 q1 fun σ2 re2 => ?_
      refine ⟨Z, B3, ρ1, b, e3.bh, re2, q2, fun c H4 B4 e4 rc => ?_⟩
      cases rc
      cases b with
      | true =>
        rw [if_pos rfl]
        obtain ⟨z, q5, o5⟩ := q3 rfl
        refine ⟨Z, B4, ρ1, z, e4.bh, re2.ext e4, q5, fun v H5 B5 e5 rv => ⟨ps.length - (i + 1), by omega, B5, qs ++ [z], rfl, hlt, ((e2.trans e3).trans e4).trans e5, ?_, ?_, o5.later ((e3.trans e4).trans e5)⟩⟩
        · exact (((ry.same e3.b).same e4.b).same e5.b).app (.one rv)
        · rw [List.length_append, List.length_singleton]; omega
      | false =>
        rw [if_neg Bool.false_ne_true]
        exact ⟨ps.length - (i + 1), by omega, B4, qs, rfl, hlt, (e2.trans e3).trans e4, (ry.same e3.b).same e4.b, by omega, (q4 rfl).later (e3.trans e4)⟩
    · have e : i = ps.length := by omega
      subst e
      rw [List.drop_length] at o2
      refine .inl ⟨wk.stop H2 B2 e2.b e2.bh, ?_⟩
      have o3 : Out X Rps σ B2 H2 (fun xs H' => ∀ p, H' p = none → Q (.ref p) (upd H' p (.lst xs))) (.ok (qs ++ [])) := o2
      rw [List.append_nil] at o3
      exact o3.now (Rel := Rps) e2.bh ry
def fNo : PEnv → Res Bool := fun _ => .ok true
theorem pts_no {X' : Cx} : PTs X' [] (tG0 X'.K RelB fNo) := fun pins s σ H Q I ⟨Z, B, ρ, a, sb, re, e, q⟩ => pts_nil pins s σ H Q I (by cases e; exact q true H B (.refl sb) rfl)
theorem pe_elt {X' : Cx} {e : Expr} {ge : PEnv → Res PV} (h : PP X' e ge) : PE X' e (tG0 X'.K Rp ge) := fun pins s σ H Q I q => h pins s σ H Q I q.g
theorem ppf_comp {gi : PEnv → Res (List PV)} {m : PV → PEnv → Res PEnv} {gt : PEnv → Res Bool} {ge : PEnv → Res PV} (hc : X.calm = true) (hsc : X.env.scope = sc) (hN : X.N = N) (S : BlkSc sc N scope lv fv ix) (hi : PPI X target iter gi)
    (hg : ∀ cl C s₂ H₂ ex pl, PG (blk X scope cl C (lv ++ fv) s₂ H₂ ex pl) target g) (hgk : GK lv.length g) (hm : TgR X.K g m)
    (ht : ∀ cl C s₂ H₂ ex pl, PTs (blk X scope cl C (lv ++ fv) s₂ H₂ ex pl) ifs (tG0 X.K RelB gt)) (he : ∀ cl C s₂ H₂ ex pl, PP (blk X scope cl C (lv ++ fv) s₂ H₂ ex pl) elt ge) (nd : ix.Nodup)
    (hs : ∀ x, foldedSetIterable iter X.env x = pure x := by intro _; rfl) : PE X (.ListComp elt [⟨target, iter, ifs, 0⟩] scope pos) (tF X (compG lv.length ix gi m gt ge)) :=
  PE_mono (pe_comp hc hsc hN S hi hg hgk ht (fun cl C s₂ H₂ ex pl => pe_elt (he cl C s₂ H₂ ex pl)) hs) (comp_ok hm nd)
def eF (g : PEnv → Res (List PV)) : PEnv → Res PV := fun ρ => (g ρ).bind fun ps => .ok (.lst ps)
theorem tF_of {g : PEnv → Res (List PV)} (σ : St) (H : Hp) (Q : VK) (h : tE X (eF g) σ H Q) : tF X g σ H Q := by
  obtain ⟨Z, B, ρ, s, re, o⟩ := h
  exact ⟨Z, B, ρ, s, re, o.bind fun ps xs B1 H1 _ e1 r1 o1 => fun p n => newL e1.bh r1 n o1⟩
theorem pp_new {e : Expr} {g : PEnv → Res (List PV)} (h : PE X e (tF X g)) : PP X e (eF g) := PE_mono h tF_of
end
def spP (K : PySem.W.Frag) (F : List PV → Res PV) : Sp := fun vs H Q _ => ∃ B args r, Same B H ∧ Rps K B vs args ∧ F args = .ok r ∧ ∀ v H' B', Ext B H B' H' → Rp K B' v r → Q v H'
def eD (F : List PV → Res PV) (g : PEnv → Res (List PV)) : PEnv → Res PV := fun ρ => (g ρ).bind fun as => nox (F as)
inductive RS where
  | nxt (ρ : PEnv) | ret (p : PV) | brk (ρ : PEnv) | cnt (ρ : PEnv) | exc (c : XC) | bad
abbrev GS := PEnv → RS
def OutS (X : Cx) (D : Ends) (B0 H0 : Hp) (r : RS) : Prop := match r with
  | .nxt ρ => ∀ σ H B, Ext B0 H0 B H → RE X.K H0 B H σ ρ → D.nx σ H
  | .ret p => ∀ v H B, Ext B0 H0 B H → Rp X.K B v p → D.rt v H
  | .brk ρ => ∀ σ H B, Ext B0 H0 B H → RE X.K H0 B H σ ρ → D.bk σ H
  | .cnt ρ => ∀ σ H B, Ext B0 H0 B H → RE X.K H0 B H σ ρ → D.ct σ H
  | .exc c => ∀ pins σ x s' H' B', Inv X pins σ H' s' → Ext B0 H0 B' H' → ExcIs X pins H' c x s' → X.xe x s'
  | .bad => False
def tS (X : Cx) (G : GS) : TS := fun D σ H => ∃ B0 H0 B ρ, Ext B0 H0 B H ∧ RE X.K H0 B H σ ρ ∧ OutS X D B0 H0 (G ρ)
abbrev PPS (X : Cx) (st : Stmt) (G : GS) : Prop := PS X st (tS X G)
abbrev PPSs (X : Cx) (st : List Stmt) (G : GS) : Prop := PSs X st (tS X G)
def ofR {α : Type} (r : Res α) (k : α → RS) : RS := match r with
  | .ok a => k a
  | .exc c => .exc c
  | .bad => .bad
theorem Ext.self {B0 H0 B H : Hp} (e : Ext B0 H0 B H) : Ext B H0 B H := ⟨.refl _, e.h, e.bh, fun _ _ _ n => n⟩
theorem Ext.step {B0 H0 B H B' H' : Hp} (e : Ext B0 H0 B H) (e' : Ext B H0 B' H') : Ext B0 H0 B' H' := ⟨e.b.trans e'.b, e'.h, e'.bh, fun a o q n => e'.nw a o q (e.nw a o q n)⟩
theorem OutS.of {α β : Type} {X : Cx} {Rel : RelT α β} {D : Ends} {σ : St} {B0 H0 B H : Hp} {Q : β → Hp → Prop} {r : Res α} {k : α → RS} (o : OutS X D B0 H0 (ofR r k)) (e : Ext B0 H0 B H)
    (h : ∀ a v B1 H1, r = .ok a → Ext B H B1 H1 → Ext B0 H0 B1 H1 → Rel X.K B1 v a → OutS X D B0 H0 (k a) → Q v H1) : Out X Rel σ B H Q r := by
  cases r with
  | bad => exact o
  | exc c => exact fun pins x s' H' B' I x' ex => o pins σ x s' H' B' I (e.trans x') ex
  | ok a => exact fun v H1 B1 x rel => h a v B1 H1 rfl x (e.trans x) rel o
def sNil : GS := fun ρ => .nxt ρ
def thenR (r : RS) (k : PEnv → RS) : RS := match r with
  | .nxt ρ => k ρ
  | r => r
def sSeq (G G' : GS) : GS := fun ρ => thenR (G ρ) G'
def sBad : GS := fun _ => .bad
section
variable {X : Cx} {st : Stmt} {rest : List Stmt} {G G' : GS} {pos : Pos}
theorem pss_nilP : PPSs X [] sNil := PSs_mono pss_nil fun D σ H ⟨B0, H0, B, ρ, e, re, o⟩ => o σ H B e re
theorem pss_consP (h1 : PPS X st G) (h2 : PPSs X rest G') : PPSs X (st :: rest) (sSeq G G') := by
  refine PSs_mono (pss_cons h1 h2) fun D σ H ⟨B0, H0, B, ρ, e, re, o⟩ => ⟨B0, H0, B, ρ, e, re, ?_⟩
  unfold sSeq at o
  cases q : G ρ with
  | nxt ρ' => rw [q] at o; exact fun σ' H' B' e' re' => ⟨B0, H0, B', ρ', e', re', o⟩
  | ret p => rw [q] at o; exact o
  | brk p => rw [q] at o; exact o
  | cnt p => rw [q] at o; exact o
  | exc p => rw [q] at o; exact o
  | bad => rw [q] at o; exact o
theorem pss_oneP (h1 : PPS X st G) : PPSs X [st] G := pss_one h1
def sRet (g : PEnv → Res PV) : GS := fun ρ => ofR (g ρ) .ret
theorem pps_ret {e : Expr} {g : PEnv → Res PV} (h : PP X e g) : PPS X (.Return (some e) pos) (sRet g) :=
  PS_mono (ps_ret h) fun D σ H ⟨B0, H0, B, ρ, e, re, o⟩ => ⟨H0, B, ρ, e.bh, re, o.of e fun a v B1 H1 _ _ e1 r1 o1 => o1 v H1 B1 e1 r1⟩
def sRetN : GS := fun _ => .ret .non
def sPass : GS := fun ρ => .nxt ρ
def sIf (c : PEnv → Res Bool) (G G' : GS) : GS := fun ρ => ofR (c ρ) fun b => if b = true then G ρ else G' ρ
theorem pps_if {c : Expr} {a b : List Stmt} {g : PEnv → Res Bool} (hc : PPT X c g) (ha : PPSs X a G) (hb : PPSs X b G') : PPS X (.If c a b pos) (sIf g G G') :=
  PS_mono (ps_if hc ha hb) fun D σ H ⟨B0, H0, B, ρ, e, re, o⟩ => ⟨H0, B, ρ, e.bh, re, o.of e fun k v B1 H1 _ x e1 r1 o1 => by
    cases r1
    cases k with
    | true => rw [if_pos rfl] at o1 ⊢; exact ⟨B0, H0, B1, ρ, e1, re.ext x, o1⟩
    | false => rw [if_neg Bool.false_ne_true] at o1 ⊢; exact ⟨B0, H0, B1, ρ, e1, re.ext x, o1⟩⟩
def sExp (g : PEnv → Res PV) : GS := fun ρ => ofR (g ρ) fun _ => .nxt ρ
theorem pps_expr {e : Expr} {g : PEnv → Res PV} (h : PP X e g) (hs : swapsWith e none pos.line X.env = pure false := by rfl) : PPS X (.Expr e pos) (sExp g) :=
  PS_mono (ps_expr h hs) fun D σ H ⟨B0, H0, B, ρ, e, re, o⟩ => ⟨H0, B, ρ, e.bh, re, o.of e fun a v B1 H1 _ x e1 r1 o1 => o1 σ H1 B1 e1 (re.ext x)⟩
def sSet (i : Nat) (g : PEnv → Res PV) : GS := fun ρ => ofR (g ρ) fun p => .nxt (ρ.set i (.val p))
theorem pps_set {i : Nat} {te : TE} {g : PEnv → Res PV} (h : PS X st (tAsg te (gName i))) (m : ∀ σ H Q, tE X g σ H Q → te σ H Q) : PPS X st (sSet i g) :=
  PS_mono h fun D σ H ⟨B0, H0, B, ρ, e, re, o⟩ => m σ H _ ⟨H0, B, ρ, e.bh, re, o.of e fun a v B1 H1 _ x e1 r1 o1 => o1 _ H1 B1 e1 ((re.ext x).setVal r1 i)⟩
theorem pps_setE {i : Nat} {x : Str} {e : Expr} {g : PEnv → Res PV} {pos' : Pos} (hN : X.N.Nodup) (hi : X.N[i]? = some x) (hx : Loc X.env.scope x) (he : PP X e g) (hs : swapsWith e (some (.Name x pos')) pos.line X.env = pure false := by rfl) (hf : X.fn x = true ∨ X.env.scope.names.lookup x = some .local := by first | exact .inl rfl | exact .inr rfl | assumption) :
    PPS X (.Assign [.Name x pos'] e pos) (sSet i g) := pps_set (ps_set hN hi hx he hs hf) fun _ _ _ h => h
theorem Ext.chg {B0 H0 B H : Hp} {a : Addr} {o : HO} (e : Ext B0 H0 B H) (z : H0 a = none) (b : B a = none) : Ext B0 H0 B (upd H a o) :=
  ⟨e.b, fun c u q => by rw [upd_ne (ne_of_none q z)]; exact e.h c u q, fun c u q => by rw [upd_ne (ne_of_none q b)]; exact e.bh c u q, e.nw⟩
theorem RE.chg {K : PySem.W.Frag} {Z B H : Hp} {σ : St} {ρ : PEnv} {i : Nat} {a : Addr} {ps qs : List PV} {ys : List V} (r : RE K Z B H σ ρ) (h : ρ[i]? = some (.own ps)) (ha : σ[i]? = some (some (.ref a))) (ry : Rps K B ys qs) : RE K Z B (upd H a (.lst ys)) σ (ρ.set i (.own qs)) := by
  obtain ⟨a', xs, h1, h2, h3, h4, h5⟩ := r.own i ps h
  rw [ha] at h1; cases h1
  have hil : i < ρ.length := (List.getElem?_eq_some_iff.mp h).1
  have key : ∀ {j : Nat} {s : Sl}, (ρ.set i (.own qs))[j]? = some s → (j = i ∧ s = .own qs) ∨ (j ≠ i ∧ ρ[j]? = some s) := fun {j s} e => by
    by_cases hj : i = j
    · subst hj
      rw [List.getElem?_set_self hil] at e; cases e; exact .inl ⟨rfl, rfl⟩
    · rw [List.getElem?_set_ne hj] at e; exact .inr ⟨Ne.symm hj, e⟩
  have nea : ∀ {j : Nat} {us : List PV} {b : Addr}, j ≠ i → ρ[j]? = some (.own us) → σ[j]? = some (some (.ref b)) → b ≠ a := fun hj e1 e2 z => by
    subst z
    exact hj (r.ne _ _ _ _ _ e1 h e2 ha)
  refine ⟨by simp [r.len], fun j p e => ?_, fun j us e => ?_, fun j c e => ?_, fun j k b us vs e1 e2 e3 e4 => ?_⟩
  · rcases key e with ⟨_, e'⟩ | ⟨_, e'⟩
    · cases e'
    · exact r.val j p e'
  · rcases key e with ⟨rfl, e'⟩ | ⟨hj, e'⟩
    · cases e'; exact ⟨a, ys, ha, h2, h3, upd_same, ry⟩
    · obtain ⟨b, zs, g1, g2, g3, g4, g5⟩ := r.own j us e'
      exact ⟨b, zs, g1, g2, g3, by rw [upd_ne (nea hj e' g1)]; exact g4, g5⟩
  · rcases key e with ⟨_, e'⟩ | ⟨hj, e'⟩
    · cases e'
    · obtain ⟨b, C, g1, g2, g3, g4, D, g5, g6⟩ := r.exc j c e'
      exact ⟨b, C, g1, g2, g3, g4, D, by rw [upd_ne (ne_of g5 h4 (fun z => nomatch z))]; exact g5, g6.mono fun d φ q => by rw [upd_ne (ne_of q h4 (fun z => nomatch z))]; exact q⟩
  · rcases key e1 with ⟨rfl, e1'⟩ | ⟨hj, e1'⟩
    · rcases key e2 with ⟨rfl, _⟩ | ⟨hk, e2'⟩
      · rfl
      · rw [ha] at e3; cases e3
        exact absurd rfl (nea hk e2' e4)
    · rcases key e2 with ⟨rfl, _⟩ | ⟨hk, e2'⟩
      · rw [ha] at e4; cases e4
        exact absurd rfl (nea hj e1' e3)
      · exact r.ne j k b us vs e1' e2' e3 e4
theorem RE.newOwn {K : PySem.W.Frag} {Z B H : Hp} {σ : St} {ρ : PEnv} {i : Nat} {a : Addr} {qs : List PV} {ys : List V} (r : RE K Z B H σ ρ) (z : Z a = none) (b : B a = none) (n : H a = none) (ry : Rps K B ys qs) : RE K Z B (upd H a (.lst ys)) (σ.set i (some (.ref a))) (ρ.set i (.own qs)) := by
  have hl := r.len
  have key : ∀ {j : Nat} {s : Sl}, (ρ.set i (.own qs))[j]? = some s → (j = i ∧ s = .own qs ∧ i < σ.length) ∨ (j ≠ i ∧ ρ[j]? = some s) := fun {j s} e => by
    by_cases hj : i = j
    · subst hj
      by_cases hi : i < ρ.length
      · rw [List.getElem?_set_self hi] at e; cases e; exact .inl ⟨rfl, rfl, by omega⟩
      · rw [List.getElem?_eq_none (by simp; omega)] at e; cases e
    · rw [List.getElem?_set_ne hj] at e; exact .inr ⟨Ne.symm hj, e⟩
  have old : ∀ {j : Nat} {us : List PV} {c : Addr}, ρ[j]? = some (.own us) → σ[j]? = some (some (.ref c)) → c ≠ a := fun e1 e2 zz => by
    obtain ⟨c', zs, g1, g2, g3, g4, g5⟩ := r.own _ _ e1
    rw [e2] at g1; cases g1
    rw [zz, n] at g4; cases g4
  refine ⟨by simp [hl], fun j p e => ?_, fun j us e => ?_, fun j c e => ?_, fun j k c us vs e1 e2 e3 e4 => ?_⟩
  · rcases key e with ⟨_, e', _⟩ | ⟨hj, e'⟩
    · cases e'
    · obtain ⟨v, g1, g2⟩ := r.val j p e'
      exact ⟨v, by rw [List.getElem?_set_ne (Ne.symm hj)]; exact g1, g2⟩
  · rcases key e with ⟨rfl, e', hi⟩ | ⟨hj, e'⟩
    · cases e'; exact ⟨a, ys, List.getElem?_set_self hi, z, b, upd_same, ry⟩
    · obtain ⟨c, zs, g1, g2, g3, g4, g5⟩ := r.own j us e'
      exact ⟨c, zs, by rw [List.getElem?_set_ne (Ne.symm hj)]; exact g1, g2, g3, by rw [upd_ne (old e' g1)]; exact g4, g5⟩
  · rcases key e with ⟨_, e', _⟩ | ⟨hj, e'⟩
    · cases e'
    · obtain ⟨d, C, g1, g2, g3, g4, D, g5, g6⟩ := r.exc j c e'
      exact ⟨d, C, by rw [List.getElem?_set_ne (Ne.symm hj)]; exact g1, g2, g3, g4, D, by rw [upd_ne (ne_of_none g5 n)]; exact g5, g6.mono fun d φ q => by rw [upd_ne (ne_of_none q n)]; exact q⟩
  · rcases key e1 with ⟨rfl, _, hi⟩ | ⟨hj, e1'⟩
    · rcases key e2 with ⟨rfl, _, _⟩ | ⟨hk, e2'⟩
      · rfl
      · rw [List.getElem?_set_self hi] at e3; cases e3
        rw [List.getElem?_set_ne (Ne.symm hk)] at e4
        exact absurd rfl (old e2' e4)
    · rw [List.getElem?_set_ne (Ne.symm hj)] at e3
      rcases key e2 with ⟨rfl, _, hi⟩ | ⟨hk, e2'⟩
      · rw [List.getElem?_set_self hi] at e4; cases e4
        exact absurd rfl (old e1' e3)
      · rw [List.getElem?_set_ne (Ne.symm hk)] at e4
        exact r.ne j k c us vs e1' e2' e3 e4
def sOwn (i : Nat) (g : PEnv → Res (List PV)) : GS := fun ρ => ofR (g ρ) fun ps => .nxt (ρ.set i (.own ps))
theorem pps_own {i : Nat} {te : TE} {g : PEnv → Res (List PV)} (h : PS X st (tAsg te (gName i))) (m : ∀ σ H Q, tF X g σ H Q → te σ H Q) : PPS X st (sOwn i g) :=
  PS_mono h fun D σ H ⟨B0, H0, B, ρ, e, re, o⟩ => m σ H _ ⟨H0, B, ρ, e.bh, re, o.of e fun a v B1 H1 _ x e1 r1 o1 => fun p n => o1 _ _ B1 (e1.chg (e1.h.free n) (e1.bh.free n)) ((re.ext x).newOwn (e1.h.free n) (e1.bh.free n) n r1)⟩
def frz (i : Nat) : PEnv → PEnv := fun ρ => match ρ[i]? with
  | some (.own ps) => ρ.set i (.val (.lst ps))
  | _ => ρ
def sFrz (i : Nat) (G : GS) : GS := fun ρ => G (frz i ρ)
def sSetO (i : Nat) (gk gv : PEnv → Res PV) : GS := fun ρ => match ρ[i]? with
  | some (.own ps) => ofR (gv ρ) fun v => ofR (gk ρ) fun k => match k with
    | .int n => match ixN ps.length n with
      | some j => .nxt (ρ.set i (.own (ps.set j v)))
      | none => .bad
    | _ => .bad
  | _ => .bad
theorem pps_setO {i : Nat} {x : Str} {k e : Expr} {gk gv : PEnv → Res PV} {p1 p2 : Pos} (he : PP X e gv) (hk : PP X k gk) (hN : X.N[i]? = some x := by rfl) (hv : Vis X.env.scope x := by first | exact Or.inl rfl | exact Or.inr (Or.inl rfl) | exact Or.inr (Or.inr rfl)) (hd : (x == ("__debug__" : Str)) = false := by decide)
    (hcd : (x == ("__classdict__" : Str)) = false := by decide)
    (ha : ∀ v, assign (.Subscript (.Name x p1) k p2) X.env v = (do
      let ov ← holding [v] (eval (.Name x p1) X.env)
      let iv ← holding [v, ov] (eval k X.env)
      standAt p2
      holding [v, ov, iv] (setItem ov iv v)
      release [v, ov, iv] []) := by intro _; rfl)
    (hs : swapsWithSole [.Subscript (.Name x p1) k p2] e pos.line X.env = pure false := by rfl) (hw : swappedStores [.Subscript (.Name x p1) k p2] e X.env = pure none := by rfl)
    (h1 : (assignEach [.Subscript (.Name x p1) k p2] X.env).map (·.2) = [assign (.Subscript (.Name x p1) k p2) X.env] := by rfl) : PPS X (.Assign [.Subscript (.Name x p1) k p2] e pos) (sSetO i gk gv) := by
  refine PS_mono (ps_asg he (pg_sub (pe_var hN hv hd hcd) hk set_list ha) hs hw h1) fun D σ H ⟨B0, H0, B, ρ, e, re, o⟩ => ?_
  unfold sSetO at o
  split at o
  case h_2 => exact (show False from o).elim
  rename_i ps hi
  refine ⟨H0, B, ρ, e.bh, re, o.of e fun vv v B1 H1 _ x1 e1 r1 o1 => ?_⟩
  obtain ⟨a, xs, h1, h2, h3, h4, h5⟩ := (re.ext x1).own i ps hi
  refine ⟨.ref a, h1, H0, B1, ρ, e1.bh, re.ext x1, o1.of e1 fun kk k B2 H2 _ x2 e2 r2 o2 => ?_⟩
  have re2 := (re.ext x1).ext x2
  cases r2 <;> first | exact (show False from o2).elim | skip
  dsimp only at o2
  split at o2
  · rename_i j hj
    refine ⟨a, xs, _, j, rfl, rfl, x2.h _ _ h4, by rw [h5.len]; exact hj, ?_⟩
    exact o2 _ _ B2 (e2.chg h2 (x2.nw _ _ h4 h3)) (re2.chg hi h1 ((h5.same x2.b).set (r1.same x2.b) j))
  · exact (show False from o2).elim
def forF (m : PV → PEnv → Res PEnv) (G : GS) : List PV → GS
  | [], ρ => .nxt ρ
  | p :: ps, ρ => match m p ρ with
    | .ok ρ1 => match G ρ1 with
      | .nxt ρ2 => forF m G ps ρ2
      | .cnt ρ2 => forF m G ps ρ2
      | .brk ρ2 => .nxt ρ2
      | .ret v => .ret v
      | .exc c => .exc c
      | .bad => .bad
    | _ => .bad
def sFor (gi : PEnv → Res (List PV)) (m : PV → PEnv → Res PEnv) (G : GS) : GS := fun ρ => ofR (gi ρ) fun ps => forF m G ps ρ
theorem pps_for {tg iter : Expr} {body : List Stmt} {g : TG} {gi : PEnv → Res (List PV)} {m : PV → PEnv → Res PEnv} (hp : PassesOwn (model X.prog X.w) X.A X.env X.xe) (hc : X.calm = true) (hi : PPI X tg iter gi) (hg : PG X tg g) (hm : TgR X.K g m) (hb : PPSs X body G)
    (hs : ∀ x, foldedSetIterable iter X.env x = pure x := by intro _; rfl) : PPS X (.For tg iter body [] pos) (sFor gi m G) := by
  refine PS_mono (ps_for hp hc hi hg hb hs) fun D σ H ⟨B0, H0, B, ρ, e, re, o⟩ => ⟨H0, B, ρ, e.bh, re, o.of e fun ps J B1 H1 _ x1 e1 wk o1 => ?_⟩
  refine ⟨fun i k σ2 H2 => ∃ B2 ρ2, k = ps.length - i ∧ i ≤ ps.length ∧ Ext B0 H0 B2 H2 ∧ Same B1 B2 ∧ RE X.K H0 B2 H2 σ2 ρ2 ∧ OutS X D B0 H0 (forF m G (ps.drop i) ρ2), ⟨ps.length, B1, ρ, rfl, Nat.zero_le _, e1, .refl _, re.ext x1, by rw [List.drop_zero]; exact o1⟩, ?_⟩
  rintro i k σ2 H2 ⟨B2, ρ2, rfl, hi, e2, s2, re2, o2⟩
  by_cases hlt : i < ps.length
  · rw [List.drop_eq_getElem_cons hlt] at o2
    unfold forF at o2
    split at o2
    case h_2 => exact (show False from o2).elim
    rename_i ρ3 q3
    refine .inr ⟨wk.go i H2 B2 s2 e2.bh hlt, fun σ' H' => ∃ B' ρ', Ext B0 H0 B' H' ∧ Same B1 B' ∧ RE X.K H0 B' H' σ' ρ' ∧ OutS X D B0 H0 (forF m G (ps.drop (i + 1)) ρ'), fun σ' H' ⟨B', ρ', a1, a2, a3, a4⟩ => ⟨ps.length - (i + 1), by omega, B', ρ', rfl, hlt, a1, a2, a3, a4⟩, fun x H3 y => ?_⟩
    obtain ⟨B3, x3, r3⟩ := wk.yld i H2 B2 x H3 _ s2 e2.bh y (List.getElem?_eq_getElem hlt)
    refine hm H0 B3 H3 σ2 ρ2 ρ3 x _ _ x3.bh (re2.ext x3) r3 q3 fun σ4 re4 => ?_
    refine ⟨B3, H0, B3, ρ3, (e2.trans x3).self, re4, ?_⟩
    have e3 : Ext B0 H0 B3 H3 := e2.trans x3
    have s3 : Same B1 B3 := s2.trans x3.b
    cases q : G ρ3 with
    | nxt ρ4 => rw [q] at o2; exact fun σ' H' B' e' re' => ⟨B', ρ4, e3.step e', s3.trans e'.b, re', o2⟩
    | cnt ρ4 => rw [q] at o2; exact fun σ' H' B' e' re' => ⟨B', ρ4, e3.step e', s3.trans e'.b, re', o2⟩
    | brk ρ4 => rw [q] at o2; exact fun σ' H' B' e' re' => o2 σ' H' B' (e3.step e') re'
    | ret v => rw [q] at o2; exact fun v H' B' e' r' => o2 v H' B' (e3.step e') r'
    | exc c => rw [q] at o2; exact fun pins σ' z s' H' B' I e' ex => o2 pins σ' z s' H' B' I (e3.step e') ex
    | bad => rw [q] at o2; exact o2
  · have e : i = ps.length := by omega
    subst e
    rw [List.drop_length] at o2
    exact .inl ⟨wk.stop H2 B2 s2 e2.bh, o2 σ2 H2 B2 e2 re2⟩
def runG (np n : Nat) (G : GS) (args : List PV) : Res PV := if args.length = np then match G (args.map .val ++ List.replicate (n - args.length) .no) with
    | .ret p => .ok p
    | .nxt _ => .ok .non
    | .exc c => .exc c
    | _ => .bad
  else .bad
theorem runG_ret {np n : Nat} {G : GS} {args : List PV} {ρ : PEnv} {p : PV} (h1 : args.length = np) (h2 : args.map Sl.val ++ List.replicate (n - args.length) Sl.no = ρ) (h3 : G ρ = .ret p) : runG np n G args = .ok p := by
  unfold runG
  rw [if_pos h1, h2, h3]
theorem runG_nxt {np n : Nat} {G : GS} {args : List PV} {ρ ρ' : PEnv} (h1 : args.length = np) (h2 : args.map Sl.val ++ List.replicate (n - args.length) Sl.no = ρ) (h3 : G ρ = .nxt ρ') : runG np n G args = .ok .non := by
  unfold runG
  rw [if_pos h1, h2, h3]
theorem RE.begin_ {K : PySem.W.Frag} {B H : Hp} {N : List Str} {vs : List V} {ps : List PV} (r : Rps K B vs ps) : RE K H B H (start N vs) (ps.map .val ++ List.replicate (N.length - ps.length) .no) := by
  have hl := r.len
  have key : ∀ {i : Nat} {s : Sl}, (ps.map Sl.val ++ List.replicate (N.length - ps.length) .no)[i]? = some s → s ≠ .no → ∃ p, ps[i]? = some p ∧ s = .val p := fun {i s} e hn => by
    by_cases hi : i < ps.length
    · rw [List.getElem?_append_left (by simpa using hi), List.getElem?_map] at e
      obtain ⟨p, e1, e2⟩ := Option.map_eq_some_iff.mp e
      exact ⟨p, e1, e2.symm⟩
    · rw [List.getElem?_append_right (by simpa using hi), List.getElem?_replicate] at e
      split at e
      · cases e; exact absurd rfl hn
      · cases e
  refine ⟨by unfold start; simp [hl], fun i p e => ?_, fun i qs e => ?_, fun i c e => ?_, fun i j a qs us e1 => ?_⟩
  · obtain ⟨q, e1, e2⟩ := key e (fun z => nomatch z)
    cases e2
    obtain ⟨v, g1, g2⟩ := r.at_ e1
    refine ⟨v, ?_, g2⟩
    unfold start
    rw [List.getElem?_append_left (by rw [List.length_map]; exact (List.getElem?_eq_some_iff.mp g1).1), List.getElem?_map, g1]
    rfl
  · obtain ⟨q, e1, e2⟩ := key e (fun z => nomatch z)
    cases e2
  · obtain ⟨q, e1, e2⟩ := key e (fun z => nomatch z)
    cases e2
  · obtain ⟨q, _, e2⟩ := key e1 (fun z => nomatch z)
    cases e2
end
end L2
namespace L2
open PySem PySem.Spec PyProof.Rows
theorem dict_mapFields (o : Obj) (f : Array Value → Array Value) : (Obj.mapFields f o).dict = o.dict := by
  obtain ⟨c, d, dt, sl⟩ := o
  cases dt <;> rfl
structure XHeld (h0 : Heap) (ps qs : List Addr) (H : Hp) (h : Heap) (e : Addr) (cls fl : Value) (fo : Option Nat) : Prop where
  fr : H e = none
  nw : h0.get? e = none
  np : e ∉ ps
  fd : Fld h0 qs H h e fo
  ob : ∃ oe vs a0, h.get? e = some oe ∧ oe.cls = cls ∧ oe.data = .fields vs ∧ vs[0]? = some a0 ∧ XTr h0 ps H h e vs fl
section
variable {h0 : Heap} {ps : List Addr} {L : Addr} {H : Hp} {h : Heap} {e : Addr} {cls : Value} {fo : Option Nat}
theorem XHeld.at_ (x : XHeld h0 ps (L :: ps) H h e cls (rawInt L) fo) : XAt h0 ps L H h e cls fo := let ⟨oe, vs, a0, h1, h2, h3, h4, h5⟩ := x.ob; ⟨x.fr, x.nw, x.np, x.fd, oe, vs, a0, h1, h2, h3, h4, .inr (.inr h5)⟩
end
structure XCh (fs ch : List Addr) (h h' : Heap) : Prop where
  keep : ∀ b o, b ∉ fs → b ∉ ch → h.get? b = some o → h'.get? b = some o
  slot : ∀ b o, b ∉ ch → h.get? b = some o → ∃ sl, h'.get? b = some { o with slots := sl }
  there : ∀ b o, h.get? b = some o → ∃ o', h'.get? b = some o'
  size : h.objs.size ≤ h'.objs.size
theorem Fld.xch {h0 : Heap} {ps fs ch : List Addr} {H : Hp} {h h' : Heap} {e : Addr} {fo : Option Nat} (f : Fld h0 ps H h e fo) (x : XCh fs ch h h') (hch : ∀ b ∈ ch, ∃ o vs, h.get? b = some o ∧ o.data = .fields vs)
    (he : ∀ oe, h.get? e = some oe → ∃ oe', h'.get? e = some oe' ∧ oe'.dict = oe.dict) : Fld h0 ps H h' e fo := by
  cases fo with
  | none =>
    obtain ⟨oe, h1, h2⟩ := f
    obtain ⟨oe', g1, g2⟩ := he oe h1
    exact ⟨oe', g1, g2.trans h2⟩
  | some k =>
    obtain ⟨oe, d, t, h1, h2, ⟨od, es, ep, h3, h4, h5⟩, h6⟩ := f
    obtain ⟨oe', g1, g2⟩ := he oe h1
    have nd : d ∉ ch := fun z => by
      obtain ⟨o, vs, q1, q2⟩ := hch d z
      rw [h3] at q1; cases q1
      rw [h4] at q2; cases q2
    obtain ⟨sl, q⟩ := x.slot d od nd h3
    exact ⟨oe', d, t, g1, g2.trans h2, ⟨_, es, ep, q, h4, h5⟩, h6⟩
section
variable {X : Cx} {pins : List (Addr × Obj)} {σ : St} {H : Hp} {s : Shared} {e : Addr} {cls : Value} {fo : Option Nat}
theorem record_ne {h : Heap} {b : Addr} {o : Obj} {vs : Array Value} (I : Inv X pins σ H s) (hb : s.heap.get? b = some o) (hd : o.data = .fields vs) : b ≠ X.env.locals ∧ (∀ x c, X.env.cells.lookup x = some c → c ≠ b) ∧ b ∉ frs X.stack := by
  refine ⟨fun z => ?_, fun x c ec z => ?_, fun z => ?_⟩
  · obtain ⟨m, ⟨o', es, ep, ho, hd', _⟩, _⟩ := I.loc
    rw [z, ho] at hb; cases hb; rw [hd'] at hd; cases hd
  · obtain ⟨v, o', ho, hd'⟩ := I.cell x c ec
    rw [z, hb] at ho; cases ho; rw [hd'] at hd; cases hd
  · obtain ⟨_, o', ho, hnf⟩ := I.stack.mem z
    rw [hb] at ho; cases ho; exact hnf vs hd
theorem Inv.xch (I : Inv X pins σ H s) {ch : List Addr} {h' : Heap} (x : XCh (frs X.stack) ch s.heap h') (hch : ∀ b ∈ ch, X.s₀.heap.get? b = none ∧ b ∉ (X.pn ++ pins).map (·.1) ∧ H b = none ∧ ∃ o vs, s.heap.get? b = some o ∧ o.data = .fields vs) : Inv X pins σ H { s with heap := h' } := by
  have neC : ∀ b o, X.s₀.heap.get? b = some o → b ∉ ch := fun b o q hb => by rw [(hch b hb).1] at q; cases q
  have neL : ∀ b o, X.s₀.heap.get? b = some o → b ≠ X.env.locals := fun b o q => Nat.ne_of_lt (Nat.lt_of_lt_of_le (Heap.lt_size q) I.ok.above)
  have hok : HOk X.prog X.w H h' := fun a o q => (I.hok a o q).stay (fun b u hb r => by
      have hn : H b ≠ none := by
        rcases hb with z | z
        · rw [z, q]; exact fun w => nomatch w
        · rw [z]; exact fun w => nomatch w
      exact x.keep b u (fun z => hn (I.stkFree b z)) (fun z => hn (hch b z).2.2.1) r) (fun _ z => z) fun _ _ z => z
  have rec_ : ∀ b ∈ ch, b ≠ X.env.locals ∧ (∀ x c, X.env.cells.lookup x = some c → c ≠ b) := fun b hb => by
    obtain ⟨_, _, _, o, vs, h3, h4⟩ := hch b hb
    obtain ⟨r1, r2, _⟩ := record_ne (h := s.heap) I h3 h4
    exact ⟨r1, r2⟩
  have cellK : ∀ y c, X.env.cells.lookup y = some c → ∀ v, s.heap.IsCell c v → h'.IsCell c v := fun y c ec v ⟨o, ho, hd⟩ => by
    obtain ⟨sl, q⟩ := x.slot c o (fun z => (rec_ c z).2 y c ec rfl) ho
    exact ⟨_, q, hd⟩
  refine ⟨I.ok, I.os, I.bare, ⟨fun b o q n hb hx => ?_, fun b o q n hb hx => ?_, fun b o q n hx => I.base.free b o q n hx, fun b o q hx => ?_, I.base.tups, I.base.frzs, I.base.tbls⟩, ?_, fun y c ec => ?_, I.free, I.freeC, fun p hp => ?_, hok, I.len⟩
  · exact x.keep b o (fun z => (List.mem_cons.mp (I.stkSub b z)).elim (neL b o q) hb) (neC b o q) (I.base.keep b o q n hb hx)
  · obtain ⟨sl, e1⟩ := I.base.slot b o q n hb hx
    obtain ⟨sl', e2⟩ := x.slot b _ (neC b o q) e1
    exact ⟨sl', e2⟩
  · obtain ⟨o', e1⟩ := I.base.there b o q hx
    exact x.there b o' e1
  · obtain ⟨m, ⟨o, es, ep, ho, r⟩, hl⟩ := I.loc
    obtain ⟨sl, q⟩ := x.slot _ o (fun z => (rec_ _ z).1 rfl) ho
    refine ⟨m, ⟨_, es, ep, q, r⟩, fun i y v e1 e2 e3 => ?_⟩
    obtain ⟨u, ru, l⟩ := hl i y v e1 e2 e3
    refine ⟨u, ru, ?_⟩
    rcases l with l | ⟨k, c, ec, z⟩
    · exact .inl l
    · exact .inr ⟨k, c, ec, cellK y c ec _ z⟩
  · obtain ⟨v, z⟩ := I.cell y c ec
    exact ⟨v, cellK y c ec v z⟩
  · obtain ⟨e1, n, ne, nf, d⟩ := I.pin p hp
    exact ⟨x.keep p.1 p.2 (fun z => (List.mem_cons.mp (I.stkSub p.1 z)).elim ne nf) (fun z => (hch p.1 z).2.1 (List.mem_map.mpr ⟨p, hp, rfl⟩)) e1, n, ne, nf, d⟩
theorem entry_ok {M : Model} {E : Value → Shared → Prop} {head : Value} {hadNext : Bool} {oe : Obj} {vs : Array Value} {a0 : Value} {Q : Unit → Shared → Prop} (I : Inv X pins σ H s) (hst : X.stack = X.env :: X.outer) (hf : X.env.frame = some X.env.locals)
    (fr : H e = none) (nw : X.s₀.heap.get? e = none) (np : e ∉ (X.pn ++ pins).map (·.1)) (fd : Fld X.s₀.heap (X.env.locals :: (X.pn ++ pins).map (·.1)) H s.heap e fo) (he : s.heap.get? e = some oe) (hc : oe.cls = cls) (hd : oe.data = .fields vs) (h0 : vs[0]? = some a0) (hsz : 1 < vs.size)
    (hQ : ∀ h', Inv X pins σ H { s with heap := h' } → XHeld X.s₀.heap ((X.pn ++ pins).map (·.1)) (X.env.locals :: (X.pn ++ pins).map (·.1)) H h' e cls (rawInt X.env.locals) fo → XCh (frs X.stack) [e] s.heap h' → Q () { s with heap := h' }) :
    wpAny M X.A (do let a ← frameOf X.env; let pl ← entryPlaceOf X.env.locals hadNext; let b ← EntryCells.newEntry head a .none (rawInt X.env.locals) .none pl; setField (.ref e) 1 b) Q E s := by
  have hl : s.heap.FunFrames X.base (X.env :: X.outer) := by rw [← hst]; exact I.stack
  have hfr : X.A.frames = some (X.env :: X.outer) := by rw [← hst]; exact I.ok.frames
  have hfs : frs X.stack = (X.env :: X.outer).filterMap (·.frame) := by rw [hst]; rfl
  have hene : e ∉ (X.env :: X.outer).filterMap (·.frame) := by rw [← hfs]; exact (record_ne (h := s.heap) I he hd).2.2
  refine wpAny_bind (wpAny_frameOf_fun hfr hl hf fun h₁ hs₁ => ?_)
  refine wpAny_bind (wpAny_entryPlaceOf fun pl hpl => ?_)
  unfold EntryCells.newEntry newFields
  refine wpAny_bind (wpAny_newObj_type ?_ (hpl.sizeOk5 _ _ _ _ _))
  have he₁ : h₁.get? e = some oe := (hs₁.2.1 e hene).trans he
  have he₂ := Heap.get?_push_of_some (h := h₁) { cls := .type "traceback", dict := none, data := .fields ([head, .ref X.env.locals, .none, rawInt X.env.locals, .none] ++ (if pl.isEmpty then List.replicate 6 Value.none else pl)).toArray } he₁
  refine wpAny_setField he₂ hd hsz ?_
  have hTe : h₁.objs.size ≠ e := Nat.ne_of_gt (Heap.lt_size he₁)
  have hd₃ := Obj.data_mapFields hd (·.setIfInBounds 1 (Value.ref h₁.objs.size))
  have he₃ := Heap.get?_update_self (Obj.mapFields (·.setIfInBounds 1 (Value.ref h₁.objs.size))) he₂ (Obj.isFreed_of_fields hd₃)
  have hT₃ := (Heap.get?_update_other (h₁.push { cls := .type "traceback", dict := none, data := .fields ([head, .ref X.env.locals, .none, rawInt X.env.locals, .none] ++ (if pl.isEmpty then List.replicate 6 Value.none else pl)).toArray })
    (Obj.mapFields (·.setIfInBounds 1 (Value.ref h₁.objs.size))) (Ne.symm hTe)).trans (Heap.get?_push_size h₁ rfl)
  have keep : ∀ b o, b ≠ e → h₁.get? b = some o →
      ((h₁.push { cls := .type "traceback", dict := none, data := .fields ([head, .ref X.env.locals, .none, rawInt X.env.locals, .none] ++ (if pl.isEmpty then List.replicate 6 Value.none else pl)).toArray }).update e (Obj.mapFields (·.setIfInBounds 1 (Value.ref h₁.objs.size)))).get? b = some o :=
    fun b o hbe hb => by
      rw [Heap.get?_update_other _ _ (Ne.symm hbe)]
      exact Heap.get?_push_of_some _ hb
  have xc : XCh (frs X.stack) [e] s.heap ((h₁.push { cls := .type "traceback", dict := none, data := .fields ([head, .ref X.env.locals, .none, rawInt X.env.locals, .none] ++ (if pl.isEmpty then List.replicate 6 Value.none else pl)).toArray }).update e (Obj.mapFields (·.setIfInBounds 1 (Value.ref h₁.objs.size)))) := by
    refine ⟨fun b o hb hbe ho => keep b o (by simpa using hbe) ((hs₁.2.1 b (by rw [← hfs]; exact hb)).trans ho), fun b o hbe ho => ?_, fun b o ho => ?_, ?_⟩
    · obtain ⟨sl, q⟩ := hs₁.2.2 b o ho
      exact ⟨sl, keep b _ (by simpa using hbe) q⟩
    · by_cases hbe : b = e
      · subst hbe; exact ⟨_, he₃⟩
      · obtain ⟨sl, q⟩ := hs₁.2.2 b o ho
        exact ⟨_, keep b _ hbe q⟩
    · rw [Heap.size_update, Heap.size_push, hs₁.1]; exact Nat.le_succ _
  refine hQ _ (I.xch xc fun b hb => ?_) ?_ xc
  · obtain rfl : b = e := by simpa using hb
    exact ⟨nw, np, fr, oe, vs, he, hd⟩
  · have hTn : s.heap.objs.size ≤ h₁.objs.size := Nat.le_of_eq hs₁.1.symm
    have hTp : h₁.objs.size ∉ (X.pn ++ pins).map (·.1) := fun z => by
      obtain ⟨p, hp, ep⟩ := List.mem_map.mp z
      have := Heap.lt_size (I.pin p hp).1
      rw [ep] at this
      exact absurd (Nat.lt_of_lt_of_le this hTn) (Nat.lt_irrefl _)
    refine ⟨fr, nw, np, fd.xch xc (fun b hb => by rw [List.mem_singleton.mp hb]; exact ⟨oe, vs, he, hd⟩) (fun o q => by rw [he] at q; cases q; exact ⟨_, he₃, dict_mapFields _ _⟩), _, _, a0, he₃, (Obj.cls_mapFields _ _).trans hc, hd₃, by rw [Array.getElem?_setIfInBounds_ne (by decide)]; exact h0, h₁.objs.size, _, _, by simp [hsz], hTe, hTp, I.hok.fresh hTn, Heap.get?_none_of_le (Nat.le_trans I.sz hTn), hT₃, rfl, ?_⟩
    first | (simp; done) | (rcases hpl with rfl | ⟨_, _, _, _, _, _, _, rfl⟩ <;> simp)
theorem flight_ok {M : Model} {A : Around} {E : Value → Shared → Prop} {fl : Value} {f : Option Addr} {Q : Unit → Shared → Prop} (I : Inv X pins σ H s) (x : XHeld X.s₀.heap ((X.pn ++ pins).map (·.1)) (X.env.locals :: (X.pn ++ pins).map (·.1)) H s.heap e cls fl fo)
    (hQ : ∀ h', Inv X pins σ H { s with heap := h' } → XHeld X.s₀.heap ((X.pn ++ pins).map (·.1)) (X.env.locals :: (X.pn ++ pins).map (·.1)) H h' e cls (f.elim .none fun f => rawInt f) fo → (∃ T, T ≠ e ∧ XCh (frs X.stack) [T] s.heap h') → Q () { s with heap := h' }) : wpAny M A (setFlight (.ref e) f) Q E s := by
  obtain ⟨fr, nw, np, fd, oe, vs, a0, he, hc, hd, h0, T, oT, ts, h1, hTe, hTp, hTf, hTn, hT, hdT, h3⟩ := x
  have hsz3 : 3 < ts.size := (Array.getElem?_eq_some_iff.mp h3).1
  have other : ∀ b, b ≠ T → (s.heap.update T (Obj.mapFields (·.setIfInBounds 3 (f.elim Value.none fun f => rawInt f)))).get? b = s.heap.get? b := fun b hb => Heap.get?_update_other _ _ (Ne.symm hb)
  have hd3 := Obj.data_mapFields hdT (·.setIfInBounds 3 (f.elim Value.none fun f => rawInt f))
  have hT3 := Heap.get?_update_self (Obj.mapFields (·.setIfInBounds 3 (f.elim Value.none fun f => rawInt f))) hT (Obj.isFreed_of_fields hd3)
  have xc : XCh (frs X.stack) [T] s.heap (s.heap.update T (Obj.mapFields (·.setIfInBounds 3 (f.elim Value.none fun f => rawInt f)))) := by
    refine ⟨fun b o _ hb ho => (other b (by simpa using hb)).trans ho, fun b o hb ho => ⟨o.slots, (other b (by simpa using hb)).trans ho⟩, fun b o ho => ?_, by rw [Heap.size_update]; exact Nat.le_refl _⟩
    by_cases hb : b = T
    · subst hb; exact ⟨_, hT3⟩
    · exact ⟨o, (other b hb).trans ho⟩
  unfold setFlight
  refine wpAny_bind (wpAny_field he hd h1 ?_)
  rw [if_pos (show (Value.ref T != Value.none) = true from by simp)]
  refine wpAny_setField hT hdT hsz3 (hQ _ (I.xch xc fun b hb => ?_) ?_ ⟨T, hTe, xc⟩)
  · obtain rfl : b = T := by simpa using hb
    exact ⟨hTn, hTp, hTf, oT, ts, hT, hdT⟩
  · exact ⟨fr, nw, np, fd.xch xc (fun b hb => by rw [List.mem_singleton.mp hb]; exact ⟨oT, ts, hT, hdT⟩) (fun o q => ⟨o, (other e (Ne.symm hTe)).trans q, rfl⟩), oe, vs, a0, (other e (Ne.symm hTe)).trans he, hc, hd, h0, T, _, _, h1, hTe, hTp, hTf, hTn, hT3, hd3, by simp [hsz3]⟩
theorem note_ok {M : Model} {E : Value → Shared → Prop} {Q : Unit → Shared → Prop} (I : Inv X pins σ H s) (hst : X.stack = X.env :: X.outer) (hf : X.env.frame = some X.env.locals) (x : XAt X.s₀.heap ((X.pn ++ pins).map (·.1)) X.env.locals H s.heap e cls fo)
    (hQ : ∀ h', Inv X pins σ H { s with heap := h' } → XHeld X.s₀.heap ((X.pn ++ pins).map (·.1)) (X.env.locals :: (X.pn ++ pins).map (·.1)) H h' e cls (rawInt X.env.locals) fo → Q () { s with heap := h' }) : wpAny M X.A (noteFrame (.ref e) X.env) Q E s := by
  obtain ⟨fr, nw, np, fd, oe, vs, a0, he, hc, hd, h0, h1⟩ := x
  unfold noteFrame
  simp only [hf]
  rcases h1 with h1 | h1 | h1
  · refine wpAny_bind (wpAny_field he hd h1 ?_)
    rw [if_neg (by decide)]
    exact entry_ok I hst hf fr nw np fd he hc hd h0 (Array.getElem?_eq_some_iff.mp h1).1 fun h' I' x' _ => hQ h' I' x'
  · obtain ⟨T, oT, ts, h1, hTe, hTp, hTf, hTn, hT, hdT, h3⟩ := h1
    refine wpAny_bind (wpAny_field he hd h1 ?_)
    rw [if_pos (show (Value.ref T != Value.none) = true from by simp)]
    refine wpAny_bind (wpAny_field hT hdT h3 ?_)
    rw [if_neg (show ¬ ((Value.none == rawInt X.env.locals) = true) from by simp [rawInt])]
    have other : ∀ b, b ≠ T → (s.heap.update T (Obj.mapFields (·.setIfInBounds 3 Value.none))).get? b = s.heap.get? b := fun b hb => Heap.get?_update_other _ _ (Ne.symm hb)
    have hd3 := Obj.data_mapFields hdT (·.setIfInBounds 3 Value.none)
    have hT3 := Heap.get?_update_self (Obj.mapFields (·.setIfInBounds 3 Value.none)) hT (Obj.isFreed_of_fields hd3)
    have xc : XCh (frs X.stack) [T] s.heap (s.heap.update T (Obj.mapFields (·.setIfInBounds 3 Value.none))) := by
      refine ⟨fun b o _ hb ho => (other b (by simpa using hb)).trans ho, fun b o hb ho => ⟨o.slots, (other b (by simpa using hb)).trans ho⟩, fun b o ho => ?_, by rw [Heap.size_update]; exact Nat.le_refl _⟩
      by_cases hb : b = T
      · subst hb; exact ⟨_, hT3⟩
      · exact ⟨o, (other b hb).trans ho⟩
    have I1 := I.xch xc fun b hb => by
      obtain rfl : b = T := by simpa using hb
      exact ⟨hTn, hTp, hTf, oT, ts, hT, hdT⟩
    refine wpAny_bind (wpAny_setField hT hdT (Array.getElem?_eq_some_iff.mp h3).1 ?_)
    exact entry_ok (s := { s with heap := s.heap.update T (Obj.mapFields (·.setIfInBounds 3 Value.none)) }) I1 hst hf fr nw np (fd.xch xc (fun b hb => by rw [List.mem_singleton.mp hb]; exact ⟨oT, ts, hT, hdT⟩) (fun o q => ⟨o, (other e (Ne.symm hTe)).trans q, rfl⟩)) ((other e (Ne.symm hTe)).trans he) hc hd h0 (Array.getElem?_eq_some_iff.mp h1).1 fun h' I' x' _ => hQ h' I' x'
  · obtain ⟨T, oT, ts, h1, hTe, hTp, hTf, hTn, hT, hdT, h3⟩ := h1
    refine wpAny_bind (wpAny_field he hd h1 ?_)
    rw [if_pos (show (Value.ref T != Value.none) = true from by simp)]
    refine wpAny_bind (wpAny_field hT hdT h3 ?_)
    rw [if_pos (show (rawInt X.env.locals == rawInt X.env.locals) = true from by simp)]
    exact wpAny_pure (hQ s.heap I ⟨fr, nw, np, fd, oe, vs, a0, he, hc, hd, h0, T, oT, ts, h1, hTe, hTp, hTf, hTn, hT, hdT, h3⟩)
theorem ExcIs.nopins {c : XC} {y : Value} {s' : Shared} {E : Value → Shared → Prop} (x : ExcIs (X.wish E) pins H c y s') (hpn : X.pn = []) : ExcIs X [] H c y s' := by
  obtain ⟨e, C, rfl, hm, fr, nw, np, fd, oe, vs, a0, he, hc, hd, h0, h1⟩ := x
  have z : ∀ b : Addr, b ∉ (X.pn ++ ([] : List (Addr × Obj))).map (·.1) := fun b hb => by rw [hpn] at hb; simp at hb
  have fd' : Fld X.s₀.heap (X.env.locals :: (X.pn ++ ([] : List (Addr × Obj))).map (·.1)) H s'.heap e c.fo := fd.less fun d hd hz => (List.mem_cons.mp hz).elim (fun q => hd (by rw [q]; exact List.mem_cons_self)) (fun q => z d q)
  refine ⟨e, C, rfl, hm, fr, nw, z e, fd', oe, vs, a0, he, hc, hd, h0, ?_⟩
  rcases h1 with h1 | ⟨T, oT, ts, g1, g2, g3, g4⟩ | ⟨T, oT, ts, g1, g2, g3, g4⟩
  · exact .inl h1
  · exact .inr (.inl ⟨T, oT, ts, g1, g2, z T, g4⟩)
  · exact .inr (.inr ⟨T, oT, ts, g1, g2, z T, g4⟩)
def XX (X : Cx) (c : XC) (B0 H0 : Hp) : Value → Shared → Prop := fun x s' => ∃ σ H' B', Inv X [] σ H' s' ∧ Ext B0 H0 B' H' ∧ ExcIs X [] H' c x s'
theorem XX.passes {M : Model} {c : XC} {B0 H0 : Hp} (hst : X.stack = X.env :: X.outer) (hf : X.env.frame = some X.env.locals) : PassesOwn M X.A X.env (XX X c B0 H0) := by
  rintro x s' ⟨σ, H', B', I, ex, e, C, rfl, hm, xa⟩
  refine note_ok I hst hf xa fun h1 I1 x1 => ?_
  obtain ⟨oe, vs, a0, he, hc, hd, h0, T, oT, ts, hv1, r⟩ := id x1.ob
  refine wpAny_bind (wpAny_field he hd hv1 ?_)
  rw [if_neg (show ¬ ((Value.ref T == Value.none) = true) from by simp)]
  rw [hf]
  exact flight_ok (f := some X.env.locals) (s := { s' with heap := h1 }) I1 x1 fun h2 I2 x2 _ => ⟨σ, H', B', I2, ex, e, C, rfl, hm, x2.at_⟩
end
def CX1 (P : Program) (w : World) : CXT := fun outer H s E x s' => ∃ e H' cls fo, x = .ref e ∧ s'.os = s.os ∧ AllBare s'.gens ∧ Un (frs outer) [] H H' s.heap s'.heap ∧ HOk P w H' s'.heap ∧ XHeld s.heap [] [] H' s'.heap e cls .none fo ∧ E cls fo H'
theorem PSs_wish {X : Cx} {E : Value → Shared → Prop} {st : List Stmt} {t : TS} (h : PSs (X.wish E) st t) (hE : ∀ e s', E e s' → X.xe e s') : PSs X st t := fun pins s σ H D I hw =>
  wpAny_mono (h pins s σ H D (I.wish E) hw) (fun _ _ q => q.unwish) hE
def spX (K : PySem.W.Frag) (mg : Str → Option Value) (F : List PV → Res PV) : Sp := fun vs H Q E => ∃ B args, Same B H ∧ Rps K B vs args ∧ match F args with
  | .ok r => ∀ v H' B', Ext B H B' H' → Rp K B' v r → Q v H'
  | .exc c => ∀ C H' B', mg c.cls = some (.ref C) → Ext B H B' H' → E (.ref C) c.fo H'
  | .bad => False
theorem fn_exc {P : Program} {w : World} {K : PySem.W.Frag} {mg : Str → Option Value} {base : Heap} {x : Str} {st : Stmt} {N ps : List Str} {k : Nat} {G : GS} {f : Addr} {fd : FuncData} (F : Fun K x x st f fd) (S : FnScope N ps (defScope st))
    (hbody : ∀ (f : Addr) (cdv : Value) (A : Around) (outer : List Env) (s : Shared) (H : Hp) (E : XK) (E' : Value → Shared → Prop), Room k (A.deeper (envOfC x (defScope st) s.heap.objs.size f cdv)) →
      PassesOwn (model P w) (A.deeper (envOfC x (defScope st) s.heap.objs.size f cdv)) (envOfC x (defScope st) s.heap.objs.size f cdv) E' →
      PPSs ((cxOf (CX1 P w) P w K mg base N x (defScope st) f cdv A outer s H E).wish E') (defBody st) G) : FnOk P w K mg base (CX1 P w) (k + 1) f fd ps (spX K mg (runG ps.length N.length G)) := by
  obtain ⟨oc, od, kV, doc, pm, an, cdv, ct, osl, rfl, lk, hcd⟩ := F.ex
  have hlen : ∀ (vs : List V) (H : Hp) (Q : VK) (E : XK), spX K mg (runG ps.length N.length G) vs H Q E → vs.length = ps.length := fun vs H Q E h => by
    obtain ⟨B, args, _, rr, e⟩ := h
    rw [rr.len]
    unfold runG at e
    by_cases hl : args.length = ps.length
    · exact hl
    · rw [if_neg hl] at e; exact e.elim
  refine fn_of lk hcd S hlen fun A outer s H vs Q E hr h => ?_
  obtain ⟨B, args, s1, rr, e⟩ := h
  have ha : args.length = ps.length := by rw [← rr.len]; exact hlen vs H Q E ⟨B, args, s1, rr, e⟩
  unfold runG at e
  rw [if_pos ha] at e
  cases g : G (args.map Sl.val ++ List.replicate (N.length - args.length) Sl.no) with
  | brk ρ => rw [g] at e; exact e.elim
  | cnt ρ => rw [g] at e; exact e.elim
  | bad => rw [g] at e; exact e.elim
  | ret p =>
    rw [g] at e
    refine ⟨_, PSs_wish (hbody f cdv A outer s H E (fun _ _ => False) hr .never) (fun _ _ z => z.elim), B, H, B, args.map Sl.val ++ List.replicate (N.length - args.length) Sl.no, .refl s1, RE.begin_ rr, ?_⟩
    rw [g]
    exact fun v H' B' e' r' => e v H' B' e' r'
  | nxt ρ =>
    rw [g] at e
    refine ⟨_, PSs_wish (hbody f cdv A outer s H E (fun _ _ => False) hr .never) (fun _ _ z => z.elim), B, H, B, args.map Sl.val ++ List.replicate (N.length - args.length) Sl.no, .refl s1, RE.begin_ rr, ?_⟩
    rw [g]
    exact fun σ H' B' e' _ => e .non H' B' e' .non
  | exc c =>
    rw [g] at e
    have hp : PassesOwn (model P w) (cxOf (CX1 P w) P w K mg base N x (defScope st) f cdv A outer s H E).A (cxOf (CX1 P w) P w K mg base N x (defScope st) f cdv A outer s H E).env (XX (cxOf (CX1 P w) P w K mg base N x (defScope st) f cdv A outer s H E) c B H) := XX.passes rfl rfl
    refine ⟨_, PSs_wish (hbody f cdv A outer s H E (XX (cxOf (CX1 P w) P w K mg base N x (defScope st) f cdv A outer s H E) c B H) hr hp) ?_, B, H, B, args.map Sl.val ++ List.replicate (N.length - args.length) Sl.no, .refl s1, RE.begin_ rr, ?_⟩
    · rintro y s' ⟨σ, H', B', I, ex, ea, C, rfl, hm, xa⟩
      show wpAny _ _ (leaving _ (.ref ea)) _ _ s'
      unfold leaving
      refine wpAny_bind (note_ok I rfl rfl xa fun h1 I1 x1 => ?_)
      refine flight_ok (f := none) (s := { s' with heap := h1 }) I1 x1 fun h2 I2 x2 _ => ?_
      exact ⟨ea, H', .ref C, _, rfl, I2.os, I2.bare, I2.base, I2.hok, ⟨x2.fr, x2.nw, x2.np, x2.fd.less (fun _ _ => List.not_mem_nil), x2.ob⟩, e C H' B' hm ex⟩
    · rw [g]
      exact fun pins σ y s' H' B' I ex xe => ⟨σ, H', B', (I.unwish).pins_of fun p hp => by simp at hp, ex, xe.nopins rfl⟩
def DefX (P : Program) (w : World) (K : PySem.W.Frag) (mg : Str → Option Value) (base : Heap) (x : Str) (ps : List Str) (k : Nat) (sp : Sp) : Prop :=
  ∃ f fd, FnOk P w K mg base (CX1 P w) k f fd ps sp ∧ Binds K fd ps [] ∧ PySem.W.keepIn K (.ref f) = true ∧ mg x = some (.ref f)
theorem Un.new0 {fs : List Addr} {H H' : Hp} {h h' : Heap} (u : Un fs [] H H' h h') {e : Addr} (q : h'.get? e = none) : h.get? e = none := by
  cases z : h.get? e with
  | none => rfl
  | some o =>
    obtain ⟨o', w⟩ := u.there e o z (by simp)
    rw [q] at w; cases w
section
variable {X : Cx}
theorem run_exc {pins : List (Addr × Obj)} {σ : St} {H B : Hp} {s : Shared} {Q : VK} {k : Nat} {f : Addr} {fd : FuncData} {ps : List Str} {F : List PV → Res PV} {us : List Value} {vs : List V} {as : List PV} (hex : X.ex = []) (FO : FnOk X.prog X.w X.K X.mg X.base (CX1 X.prog X.w) k f fd ps (spX X.K X.mg F)) (hr : Room k X.A) (hb : Binds X.K fd ps [])
    (I : Inv X pins σ H s) (r : Vals vs us) (sb : Same B H) (ra : Rps X.K B vs as) (o : Out X Rp σ B H Q (F as)) : wpAny (model X.prog X.w) X.A (call (.ref f) us) (EP X pins σ Q) X.xe s := by
  have r2 : Vals (vs ++ []) (us ++ []) := r.append .nil
  have hsp : spX X.K X.mg F (vs ++ []) H Q (fun cls fo H' => ∀ ea s', Inv X pins σ H' s' → XHeld s.heap [] [] H' s'.heap ea cls .none fo → X.xe (.ref ea) s') := by
    refine ⟨B, as, sb, by rw [List.append_nil]; exact ra, ?_⟩
    cases q : F as with
    | ok v => rw [q] at o; exact o
    | bad => rw [q] at o; exact o
    | exc c =>
      rw [q] at o
      intro C H' B' hm ex ea s' I' xh
      refine o pins (.ref ea) s' H' B' I' ex ⟨ea, C, rfl, hm, ?_⟩
      have up : ∀ {b : Addr}, s.heap.get? b = none → X.s₀.heap.get? b = none := fun {b} q => by
        have u := I.base
        rw [hex] at u
        exact u.new0 q
      have pin : ∀ {b : Addr}, s.heap.get? b = none → b ∉ (X.pn ++ pins).map (·.1) := fun {b} q z => by
        obtain ⟨p, hp, ep⟩ := List.mem_map.mp z
        have := (I.pin p hp).1
        rw [ep, q] at this; cases this
      obtain ⟨oe, vs', a0, h1, h2, h3, h4, T, oT, ts, g1, g2, _, g3, g4, g5, g6, g7⟩ := xh.ob
      have fd' : Fld X.s₀.heap (X.env.locals :: (X.pn ++ pins).map (·.1)) H' s'.heap ea c.fo := by
        have fd := xh.fd
        revert fd
        cases c.fo with
        | none => exact fun f => f
        | some k => exact fun ⟨oe, d, t, q1, q2, q3, q4, q5, _⟩ => ⟨oe, d, t, q1, q2, q3, q4, up q5, fun z => (List.mem_cons.mp z).elim (fun z => by
            obtain ⟨m, ⟨o, es, ep, ho, _⟩, _⟩ := I.loc
            rw [z, ho] at q5; cases q5) (pin q5)⟩
      exact ⟨xh.fr, up xh.nw, pin xh.nw, fd', oe, vs', a0, h1, h2, h3, h4, .inr (.inl ⟨T, oT, ts, g1, g2, pin g4, g3, up g4, g5, g6, g7⟩)⟩
  have hl : (us ++ []).length = ps.length := by rw [← r2.length]; exact FO.len _ _ _ _ hsp
  refine wpAny_call (codeAny_mono (FO.run X.A X.stack s H ⟨us, []⟩ (us ++ []) (vs ++ []) Q _ hr I.env0 (hb s us I.kIn hl) r2 hsp) fun r s' hq => ?_)
  cases r with
  | error x =>
    obtain ⟨e, H', cls, fo, rfl, os, bare, un, hok, xh, E⟩ := hq
    exact E e s' (I.call' (ch := []) os un hok bare fun b hb => by simp at hb) xh
  | ok fl =>
    cases fl with
    | ret u => exact I.after hq
    | next => exact False.elim hq
    | brk => exact False.elim hq
    | cont => exact False.elim hq
theorem pp_callX {x : Str} {ps : List Str} {j k : Nat} {F : List PV → Res PV} {e : Expr} {es : List Expr} {g : PEnv → Res (List PV)} {p pos : Pos} (d : DefX X.prog X.w X.K X.mg X.base x ps j (spX X.K X.mg F)) (hr : Room k X.A) (ha : PPA X (e :: es) g) (hex : X.ex = [] := by rfl) (hj : j ≤ k := by decide) (hg : Gl X x := by rfl) (hdb : (x == ("__debug__" : Str)) = false := by decide)
    (he : starEach (e :: es) X.env = (false, eval e X.env) :: starEach es X.env := by rfl) (hpl : (backTo pos (starEach es X.env)).any (·.1) = false := by rfl) : PP X (.Call (.Name x p) (e :: es) [] pos) (eC F g) := by
  obtain ⟨f, fd, FO, b, kp, m⟩ := d
  intro pins s σ H Q I ⟨Z, B, ρ, sb, re, o⟩
  refine wpAny_Call_Name_kw (ld_glob I hg m ?_ hdb)
  refine PySem.W.callWith_K (h₀ := X.base) I.ok.mod.kin kp (thn (ha pos pins s σ H (fun vs H1 => ∃ as B1, Same B1 H1 ∧ Rps X.K B1 vs as ∧ Out X Rp σ B1 H1 Q (F as)) I ⟨Z, B, ρ, sb, re, o.bind fun as vs B1 H1 _ e1 r1 o1 => ⟨as, B1, e1.bh, r1, o1⟩⟩) fun us s1 ⟨vs, H1, I1, r, as, B1, sb1, r1, o1⟩ => ⟨I1.kIn, ?_⟩) he hpl
  exact run_exc hex FO (hr.mono hj) b I1 r sb1 r1 o1
theorem pp_callN {x : Str} {ps : List Str} {j k : Nat} {F : List PV → Res PV} {e : Expr} {es : List Expr} {g : PEnv → Res (List PV)} {p pos : Pos} (d : DefX X.prog X.w X.K X.mg X.base x ps j (spX X.K X.mg F)) (hr : Room k X.A) (ha : PPA X (e :: es) g) (hj : j ≤ k := by decide) (hg : Gl X x := by rfl) (hdb : (x == ("__debug__" : Str)) = false := by decide)
    (he : starEach (e :: es) X.env = (false, eval e X.env) :: starEach es X.env := by rfl) (hpl : (backTo pos (starEach es X.env)).any (·.1) = false := by rfl) : PP X (.Call (.Name x p) (e :: es) [] pos) (eD F g) := by
  obtain ⟨f, fd, FO, b, kp, m⟩ := d
  have FO' : FnOk X.prog X.w X.K X.mg X.base (CX1 X.prog X.w) j f fd ps (fun vs H Q E => ∃ B args r, Same B H ∧ Rps X.K B vs args ∧ F args = .ok r ∧ ∀ v H' B', Ext B H B' H' → Rp X.K B' v r → Q v H') := FO.imp fun vs H Q E ⟨B, args, r, h1, h2, h3, h4⟩ => ⟨B, args, h1, h2, by rw [h3]; exact h4⟩
  refine PE_mono (pe_call (E := fun _ _ _ => False) (dvs := []) (ds := []) FO' (hr.mono hj) hg m kp b .nil (fun pins σ H s e s' I hx => by obtain ⟨_, _, _, _, _, _, _, _, _, _, E⟩ := hx; exact E.elim) ha hdb he hpl) fun σ H Q ⟨Z, B, ρ, s, re, o⟩ => ⟨Z, B, ρ, s, re, o.bind fun as vs B1 H1 _ e1 r1 o1 => ?_⟩
  cases q : F as with
  | ok r => rw [q] at o1; exact ⟨B1, as, r, e1.bh, by rw [List.append_nil]; exact r1, q, o1⟩
  | exc c => rw [q] at o1; exact (show False from o1).elim
  | bad => rw [q] at o1; exact (show False from o1).elim
theorem def_exc {P : Program} {w : World} {K : PySem.W.Frag} {mg : Str → Option Value} {base : Heap} {x : Str} {st : Stmt} {N ps : List Str} {k : Nat} {G : GS} (F : Tw.Fn K mg x ps st) (S : FnScope N ps (defScope st))
    (hbody : ∀ (f : Addr) (cdv : Value) (A : Around) (outer : List Env) (s : Shared) (H : Hp) (E : XK) (E' : Value → Shared → Prop), Room k (A.deeper (envOfC x (defScope st) s.heap.objs.size f cdv)) →
      PassesOwn (model P w) (A.deeper (envOfC x (defScope st) s.heap.objs.size f cdv)) (envOfC x (defScope st) s.heap.objs.size f cdv) E' →
      PPSs ((cxOf (CX1 P w) P w K mg base N x (defScope st) f cdv A outer s H E).wish E') (defBody st) G) : DefX P w K mg base x ps (k + 1) (spX K mg (runG ps.length N.length G)) := by
  obtain ⟨f, fd, h, b, m⟩ := F.ex
  exact ⟨f, fd, fn_exc h S hbody, b, h.kp, m⟩
end
theorem law_spX {K : PySem.W.Frag} {mg : Str → Option Value} {H : Hp} {a : Addr} {ns : List Int} {M : List PV → Res PV} {E : XK} (h : SqL K H a (ns.map V.int)) (e : M [.lst (ns.map .int)] = .ok (.bl true)) : spX K mg M [.ref a] H (fun v _ => v = .bl true) E := by
  refine ⟨H, [.lst (ns.map .int)], .refl _, .one (.lstOf h ⟨by simp, fun i x p e1 e2 => ?_⟩), ?_⟩
  · rw [List.getElem?_map] at e1 e2
    cases q : ns[i]? with
    | none => rw [q] at e1; cases e1
    | some n => rw [q] at e1 e2; cases e1; cases e2; exact .int n
  · rw [e]
    exact fun v H' B' _ r => by cases r; rfl
end L2
namespace L2
open PySem PySem.Spec PyProof.Rows
abbrev bmV : List Value := [.type "ValueError", .type "Exception", .type "BaseException", .type "object"]
def ExcCls (K : PySem.W.Frag) (mg : Str → Option Value) (x : Str) : Prop := ∃ C, mg x = some (.ref C) ∧ PySem.W.excIn K C bmV "ValueError.__new__" = true
theorem exc_obj {K : PySem.W.Frag} {h : Heap} {C : Addr} {mg : Str → Option Value} {x : Str} (X : K.In h) (b : mg x = some (.ref C)) (q : PySem.W.excIn K C bmV "ValueError.__new__" = true) : OwnCls x C bmV "ValueError.__new__" mg h := by
  refine ⟨b, ?_⟩
  unfold PySem.W.excIn at q
  split at q
  · rename_i dd cd sl ho
    split at q
    · rename_i C' bm k0 k1 k2 k3 n k5 hm hs
      simp only [Bool.and_eq_true, beq_iff_eq, Bool.not_eq_true'] at q
      obtain ⟨⟨⟨⟨⟨rfl, rfl⟩, hdel⟩, ht⟩, hok⟩, hni⟩ := q
      obtain ⟨nm, bs, mro, ns, qn, hd, sn, sub, ab, col, del⟩ := cd
      dsimp only at hm hdel hok hni
      subst hm hdel
      have hsl : sl = #[k0, k1, k2, k3, some (.builtin "ValueError.__new__"), k5] := by
        obtain ⟨l⟩ := sl
        simp only at hs
        rw [hs]
      subst hsl
      exact ⟨bm, ns, nm, qn, bs, hd, sn, sub, ab, col, dd, k0, k1, k2, k3, k5, _, X _ _ ho, .of_isNs (PySem.W.isNs_of_in X hok), PySem.W.nsMap_none_of_in X hok hni, PySem.W.tail_of_in X ht⟩
    · cases q
  · cases q
section
variable {P : Program} {w : World} {H : Hp} {h : Heap} {a : Addr} {o : HO}
theorem ObjOk.there_ (x : ObjOk P w H h a o) : ∃ ob, h.get? a = some ob := by
  cases o with
  | lst xs => obtain ⟨_, _, _, _, e⟩ := x; exact ⟨_, e⟩
  | tup xs => obtain ⟨_, _, _, o, e, _⟩ := x; exact ⟨_, e⟩
  | dK kvs => obtain ⟨_, _, _, _, o, _, _, e, _⟩ := x; exact ⟨_, e⟩
  | dT kvs => obtain ⟨_, _, _, _, o, _, _, e, _⟩ := x; exact ⟨_, e⟩
  | set S n => obtain ⟨o, _, _, _, e, _⟩ := x; exact ⟨_, e⟩
  | ins C dx fs => obtain ⟨_, _, _, e, _⟩ := x; exact ⟨_, e⟩
  | own y => exact x
  | xd fs => obtain ⟨_, ⟨_, _, _, e, _⟩, _⟩ := x; exact ⟨_, e⟩
  | rng lo hi => obtain ⟨_, _, _, e⟩ := x; exact ⟨_, e⟩
  | frz ob u => obtain ⟨e, _⟩ := x; exact ⟨_, e⟩
  | tbl ps => exact ⟨_, show h.get? a = some _ from x⟩
  | met f y => exact ⟨_, show h.get? a = some _ from x⟩
  | ext φ => obtain ⟨_, e, _⟩ := x; exact e
theorem HOk.none_of (ok : HOk P w H h) (e : h.get? a = none) : H a = none := by
  cases q : H a with
  | none => rfl
  | some u =>
    obtain ⟨ob, z⟩ := (ok a u q).there_
    rw [e] at z; cases z
end
section
variable {X : Cx} {pos : Pos}
def sRaise (x : Str) (g : PEnv → Res (List PV)) : GS := fun ρ => ofR (g ρ) fun as => if as.length ≤ 1000 then .exc ⟨x, []⟩ else .bad
theorem pps_raise {x : Str} {e₀ : Expr} {rest : List Expr} {g : PEnv → Res (List PV)} {np cpos : Pos} (ex : ExcCls X.K X.mg x) (hcalm : X.calm = true) (hex : X.ex = []) (ha : PPA X (e₀ :: rest) g) (hg : Gl X x := by rfl) (hdb : (x == ("__debug__" : Str)) = false := by decide)
    (he : starEach (e₀ :: rest) X.env = (false, eval e₀ X.env) :: starEach rest X.env := by rfl) (hpl : (backTo cpos (starEach rest X.env)).any (·.1) = false := by rfl) :
    PPS X (.Raise (some (.Call (.Name x np) (e₀ :: rest) [] cpos)) none pos) (sRaise x g) := by
  intro pins s σ H D I ⟨B0, H0, B, ρ, e, re, o⟩
  obtain ⟨C, hm, hx⟩ := ex
  have O := exc_obj I.ok.mod.kin hm hx
  obtain ⟨tl, N, nm, q, bs, hdct, sn, sub, ab, col, dd, k0, k1, k2, k3, k5, mN, hC, hN, hni, T⟩ := O.obj
  have F : ExcBaseFacts "ValueError" "ValueError.__new__" "ValueError.__init__" bmV := PySem.F.excBase_ValueError
  have fin : ∀ {us : List Value} {s2 : Shared}, AP X pins σ (fun vs H1 => ∃ (as : List PV) (B1 : Hp), Ext B0 H0 B1 H1 ∧ vs.length = as.length ∧ OutS X D B0 H0 (if as.length ≤ 1000 then .exc ⟨x, []⟩ else .bad)) us s2 →
      us.length ≤ sizeLine ∧ (∀ b o, X.base.get? b = some o → s2.heap.get? b = some o) ∧ ∀ h' ea, Heap.MadeExcOf s2.heap h' ea (.ref C) us → X.xe (.ref ea) { s2 with heap := h' } := fun {us s2} ⟨vs, H1, I1, rv, as, B1, e1, hl, o1⟩ => by
    split at o1
    case isFalse => exact (show False from o1).elim
    rename_i hz
    have hu : us.length ≤ 1000 := by rw [← rv.length, hl]; exact hz
    refine ⟨Nat.le_of_lt (small1000 hu), I1.bk, fun h' ea mk => ?_⟩
    have I2 : Inv X pins σ H1 { s2 with heap := h' } := I1.kept (t' := s2.toks) mk.keeps
    obtain ⟨t, ht, _, _⟩ := mk.there
    have u := I1.base
    rw [hex] at u
    refine o1 pins σ (.ref ea) _ H1 B1 I2 e1 ⟨ea, C, rfl, hm, ⟨I1.hok.none_of mk.new, u.new0 mk.new, fun z => ?_, ⟨_, ht, rfl⟩, _, _, _, ht, rfl, rfl, rfl, .inl rfl⟩⟩
    obtain ⟨p, hp, ep⟩ := List.mem_map.mp z
    have := (I1.pin p hp).1
    rw [ep, mk.new] at this; cases this
  refine wpAny_Raise_call_subT (C := C) (nm := nm) (q := q) (N := N) (bs := bs) (bm := tl) (hdct := hdct) (sn := sn) (sub := sub) (ab := ab) (col := col) (dd := dd) (k0 := k0) (k1 := k1) (k2 := k2) (k3 := k3) (k5 := k5)
    F (mN := mN) (T.hasType F.hasBase) (I.ok.hd hcalm) (by rw [he]; show (false || (backTo cpos (starEach rest X.env)).any (·.1)) = false; rw [hpl]; rfl) hni (ld_glob I hg hm ⟨rfl, ?_⟩ hdb)
  have hA := ha cpos pins s σ H (fun vs H1 => ∃ (as : List PV) (B1 : Hp), Ext B0 H0 B1 H1 ∧ vs.length = as.length ∧ OutS X D B0 H0 (if as.length ≤ 1000 then .exc ⟨x, []⟩ else .bad)) I ⟨H0, B, ρ, e.bh, re, o.of e fun as vs B1 H1 _ _ e1 r1 o1 => ⟨as, B1, e1, r1.len, o1⟩⟩
  rw [he] at hA ⊢
  refine Calls.evalArgs_plain (wpAny_mono hA (fun us s2 h2 => ?_) fun _ _ y => y)
  obtain ⟨z1, z2, z3⟩ := fin h2
  exact ⟨rfl, z1, z2 _ _ hC, hN.keeps z2, T.keeps z2, z3⟩
end
end L2
namespace L2
open PySem PySem.Spec PyProof.Rows
abbrev Cx.mk_ (X : Cx) (e : Addr) : Cx := { X with A := X.A.mark (some (.ref e)), calm := false }
abbrev Cx.with2 (X : Cx) (pn : List (Addr × Obj)) (E : Value → Shared → Prop) : Cx := { X with pn := pn, xe := E }
section
variable {X : Cx} {pins : List (Addr × Obj)} {σ : St} {H : Hp} {s : Shared}
theorem Cx.Ok.marked (ok : X.Ok) (e : Addr) : (X.mk_ e).Ok := ⟨ok.mod, ok.kind, ok.glob, ok.blt, ok.above, ok.inj, ok.has, ok.cab, fun z => (nomatch z), ok.frames, ok.stk, ok.exf, ok.bs, ok.bsz, ok.noex, ok.exfs, ok.funs, ok.frf⟩
theorem Inv.marked (I : Inv X pins σ H s) (e : Addr) : Inv (X.mk_ e) pins σ H s := ⟨I.ok.marked e, I.os, I.bare, I.base, I.loc, I.cell, I.free, I.freeC, I.pin, I.hok, I.len⟩
theorem Inv.unmarked {e : Addr} (I : Inv (X.mk_ e) pins σ H s) (ok : X.Ok) : Inv X pins σ H s := ⟨ok, I.os, I.bare, I.base, I.loc, I.cell, I.free, I.freeC, I.pin, I.hok, I.len⟩
theorem Cx.Ok.with2 (ok : X.Ok) (pn : List (Addr × Obj)) (E : Value → Shared → Prop) : (X.with2 pn E).Ok := ⟨ok.mod, ok.kind, ok.glob, ok.blt, ok.above, ok.inj, ok.has, ok.cab, ok.hd, ok.frames, ok.stk, ok.exf, ok.bs, ok.bsz, ok.noex, ok.exfs, ok.funs, ok.frf⟩
theorem Inv.to2 (I : Inv X pins σ H s) (E : Value → Shared → Prop) : Inv (X.with2 (X.pn ++ pins) E) [] σ H s := ⟨I.ok.with2 _ E, I.os, I.bare, I.base, I.loc, I.cell, I.free, I.freeC, fun p hp => I.pin p (by rw [List.append_nil] at hp; exact hp), I.hok, I.len⟩
theorem Inv.of2 {E : Value → Shared → Prop} {pins' : List (Addr × Obj)} (I : Inv (X.with2 (X.pn ++ pins) E) pins' σ H s) (ok : X.Ok) : Inv X pins σ H s := ⟨ok, I.os, I.bare, I.base, I.loc, I.cell, I.free, I.freeC, fun p hp => I.pin p (List.mem_append_left _ hp), I.hok, I.len⟩
theorem Inv.track {e C : Addr} {o : Obj} {vs : Array Value} (I : Inv X pins σ H s) (fr : H e = none) (nw : X.s₀.heap.get? e = none) (np : e ∉ (X.pn ++ pins).map (·.1)) (he : s.heap.get? e = some o) (hc : o.cls = .ref C) (hd : o.data = .fields vs) : Inv X pins σ (upd H e (.ext (excφ e C o.dict))) s := by
  obtain ⟨n1, n2, n3⟩ := record_ne (h := s.heap) I he hd
  have sn : ∀ {b : Addr} {u : HO}, H b = some u → upd H e (.ext (excφ e C o.dict)) b = some u := fun q => by rw [upd_ne (ne_of_none q fr)]; exact q
  have so : ∀ {b : Addr}, b ≠ e → H b = none → upd H e (.ext (excφ e C o.dict)) b = none := fun hb q => by rw [upd_ne hb]; exact q
  refine ⟨I.ok, I.os, I.bare, ⟨I.base.keep, I.base.slot, fun b ob q n hx => so (fun z => by rw [z, nw] at q; cases q) (I.base.free b ob q n hx), I.base.there, fun b xs q => sn (I.base.tups b xs q), fun b ob u q => sn (I.base.frzs b ob u q), fun b ps q => ?_⟩, I.loc, I.cell, so (Ne.symm n1) I.free, fun x c q => so (n2 x c q) (I.freeC x c q), fun p hp => ?_, fun b u q => ?_, I.len⟩
  · obtain ⟨more, z⟩ := I.base.tbls b ps q
    exact ⟨more, sn z⟩
  · obtain ⟨e1, n, ne, nf, d⟩ := I.pin p hp
    exact ⟨e1, so (fun z => np (List.mem_map.mpr ⟨p, hp, z⟩)) n, ne, nf, d⟩
  · by_cases hb : b = e
    · subst hb
      rw [upd_same] at q; cases q
      refine ⟨⟨o, vs, he, hc, hd, rfl⟩, ⟨o, he⟩, fun h1 h2 ⟨o1, v1, g1, g2, g3⟩ k => ⟨o1, v1, k o1 g1, g2, g3⟩⟩
    · rw [upd_ne hb] at q
      exact (I.hok b u q).stay (fun _ _ _ z => z) (fun _ z => sn z) fun _ _ z => sn z
theorem Inv.trackD {d : Addr} {k : Nat} (I : Inv X pins σ H s) (fr : H d = none) (nw : X.s₀.heap.get? d = none) (np : d ∉ (X.pn ++ pins).map (·.1)) (nl : d ≠ X.env.locals) (hd : fldφ d k s.heap) : Inv X pins σ (upd H d (.ext (fldφ d k))) s := by
  obtain ⟨t, od, es, ep, h1, h2, h3⟩ := id hd
  have n2 : ∀ x c, X.env.cells.lookup x = some c → c ≠ d := fun x c ec z => by
    obtain ⟨v, o', ho, hd'⟩ := I.cell x c ec
    rw [z, h1] at ho; cases ho; rw [h2] at hd'; cases hd'
  have sn : ∀ {b : Addr} {u : HO}, H b = some u → upd H d (.ext (fldφ d k)) b = some u := fun q => by rw [upd_ne (ne_of_none q fr)]; exact q
  have so : ∀ {b : Addr}, b ≠ d → H b = none → upd H d (.ext (fldφ d k)) b = none := fun hb q => by rw [upd_ne hb]; exact q
  refine ⟨I.ok, I.os, I.bare, ⟨I.base.keep, I.base.slot, fun b ob q n hx => so (fun z => by rw [z, nw] at q; cases q) (I.base.free b ob q n hx), I.base.there, fun b xs q => sn (I.base.tups b xs q), fun b ob u q => sn (I.base.frzs b ob u q), fun b ps q => ?_⟩, I.loc, I.cell, so (Ne.symm nl) I.free, fun x c q => so (n2 x c q) (I.freeC x c q), fun p hp => ?_, fun b u q => ?_, I.len⟩
  · obtain ⟨more, z⟩ := I.base.tbls b ps q
    exact ⟨more, sn z⟩
  · obtain ⟨e1, n, ne, nf, d'⟩ := I.pin p hp
    exact ⟨e1, so (fun z => np (List.mem_map.mpr ⟨p, hp, z⟩)) n, ne, nf, d'⟩
  · by_cases hb : b = d
    · subst hb
      rw [upd_same] at q; cases q
      exact ⟨hd, ⟨od, h1⟩, fun g1 g2 ⟨t, z⟩ kk => ⟨t, z.at kk⟩⟩
    · rw [upd_ne hb] at q
      exact (I.hok b u q).stay (fun _ _ _ z => z) (fun _ z => sn z) fun _ _ z => sn z
theorem name_goes {M : Model} {A : Around} {E : Value → Shared → Prop} {i : Nat} {x : Str} {pos : Pos} {Q : Unit → Shared → Prop} (I : Inv X pins σ H s) (hN : X.N.Nodup) (hi : X.N[i]? = some x) (hx : X.env.scope.names.lookup x = some .local)
    (hQ : ∀ s', Inv X pins (σ.set i none) H s' → Q () s') : wpAny M A (do bindName X.env x .none; unbindBehindTheSuite X.env x pos) Q E s := by
  have hcls : (X.env.scope.kind == .class || (X.env.scope.kind == .module && X.env.locals != X.env.globals)) = false := by rw [I.ok.kind]; rfl
  refine wpAny_bind (wpAny_bindName (store_ok I hN hi (.inl hx) (v := .non) rfl (fun s1 I1 => ?_) (.inr hx)))
  unfold unbindBehindTheSuite
  refine wpAny_onRaise ?_
  obtain ⟨m, hn, hl⟩ := id I1.loc
  have hil : i < σ.length := by rw [I.len]; exact (List.getElem?_eq_some_iff.mp hi).1
  obtain ⟨u, ru, lk⟩ := hl i x .non hi (List.getElem?_set_self hil) (.inl hx)
  have hm : m x = some u := by
    rcases lk with ⟨_, z⟩ | ⟨z, _⟩
    · exact z
    · have z' : X.env.scope.names.lookup x = some .cell ∨ X.env.scope.names.lookup x = some .free := z
      rw [hx] at z'
      rcases z' with z' | z' <;> cases z'
  refine wpAny_unbindName_local hx hn hm hcls fun h' u' hn' hs => hQ _ ?_
  obtain ⟨oL, _, _, hoL, _⟩ := id hn
  have neL : ∀ b o, X.s₀.heap.get? b = some o → b ≠ X.env.locals := fun b o q => Nat.ne_of_lt (Nat.lt_of_lt_of_le (Heap.lt_size q) I.ok.above)
  refine ⟨I1.ok, I1.os, I1.bare, ⟨fun b o q n hb hx => (hs.2 b (neL b o q)).trans (I1.base.keep b o q n hb hx), fun b o q n hb hx => ?_, I1.base.free, fun b o q hx => ?_, I1.base.tups, I1.base.frzs, I1.base.tbls⟩, ⟨_, hn', fun j y v e1 e2 e3 => ?_⟩, fun y c ec => ?_, I1.free, I1.freeC, fun p hp => ?_, fun b ob q => ?_, by simpa using I.len⟩
  · obtain ⟨sl, e1⟩ := I1.base.slot b o q n hb hx
    exact ⟨sl, (hs.2 b (neL b o q)).trans e1⟩
  · obtain ⟨o', e1⟩ := I1.base.there b o q hx
    exact ⟨o', (hs.2 b (neL b o q)).trans e1⟩
  · by_cases hj : i = j
    · subst hj
      rw [List.getElem?_set_self hil] at e2; cases e2
    · rw [List.getElem?_set_ne hj] at e2
      obtain ⟨u2, r2, q⟩ := hl j y v e1 (by rw [List.getElem?_set_ne hj]; exact e2) e3
      refine ⟨u2, r2, ?_⟩
      rcases q with ⟨k, q⟩ | ⟨k, c, ec, z⟩
      · refine .inl ⟨k, ?_⟩
        have : y ≠ x := fun q => hj (nodup_ix hN hi (q ▸ e1))
        simp [this, q]
      · exact .inr ⟨k, c, ec, z.sameBut hs (I1.cne y c ec)⟩
  · obtain ⟨v, z⟩ := I1.cell y c ec
    exact ⟨v, z.sameBut hs (I1.cne y c ec)⟩
  · obtain ⟨e1, n, ne, nf, d⟩ := I1.pin p hp
    exact ⟨(hs.2 p.1 ne).trans e1, n, ne, nf, d⟩
  · refine (I1.hok b ob q).stay (fun c w' hc r => (hs.2 c ?_).trans r) (fun _ z => z) fun _ _ z => z
    rintro rfl
    rcases hc with z | z
    · rw [← z, I1.free] at q; cases q
    · rw [I1.free] at z; cases z
end
theorem RE.setExc {K : PySem.W.Frag} {Z B H : Hp} {σ : St} {ρ : PEnv} {a C : Addr} {c : XC} (r : RE K Z B H σ ρ) (i : Nat) (z : Z a = none) (b : B a = none) (hn : PySem.W.nsIn K mainGlobals c.cls = some (some (.ref C))) {D : Option Addr} (h : H a = some (.ext (excφ a C D))) (hf : FldH H D c.fo) : RE K Z B H (σ.set i (some (.ref a))) (ρ.set i (.exc c)) := by
  have hl := r.len
  have key : ∀ {j : Nat} {s : Sl}, (ρ.set i (.exc c))[j]? = some s → (j = i ∧ s = .exc c ∧ i < σ.length) ∨ (j ≠ i ∧ ρ[j]? = some s) := fun {j s} e => by
    by_cases hj : i = j
    · subst hj
      by_cases hi : i < ρ.length
      · rw [List.getElem?_set_self hi] at e; cases e; exact .inl ⟨rfl, rfl, by omega⟩
      · rw [List.getElem?_eq_none (by simp; omega)] at e; cases e
    · rw [List.getElem?_set_ne hj] at e; exact .inr ⟨Ne.symm hj, e⟩
  refine ⟨by simp [hl], fun j q e => ?_, fun j qs e => ?_, fun j d e => ?_, fun j k a ps qs e1 e2 e3 e4 => ?_⟩
  · rcases key e with ⟨rfl, e', hi⟩ | ⟨hj, e'⟩
    · cases e'
    · obtain ⟨w, h1, h2⟩ := r.val j q e'
      exact ⟨w, by rw [List.getElem?_set_ne (Ne.symm hj)]; exact h1, h2⟩
  · rcases key e with ⟨rfl, e', hi⟩ | ⟨hj, e'⟩
    · cases e'
    · obtain ⟨a, xs, h1, h2⟩ := r.own j qs e'
      exact ⟨a, xs, by rw [List.getElem?_set_ne (Ne.symm hj)]; exact h1, h2⟩
  · rcases key e with ⟨rfl, e', hi⟩ | ⟨hj, e'⟩
    · cases e'; exact ⟨a, C, List.getElem?_set_self hi, z, b, hn, D, h, hf⟩
    · obtain ⟨a, C, h1, h2⟩ := r.exc j d e'
      exact ⟨a, C, by rw [List.getElem?_set_ne (Ne.symm hj)]; exact h1, h2⟩
  · rcases key e1 with ⟨_, e', _⟩ | ⟨hj, e1'⟩
    · cases e'
    rcases key e2 with ⟨_, e', _⟩ | ⟨hk, e2'⟩
    · cases e'
    rw [List.getElem?_set_ne (Ne.symm hj)] at e3
    rw [List.getElem?_set_ne (Ne.symm hk)] at e4
    exact r.ne j k a ps qs e1' e2' e3 e4
theorem RE.drop {K : PySem.W.Frag} {Z B H : Hp} {σ : St} {ρ : PEnv} (r : RE K Z B H σ ρ) (i : Nat) : RE K Z B H (σ.set i none) (ρ.set i .no) := by
  have key : ∀ {j : Nat} {s : Sl}, (ρ.set i .no)[j]? = some s → s ≠ .no → j ≠ i ∧ ρ[j]? = some s := fun {j s} e hn => by
    by_cases hj : i = j
    · subst hj
      by_cases hi : i < ρ.length
      · rw [List.getElem?_set_self hi] at e; cases e; exact absurd rfl hn
      · rw [List.getElem?_eq_none (by simp; omega)] at e; cases e
    · rw [List.getElem?_set_ne hj] at e; exact ⟨Ne.symm hj, e⟩
  have at_ : ∀ {j : Nat} {w : Option V}, j ≠ i → σ[j]? = some w → (σ.set i none)[j]? = some w := fun hj e => by rw [List.getElem?_set_ne (Ne.symm hj)]; exact e
  refine ⟨by simp [r.len], fun j q e => ?_, fun j qs e => ?_, fun j d e => ?_, fun j k a ps qs e1 e2 e3 e4 => ?_⟩
  · obtain ⟨hj, e'⟩ := key e (fun z => nomatch z)
    obtain ⟨v, h1, h2⟩ := r.val j q e'
    exact ⟨v, at_ hj h1, h2⟩
  · obtain ⟨hj, e'⟩ := key e (fun z => nomatch z)
    obtain ⟨a, xs, h1, h2⟩ := r.own j qs e'
    exact ⟨a, xs, at_ hj h1, h2⟩
  · obtain ⟨hj, e'⟩ := key e (fun z => nomatch z)
    obtain ⟨a, C, h1, h2⟩ := r.exc j d e'
    exact ⟨a, C, at_ hj h1, h2⟩
  · obtain ⟨hj, e1'⟩ := key e1 (fun z => nomatch z)
    obtain ⟨hk, e2'⟩ := key e2 (fun z => nomatch z)
    rw [List.getElem?_set_ne (Ne.symm hj)] at e3
    rw [List.getElem?_set_ne (Ne.symm hk)] at e4
    exact r.ne j k a ps qs e1' e2' e3 e4
theorem ans_true {K : PySem.W.Frag} {x t c : Value} {Hh : Heap → Prop} (ty : ∀ (M : Model) (h : Heap), K.In h → Hh h → PySem.W.Looks M h (typeOf x) t) (e : PySem.W.kitOne K t c = some true) : Answers (fun s => K.In s.heap ∧ Hh s.heap) x c true := by
  intro dep tk prog w A R s hs
  obtain ⟨h0, g, d, tt, os⟩ := s
  obtain ⟨⟨X, p⟩, hq⟩ := hs
  have LT := ty (model prog w) h0 X p
  unfold PySem.W.kitOne at e
  unfold Builtin.«isinstance.nested»
  refine wpAny_bind (LT.at ?_)
  by_cases q : (t == c) = true
  · rw [if_pos q]
    first
      | exact wpAny_bind (wpAny_rule (hq tt))
      | exact wpAny_bind (wpAny_rule (wpAny_pure (hq tt)))
      | exact wpAny_pure (hq tt)
      | exact hq tt
  · rw [if_neg q] at e
    rw [if_neg q]
    obtain ⟨hty, his, hsub⟩ := PySem.W.kit_cls (M := model prog w) X e
    have LI : PySem.W.Looks (model prog w) h0 (isInstance x c) true := LT.andThen hsub
    refine wpAny_bind (hty.at ?_)
    rw [if_pos (by decide)]
    k_delta "plainIsInstance"
    refine wpAny_bind (wpAny_bind (his.at ?_))
    simp only [Bool.not_true, Bool.false_eq_true, if_false]
    refine wpAny_bind (LI.at ?_)
    first
      | exact wpAny_pure (wpAny_pure (hq tt))
      | (simp only [if_true]; first | exact wpAny_pure (wpAny_pure (hq tt)) | exact wpAny_pure (hq tt) | exact wpAny_bind (wpAny_pure (wpAny_pure (hq tt))))
def TakesK (K : PySem.W.Frag) (mg : Str → Option Value) (n : Str) (tbl : List Str) : Prop := ∃ D, mg n = some (.ref D) ∧ ∀ c ∈ tbl, ∀ C, mg c = some (.ref C) → PySem.W.exmOne K (.ref C) (.ref D) = some true
def NamesK (K : PySem.W.Frag) (mg : Str → Option Value) (tbl : List Str) : Prop := ∀ c ∈ tbl, ∃ C, PySem.W.nsIn K mainGlobals c = some (some (.ref C)) ∧ mg c = some (.ref C)
def IsK (K : PySem.W.Frag) (tbl : List Str) (cv : Value) : Prop := ∀ c ∈ tbl, ∀ C, PySem.W.nsIn K mainGlobals c = some (some (.ref C)) → PySem.W.kitOne K (.ref C) cv = some true
section
variable {K : PySem.W.Frag} {mg : Str → Option Value} {D : Value} {c : Str} {C : Addr} {tbl : List Str} {cv : Value}
theorem takes_nil : ∀ c ∈ ([] : List Str), ∀ C, mg c = some (.ref C) → PySem.W.exmOne K (.ref C) D = some true := fun c hc => by simp at hc
theorem takes_cons (h1 : mg c = some (.ref C)) (h2 : PySem.W.exmOne K (.ref C) D = some true) (h3 : ∀ c ∈ tbl, ∀ C, mg c = some (.ref C) → PySem.W.exmOne K (.ref C) D = some true) : ∀ d ∈ c :: tbl, ∀ C, mg d = some (.ref C) → PySem.W.exmOne K (.ref C) D = some true := fun d hd C' q => by
  rcases List.mem_cons.mp hd with rfl | hd
  · rw [h1] at q; cases q; exact h2
  · exact h3 d hd C' q
theorem names_nil : NamesK K mg [] := fun c hc => by simp at hc
theorem names_cons (h1 : PySem.W.nsIn K mainGlobals c = some (some (.ref C))) (h2 : mg c = some (.ref C)) (h3 : NamesK K mg tbl) : NamesK K mg (c :: tbl) := fun d hd => by
  rcases List.mem_cons.mp hd with rfl | hd
  · exact ⟨C, h1, h2⟩
  · exact h3 d hd
theorem is_nil : IsK K [] cv := fun c hc => by simp at hc
theorem is_cons (h1 : PySem.W.nsIn K mainGlobals c = some (some (.ref C))) (h2 : PySem.W.kitOne K (.ref C) cv = some true) (h3 : IsK K tbl cv) : IsK K (c :: tbl) cv := fun d hd C' q => by
  rcases List.mem_cons.mp hd with rfl | hd
  · rw [h1] at q; cases q; exact h2
  · exact h3 d hd C' q
theorem bt_ValueError : bootBuiltins "ValueError" = some (.type "ValueError") := by decide +kernel
end
section
variable {X : Cx} {pos : Pos}
theorem excφ_ty {a C : Addr} {D : Option Addr} (M : Model) (h : Heap) (p : excφ a C D h) : PySem.W.Looks M h (typeOf (.ref a)) (.ref C) := by
  obtain ⟨o, vs, h1, h2, _⟩ := p
  exact h2 ▸ (PySem.W.Looks.ld h1).andThen .now
theorem call_isX {v : V} {cv : Value} (rv : ∀ u, RelV v u → u = cv) : CallR X (.builtin "isinstance") (fun xs H Q => ∃ a C D, xs = [.ref a, v] ∧ H a = some (.ext (excφ a C D)) ∧ PySem.W.kitOne X.K (.ref C) cv = some true ∧ Q (.bl true) H) := by
  intro pins s σ H xs us Q I r h
  obtain ⟨a, C, D, rfl, hH, e, q⟩ := h
  obtain ⟨u, w', rfl, r1, r2⟩ := vals2 r
  cases r1
  have e2 := rv _ r2
  subst e2
  have p : excφ a C D s.heap := by
    have z := I.hok a _ hH
    obtain ⟨z1, _⟩ := z
    exact z1
  exact call_isinstance (S := fun _ R s => (X.K.In s.heap ∧ excφ a C D s.heap) ∧ ∀ tk, R (.ok (.ret (.bool true))) { s with toks := tk })
    (fun prog w A R s hs => isinstance_outer (ans_true (fun M h _ p => excφ_ty M h p) e 0 _ prog w A R s hs) (fun z => nomatch z)) ⟨⟨I.kIn, p⟩, fun tk => ⟨.bl true, H, I.tok tk, rfl, q⟩⟩
def isX (i : Nat) (tbl : List Str) : PEnv → Res PV := fun ρ => match ρ[i]? with
  | some (.exc c) => if c.cls ∈ tbl then .ok (.bl true) else .bad
  | _ => .bad
theorem pp_isX (i : Nat) {x n : Str} {tbl : List Str} {v : V} {cv : Value} {p p1 p2 : Pos} (hg : Gl X "isinstance") (hm : X.mg "isinstance" = none) (hC : PE X (.Name n p2) (tC v)) (rv : ∀ u, RelV v u → u = cv) (hk : IsK X.K tbl cv)
    (hN : X.N[i]? = some x := by rfl) (hv : Vis X.env.scope x := by first | exact Or.inl rfl | exact Or.inr (Or.inl rfl) | exact Or.inr (Or.inr rfl)) (hd : (x == ("__debug__" : Str)) = false := by decide) (hcd : (x == ("__classdict__" : Str)) = false := by decide)
    (hs : starEach [.Name x p1, .Name n p2] X.env = (false, eval (.Name x p1) X.env) :: starEach [.Name n p2] X.env := by rfl) (hpl : (backTo pos (starEach [.Name n p2] X.env)).any (·.1) = false := by rfl) : PP X (.Call (.Name "isinstance" p) [.Name x p1, .Name n p2] [] pos) (isX i tbl) := by
  refine PE_mono (pe_callB (call_isX rv) hg hm bt_isinstance (pa_cons (pe_var hN hv hd hcd) (pa_cons hC pa_nil) hs) (by decide) (by decide) hs hpl) fun σ H Q ⟨Z, B, ρ, s, re, o⟩ => ?_
  unfold isX at o
  split at o
  case h_2 => exact (show False from o).elim
  rename_i c hc
  split at o
  case isFalse => exact (show False from o).elim
  rename_i ht
  obtain ⟨a, C, h1, h2, h3, h4, D, h5, _⟩ := re.exc i c hc
  exact ⟨.ref a, h1, a, C, D, rfl, h5, hk c.cls ht C h4, Out.now (Rel := Rp) o s (.bl _)⟩
def sTry (u : PEnv → PV → PEnv) (g : PEnv → Res PV) (hs : List Str) (Gh : XC → GS) : GS := fun ρ => match g ρ with
  | .ok p => .nxt (u ρ p)
  | .exc c => if c.cls ∈ hs then Gh c ρ else .bad
  | .bad => .bad
def HandlerOk (X : Cx) (hd : List ExceptHandler) (hs : List Str) (Gh : XC → GS) : Prop := ∀ (c : XC) (C ea : Addr) (pins : List (Addr × Obj)) (s : Shared) (σ : St) (H B B0 H0 : Hp) (ρ : PEnv) (D : Ends), c.cls ∈ hs → X.mg c.cls = some (.ref C) → Inv X pins σ H s →
  XHeld X.s₀.heap ((X.pn ++ pins).map (·.1)) (X.env.locals :: (X.pn ++ pins).map (·.1)) H s.heap ea (.ref C) .none c.fo → Ext B0 H0 B H → RE X.K H0 B H σ ρ → OutS X D B0 H0 (Gh c ρ) → wpAny (model X.prog X.w) X.A (handleBy (.ref ea) X.env hd) (SP X pins D) X.xe s
theorem pps_try {st : Stmt} {hd0 : ExceptHandler} {hd : List ExceptHandler} {hs : List Str} {Gh : XC → GS} {g : PEnv → Res PV} {f : St → V → St} {u : PEnv → PV → PEnv} (hst : X.stack = X.env :: X.outer) (hf : X.env.frame = some X.env.locals)
    (hfu : ∀ Z B H σ ρ v p, RE X.K Z B H σ ρ → Rp X.K B v p → RE X.K Z B H (f σ v) (u ρ p)) (hb : ∀ pn E1, PS (X.with2 pn E1) st (fun D σ H => tE (X.with2 pn E1) g σ H fun v H1 => D.nx (f σ v) H1)) (hh : HandlerOk X (hd0 :: hd) hs Gh) :
    PPS X (.Try [st] (hd0 :: hd) [] [] pos) (sTry u g hs Gh) := by
  intro pins s σ H D I ⟨B0, H0, B, ρ, e, re, o⟩
  have ok := I.ok
  unfold sTry at o
  refine wpAny_Try_except ?_
  split at o
  · rename_i p hg
    refine wpAny_mono (pss_one (hb (X.pn ++ pins) (fun _ _ => False)) [] s σ H { nx := fun σ' H' => ∃ B', Ext B0 H0 B' H' ∧ RE X.K H0 B' H' σ' (u ρ p), rt := fun _ _ => False } (I.to2 _) ⟨H0, B, ρ, e.bh, re, ?_⟩) (fun fl s1 q => ?_) fun _ _ z => z.elim
    · rw [hg]
      exact fun v H' B' x r => ⟨B', e.trans x, hfu _ _ _ _ _ _ _ (re.ext x) r⟩
    · cases fl with
      | next =>
        obtain ⟨σ', H', I', B', x, r⟩ := q
        exact wpAny_execs_nil ⟨σ', H', I'.of2 ok, o σ' H' B' x r⟩
      | brk => obtain ⟨_, _, _, z⟩ := q; exact z.elim
      | cont => obtain ⟨_, _, _, z⟩ := q; exact z.elim
      | ret v => obtain ⟨_, _, _, _, _, z⟩ := q; exact z.elim
  · rename_i c hg
    split at o
    case isFalse => exact (show False from o).elim
    rename_i hc
    refine wpAny_mono (pss_one (hb (X.pn ++ pins) (fun x s' => ∃ H' B', Inv X pins σ H' s' ∧ Ext B H B' H' ∧ ExcIs X pins H' c x s')) [] s σ H { nx := fun _ _ => False, rt := fun _ _ => False } (I.to2 _) ⟨H0, B, ρ, e.bh, re, ?_⟩) (fun fl s1 q => ?_) fun x s1 q => ?_
    · rw [hg]
      intro pins' x s' H' B' I' ex xi
      refine ⟨H', B', I'.of2 ok, ex, ?_⟩
      obtain ⟨ea, C, rfl, hm, fr, nw, np, fd, oe, vs, a0, he, hcl, hd', h0, h1⟩ := xi
      have sub : ∀ b : Addr, b ∉ ((X.pn ++ pins) ++ pins').map (·.1) → b ∉ (X.pn ++ pins).map (·.1) := fun b hb z => hb (by rw [List.map_append]; exact List.mem_append_left _ z)
      have fd' : Fld X.s₀.heap (X.env.locals :: (X.pn ++ pins).map (·.1)) H' s'.heap ea c.fo := fd.less fun d hd hz => (List.mem_cons.mp hz).elim (fun q => hd (by rw [q]; exact List.mem_cons_self)) (fun q => sub d (fun w => hd (List.mem_cons_of_mem _ w)) q)
      refine ⟨ea, C, rfl, hm, fr, nw, sub ea np, fd', oe, vs, a0, he, hcl, hd', h0, ?_⟩
      rcases h1 with h1 | ⟨T, oT, ts, g1, g2, g3, g4⟩ | ⟨T, oT, ts, g1, g2, g3, g4⟩
      · exact .inl h1
      · exact .inr (.inl ⟨T, oT, ts, g1, g2, sub T g3, g4⟩)
      · exact .inr (.inr ⟨T, oT, ts, g1, g2, sub T g3, g4⟩)
    · cases fl with
      | next => obtain ⟨_, _, _, z⟩ := q; exact z.elim
      | brk => obtain ⟨_, _, _, z⟩ := q; exact z.elim
      | cont => obtain ⟨_, _, _, z⟩ := q; exact z.elim
      | ret v => obtain ⟨_, _, _, _, _, z⟩ := q; exact z.elim
    · obtain ⟨H', B', I', ex, ea, C, rfl, hm, xa⟩ := q
      refine note_ok I' hst hf xa fun h1 I1 x1 => ?_
      refine flight_ok (f := none) (s := { s1 with heap := h1 }) I1 x1 fun h2 I2 x2 _ => ?_
      exact hh c C ea pins { s1 with heap := h2 } σ H' B' B0 H0 ρ D hc hm I2 x2 (e.trans ex) (re.ext ex) o
  · exact (show False from o).elim
def noxS (r : RS) : RS := match r with
  | .exc _ => .bad
  | r => r
theorem SP.unmarked {pins : List (Addr × Obj)} {D : Ends} {f : Flow} {s : Shared} {ea : Addr} {E : Value → Shared → Prop} (h : SP ((X.mk_ ea).wish E) pins D f s) (ok : X.Ok) : SP X pins D f s := by
  cases f with
  | next => obtain ⟨σ, H, I, q⟩ := h; exact ⟨σ, H, I.unwish.unmarked ok, q⟩
  | brk => obtain ⟨σ, H, I, q⟩ := h; exact ⟨σ, H, I.unwish.unmarked ok, q⟩
  | cont => obtain ⟨σ, H, I, q⟩ := h; exact ⟨σ, H, I.unwish.unmarked ok, q⟩
  | ret u => obtain ⟨v, σ, H, I, r, q⟩ := h; exact ⟨v, σ, H, I.unwish.unmarked ok, r, q⟩
def sAs (i : Nat) (Gs : GS) : XC → GS := fun c ρ => match Gs (ρ.set i (.exc c)) with
  | .nxt ρ' => .nxt (ρ'.set i .no)
  | .ret p => .ret p
  | .brk ρ' => .brk (ρ'.set i .no)
  | .cnt ρ' => .cnt (ρ'.set i .no)
  | _ => .bad
theorem handler_as {n y : Str} {i : Nat} {tbl : List Str} {b₀ : Stmt} {suite : List Stmt} {np hpos : Pos} {Gs : GS} (hN : X.N.Nodup) (hi : X.N[i]? = some y) (hy : X.env.scope.names.lookup y = some .local) (hT : TakesK X.K X.mg n tbl) (hns : NamesK X.K X.mg tbl)
    (hsu : ∀ ea E2, PPSs ((X.mk_ ea).wish E2) (b₀ :: suite) Gs) (hg : Gl X n := by rfl) (hdb : (n == ("__debug__" : Str)) = false := by decide) :
    HandlerOk X [.ExceptHandler (some (.Name n np)) (some y) (b₀ :: suite) hpos] tbl (sAs i Gs) := by
  intro c C ea pins s σ H B B0 H0 ρ D hc hm I xh ex re o
  obtain ⟨Dc, hD, hx⟩ := hT
  obtain ⟨C', hn1, hn2⟩ := hns c.cls hc
  rw [hm] at hn2; cases hn2
  have ok := I.ok
  have I3 := (I.marked ea).wish (E := fun _ _ => False)
  obtain ⟨oe, vs, a0, he, hcl, hd, h0, tr⟩ := id xh.ob
  refine wpAny_handleBy_cons (codeAny_handlers_test (ld_glob (X := (X.mk_ ea).wish fun _ _ => False) I3 hg hD ?_ hdb)) (by intro q; cases q)
  have LK := PySem.W.exm_one (M := model X.prog X.w) I.kIn (excφ_ty (C := C) _ _ ⟨oe, vs, he, hcl, hd, rfl⟩) (hx c.cls hc C hm)
  refine LK.here ?_
  refine codeAny_handlers_suite_as ?_
  refine flight_ok (f := none) I xh fun h2 I2 x2 _ => ?_
  obtain ⟨oe2, vs2, a2, he2, hcl2, hd2, _⟩ := id x2.ob
  obtain ⟨H4, I4, x4, heq, hfl⟩ : ∃ H4, Inv X pins σ H4 { s with heap := h2 } ∧ Ext B0 H0 B H4 ∧ H4 ea = some (.ext (excφ ea C oe2.dict)) ∧ FldH H4 oe2.dict c.fo ∧ RE X.K H0 B H4 σ ρ := by
    have I4 := I2.track x2.fr x2.nw x2.np he2 hcl2 hd2
    have x4 : Ext B0 H0 B (upd H ea (.ext (excφ ea C oe2.dict))) := ex.trans (.newO ex.bh x2.fr)
    have re4 : RE X.K H0 B (upd H ea (.ext (excφ ea C oe2.dict))) σ ρ := re.ext (.newO ex.bh x2.fr)
    have fd := x2.fd
    revert fd
    cases c.fo with
    | none =>
      rintro ⟨oe3, q1, q2⟩
      rw [he2] at q1; cases q1
      exact ⟨_, I4, x4, upd_same, q2, re4⟩
    | some k =>
      rintro ⟨oe3, d, t, q1, q2, q3, q4, q5, q6⟩
      rw [he2] at q1; cases q1
      have hne : d ≠ ea := fun z => by
        obtain ⟨od, es, ep, g1, g2, _⟩ := q3
        rw [z, he2] at g1; cases g1
        rw [hd2] at g2; cases g2
      have fr4 : (upd H ea (.ext (excφ ea C oe2.dict))) d = none := by rw [upd_ne hne]; exact q4
      have nl : d ≠ X.env.locals := fun z => q6 (by rw [z]; exact List.mem_cons_self)
      have I5 := I4.trackD fr4 q5 (fun z => q6 (List.mem_cons_of_mem _ z)) nl ⟨t, q3⟩
      exact ⟨_, I5, x4.trans (.newO x4.bh fr4), by rw [upd_ne (Ne.symm hne)]; exact upd_same, ⟨d, q2, upd_same⟩, re4.ext (.newO x4.bh fr4)⟩
  obtain ⟨hfl, re4⟩ := hfl
  have re5 := re4.setExc i (ex.h.free x2.fr) (ex.bh.free x2.fr) hn1 heq hfl
  refine store_ok I4 hN hi (.inl hy) (v := .ref ea) rfl (fun s5 I5 => ?_) (.inr hy)
  have goes : ∀ {σ' : St} {H' : Hp} {s' : Shared} {Q : Unit → Shared → Prop} {E : Value → Shared → Prop} {A : Around}, Inv X pins σ' H' s' → (∀ s'', Inv X pins (σ'.set i none) H' s'' → Q () s'') → wpAny (model X.prog X.w) A (do bindName X.env y .none; unbindBehindTheSuite X.env y hpos) Q E s' := fun J hq => name_goes J hN hi hy hq
  have ou : OutS ((X.mk_ ea).wish fun _ _ => False) { nx := fun σ' H' => D.nx (σ'.set i none) H', rt := D.rt, bk := fun σ' H' => D.bk (σ'.set i none) H', ct := fun σ' H' => D.ct (σ'.set i none) H' } B0 H0 (Gs (ρ.set i (.exc c))) := by
    unfold sAs at o
    cases q : Gs (ρ.set i (.exc c)) with
    | exc c => rw [q] at o; exact (show False from o).elim
    | bad => rw [q] at o; exact o
    | ret p => rw [q] at o; exact o
    | nxt ρ' => rw [q] at o; exact fun σ' H' B' e' r' => o _ H' B' e' (r'.drop i)
    | brk ρ' => rw [q] at o; exact fun σ' H' B' e' r' => o _ H' B' e' (r'.drop i)
    | cnt ρ' => rw [q] at o; exact fun σ' H' B' e' r' => o _ H' B' e' (r'.drop i)
  refine wpAny_mono (hsu ea (fun _ _ => False) pins s5 _ _ _ ((I5.marked ea).wish _) ⟨B0, H0, B, _, x4, re5, ou⟩) (fun f s' q => ?_) fun _ _ z => z.elim
  have q' := q.unmarked ok
  cases f with
  | next => obtain ⟨σ', H', J, z⟩ := q'; exact goes J fun s'' J' => ⟨_, H', J', z⟩
  | brk => obtain ⟨σ', H', J, z⟩ := q'; exact goes J fun s'' J' => ⟨_, H', J', z⟩
  | cont => obtain ⟨σ', H', J, z⟩ := q'; exact goes J fun s'' J' => ⟨_, H', J', z⟩
  | ret v => obtain ⟨w, σ', H', J, r, z⟩ := q'; exact goes J fun s'' J' => ⟨w, _, H', J', r, z⟩
theorem pps_tryE {e : Expr} {spos : Pos} {hd0 : ExceptHandler} {hd : List ExceptHandler} {hs : List Str} {Gh : XC → GS} {g : PEnv → Res PV} (hst : X.stack = X.env :: X.outer) (hf : X.env.frame = some X.env.locals)
    (hb : ∀ pn E1, PP (X.with2 pn E1) e g) (hh : HandlerOk X (hd0 :: hd) hs Gh) (hsw : swapsWith e none spos.line X.env = pure false := by rfl) : PPS X (.Try [.Expr e spos] (hd0 :: hd) [] [] pos) (sTry (fun ρ _ => ρ) g hs Gh) :=
  pps_try (f := fun σ _ => σ) hst hf (fun _ _ _ _ _ _ _ re _ => re) (fun pn E1 => ps_expr (X := X.with2 pn E1) (hb pn E1) hsw) hh
end
theorem walk_ofM {l : PySem.W.OpenLaw} {n k : Nat} {q : Program} {loose : List Str} {XP : (Str → Option Value) → Heap → Prop} {YP : World → Heap → Prop} {d : DefRec} {K : Params → PySem.W.Frag} {M : List PV → Res PV} {x : Str}
    (hn : l.most = some n) (hn2 : n ≤ sizeLine) (hdf : d.params.defaults = []) (hr : Room k callerA)
    (hY : ∀ (w : World) (h : Heap), YP w h → (K w.params).In h)
    (F : ∀ (w : World) (mg : Str → Option Value) (fa : Addr) (h : Heap), (K w.params).In h → h.Ns mainGlobals mg → mg d.name = some (.ref fa) →
      ∃ fd : FuncData, (∀ (s : Shared) (u : Value), BindsTo s fd ⟨[u], []⟩ [(x, u)]) ∧
        ∀ base : Heap, (K w.params).In base → base.Ns mainGlobals mg → FnOk l.prog w (K w.params) mg base (CX1 l.prog w) k fa fd [x] (spX (K w.params) mg M))
    (hM : ∀ ns : List Int, ns.length ≤ n → M [.lst (ns.map .int)] = .ok (.bl true)) :
    PySem.W.WalkO q loose XP YP l.row.toRowW d [] (fun f vs => PySem.call f vs) := by
  refine Att.attach_call hn hdf fun w s₀ s₁ mg mb fa o pm cd doc a vs ns G Y ho hd hcd hmg hobj hints hlen hg => ?_
  have KX := hY w _ Y
  obtain ⟨fd, hb, hF⟩ := F w mg fa _ KX G.T.g hmg
  exact law_call KX G.T.g G.T.b G.T.builtins G.T.nolimit hg hobj hints (Nat.le_trans hlen hn2) hr hF hb (fun H hO hS => law_spX hS (hM ns hlen)) fun H e s' hx => by obtain ⟨_, _, _, _, _, _, _, _, _, _, E⟩ := hx; exact E
end L2
namespace L2
open PySem PySem.Spec PyProof.Rows
section
variable {X : Cx} {pos : Pos} {a b : Expr} {ga gb : PEnv → Res PV}
def negP : PV → Res PV := fun p => match p with
  | .int i => .ok (.int (-i))
  | _ => .bad
def negV (g : PEnv → Res PV) : PEnv → Res PV := fun ρ => (g ρ).bind negP
theorem pp_neg (ha : PP X a ga) : PP X (.UnaryOp .USub a pos) (negV ga) := by
  refine PE_mono (pe_un un_neg ha) fun σ H Q ⟨Z, B, ρ, s, re, o⟩ => ⟨Z, B, ρ, s, re, o.bind fun p v B1 H1 _ e1 r1 o1 => ?_⟩
  cases r1 <;> first | exact (show False from o1).elim | skip
  exact ⟨_, rfl, Out.now (Rel := Rp) o1 e1.bh (.int _)⟩
def fLst (g : PEnv → Res (List PV)) : PEnv → Res (List PV) := fun ρ => (g ρ).bind fun ps => if ps.length ≤ sizeLine then .ok ps else .bad
theorem ppf_lst {es : List Expr} {g : PEnv → Res (List PV)} (h : PPA X es g) : PE X (.List es pos) (tF X (fLst g)) :=
  PE_mono (pe_lst h) fun σ H Q ⟨Z, B, ρ, s, re, o⟩ => ⟨Z, B, ρ, s, re, o.bind fun p v B1 H1 _ e1 r1 o1 => by
    split at o1
    · rename_i hz; exact ⟨by rw [r1.len]; exact hz, o1.now (Rel := Rps) e1.bh r1⟩
    · exact (show False from o1).elim⟩
def fList (g : PEnv → Res (List PV)) : PEnv → Res (List PV) := fun ρ => (g ρ).bind fun ps => match ps with
  | [.tup xs] => .ok xs
  | [.lst xs] => .ok xs
  | _ => .bad
def sAppendO (i : Nat) (g : PEnv → Res (List PV)) : GS := fun ρ => match ρ[i]? with
  | some (.own ps) => ofR (g ρ) fun as => match as with
    | [p] => if ps.length < sizeLine then .nxt (ρ.set i (.own (ps ++ [p]))) else .bad
    | _ => .bad
  | _ => .bad
theorem pps_appendO {i : Nat} {x : Str} {e : Expr} {g : PEnv → Res (List PV)} {p1 apos cpos : Pos} (ha : PPA X [e] g) (hN : X.N[i]? = some x := by rfl) (hv : Vis X.env.scope x := by first | exact Or.inl rfl | exact Or.inr (Or.inl rfl) | exact Or.inr (Or.inr rfl)) (hd : (x == ("__debug__" : Str)) = false := by decide)
    (hcd : (x == ("__classdict__" : Str)) = false := by decide) (hbase : attributeBase (.Name x p1) "append" X.env (eval (.Name x p1) X.env) = eval (.Name x p1) X.env := by rfl)
    (hfew : ((backTo cpos (starEach [e] X.env)).all (fun x => !x.1) && (backToKw cpos (keywordEach [] X.env)).all (fun x => x.1.isSome)
      && decide (([e] : List Expr).length + ([] : List Keyword).length + (if ([] : List Keyword).isEmpty then 0 else 1) < 30)) = true := by rfl)
    (hline : (apos.endLine == cpos.line) = true := by rfl) (hs : starEach [e] X.env = (false, eval e X.env) :: starEach [] X.env := by rfl) (hplain : (backTo cpos (starEach [] X.env)).any (·.1) = false := by rfl)
    (hsw : swapsWith (.Call (.Attribute (.Name x p1) "append" apos) [e] [] cpos) none pos.line X.env = pure false := by rfl) : PPS X (.Expr (.Call (.Attribute (.Name x p1) "append" apos) [e] [] cpos) pos) (sAppendO i g) := by
  refine PS_mono (ps_expr (pe_bm PySem.F.plainAttrs_list PySem.F.slot_list_append PySem.F.type_list_append mt_append (pe_var hN hv hd hcd) ha hbase hfew hline hs hplain) hsw) fun D σ H ⟨B0, H0, B, ρ, ex, re, o⟩ => ?_
  unfold sAppendO at o
  split at o
  case h_2 => exact (show False from o).elim
  rename_i ps hi
  obtain ⟨ad, xs, h1, h2, h3, h4, h5⟩ := re.own i ps hi
  refine ⟨.ref ad, h1, .inl ⟨rfl, xs, .of h4⟩, H0, B, ρ, ex.bh, re, o.of ex fun as vs B1 H1 _ x1 e1 r1 o1 => ?_⟩
  split at o1
  case h_2 => exact (show False from o1).elim
  rename_i p _
  split at o1
  case isFalse => exact (show False from o1).elim
  rename_i hz
  obtain ⟨v, rfl, r2⟩ := r1.one'
  have re1 := re.ext x1
  refine ⟨ad, xs, v, rfl, rfl, x1.h _ _ h4, by rw [h5.len]; exact hz, ?_⟩
  exact o1 _ _ B1 (e1.chg h2 (x1.nw _ _ h4 h3)) (re1.chg hi h1 ((h5.same x1.b).app (.one r2)))
end
end L2
namespace PySem
end PySem
namespace L2
open PySem PySem.Spec PyProof.Rows
section
variable {X : Cx} {pos : Pos} {a b : Expr} {ga gb : PEnv → Res PV}
def rRepT (K : PySem.W.Frag) : R2 := fun x y H Q => ∃ a k xs, x = .ref a ∧ y = .int k ∧ SqT K H a xs ∧ 0 < xs.length ∧ 1 ≤ k ∧ k ≤ 1000 ∧ xs.length * k.toNat ≤ 1000 ∧
  (k = 1 → Q (.ref a) H) ∧ (1 < k → ∀ p, H p = none → Q (.ref p) (upd H p (.tup (List.replicate k.toNat xs).flatten)))
def mulQ : PV → PV → Res PV := fun p q => match p, q with
  | .tup xs, .int k => if 0 < xs.length ∧ 1 ≤ k ∧ k ≤ 1000 ∧ xs.length * k.toNat ≤ 1000 then .ok (.tup (List.replicate k.toNat xs).flatten) else .bad
  | _, _ => .bad
def rExtend' (K : PySem.W.Frag) : V → List V → Hp → VK → Prop := fun x vs H Q => ∃ l b xs zs, x = .ref l ∧ vs = [.ref b] ∧ H l = some (.lst xs) ∧ SqL K H b zs ∧ xs.length + zs.length ≤ sizeLine ∧ Q .non (upd H l (.lst (xs ++ zs)))
def sExtendO (i : Nat) (g : PEnv → Res (List PV)) : GS := fun ρ => match ρ[i]? with
  | some (.own ps) => ofR (g ρ) fun as => match as with
    | [.lst qs] => if ps.length + qs.length ≤ sizeLine then .nxt (ρ.set i (.own (ps ++ qs))) else .bad
    | _ => .bad
  | _ => .bad
def eqFs (f : PV → PV → Option Bool) : List PV → List PV → Option Bool
  | [], [] => some true
  | [], _ :: _ => some false
  | _ :: _, [] => some false
  | x :: xs, y :: ys => (f x y).bind fun b => (eqFs f xs ys).map fun c => b && c
def eqF : Nat → PV → PV → Option Bool
  | 0 => eqS
  | n + 1 => fun p q => match p, q with
    | .tup xs, .tup ys => eqFs (eqF n) xs ys
    | .lst xs, .lst ys => eqFs (eqF n) xs ys
    | p, q => eqS p q
theorem eqFs_spec {f : PV → PV → Option Bool} : ∀ {xs ys : List PV} {k : Bool}, eqFs f xs ys = some k → ∃ e : Nat → Bool, (∀ (j : Nat) x y, xs[j]? = some x → ys[j]? = some y → f x y = some (e j)) ∧ k = ((List.range (min xs.length ys.length)).all e && xs.length == ys.length)
  | [], [], k, h => by cases h; exact ⟨fun _ => true, fun j x y e => by simp at e, rfl⟩
  | [], y :: ys, k, h => by cases h; exact ⟨fun _ => true, fun j x y e => by simp at e, by simp⟩
  | x :: xs, [], k, h => by cases h; exact ⟨fun _ => true, fun j x y _ e => by simp at e, by simp⟩
  | x :: xs, y :: ys, k, h => by
    unfold eqFs at h
    obtain ⟨b, h1, h2⟩ := Option.bind_eq_some_iff.mp h
    obtain ⟨c, h3, rfl⟩ := Option.map_eq_some_iff.mp h2
    obtain ⟨e, he, rfl⟩ := eqFs_spec h3
    refine ⟨fun j => match j with | 0 => b | j + 1 => e j, fun j x' y' e1 e2 => ?_, ?_⟩
    · cases j with
      | zero => simp at e1 e2; subst e1 e2; exact h1
      | succ j => simp at e1 e2; exact he j _ _ e1 e2
    · rw [List.length_cons, List.length_cons, Nat.succ_min_succ, List.range_succ_eq_map, List.all_cons, List.all_map]
      have : (xs.length + 1 == ys.length + 1) = (xs.length == ys.length) := by rw [Bool.eq_iff_iff]; simp
      rw [this, Bool.and_assoc]
      rfl
theorem eqFs_self {f : PV → PV → Option Bool} (hf : ∀ p k, f p p = some k → k = true) : ∀ {xs : List PV} {k : Bool}, eqFs f xs xs = some k → k = true
  | [], k, h => by cases h; rfl
  | x :: xs, k, h => by
    unfold eqFs at h
    obtain ⟨b, h1, h2⟩ := Option.bind_eq_some_iff.mp h
    obtain ⟨c, h3, rfl⟩ := Option.map_eq_some_iff.mp h2
    rw [hf _ _ h1, eqFs_self hf h3]; rfl
theorem eqS_self {p : PV} {k : Bool} (h : eqS p p = some k) : k = true := by
  cases p <;> first | (cases h; simp) | (exact absurd h (fun z => nomatch z))
theorem eqF_self : ∀ (n : Nat) {p : PV} {k : Bool}, eqF n p p = some k → k = true
  | 0, p, k, h => eqS_self h
  | n + 1, p, k, h => by
    cases p with
    | tup xs => exact eqFs_self (fun p k h => eqF_self n h) (show eqFs (eqF n) xs xs = some k from h)
    | lst xs => exact eqFs_self (fun p k h => eqF_self n h) (show eqFs (eqF n) xs xs = some k from h)
    | non => exact eqS_self (p := .non) h
    | bl b => exact eqS_self (p := .bl b) h
    | int b => exact eqS_self (p := .int b) h
    | str b => exact eqS_self (p := .str b) h
    | dic => exact eqS_self (p := .dic) h
section
variable {pins : List (Addr × Obj)} {σ : St} {H : Hp} {s : Shared}
theorem Inv.tupInj (I : Inv X pins σ H s) {a : Addr} {xs ys : List V} (h1 : SqT X.K H a xs) (h2 : SqT X.K H a ys) : xs = ys := by
  obtain ⟨i1, r1, ⟨o1, e1, c1, n1, d1⟩, _⟩ := I.tuple h1
  obtain ⟨i2, r2, ⟨o2, e2, c2, n2, d2⟩, _⟩ := I.tuple h2
  rw [e1] at e2; cases e2
  rw [d1] at d2
  have : i1 = i2 := by injection d2 with h _; simpa using h
  subst this
  exact r1.inj r2
theorem Inv.lstInj (I : Inv X pins σ H s) {a : Addr} {xs ys : List V} (h1 : SqL X.K H a xs) (h2 : SqL X.K H a ys) : xs = ys := by
  obtain ⟨i1, r1, ⟨o1, n1, e1, c1, _, d1⟩, _⟩ := I.list h1
  obtain ⟨i2, r2, ⟨o2, n2, e2, c2, _, d2⟩, _⟩ := I.list h2
  rw [e1] at e2; cases e2
  rw [d1] at d2
  have : i1 = i2 := by injection d2 with h _; simpa using h
  subst this
  exact r1.inj r2
theorem Inv.notBoth (I : Inv X pins σ H s) {a : Addr} {xs ys : List V} (h1 : SqT X.K H a xs) (h2 : SqL X.K H a ys) : False := by
  obtain ⟨i1, r1, ⟨o1, e1, c1, n1, d1⟩, _⟩ := I.tuple h1
  obtain ⟨i2, r2, ⟨o2, n2, e2, c2, _, d2⟩, _⟩ := I.list h2
  rw [e1] at e2; cases e2
  rw [c1] at c2
  exact absurd c2 (by decide)
theorem Inv.notLD (I : Inv X pins σ H s) {a : Addr} {xs : List V} {kvs : List (Key × V)} (h1 : SqL X.K H a xs) (h2 : H a = some (.dK kvs)) : False := by
  obtain ⟨i1, r1, ⟨o1, n1, e1, c1, _, d1⟩, _⟩ := I.list h1
  obtain ⟨_, _, _, _, o, _, _, e2, ex, _⟩ := I.hok a _ h2
  rw [e1] at e2; cases e2
  rw [ex.1] at c1
  exact absurd c1 (by decide)
theorem Inv.notTD (I : Inv X pins σ H s) {a : Addr} {xs : List V} {kvs : List (Key × V)} (h1 : SqT X.K H a xs) (h2 : H a = some (.dK kvs)) : False := by
  obtain ⟨i1, r1, ⟨o1, e1, c1, n1, d1⟩, _⟩ := I.tuple h1
  obtain ⟨_, _, _, _, o, _, _, e2, ex, _⟩ := I.hok a _ h2
  rw [e1] at e2; cases e2
  rw [ex.1] at c1
  exact absurd c1 (by decide)
theorem Rp.inj (I : Inv X pins σ H s) {x : V} {p : PV} (h : Rp X.K H x p) : ∀ {q : PV}, Rp X.K H x q → p = q := by
  induction h with
  | non => intro q h; cases h; rfl
  | bl b => intro q h; cases h; rfl
  | int i => intro q h; cases h; rfl
  | str x => intro q h; cases h; rfl
  | tup h hl _ ih =>
    intro q hq
    cases hq with
    | tup h2 hl2 he2 =>
      have := I.tupInj h h2
      subst this
      congr 1
      refine List.ext_getElem? fun i => ?_
      rename_i ps _ qs
      by_cases hi : i < ps.length
      · have hi' : i < qs.length := by omega
        rw [List.getElem?_eq_getElem hi, List.getElem?_eq_getElem hi']
        rename_i xs _
        have hx : i < xs.length := by omega
        exact congrArg some (ih i _ _ (List.getElem?_eq_getElem hx) (List.getElem?_eq_getElem hi) (he2 i _ _ (List.getElem?_eq_getElem hx) (List.getElem?_eq_getElem hi')))
      · rw [List.getElem?_eq_none (by omega), List.getElem?_eq_none (by omega)]
    | lst h2 hl2 he2 => exact (I.notBoth h h2).elim
    | dic h2 => exact (I.notTD h h2).elim
  | lst h hl _ ih =>
    intro q hq
    cases hq with
    | lst h2 hl2 he2 =>
      have := I.lstInj h h2
      subst this
      congr 1
      refine List.ext_getElem? fun i => ?_
      rename_i ps _ qs
      by_cases hi : i < ps.length
      · have hi' : i < qs.length := by omega
        rw [List.getElem?_eq_getElem hi, List.getElem?_eq_getElem hi']
        rename_i xs _
        have hx : i < xs.length := by omega
        exact congrArg some (ih i _ _ (List.getElem?_eq_getElem hx) (List.getElem?_eq_getElem hi) (he2 i _ _ (List.getElem?_eq_getElem hx) (List.getElem?_eq_getElem hi')))
      · rw [List.getElem?_eq_none (by omega), List.getElem?_eq_none (by omega)]
    | tup h2 hl2 he2 => exact (I.notBoth h2 h).elim
    | dic h2 => exact (I.notLD h h2).elim
  | dic h =>
    intro q hq
    cases hq with
    | tup h2 hl2 he2 => exact (I.notTD h2 h).elim
    | lst h2 hl2 he2 => exact (I.notLD h2 h).elim
    | dic h2 => rfl
theorem eqS_at {A : Around} {x y : V} {p q : PV} {u v : Value} {k : Bool} (r1 : Rp X.K H x p) (r2 : Rp X.K H y q) (e : eqS p q = some k) (rx : RelV x u) (ry : RelV y v) : SeqAt.EqAt A s u v k := by
  have key : flatV x = true ∧ flatV y = true ∧ eqV x y = k := by
    cases r1 <;> cases r2 <;> first | (cases e; exact ⟨rfl, rfl, rfl⟩) | (cases e; refine ⟨rfl, rfl, ?_⟩; show (_ == _) = decide _; rw [Bool.eq_iff_iff]; simp) | (exact absurd e (fun z => nomatch z))
  obtain ⟨f1, f2, rfl⟩ := key
  exact eqAt_V rx ry f1 f2
theorem items_at {xs ys : List V} {ps qs : List PV} {its its2 : List Value} {f : PV → PV → Option Bool} {e : Nat → Bool} {A : Around} (r1 : Vals xs its) (r2 : Vals ys its2) (R1 : Rps X.K H xs ps) (R2' : Rps X.K H ys qs)
    (he : ∀ (j : Nat) x y, ps[j]? = some x → qs[j]? = some y → f x y = some (e j))
    (ih : ∀ {x y : V} {p q : PV} {u v : Value} {k : Bool}, Rp X.K H x p → Rp X.K H y q → f p q = some k → RelV x u → RelV y v → SeqAt.EqAt A s u v k) :
    ∀ j (h1 : j < its.toArray.size) (h2 : j < its2.toArray.size), SeqAt.EqAt A s its.toArray[j] its2.toArray[j] (e j) := fun j h1 h2 => by
  have l1 := r1.length
  have l2 := r2.length
  have m1 := R1.len
  have m2 := R2'.len
  have j1 : j < xs.length := by rw [l1]; simpa using h1
  have j2 : j < ys.length := by rw [l2]; simpa using h2
  obtain ⟨a, ea, ra⟩ := r1.get (List.getElem?_eq_getElem j1)
  obtain ⟨b, eb, rb⟩ := r2.get (List.getElem?_eq_getElem j2)
  obtain ⟨p, ep, rp⟩ := R1.at' (List.getElem?_eq_getElem j1)
  obtain ⟨q, eq, rq⟩ := R2'.at' (List.getElem?_eq_getElem j2)
  have ea' : its.toArray[j] = a := by
    have : its[j]? = some its[j] := List.getElem?_eq_getElem (by simpa using h1)
    rw [ea] at this
    simpa using (Option.some.inj this).symm
  have eb' : its2.toArray[j] = b := by
    have : its2[j]? = some its2[j] := List.getElem?_eq_getElem (by simpa using h2)
    rw [eb] at this
    simpa using (Option.some.inj this).symm
  rw [ea', eb']
  exact ih rp rq (he j _ _ ep eq) ra rb
theorem eqF_rc (I : Inv X pins σ H s) : ∀ (n : Nat) {A : Around} {x y : V} {p q : PV} {u v : Value} {k : Bool}, A.units + n < cLine → Rp X.K H x p → Rp X.K H y q → eqF n p q = some k → RelV x u → RelV y v →
    SeqAt.EqAt A s u v k ∧ ((∃ a b, u = .ref a ∧ v = .ref b) → SeqAt.RcAt A s u v k)
  | 0, A, x, y, p, q, u, v, k, hu, r1, r2, e, rx, ry => ⟨eqS_at r1 r2 e rx ry, fun ⟨a, b, ea, eb⟩ => by
      subst ea eb
      cases r1 <;> cases r2 <;> first | (cases rx; done) | (obtain ⟨t, ht⟩ := rx; cases ht; done) | (cases ry; done) | (obtain ⟨t, ht⟩ := ry; cases ht; done) | (cases e; done)⟩
  | n + 1, A, x, y, p, q, u, v, k, hu, r1, r2, e, rx, ry => by
    have flat : eqS p q = some k → SeqAt.EqAt A s u v k ∧ ((∃ a b, u = .ref a ∧ v = .ref b) → SeqAt.RcAt A s u v k) := fun e => ⟨eqS_at r1 r2 e rx ry, fun ⟨a, b, ea, eb⟩ => by
      subst ea eb
      cases r1 <;> cases r2 <;> first | (cases rx; done) | (obtain ⟨t, ht⟩ := rx; cases ht; done) | (cases ry; done) | (obtain ⟨t, ht⟩ := ry; cases ht; done) | (cases e; done)⟩
    unfold eqF at e
    split at e
    · rename_i ps qs
      obtain ⟨a1, xs, rfl, h1, R1⟩ := r1.isTup
      obtain ⟨a2, ys, rfl, h2, R2'⟩ := r2.isTup
      cases rx; cases ry
      obtain ⟨f, hf, rfl⟩ := eqFs_spec e
      obtain ⟨its, v1, p1, _⟩ := I.tuple h1
      obtain ⟨its2, v2, p2, _⟩ := I.tuple h2
      have key := SeqAt.RcAt.tuples (A := A) (s := s) (l := a1) (b := a2) (items := its.toArray) (items2 := its2.toArray) (e := f) p1 p2 (by omega)
        (items_at v1 v2 R1 R2' hf fun a b c d g => (eqF_rc I n (by show A.units + 1 + n < cLine; omega) a b c d g).1)
      rw [List.size_toArray, List.size_toArray, ← v1.length, ← v2.length, R1.len, R2'.len] at key
      refine ⟨?_, fun _ => key⟩
      by_cases hne : a1 = a2
      · subst hne
        have e2 := Rp.inj I r1 r2
        cases e2
        have : ((List.range (min ps.length ps.length)).all f && ps.length == ps.length) = true := eqF_self (n + 1) (p := .tup ps) e
        rw [this]
        exact SeqAt.EqAt.same _
      · exact SeqAt.EqAt.of_refs hne key
    · rename_i ps qs
      obtain ⟨a1, xs, rfl, h1, R1⟩ := r1.isLst
      obtain ⟨a2, ys, rfl, h2, R2'⟩ := r2.isLst
      cases rx; cases ry
      obtain ⟨f, hf, rfl⟩ := eqFs_spec e
      obtain ⟨its, v1, p1, _⟩ := I.list h1
      obtain ⟨its2, v2, p2, _⟩ := I.list h2
      have key : SeqAt.RcAt A s (.ref a1) (.ref a2) ((List.range (min ps.length qs.length)).all f && ps.length == qs.length) := by
        by_cases hl : ps.length = qs.length
        · have := SeqAt.RcAt.lists (A := A) (s := s) (l := a1) (b := a2) (items := its.toArray) (items2 := its2.toArray) (e := f) p1.isList p2.isList (by rw [List.size_toArray, List.size_toArray, ← v1.length, ← v2.length, R1.len, R2'.len]; exact hl) (by omega)
            (items_at v1 v2 R1 R2' hf fun a b c d g => (eqF_rc I n (by show A.units + 1 + n < cLine; omega) a b c d g).1)
          rw [List.size_toArray, ← v1.length, R1.len] at this
          rw [hl, Nat.min_self, beq_self_eq_true, Bool.and_true, ← hl]
          exact this
        · have := SeqAt.RcAt.lists_lengths (A := A) (s := s) p1.isList p2.isList (by rw [List.size_toArray, List.size_toArray, ← v1.length, ← v2.length, R1.len, R2'.len]; simpa using hl) (by omega)
          rw [beq_eq_false_iff_ne.mpr hl, Bool.and_false]
          exact this
      refine ⟨?_, fun _ => key⟩
      by_cases hne : a1 = a2
      · subst hne
        have e2 := Rp.inj I r1 r2
        cases e2
        have : ((List.range (min ps.length ps.length)).all f && ps.length == ps.length) = true := eqF_self (n + 1) (p := .lst ps) e
        rw [this]
        exact SeqAt.EqAt.same _
      · exact SeqAt.EqAt.of_refs hne key
    · exact flat e
end
def rEqP (K : PySem.W.Frag) : R2 := fun x y H Q => ∃ p q k, Rp K H x p ∧ Rp K H y q ∧ eqF 8 p q = some k ∧ Q (.bl k) H
theorem op_eqP (hu : X.A.units + 64 < cLine) : OpR X (compareOp .Eq) (rEqP X.K) := by
  intro pins s σ H x y v u Q I rx ry h
  obtain ⟨p, q, k, r1, r2, e, c⟩ := h
  cases hs : eqS p q with
  | some k' =>
    obtain ⟨h1, h2⟩ := eqS_ok r1 r2 hs
    have : k = k' := by
      cases p <;> cases q <;> first | (cases hs; done) | (exact Option.some.inj (e.symm.trans hs))
    subst this
    exact op_eq pins s σ H x y v u Q I rx ry ⟨h1, by rw [h2]; exact c⟩
  | none =>
    obtain ⟨a, b, ea, eb⟩ : ∃ a b, v = .ref a ∧ u = .ref b := by
      cases r1 <;> cases r2 <;> first | (cases rx; cases ry; exact ⟨_, _, rfl, rfl⟩) | (cases hs; done) | (cases e; done)
    exact (eqF_rc I 8 (by omega) r1 r2 e rx ry).2 ⟨a, b, ea, eb⟩ _ _ _ _ ⟨.bl k, H, I, rfl, c⟩
def eqQ : PV → PV → Res PV := fun p q => ofB (eqF 8 p q)
theorem opP_eqP : OpP X (rEqP X.K) eqQ := by
  intro σ B H Q x y p q s r1 r2 o
  obtain ⟨k, e, o'⟩ := out_ofB o
  exact ⟨p, q, k, r1.same s, r2.same s, e, Out.now (Rel := Rp) o' s (.bl _)⟩
theorem pp_eqQ (hu : X.A.units + 64 < cLine) (ha : PP X a ga) (hb : PP X b gb) : PP X (.Compare a [.Eq] [b] pos) (b2 eqQ ga gb) := pp_cmp (op_eqP hu) opP_eqP ha hb (nomark _)
end
end L2
namespace L2
open PySem PySem.Spec PyProof.Rows
section
variable {X : Cx}
def Ite (K : PySem.W.Frag) (a : Addr) : It :=
  ⟨fun i H => ∃ xs x, SqL K H a xs ∧ xs[i]? = some x,
   fun i H v H' => ∃ p, H p = none ∧ v = .ref p ∧ ∀ xs x, SqL K H a xs → xs[i]? = some x → H' = upd H p (.tup [.int i, x]),
   fun i H => ∃ xs, SqL K H a xs ∧ xs.length ≤ i⟩
def iEnum (K : PySem.W.Frag) (ta : TA) : TI := fun σ H R => ta σ H fun vs H1 => ∃ a : Addr, vs = [.ref a] ∧ (∃ xs, SqL K H1 a xs) ∧ R (Ite K a) H1
def enumL : Nat → List PV → List PV
  | _, [] => []
  | i, x :: xs => .tup [.int i, x] :: enumL (i + 1) xs
def enumP : List PV → Res (List PV) := fun ps => match ps with
  | [.lst xs] => .ok (enumL 0 xs)
  | _ => .bad
variable {a b : Expr} {ga gb : PEnv → Res PV} {pos : Pos}
def rNeP (K : PySem.W.Frag) : R2 := fun x y H Q => ∃ p q k, Rp K H x p ∧ Rp K H y q ∧ eqF 8 p q = some k ∧ Q (.bl (!k)) H
def neQ : PV → PV → Res PV := fun p q => ofB ((eqF 8 p q).map (!·))
theorem op_notB : OpR X (compareOp .IsNot) (fun x y H Q => ∃ i j, x = .bl i ∧ y = .bl j ∧ Q (.bl (!decide (i = j))) H) := by
  intro pins s σ H x y v u Q I rx ry h
  obtain ⟨i, j, rfl, rfl, q⟩ := h
  cases rx; cases ry
  cases i <;> cases j <;> exact wpAny_pure (fin_bl I q rfl)
def isBP : PV → PV → Res PV := fun p q => match p, q with
  | .bl i, .bl j => .ok (.bl (decide (i = j)))
  | _, _ => .bad
def notBP : PV → PV → Res PV := fun p q => match p, q with
  | .bl i, .bl j => .ok (.bl (!decide (i = j)))
  | _, _ => .bad
theorem opP_notB : OpP X (fun x y H Q => ∃ i j, x = .bl i ∧ y = .bl j ∧ Q (.bl (!decide (i = j))) H) notBP := by
  intro σ B H Q x y p q s r1 r2 o
  cases r1 <;> first | exact (show False from o).elim | skip
  cases r2 <;> first | exact (show False from o).elim | skip
  exact ⟨_, _, rfl, rfl, Out.now (Rel := Rp) o s (.bl _)⟩
theorem ppt_notB (ha : PP X a ga) (hb : PP X b gb) : PPT X (.Compare a [.IsNot] [b] pos) (bB (b2 notBP ga gb)) := ppt_cmp op_notB opP_notB ha hb (nomark _)
end
end L2
namespace PySem.W
section
variable {prog : Program} {w : World} {A : Around} {E : Value → Shared → Prop} {s : Shared} {K : Frag} {x C : Addr} {ox : Obj} {od : Option Obj} {name : Str} {expr : Bool} {Q : Value → Shared → Prop}
end
end PySem.W
namespace L2
open PySem PySem.Spec PyProof.Rows
def atX (x : Str) (as : List PV) : RS := match as with
  | [.int i] => if 0 ≤ i ∧ i ≤ 1000000 then .exc ⟨x, [("at", .int i)]⟩ else .bad
  | _ => .bad
def sRaiseI (x : Str) (g : PEnv → Res (List PV)) : GS := fun ρ => ofR (g ρ) (atX x)
def fldX (i : Nat) (tbl : List Str) : PEnv → Res PV := fun ρ => match ρ[i]? with
  | some (.exc c) => if c.cls ∈ tbl then match c.fo with
      | some k => .ok (.int k)
      | none => .bad
    else .bad
  | _ => .bad
def FldK (K : PySem.W.Frag) (tbl : List Str) : Prop := ∀ c ∈ tbl, ∀ C, PySem.W.nsIn K mainGlobals c = some (some (.ref C)) →
  PySem.W.findIn K (.ref C) "__getattribute__" = some (some (.builtin "BaseException.__getattribute__")) ∧ PySem.W.findIn K (.ref C) "__getattr__" = some none ∧ PySem.W.mroIn K C (.type "BaseException") = some true ∧ PySem.W.hasDictIn K C = true ∧ PySem.W.findIn K (.ref C) "at" = some none
section
variable {X : Cx} {pos : Pos}
end
end L2
namespace PySem
open Sem (wp)
section
variable {prog : Program} {w : World} {A : Around} {E : Value → Shared → Prop} {h : Heap} {g : Array GenState} {d : Drawn} {t : Nat} {os : OsState}
variable {nm q : Str} {C N : Addr} {bs bm bmB : List Value} {hdct : Bool} {sn : List Str} {sub : List Value} {ab : Bool} {col : Option Bool} {dd : Option Addr} {k0 k1 k2 k3 k5 : Option Value} {B newId initId : String}
end
section
variable {prog : Program} {w : World} {A : Around} {E : Value → Shared → Prop} {s : Shared} {env : Env}
variable {nm q : Str} {C N : Addr} {bs bm bmB : List Value} {hdct : Bool} {sn : List Str} {sub : List Value} {ab : Bool} {col : Option Bool} {dd : Option Addr} {k0 k1 k2 k3 k5 : Option Value} {B newId initId : String}
end
end PySem
namespace L2
open PySem PySem.Spec PyProof.Rows
section
variable {X : Cx} {pins : List (Addr × Obj)} {σ : St} {H : Hp} {s : Shared}
def del (H : Hp) (e : Addr) : Hp := fun b => if b = e then none else H b
end
end L2
namespace PySem.W
open Builtin Builtin.ObjectAttr
def overV : List Value → Bool
  | .ref _ :: r => overV r
  | .type n :: r => (.type n :: r : List Value) == L2.bmV
  | _ => false
def overE (K : Frag) (C : Addr) : Bool := (clsIn K C).any fun cd => overV cd.mro && cd.hasDict
section
variable {prog : Program} {w : World} {A : Around} {s : Shared} {K : Frag} {x C : Addr} {R : Result → Shared → Prop}
end
end PySem.W
namespace PySem
open Sem (wp)
section
variable {prog : Program} {w : World} {A : Around} {E : Value → Shared → Prop} {s : Shared}
variable {nm q : Str} {C N : Addr} {bs bm bmB : List Value} {hdct : Bool} {sn : List Str} {sub : List Value} {ab : Bool} {col : Option Bool} {dd : Option Addr} {k0 k1 k2 k3 k5 : Option Value} {B newId initId : String}
end
end PySem
namespace PySem.W
def excInI (K : Frag) (C fI : Addr) : Bool := match K.lookup C with
  | some ⟨c, _, .cls cd, sl⟩ => (match cd.mro, sl.toList with
    | .ref C' :: bm, [_, _, _, _, some (.builtin n), _] => c == .type "type" && C' == C && n == "ValueError.__new__" && !cd.hasDel && tailIn K L2.bmV bm && nsOkIn K cd.ns && nsIn K cd.ns "__init__" == some (some (.ref fI))
    | _, _ => false)
  | _ => false
end PySem.W
namespace L2
open PySem PySem.Spec PyProof.Rows
def newφ (e C : Addr) : Heap → Prop := fun h => ∃ t, h.get? e = some { cls := .ref C, data := .fields #[.ref t, .none, .none, .none, .bool false, .none] }
def doneφ (e C d : Addr) : Heap → Prop := fun h => ∃ t, h.get? e = some { cls := .ref C, dict := some d, data := .fields #[.ref t, .none, .none, .none, .bool false, .none] }
section
variable {X : Cx} {pos : Pos}
end
end L2
namespace L2
open PySem PySem.Spec PyProof.Rows
section
variable {X : Cx} {pos : Pos}
structure BaseK (K : PySem.W.Frag) (mg : Str → Option Value) (B : Str) : Prop where
  ex : ∃ CB, mg B = some (.ref CB) ∧ PySem.W.specialIn K (.ref CB) "__getattribute__" = some (some (.builtin "type.__getattribute__")) ∧ PySem.W.readsIn K CB (.type "type") = true ∧ PySem.W.findCls K (.ref CB) (.type "type") "__init__" = some (.val (.builtin "ValueError.__init__"))
structure SetK (K : PySem.W.Frag) (C : Addr) : Prop where
  over : PySem.W.overE K C = true
  noat : PySem.W.findIn K (.ref C) "at" = some none
  set : PySem.W.findIn K (.ref C) "__setattr__" = some (some (.builtin "object.__setattr__"))
end
end L2
namespace L2
open PySem PySem.Spec PyProof.Rows
def initSp (C : Addr) : Sp := fun vs H Q E => ∃ (e : Addr) (k : Nat), vs = [.ref e, .int k] ∧ k ≤ 1000000 ∧ H e = some (.ext (newφ e C)) ∧ ∀ d, H d = none → Q .non (upd (upd H e (.ext (doneφ e C d))) d (.ext (fldφ d k)))
def ExcClsI (P : Program) (w : World) (K : PySem.W.Frag) (mg : Str → Option Value) (base : Heap) (x : Str) (k : Nat) : Prop :=
  ∃ C fI fd ps, mg x = some (.ref C) ∧ PySem.W.excInI K C fI = true ∧ PySem.W.isFn K (.ref fI) = true ∧ FnOk P w K mg base CX0 k fI fd ps (initSp C) ∧ Binds K fd ps []
section
variable {X : Cx} {pos : Pos}
end
end L2
namespace L2
open PySem
@[simp] theorem bind_ok {α β : Type} (a : α) (k : α → Res β) : (Res.ok a).bind k = k a := (rfl)
@[simp] theorem bind_bad {α β : Type} (k : α → Res β) : (Res.bad : Res α).bind k = .bad := (rfl)
@[simp] theorem nox_ok {α : Type} (a : α) : nox (Res.ok a) = .ok a := (rfl)
@[simp] theorem nox_bad {α : Type} : nox (Res.bad : Res α) = .bad := (rfl)
@[simp] theorem ofR_ok {α : Type} (a : α) (k : α → RS) : ofR (.ok a) k = k a := (rfl)
@[simp] theorem thenR_nxt (ρ : PEnv) (k : PEnv → RS) : thenR (.nxt ρ) k = k ρ := (rfl)
@[simp] theorem thenR_ret (p : PV) (k : PEnv → RS) : thenR (.ret p) k = .ret p := (rfl)
@[simp] theorem look_0 (p : PV) (r : PEnv) : look 0 (.val p :: r) = .ok p := (rfl)
@[simp] theorem look_s (i : Nat) (s : Sl) (r : PEnv) : look (i + 1) (s :: r) = look i r := by simp [look]
@[simp] theorem lookO_0 (p : List PV) (r : PEnv) : lookO 0 (.own p :: r) = .ok (.lst p) := (rfl)
@[simp] theorem lookO_s (i : Nat) (s : Sl) (r : PEnv) : lookO (i + 1) (s :: r) = lookO i r := by simp [lookO]
@[simp] theorem cst_ok (p : PV) (ρ : PEnv) : cst p ρ = .ok p := (rfl)
@[simp] theorem b2_def (f : PV → PV → Res PV) (g h : PEnv → Res PV) (ρ : PEnv) : b2 f g h ρ = (g ρ).bind fun x => (h ρ).bind fun y => f x y := (rfl)
@[simp] theorem subP_ii (i j : Int) : subP (.int i) (.int j) = .ok (.int (i - j)) := (rfl)
@[simp] theorem addP_ii (i j : Int) : addP (.int i) (.int j) = .ok (.int (i + j)) := (rfl)
theorem mulP_ok {i j : Int} (h : CMul i j) : mulP (.int i) (.int j) = .ok (.int (i * j)) := if_pos h
theorem modP_ok {i j : Int} (h : 0 < j) : modP (.int i) (.int j) = .ok (.int (i % j)) := if_pos h
theorem divP_ok {i j : Int} (h : 0 < j) (h2 : j < 1073741824) : divP (.int i) (.int j) = .ok (.int (i / j)) := if_pos ⟨h, h2⟩
theorem powP_ok {i j : Int} (h : CPow i j) : powP (.int i) (.int j) = .ok (.int (i ^ j.toNat)) := if_pos h
theorem mulP_l {i j : Int} (h : -(2 ^ 64) < i ∧ i < 2 ^ 64) : mulP (.int i) (.int j) = .ok (.int (i * j)) := mulP_ok (.inl h)
theorem mulP_r {i j : Int} (h : -(2 ^ 64) < j ∧ j < 2 ^ 64) : mulP (.int i) (.int j) = .ok (.int (i * j)) := mulP_ok (.inr h)
@[simp] theorem ltP_ii (i j : Int) : ltP (.int i) (.int j) = .ok (.bl (decide (i < j))) := (rfl)
@[simp] theorem leP_ii (i j : Int) : leP (.int i) (.int j) = .ok (.bl (decide (i ≤ j))) := (rfl)
@[simp] theorem gtP_ii (i j : Int) : gtP (.int i) (.int j) = .ok (.bl (decide (j < i))) := (rfl)
@[simp] theorem geP_ii (i j : Int) : geP (.int i) (.int j) = .ok (.bl (decide (j ≤ i))) := (rfl)
@[simp] theorem eqP_ii (i j : Int) : eqP (.int i) (.int j) = .ok (.bl (decide (i = j))) := (rfl)
@[simp] theorem neP_ii (i j : Int) : neP (.int i) (.int j) = .ok (.bl (!decide (i = j))) := (rfl)
@[simp] theorem eqP_le (xs : List PV) : eqP (.lst xs) (.lst []) = .ok (.bl xs.isEmpty) := (rfl)
@[simp] theorem eqP_te (xs : List PV) : eqP (.tup xs) (.tup []) = .ok (.bl xs.isEmpty) := (rfl)
@[simp] theorem asB_bl (b : Bool) : asB (.bl b) = .ok b := (rfl)
@[simp] theorem bB_def (g : PEnv → Res PV) (ρ : PEnv) : bB g ρ = (g ρ).bind asB := (rfl)
@[simp] theorem bT_def (g : PEnv → Res PV) (ρ : PEnv) : bT g ρ = (g ρ).bind tru := (rfl)
@[simp] theorem tru_bl (b : Bool) : tru (.bl b) = .ok b := (rfl)
@[simp] theorem nB_def (g : PEnv → Res Bool) (ρ : PEnv) : nB g ρ = (g ρ).bind fun b => .ok (!b) := (rfl)
@[simp] theorem aB_def (g h : PEnv → Res Bool) (ρ : PEnv) : aB g h ρ = (g ρ).bind fun b => if b = true then h ρ else .ok false := (rfl)
@[simp] theorem oB_def (g h : PEnv → Res Bool) (ρ : PEnv) : oB g h ρ = (g ρ).bind fun b => if b = true then .ok true else h ρ := (rfl)
@[simp] theorem nV_def (g : PEnv → Res PV) (ρ : PEnv) : nV g ρ = (g ρ).bind fun x => (asB x).bind fun b => .ok (.bl (!b)) := (rfl)
@[simp] theorem aV_def (g h : PEnv → Res PV) (ρ : PEnv) : aV g h ρ = (g ρ).bind fun x => (asB x).bind fun b => if b = true then h ρ else .ok (.bl false) := (rfl)
@[simp] theorem oV_def (g h : PEnv → Res PV) (ρ : PEnv) : oV g h ρ = (g ρ).bind fun x => (asB x).bind fun b => if b = true then .ok (.bl true) else h ρ := (rfl)
@[simp] theorem iV_def (c : PEnv → Res Bool) (g h : PEnv → Res PV) (ρ : PEnv) : iV c g h ρ = (c ρ).bind fun b => if b = true then g ρ else h ρ := (rfl)
@[simp] theorem aNil_def (ρ : PEnv) : aNil ρ = .ok [] := (rfl)
@[simp] theorem aCons_def (g : PEnv → Res PV) (h : PEnv → Res (List PV)) (ρ : PEnv) : aCons g h ρ = (g ρ).bind fun x => (h ρ).bind fun xs => .ok (x :: xs) := (rfl)
@[simp] theorem eC_def (f : List PV → Res PV) (g : PEnv → Res (List PV)) (ρ : PEnv) : eC f g ρ = (g ρ).bind f := (rfl)
@[simp] theorem eD_def (f : List PV → Res PV) (g : PEnv → Res (List PV)) (ρ : PEnv) : eD f g ρ = (g ρ).bind fun as => nox (f as) := (rfl)
@[simp] theorem iRg_def (f : List PV → Res (List PV)) (g : PEnv → Res (List PV)) (ρ : PEnv) : iRg f g ρ = (g ρ).bind f := (rfl)
@[simp] theorem iSq_def (g : PEnv → Res PV) (ρ : PEnv) : iSq g ρ = (g ρ).bind itemsP := (rfl)
@[simp] theorem itemsP_t (xs : List PV) : itemsP (.tup xs) = .ok xs := (rfl)
@[simp] theorem itemsP_l (xs : List PV) : itemsP (.lst xs) = .ok xs := (rfl)
@[simp] theorem lenP_t (xs : List PV) : lenP [.tup xs] = .ok (.int xs.length) := (rfl)
@[simp] theorem lenP_l (xs : List PV) : lenP [.lst xs] = .ok (.int xs.length) := (rfl)
@[simp] theorem tupleP_t (xs : List PV) : tupleP [.tup xs] = .ok (.tup xs) := (rfl)
@[simp] theorem tupleP_l (xs : List PV) : tupleP [.lst xs] = .ok (.tup xs) := (rfl)
@[simp] theorem maxP_ii (i j : Int) : maxP [.int i, .int j] = .ok (.int (if j > i then j else i)) := (rfl)
@[simp] theorem ixP_t (xs : List PV) (i : Int) : ixP (.tup xs) (.int i) = ofO (atI xs i) := (rfl)
@[simp] theorem ixP_l (xs : List PV) (i : Int) : ixP (.lst xs) (.int i) = ofO (atI xs i) := (rfl)
@[simp] theorem ofO_some (p : PV) : ofO (some p) = .ok p := (rfl)
@[simp] theorem sNil_def (ρ : PEnv) : sNil ρ = .nxt ρ := (rfl)
@[simp] theorem sBad_def (ρ : PEnv) : sBad ρ = .bad := (rfl)
@[simp] theorem sSeq_def (G G' : GS) (ρ : PEnv) : sSeq G G' ρ = thenR (G ρ) G' := (rfl)
@[simp] theorem sSet_def (i : Nat) (g : PEnv → Res PV) (ρ : PEnv) : sSet i g ρ = ofR (g ρ) fun p => .nxt (ρ.set i (.val p)) := (rfl)
@[simp] theorem sOwn_def (i : Nat) (g : PEnv → Res (List PV)) (ρ : PEnv) : sOwn i g ρ = ofR (g ρ) fun ps => .nxt (ρ.set i (.own ps)) := (rfl)
@[simp] theorem sRet_def (g : PEnv → Res PV) (ρ : PEnv) : sRet g ρ = ofR (g ρ) .ret := (rfl)
@[simp] theorem sExp_def (g : PEnv → Res PV) (ρ : PEnv) : sExp g ρ = ofR (g ρ) fun _ => .nxt ρ := (rfl)
@[simp] theorem sIf_def (c : PEnv → Res Bool) (G G' : GS) (ρ : PEnv) : sIf c G G' ρ = ofR (c ρ) fun b => if b = true then G ρ else G' ρ := (rfl)
@[simp] theorem sFor_def (gi : PEnv → Res (List PV)) (m : PV → PEnv → Res PEnv) (G : GS) (ρ : PEnv) : sFor gi m G ρ = ofR (gi ρ) fun ps => forF m G ps ρ := (rfl)
@[simp] theorem tgN_def (i : Nat) (p : PV) (ρ : PEnv) : tgN i p ρ = .ok (ρ.set i (.val p)) := (rfl)
@[simp] theorem eF_def (g : PEnv → Res (List PV)) (ρ : PEnv) : eF g ρ = (g ρ).bind fun ps => .ok (.lst ps) := (rfl)
@[simp] theorem eTup_def (g : PEnv → Res (List PV)) (ρ : PEnv) : eTup g ρ = (g ρ).bind mkT := (rfl)
@[simp] theorem eLst_def (g : PEnv → Res (List PV)) (ρ : PEnv) : eLst g ρ = (g ρ).bind mkL := (rfl)
@[simp] theorem aOwn_def (i : Nat) (ρ : PEnv) : aOwn i ρ = (lookO i ρ).bind fun x => .ok [x] := (rfl)
@[simp] theorem fNo_def (ρ : PEnv) : fNo ρ = .ok true := (rfl)
theorem mkT_ok {xs : List PV} (h : xs.length ≤ 1000000) : mkT xs = .ok (.tup xs) := by unfold mkT; rw [if_pos (by rw [sizeLine_eq]; omega)]
theorem mkL_ok {xs : List PV} (h : xs.length ≤ 1000000) : mkL xs = .ok (.lst xs) := by unfold mkL; rw [if_pos (by rw [sizeLine_eq]; omega)]
@[simp] theorem mkT_0 : mkT [] = .ok (.tup []) := mkT_ok (by simp)
@[simp] theorem mkT_1 (a : PV) : mkT [a] = .ok (.tup [a]) := mkT_ok (by simp)
@[simp] theorem mkT_2 (a b : PV) : mkT [a, b] = .ok (.tup [a, b]) := mkT_ok (by simp)
@[simp] theorem mkL_0 : mkL [] = .ok (.lst []) := mkL_ok (by simp)
@[simp] theorem mkL_5 (a b c d e : PV) : mkL [a, b, c, d, e] = .ok (.lst [a, b, c, d, e]) := mkL_ok (by simp)
theorem atI_ok {xs : List PV} {i : Int} (h0 : 0 ≤ i) (h : i < xs.length) : atI xs i = xs[i.toNat]? := by
  unfold atI ixN
  rw [if_pos h0, if_pos h]; rfl
theorem ix_int {ns : List Int} {i : Int} (h0 : 0 ≤ i) (h : i < ns.length) : atI (ns.map PV.int) i = some (.int (ns.getD i.toNat 0)) := by
  rw [atI_ok h0 (by simpa using h), List.getElem?_map, List.getD_eq_getElem?_getD, List.getElem?_eq_getElem (by omega)]; rfl
end L2
namespace L2
open PySem
theorem forF_cons {m : PV → PEnv → Res PEnv} {G : GS} {p : PV} {ps : List PV} {ρ ρ1 : PEnv} (h : m p ρ = .ok ρ1) : forF m G (p :: ps) ρ = match G ρ1 with
      | .nxt ρ2 => forF m G ps ρ2
      | .cnt ρ2 => forF m G ps ρ2
      | .brk ρ2 => .nxt ρ2
      | .ret v => .ret v
      | .exc c => .exc c
      | .bad => .bad := by
  simp only [forF, h]
  all_goals (cases G ρ1 <;> rfl)
@[simp] theorem forF_nil {m : PV → PEnv → Res PEnv} {G : GS} {ρ : PEnv} : forF m G [] ρ = .nxt ρ := (rfl)
theorem forF_inv {m : PV → PEnv → Res PEnv} {G : GS} {ps : List PV} (I : Nat → PEnv → Prop) (hs : ∀ i p ρ, ps[i]? = some p → I i ρ → ∃ ρ1 ρ2, m p ρ = .ok ρ1 ∧ G ρ1 = .nxt ρ2 ∧ I (i + 1) ρ2) {ρ : PEnv} (h0 : I 0 ρ) : ∃ ρ', forF m G ps ρ = .nxt ρ' ∧ I ps.length ρ' := by
  induction ps generalizing I ρ with
  | nil => exact ⟨ρ, rfl, h0⟩
  | cons p ps ih =>
    obtain ⟨ρ1, ρ2, e1, e2, i2⟩ := hs 0 p ρ rfl h0
    obtain ⟨ρ', e3, i3⟩ := ih (fun i => I (i + 1)) (fun i q ρ e => hs (i + 1) q ρ (by simpa using e)) i2
    exact ⟨ρ', by rw [forF_cons e1, e2]; exact e3, i3⟩
@[simp] theorem rngL_len {lo : Int} {n : Nat} : (rngL lo n).length = n := by simp [rngL]
theorem comp_rngP {ge : PEnv → Res PV} {ρ : PEnv} {n : Nat} {f : Nat → PV} (h : ∀ (k : Nat), k < n → ge (ρ.set 0 (.val (.int k))) = .ok (f k)) : compF (tgN 0) fNo ge ρ (rngL 0 n) = .ok ((List.range n).map f) := by
  have key : ∀ (l : List Nat), (∀ k ∈ l, k < n) → compF (tgN 0) fNo ge ρ (l.map fun (k : Nat) => PV.int (0 + k)) = .ok (l.map f) := by
    intro l
    induction l with
    | nil => intro _; rfl
    | cons k l ih =>
      intro hl
      have e := h k (hl k List.mem_cons_self)
      rw [List.map_cons, compF, ih (fun j hj => hl j (List.mem_cons_of_mem _ hj))]
      have z : (0 : Int) + (k : Int) = k := by omega
      simp [e]
  exact key (List.range n) (fun k hk => by simpa using hk)
theorem comp_rng {ge : PEnv → Res PV} {ρ : PEnv} {n : Nat} {f : Nat → Int} (h : ∀ (k : Nat), k < n → ge (ρ.set 0 (.val (.int k))) = .ok (.int (f k))) : compF (tgN 0) fNo ge ρ (rngL 0 n) = .ok (((List.range n).map f).map .int) := by
  rw [comp_rngP (f := fun k => .int (f k)) h, List.map_map]; rfl
theorem comp_ints {ge : PEnv → Res PV} {ρ : PEnv} {ns : List Int} {f : Int → Int} (h : ∀ x ∈ ns, ge (ρ.set 0 (.val (.int x))) = .ok (.int (f x))) : compF (tgN 0) fNo ge ρ (ns.map .int) = .ok ((ns.map f).map .int) := by
  induction ns with
  | nil => rfl
  | cons x ns ih => rw [List.map_cons, compF, ih (fun y hy => h y (List.mem_cons_of_mem _ hy))]; simp [h x List.mem_cons_self]
@[simp] theorem compG_def (nl : Nat) (ix : List Nat) (gi : PEnv → Res (List PV)) (m : PV → PEnv → Res PEnv) (gt : PEnv → Res Bool) (ge : PEnv → Res PV) (ρ : PEnv) : compG nl ix gi m gt ge ρ = (gi ρ).bind fun ps => if ps.length < sizeLine then compF m gt ge (bρ nl ix ρ) ps else .bad := (rfl)
theorem rng1_ok {j : Int} (h0 : 0 ≤ j) (h : j ≤ 1000000) : rng1 [.int j] = .ok (rngL 0 j.toNat) := if_pos ⟨by omega, by omega⟩
theorem lt_line {n : Nat} (h : n ≤ 1000000) : n < sizeLine := by rw [sizeLine_eq]; omega
end L2
namespace L2
open PySem
@[simp] theorem sumP_l (ns : List Int) : sumP [.lst (ns.map PV.int)] = .ok (.int ns.sum) := by
  show (match intsP (ns.map PV.int) with | some ns => Res.ok (PV.int ns.sum) | none => .bad) = _
  rw [intsP_map]
theorem pow48 : powP (.int 4) (.int 8) = .ok (.int 65536) := by
  rw [powP_ok (by unfold CPow; decide)]; rfl
end L2
namespace L2
open PySem
theorem comp_ex {ge : PEnv → Res PV} {ρ : PEnv} {n : Nat} {P : PV → Prop} (h : ∀ (k : Nat), k < n → ∃ y, ge (ρ.set 0 (.val (.int k))) = .ok y ∧ P y) : ∃ ys, compF (tgN 0) fNo ge ρ (rngL 0 n) = .ok ys ∧ ys.length = n ∧ ∀ y ∈ ys, P y := by
  have key : ∀ (l : List Nat), (∀ k ∈ l, k < n) → ∃ ys, compF (tgN 0) fNo ge ρ (l.map fun (k : Nat) => PV.int (0 + k)) = .ok ys ∧ ys.length = l.length ∧ ∀ y ∈ ys, P y := by
    intro l
    induction l with
    | nil => intro _; exact ⟨[], rfl, rfl, fun y hy => by simp at hy⟩
    | cons k l ih =>
      intro hl
      obtain ⟨y, e, p⟩ := h k (hl k List.mem_cons_self)
      obtain ⟨ys, e2, l2, p2⟩ := ih (fun j hj => hl j (List.mem_cons_of_mem _ hj))
      refine ⟨y :: ys, ?_, by simp [l2], fun z hz => (List.mem_cons.mp hz).elim (fun q => by rw [q]; exact p) (p2 z)⟩
      rw [List.map_cons, compF, e2]
      simp [e]
  obtain ⟨ys, e, l, p⟩ := key (List.range n) (fun k hk => by simpa using hk)
  exact ⟨ys, e, by simpa using l, p⟩
@[simp] theorem tgT2 (x y : PV) (ρ : PEnv) : tgT 2 (tgCons (tgN 0) (tgCons (tgN 1) tgNil)) (.tup [x, y]) ρ = .ok ((ρ.set 0 (.val x)).set 1 (.val y)) := (rfl)
@[simp] theorem tgT3 (x y z : PV) (ρ : PEnv) : tgT 3 (tgCons (tgN 0) (tgCons (tgN 1) (tgCons (tgN 2) tgNil))) (.tup [x, y, z]) ρ = .ok (((ρ.set 0 (.val x)).set 1 (.val y)).set 2 (.val z)) := (rfl)
def zip3I (f : Int → Int → Int → Int) : List Int → List Int → List Int → List Int
  | x :: xs, y :: ys, z :: zs => f x y z :: zip3I f xs ys zs
  | _, _, _ => []
@[simp] theorem zipP2_t (xs ys : List PV) : zipP2 [.tup xs, .tup ys] = .ok (zip2P xs ys) := (rfl)
@[simp] theorem zipP3_t (xs ys zs : List PV) : zipP3 [.tup xs, .tup ys, .tup zs] = .ok (zip3P xs ys zs) := (rfl)
theorem maxP_row {r : List Int} (h : r ≠ []) : maxP [.tup (r.map .int)] = .ok (.int (maxI r)) := by
  cases r with
  | nil => exact absurd rfl h
  | cons x xs =>
    show (match intsP ((x :: xs).map PV.int) with | some (n :: ns) => Res.ok (PV.int (maxI (n :: ns))) | _ => .bad) = _
    rw [intsP_map]
@[simp] theorem isP_def (c : String) (g : PEnv → Res PV) (ρ : PEnv) : isP c g ρ = (g ρ).bind fun p => ofB (isT c p) := (rfl)
@[simp] theorem isT_it (i : Int) : isT "int" (.int i) = some true := (rfl)
@[simp] theorem isT_bi (i : Int) : isT "bool" (.int i) = some false := (rfl)
@[simp] theorem isT_tt (i : List PV) : isT "tuple" (.tup i) = some true := (rfl)
@[simp] theorem ofB_some (b : Bool) : ofB (some b) = .ok (.bl b) := (rfl)
@[simp] theorem isNP_i (i : Int) : isNP (.int i) .non = .ok (.bl false) := (rfl)
@[simp] theorem at_0 {α : Type} (x : α) (xs : List α) : atI (x :: xs) 0 = some x := atI_nat (j := 0) rfl
@[simp] theorem at_1 {α : Type} (x y : α) (xs : List α) : atI (x :: y :: xs) 1 = some y := atI_nat (j := 1) rfl
end L2
namespace L2
open PySem
theorem forF_all {m : PV → PEnv → Res PEnv} {G : GS} {v : PV} {t : PV → Bool} {ps : List PV} (I : PEnv → Prop) (h : ∀ p ρ, p ∈ ps → I ρ → ∃ ρ1, m p ρ = .ok ρ1 ∧ ((t p = true ∧ ∃ ρ2, G ρ1 = .nxt ρ2 ∧ I ρ2) ∨ (t p = false ∧ G ρ1 = .ret v))) {ρ : PEnv} (h0 : I ρ) :
    (ps.all t = true ∧ ∃ ρ', forF m G ps ρ = .nxt ρ' ∧ I ρ') ∨ (ps.all t = false ∧ forF m G ps ρ = .ret v) := by
  induction ps generalizing ρ with
  | nil => exact .inl ⟨rfl, ρ, rfl, h0⟩
  | cons p ps ih =>
    obtain ⟨ρ1, e1, (⟨t0, ρ2, e2, i2⟩ | ⟨t0, e2⟩)⟩ := h p ρ List.mem_cons_self h0
    · rcases ih (fun q ρ hq => h q ρ (List.mem_cons_of_mem _ hq)) i2 with ⟨a1, ρ', a2, a3⟩ | ⟨a1, a3⟩
      · exact .inl ⟨by rw [List.all_cons, t0, a1]; rfl, ρ', by rw [forF_cons e1, e2]; exact a2, a3⟩
      · exact .inr ⟨by rw [List.all_cons, t0, a1]; rfl, by rw [forF_cons e1, e2]; exact a3⟩
    · exact .inr ⟨by rw [List.all_cons, t0]; rfl, by rw [forF_cons e1, e2]⟩
@[simp] theorem isT_t1 : isT "tuple" .non = some false := (rfl)
@[simp] theorem isT_t2 (b : Bool) : isT "tuple" (.bl b) = some false := (rfl)
@[simp] theorem isT_t3 (b : Int) : isT "tuple" (.int b) = some false := (rfl)
@[simp] theorem isT_t4 (b : Str) : isT "tuple" (.str b) = some false := (rfl)
@[simp] theorem isT_t5 (b : List PV) : isT "tuple" (.lst b) = some false := (rfl)
@[simp] theorem isT_i1 : isT "int" .non = some false := (rfl)
@[simp] theorem isT_i2 (b : Bool) : isT "int" (.bl b) = some true := (rfl)
@[simp] theorem isT_i4 (b : Str) : isT "int" (.str b) = some false := (rfl)
@[simp] theorem isT_i5 (b : List PV) : isT "int" (.lst b) = some false := (rfl)
@[simp] theorem isT_i6 (b : List PV) : isT "int" (.tup b) = some false := (rfl)
@[simp] theorem isT_b2 (b : Bool) : isT "bool" (.bl b) = some true := (rfl)
@[simp] theorem isNP_1 : isNP .non .non = .ok (.bl true) := (rfl)
end L2
namespace L2
open PySem
@[simp] theorem addP_tt (xs ys : List PV) (h : xs.length + ys.length ≤ 1000000) : addP (.tup xs) (.tup ys) = .ok (.tup (xs ++ ys)) := by
  show (if xs.length + ys.length ≤ sizeLine then Res.ok (PV.tup (xs ++ ys)) else .bad) = _
  rw [if_pos (by rw [sizeLine_eq]; omega)]
@[simp] theorem oNone_def (ρ : PEnv) : oNone ρ = .ok none := (rfl)
@[simp] theorem oSome_def (g : PEnv → Res PV) (ρ : PEnv) : oSome g ρ = (g ρ).bind fun p => match p with | .int i => .ok (some i) | _ => .bad := (rfl)
@[simp] theorem eSl_def (g : PEnv → Res PV) (l h : PEnv → Res (Option Int)) (ρ : PEnv) : eSl g l h ρ = (g ρ).bind fun x => (l ρ).bind fun lo => (h ρ).bind fun hi => slP x lo hi := (rfl)
theorem sl_from {xs : List PV} {k : Nat} (h : 0 < k) (hx : k ≤ xs.length) : slP (.tup xs) (some (k : Int)) none = .ok (.tup (xs.drop k)) := by
  show (if HT.sIx xs.length 0 (some (k : Int)) = 0 ∧ HT.sIx xs.length xs.length none = xs.length then Res.bad else Res.ok (PV.tup (cutP xs (some (k : Int)) none))) = _
  rw [if_neg (by rw [HT.sIx_nat]; omega)]
  unfold cutP
  rw [HT.sIx_nat, HT.sIx_none, Nat.min_eq_left hx]
  rw [List.take_of_length_le (by rw [List.length_drop]; omega)]
@[simp] theorem thenR_exc (c : XC) (k : PEnv → RS) : thenR (.exc c) k = .exc c := (rfl)
theorem runG_exc {np n : Nat} {G : GS} {args : List PV} {ρ : PEnv} {c : XC} (h1 : args.length = np) (h2 : args.map Sl.val ++ List.replicate (n - args.length) Sl.no = ρ) (h3 : G ρ = .exc c) : runG np n G args = .exc c := by
  unfold runG
  rw [if_pos h1, h2, h3]
@[simp] theorem bind_exc {α β : Type} (c : XC) (k : α → Res β) : (Res.exc c : Res α).bind k = .exc c := (rfl)
@[simp] theorem listP_t (xs : List PV) : listP [.tup xs] = .ok (.lst xs) := (rfl)
@[simp] theorem negV_def (g : PEnv → Res PV) (ρ : PEnv) : negV g ρ = (g ρ).bind negP := (rfl)
@[simp] theorem negP_i (i : Int) : negP (.int i) = .ok (.int (-i)) := (rfl)
@[simp] theorem mkL_2 (a b : PV) : mkL [a, b] = .ok (.lst [a, b]) := mkL_ok (by simp)
end L2
namespace L2
open PySem
theorem fLst_def (g : PEnv → Res (List PV)) (ρ : PEnv) {ps : List PV} (h : g ρ = .ok ps) (hz : ps.length ≤ 1000000) : fLst g ρ = .ok ps := by
  unfold fLst; rw [h]; show (if ps.length ≤ sizeLine then Res.ok ps else .bad) = _; rw [if_pos (by rw [sizeLine_eq]; omega)]
theorem sOwn_ok {i : Nat} {g : PEnv → Res (List PV)} {ρ : PEnv} {ps : List PV} (h : g ρ = .ok ps) : sOwn i g ρ = .nxt (ρ.set i (.own ps)) := by rw [sOwn_def, h]; rfl
theorem sAppendO_ok {i : Nat} {g : PEnv → Res (List PV)} {ρ : PEnv} {ps : List PV} {q : PV} (h1 : ρ[i]? = some (.own ps)) (h : g ρ = .ok [q]) (hz : ps.length ≤ 1000000) : sAppendO i g ρ = .nxt (ρ.set i (.own (ps ++ [q]))) := by
  unfold sAppendO; rw [h1, h]; show (if ps.length < sizeLine then RS.nxt _ else .bad) = _; rw [if_pos (by rw [sizeLine_eq]; omega)]
theorem sSet_ok {i : Nat} {g : PEnv → Res PV} {ρ : PEnv} {p : PV} (h : g ρ = .ok p) : sSet i g ρ = .nxt (ρ.set i (.val p)) := by rw [sSet_def, h]; rfl
theorem sSeq_nxt {G G' : GS} {ρ ρ1 : PEnv} (h : G ρ = .nxt ρ1) : sSeq G G' ρ = G' ρ1 := by rw [sSeq_def, h]; rfl
end L2
namespace L2
open PySem
@[simp] theorem fldX_def (i : Nat) (tbl : List Str) (ρ : PEnv) : fldX i tbl ρ = match ρ[i]? with
  | some (.exc c) => if c.cls ∈ tbl then match c.fo with
      | some k => .ok (.int k)
      | none => .bad
    else .bad
  | _ => .bad := (rfl)
@[simp] theorem enumP_l (xs : List PV) : enumP [.lst xs] = .ok (enumL 0 xs) := (rfl)
@[simp] theorem neQ_bb (i j : Bool) : neQ (.bl i) (.bl j) = .ok (.bl (!decide (i = j))) := (rfl)
@[simp] theorem notBP_bb (i j : Bool) : notBP (.bl i) (.bl j) = .ok (.bl (!decide (i = j))) := (rfl)
@[simp] theorem isT_id : isT "int" .dic = some false := (rfl)
@[simp] theorem isT_bd : isT "bool" .dic = some false := (rfl)
@[simp] theorem isT_td : isT "tuple" .dic = some false := (rfl)
@[simp] theorem isT_ld : isT "list" .dic = some false := (rfl)
@[simp] theorem isT_sd : isT "str" .dic = some false := (rfl)
@[simp] theorem isT_bb (i : Bool) : isT "bool" (.bl i) = some true := (rfl)
@[simp] theorem isT_ll (i : List PV) : isT "list" (.lst i) = some true := (rfl)
end L2
namespace L2
open PySem PySem.Spec PyProof.Rows
section
variable {X : Cx} {pos : Pos} {st : Stmt} {G : GS}
def whileF (c : PEnv → Res Bool) (G : GS) : Nat → GS
  | 0, _ => .bad
  | n + 1, ρ => ofR (c ρ) fun b => if b = true then match G ρ with
      | .nxt ρ2 => whileF c G n ρ2
      | .cnt ρ2 => whileF c G n ρ2
      | .brk ρ2 => .nxt ρ2
      | .ret v => .ret v
      | .exc c => .exc c
      | .bad => .bad
    else .nxt ρ
noncomputable def sWhile (c : PEnv → Res Bool) (G : GS) : GS := fun ρ => open Classical in if h : ∃ n, whileF c G n ρ ≠ .bad then whileF c G h.choose ρ else .bad
def fz (i : Nat) (ρ : PEnv) : PEnv := match ρ[i]? with
  | some (.own ps) => ρ.set i (.val (.lst ps))
  | _ => ρ
theorem RE.freeze {K : PySem.W.Frag} {Z B H : Hp} {σ : St} {ρ : PEnv} {i : Nat} {ps : List PV} (r : RE K Z B H σ ρ) (s : Same B H) (hi : ρ[i]? = some (.own ps)) :
    ∃ B', Same B B' ∧ Same B' H ∧ (∀ a o, Z a = some o → B a = none → B' a = none) ∧ RE K Z B' H σ (ρ.set i (.val (.lst ps))) := by
  obtain ⟨a, xs, h1, h2, h3, h4, h5⟩ := r.own i ps hi
  have sb : Same B (upd B a (.lst xs)) := same_new h3 _
  have key : ∀ {j : Nat} {t : Sl}, (ρ.set i (.val (.lst ps)))[j]? = some t → (j = i ∧ t = .val (.lst ps)) ∨ (j ≠ i ∧ ρ[j]? = some t) := fun {j t} e => by
    by_cases hj : i = j
    · subst hj
      have hl : i < ρ.length := (List.getElem?_eq_some_iff.mp hi).1
      rw [List.getElem?_set_self hl] at e; cases e; exact .inl ⟨rfl, rfl⟩
    · rw [List.getElem?_set_ne hj] at e; exact .inr ⟨Ne.symm hj, e⟩
  refine ⟨upd B a (.lst xs), sb, fun b u e => ?_, fun b o e n => ?_, ⟨by simp [r.len], fun j p e => ?_, fun j qs e => ?_, fun j c e => ?_, fun j k b qs rs e1 e2 e3 e4 => ?_⟩⟩
  · by_cases hb : b = a
    · subst hb; rw [upd_same] at e; rw [← e]; exact h4
    · rw [upd_ne hb] at e; exact s b u e
  · rw [upd_ne (ne_of_none e h2)]; exact n
  · rcases key e with ⟨rfl, e'⟩ | ⟨hj, e'⟩
    · cases e'
      exact ⟨.ref a, h1, .lstOf (.of upd_same) (h5.same sb)⟩
    · obtain ⟨v, q1, q2⟩ := r.val j p e'
      exact ⟨v, q1, q2.same sb⟩
  · rcases key e with ⟨rfl, e'⟩ | ⟨hj, e'⟩
    · cases e'
    · obtain ⟨b, ys, q1, q2, q3, q4, q5⟩ := r.own j qs e'
      refine ⟨b, ys, q1, q2, ?_, q4, q5.same sb⟩
      have : b ≠ a := fun eb => hj (r.ne j i a qs ps e' hi (eb ▸ q1) h1)
      rw [upd_ne this]; exact q3
  · rcases key e with ⟨rfl, e'⟩ | ⟨hj, e'⟩
    · cases e'
    · obtain ⟨b, C, q1, q2, q3, q4, D, q5, q6⟩ := r.exc j c e'
      refine ⟨b, C, q1, q2, ?_, q4, D, q5, q6⟩
      rw [upd_ne (ne_of q5 h4 (fun z => by cases z))]; exact q3
  · rcases key e1 with ⟨_, e'⟩ | ⟨hj, e1'⟩
    · cases e'
    rcases key e2 with ⟨_, e'⟩ | ⟨hk, e2'⟩
    · cases e'
    exact r.ne j k b qs rs e1' e2' e3 e4
def sFz (i : Nat) (G : GS) : GS := fun ρ => G (fz i ρ)
theorem pps_fz (i : Nat) (h : PPS X st G) : PPS X st (sFz i G) := by
  refine PS_mono h fun D σ H ⟨B0, H0, B, ρ, e, re, o⟩ => ?_
  unfold sFz fz at o
  split at o
  · rename_i ps hi
    obtain ⟨B', s1, s2, n, re'⟩ := re.freeze e.bh hi
    exact ⟨B0, H0, B', _, ⟨e.b.trans s1, e.h, s2, fun a u q1 q2 => n a u q1 (e.nw a u q1 q2)⟩, re', o⟩
  · exact ⟨B0, H0, B, ρ, e, re, o⟩
variable {a b : Expr} {ga gb : PEnv → Res PV}
def modN : PV → PV → Res PV := i2 fun i j => if j ≠ 0 then .ok (.int (i.fmod j)) else .bad
def CDivM (i j : Int) : Prop := j ≠ 0 ∧ j.natAbs.log2 < 9000
instance (i j : Int) : Decidable (CDivM i j) := by unfold CDivM; exact inferInstance
def divM : PV → PV → Res PV := i2 fun i j => if CDivM i j then .ok (.int (i.fdiv j)) else .bad
def absP : List PV → Res PV := fun ps => match ps with
  | [.int i] => .ok (.int (if i < 0 then -i else i))
  | _ => .bad
def rCatL (K : PySem.W.Frag) : R2 := fun x y H Q => ∃ l b xs zs, x = .ref l ∧ y = .ref b ∧ SqL K H l xs ∧ SqL K H b zs ∧ xs.length + zs.length ≤ sizeLine ∧ ∀ p, H p = none → Q (.ref p) (upd H p (.lst (xs ++ zs)))
theorem op_catL : OpR X (binaryOp .Add) (rCatL X.K) := by
  intro pins s σ H x y v u Q I rx ry h
  obtain ⟨l, b, xs, zs, rfl, rfl, hH, hB, hz, q⟩ := h
  cases rx
  cases ry
  obtain ⟨its, r, pl, hz1⟩ := I.list hH
  obtain ⟨its2, r2, pl2, hz2⟩ := I.list hB
  obtain ⟨⟨cls, dd, data, sl⟩, ho, hc, n, hd⟩ := id pl.isList
  obtain ⟨⟨cls2, dd2, data2, sl2⟩, ho2, hc2, n2, hd2⟩ := id pl2.isList
  simp only at hc hd hc2 hd2
  subst hc hd hc2 hd2
  have hl := r.length
  have hl2 := r2.length
  refine concat_meets ⟨_, ho, rfl⟩ ⟨_, ho2, rfl⟩ noFill_list_add seq_list_add PySem.F.slot_list_add PySem.F.entry_list_add (PySem.F.args_list_add_2 _ _)
    (list_addW l b its.toArray its2.toArray n n2 dd dd2 sl sl2 (by simp only [List.size_toArray]; omega)) ⟨ho, ho2, ?_⟩
  have ea : its.toArray ++ its2.toArray = (its ++ its2).toArray := by simp
  rw [ea]
  exact ⟨.ref _, _, I.lnew (t' := s.toks) (r.append r2) (by rw [List.length_append]; omega), rfl, q _ I.fresh⟩
def addL : PV → PV → Res PV := fun p q => match p, q with
  | .lst xs, .lst ys => if xs.length + ys.length ≤ sizeLine then .ok (.lst (xs ++ ys)) else .bad
  | _, _ => .bad
theorem pp_addL (ha : PP X a ga) (hb : PP X b gb) : PP X (.BinOp a .Add b pos) (b2 addL ga gb) := by
  refine pp_op op_catL ?_ ha hb
  intro σ B H Q x y p q s r1 r2 o
  unfold addL at o
  split at o
  · obtain ⟨a1, xs, rfl, h1, R1⟩ := r1.isLst
    obtain ⟨a2, ys, rfl, h2, R2'⟩ := r2.isLst
    split at o
    · rename_i hz
      exact ⟨a1, a2, xs, ys, rfl, rfl, s.seq h1, s.seq h2, by rw [R1.len, R2'.len]; exact hz, fun p n => newL s (R1.app R2') n o⟩
    · exact (show False from o).elim
  · exact (show False from o).elim
def anyP : List PV → Res PV := fun ps => match ps with
  | [.lst xs] => match intsP xs with | some ns => .ok (.bl (ns.any fun n => n != 0)) | none => .bad
  | _ => .bad
end
@[simp] theorem sFz_def (i : Nat) (G : GS) (ρ : PEnv) : sFz i G ρ = G (fz i ρ) := (rfl)
@[simp] theorem absP_i (i : Int) : absP [.int i] = .ok (.int (if i < 0 then -i else i)) := (rfl)
theorem addL_ok {xs ys : List PV} (h : xs.length + ys.length ≤ 1000000) : addL (.lst xs) (.lst ys) = .ok (.lst (xs ++ ys)) := by
  show (if _ then _ else _) = _
  rw [if_pos (by rw [sizeLine_eq]; omega)]
end L2
namespace L2
open PySem
@[simp] theorem eqQ_ii (i j : Int) : eqQ (.int i) (.int j) = .ok (.bl (decide (i = j))) := (rfl)
end L2
namespace L2
open PySem PySem.Spec PyProof.Rows
section
variable {X : Cx}
def ItzL (K : PySem.W.Frag) (a1 a2 : Addr) : It :=
  ⟨fun i H => ∃ xs1 xs2 x1 x2, SqL K H a1 xs1 ∧ SqL K H a2 xs2 ∧ xs1[i]? = some x1 ∧ xs2[i]? = some x2,
   fun i H v H' => ∃ p, H p = none ∧ v = .ref p ∧ ∀ xs1 xs2 x1 x2, SqL K H a1 xs1 → SqL K H a2 xs2 → xs1[i]? = some x1 → xs2[i]? = some x2 → H' = upd H p (.tup [x1, x2]),
   fun i H => ∃ xs1 xs2, SqL K H a1 xs1 ∧ SqL K H a2 xs2 ∧ (xs1.length ≤ i ∨ xs2.length ≤ i)⟩
def iZipL (K : PySem.W.Frag) (ta : TA) : TI := fun σ H R => ta σ H fun vs H1 => ∃ a1 a2 : Addr, vs = [.ref a1, .ref a2] ∧ (∃ xs, SqL K H1 a1 xs) ∧ (∃ xs, SqL K H1 a2 xs) ∧ R (ItzL K a1 a2) H1
def zipPL : List PV → Res (List PV) := fun ps => match ps with
  | [.lst xs, .lst ys] => .ok (zip2P xs ys)
  | _ => .bad
end
@[simp] theorem zipPL_l (xs ys : List PV) : zipPL [.lst xs, .lst ys] = .ok (zip2P xs ys) := (rfl)
end L2
namespace PySem
open Sem (wp)
section
variable {prog : Program} {w : World} {A : Around} {E : Value → Shared → Prop} {s : Shared}
abbrev ZMH1 (h : Heap) (l1 l2 : Addr) : Heap := (h).push { cls := .type "list_iterator", data := .fields #[.ref l1, .int 0 0] }
abbrev ZMH2 (h : Heap) (l1 l2 : Addr) : Heap := (ZMH1 h l1 l2).push { cls := .type "tuple_iterator", data := .fields #[.ref l2, .int 0 0] }
abbrev ZMH3 (h : Heap) (l1 l2 : Addr) : Heap := (ZMH2 h l1 l2).push { cls := .type "tuple", data := .seq #[(.ref h.objs.size), (.ref (ZMH1 h l1 l2).objs.size)] }
abbrev ZMH4 (h : Heap) (l1 l2 : Addr) : Heap := (ZMH3 h l1 l2).push { cls := .type "tuple", data := .seq #[.none, .none] }
abbrev ZMH5 (h : Heap) (l1 l2 : Addr) : Heap := (ZMH4 h l1 l2).push { cls := .type "zip", data := .fields #[.none, .bool false, .bool false, .ref (ZMH2 h l1 l2).objs.size, .ref (ZMH3 h l1 l2).objs.size] }
end
end PySem
namespace L2
open PySem PySem.Spec PyProof.Rows
section
variable {X : Cx}
def ItzM (K : PySem.W.Frag) (a1 a2 : Addr) : It :=
  ⟨fun i H => ∃ xs1 xs2 x1 x2, SqL K H a1 xs1 ∧ SqT K H a2 xs2 ∧ xs1[i]? = some x1 ∧ xs2[i]? = some x2,
   fun i H v H' => ∃ p, H p = none ∧ v = .ref p ∧ ∀ xs1 xs2 x1 x2, SqL K H a1 xs1 → SqT K H a2 xs2 → xs1[i]? = some x1 → xs2[i]? = some x2 → H' = upd H p (.tup [x1, x2]),
   fun i H => ∃ xs1 xs2, SqL K H a1 xs1 ∧ SqT K H a2 xs2 ∧ (xs1.length ≤ i ∨ xs2.length ≤ i)⟩
def iZipM (K : PySem.W.Frag) (ta : TA) : TI := fun σ H R => ta σ H fun vs H1 => ∃ a1 a2 : Addr, vs = [.ref a1, .ref a2] ∧ (∃ xs, SqL K H1 a1 xs) ∧ (∃ xs, SqT K H1 a2 xs) ∧ R (ItzM K a1 a2) H1
def zipPM : List PV → Res (List PV) := fun ps => match ps with
  | [.lst xs, .tup ys] => .ok (zip2P xs ys)
  | _ => .bad
end
@[simp] theorem zipPM_l (xs ys : List PV) : zipPM [.lst xs, .tup ys] = .ok (zip2P xs ys) := (rfl)
end L2
namespace PySem
open Sem (wp)
section
variable {M : Model} {A : Around} {E : Value → Shared → Prop} {s : Shared}
end
end PySem
namespace L2
open PySem PySem.Spec PyProof.Rows
def blkC (X : Cx) (scope : Scope) (cl : List (Str × Addr)) (C : Addr) (NB : List Str) (s₂ : Shared) (H₂ : Hp) (ex : List Addr) (pl : List (Addr × Obj)) : Cx where
  prog := X.prog
  w := X.w
  K := X.K
  mg := X.mg
  base := X.base
  A := X.A
  N := NB
  s₀ := s₂
  H₀ := H₂
  env := compEnvC scope cl C X.env
  outer := X.stack
  stack := X.stack
  ex := ex
  fn := fun x => scope.names.lookup x == some .cell
  calm := X.calm
  pn := X.pn ++ pl
  xe := fun _ _ => False
def blkBC (sc : Scope) (N : List Str) (scope : Scope) (lv fv : List Str) (ix : List Nat) : Bool :=
  scope.kind == .function && scope.names.all (fun y => y.2 != .cell || scope.names.lookup y.1 == some .cell) && scope.names.all (fun y => y.2 != .local || scope.names.lookup y.1 == some .local) &&
  scope.names.all (fun y => y.2 != .free || sc.names.lookup y.1 == some .cell || sc.names.lookup y.1 == some .free) && decide (lv ++ fv).Nodup &&
  fv.all (fun x => scope.names.any fun y => y.1 == x && y.2 == .free) && fv.all (fun x => scope.names.lookup x == some .free) && fv.length == ix.length && (fv.zip ix).all (fun p => N[p.2]? == some p.1)
structure BlkScC (sc : Scope) (N : List Str) (scope : Scope) (lv fv : List Str) (ix : List Nat) : Prop where
  kind : scope.kind = .function
  cellL : ∀ y ∈ scope.names, y.2 = .cell → scope.names.lookup y.1 = some .cell
  loc : ∀ y ∈ scope.names, y.2 = .local → scope.names.lookup y.1 = some .local
  free : ∀ y ∈ scope.names, y.2 = .free → sc.names.lookup y.1 = some .cell ∨ sc.names.lookup y.1 = some .free
  nd : (lv ++ fv).Nodup
  fvs : ∀ x ∈ fv, (x, NameKind.free) ∈ scope.names
  look : ∀ x ∈ fv, scope.names.lookup x = some .free
  len : fv.length = ix.length
  at_ : ∀ (j : Nat) (x : Str) (i : Nat), fv[j]? = some x → ix[j]? = some i → N[i]? = some x
section
variable {X : Cx} {target iter elt : Expr} {ifs : List Expr} {scope sc : Scope} {pos : Pos} {N lv fv : List Str} {ix : List Nat} {g : TG} {tt : TT} {te : TE}
def relabelS (scope outer : Scope) : Scope := { scope with names := scope.names.map fun (n, k) => if (k == NameKind.free && outer.kind == .function && outer.names.lookup n == some .cell) then (n, .cell) else (n, k) }
end
section
variable {X : Cx} {target iter elt : Expr} {ifs : List Expr} {scope sc : Scope} {pos : Pos} {N lv fv : List Str} {ix : List Nat} {g : TG}
end
end L2
namespace L2
open PySem PySem.Spec PyProof.Rows
section
variable {prog : Program} {w : World} {A : Around} {E : Value → Shared → Prop} {s : Shared}
end
section
variable {X : Cx} {e k : Expr} {te : TE} {tk : TO} {pos p2 : Pos}
def rRev (K : PySem.W.Frag) (x : V) (H : Hp) (Q : VK) : Prop := ∃ a xs, x = .ref a ∧ ((SqL K H a xs ∧ ∀ p, H p = none → Q (.ref p) (upd H p (.lst xs.reverse))) ∨ (SqT K H a xs ∧ ∀ p, H p = none → Q (.ref p) (upd H p (.tup xs.reverse))))
def tRev (K : PySem.W.Frag) (te : TE) (tk : TO) : TE := fun σ H Q => te σ H fun x H1 => tk σ H1 fun o H2 => o = some (-1) ∧ rRev K x H2 Q
def revP : PV → Res PV := fun p => match p with
  | .lst xs => .ok (.lst xs.reverse)
  | .tup xs => .ok (.tup xs.reverse)
  | _ => .bad
def eRev (g : PEnv → Res PV) (k : PEnv → Res (Option Int)) : PEnv → Res PV := fun ρ => (g ρ).bind fun x => (k ρ).bind fun o => if o = some (-1) then revP x else .bad
end
end L2
namespace L2
open PySem PySem.Spec PyProof.Rows PySem.Builtin PySem.Builtin.Str
section
variable {X : Cx}
def rSplit : V → List V → Hp → VK → Prop := fun x xs H Q => ∃ i j, x = .str i ∧ xs = [.str j] ∧ (j.length == 0) = false ∧ i.length ≤ sizeLine ∧ (Txt.split i j).length ≤ sizeLine ∧ ∀ p, H p = none → Q (.ref p) (upd H p (.lst ((Txt.split i j).map .str)))
def rJoin (K : PySem.W.Frag) : V → List V → Hp → VK → Prop := fun x xs H Q => ∃ i p zs, x = .str i ∧ xs = [.ref p] ∧ SqL K H p (zs.map .str) ∧ JoinOk i zs = true ∧ Q (.str (Txt.join i zs)) H
def rFind : V → List V → Hp → VK → Prop := fun x xs H Q => ∃ i j, x = .str i ∧ xs = [.str j] ∧ Q (.int (Txt.find i j)) H
end
section
variable {X : Cx} {a b o e : Expr} {ga gb go : PEnv → Res PV} {g : PEnv → Res (List PV)} {pos apos cpos : Pos}
def eM1 (f : Str → PV → Res PV) (go ge : PEnv → Res PV) : PEnv → Res PV := fun ρ => (go ρ).bind fun x => match x with
  | .str z => (ge ρ).bind fun y => f z y
  | _ => .bad
def splitP : Str → PV → Res PV := fun x q => match q with
  | .str y => if (y.length == 0) = false ∧ x.length ≤ sizeLine ∧ (Txt.split x y).length ≤ sizeLine then .ok (.lst ((Txt.split x y).map .str)) else .bad
  | _ => .bad
def findP : Str → PV → Res PV := fun x q => match q with
  | .str y => .ok (.int (Txt.find x y))
  | _ => .bad
def strsP : List PV → Option (List Str)
  | [] => some []
  | .str z :: r => (strsP r).map (z :: ·)
  | _ => none
def joinP : Str → PV → Res PV := fun x q => match q with
  | .lst ys => match strsP ys with
    | some zs => if JoinOk x zs = true then .ok (.str (Txt.join x zs)) else .bad
    | none => .bad
  | _ => .bad
def strP : List PV → Res PV := fun ps => match ps with
  | [.int i] => if i.natAbs.log2 < 1920 then .ok (.str (toString i)) else .bad
  | _ => .bad
def ixSP : PV → PV → Res PV := fun p q => match p, q with
  | .str z, .int i => if z.length ≤ sizeLine then match atI z.cps.toList i with
    | some c => .ok (.str ⟨#[c]⟩)
    | none => .bad
    else .bad
  | _, _ => .bad
def lenSP : List PV → Res PV := fun ps => match ps with
  | [.str z] => if z.length ≤ sizeLine then .ok (.int z.length) else .bad
  | ps => lenP ps
def flatP : PV → Bool
  | .non => true | .bl _ => true | .int _ => true | .str _ => true | _ => false
def eqFl : PV → PV → Bool
  | .non, .non => true
  | .bl a, .bl b => a == b
  | .bl a, .int b => (if a then 1 else 0) == b
  | .int a, .bl b => a == (if b then 1 else 0)
  | .int a, .int b => a == b
  | .str a, .str b => a == b
  | _, _ => false
def inL (neg : Bool) (x : PV) (ys : List PV) : Res PV := if flatP x = true ∧ ys.all flatP = true then .ok (.bl (if neg then !(ys.any fun y => eqFl y x) else ys.any fun y => eqFl y x)) else .bad
def inP (neg : Bool) : PV → PV → Res PV := fun x y => match y with
  | .lst ys => inL neg x ys
  | .tup ys => inL neg x ys
  | .str j => match x with
    | .str i => .ok (.bl (if neg then !(!(occurrences j i 0 j.length 1).isEmpty) else !(occurrences j i 0 j.length 1).isEmpty))
    | _ => .bad
  | _ => .bad
theorem flat_rel {K : PySem.W.Frag} {B : Hp} {x : V} {p : PV} (r : Rp K B x p) (f : flatP p = true) : flatV x = true := by
  cases r <;> first | rfl | exact absurd (show false = true from f) Bool.false_ne_true
theorem eqFl_rel {K : PySem.W.Frag} {B : Hp} {x y : V} {p q : PV} (r1 : Rp K B x p) (r2 : Rp K B y q) (f1 : flatP p = true) (f2 : flatP q = true) : eqV x y = eqFl p q := by
  cases r1 <;> cases r2 <;> first | rfl | exact absurd (show false = true from f1) Bool.false_ne_true | exact absurd (show false = true from f2) Bool.false_ne_true
theorem inL_rel {K : PySem.W.Frag} {B : Hp} {x : V} {p : PV} (r : Rp K B x p) (f : flatP p = true) : ∀ {xs : List V} {ps : List PV}, Rps K B xs ps → ps.all flatP = true → xs.all flatV = true ∧ inV x xs = ps.any fun y => eqFl y p
  | [], [], _, _ => ⟨rfl, rfl⟩
  | [], _ :: _, r, _ => by have := r.len; simp at this
  | _ :: _, [], r, _ => by have := r.len; simp at this
  | y :: xs, q :: ps, rr, fs => by
    rw [List.all_cons, Bool.and_eq_true] at fs
    have h1 := rr.get 0 y q rfl rfl
    obtain ⟨g1, g2⟩ := inL_rel r f (xs := xs) (ps := ps) ⟨by have := rr.len; simpa using this, fun i z w e1 e2 => rr.get (i + 1) z w (by simpa using e1) (by simpa using e2)⟩ fs.2
    refine ⟨by rw [List.all_cons, flat_rel h1 fs.1, g1]; rfl, ?_⟩
    unfold inV at g2 ⊢
    rw [List.any_cons, List.any_cons, g2, eqFl_rel h1 r fs.1 f]
theorem opP_in (neg : Bool) : OpP X (fun x y H Q => rIn X.K neg x y H Q ∨ ∃ i j, x = .str i ∧ y = .str j ∧ Q (.bl (if neg then !(!(occurrences j i 0 j.length 1).isEmpty) else !(occurrences j i 0 j.length 1).isEmpty)) H) (inP neg) := by
  intro σ B H Q x y p q s r1 r2 o
  have seq : ∀ {a : Addr} {xs : List V} {ps : List PV}, (SqL X.K H a xs ∨ SqT X.K H a xs) → Rps X.K B xs ps → Out X Rp σ B H Q (inL neg p ps) → rIn X.K neg x (.ref a) H Q := fun {a xs ps} ha rr o => by
    unfold inL at o
    split at o
    · rename_i hh
      obtain ⟨g1, g2⟩ := inL_rel r1 hh.1 rr hh.2
      refine ⟨a, xs, rfl, ha, flat_rel r1 hh.1, g1, ?_⟩
      rw [g2]
      exact Out.now (Rel := Rp) o s (.bl _)
    · exact (show False from o).elim
  cases r2 with
  | @tup a1 xs ps h hl he => exact .inl (seq (.inr (s.tup h)) ⟨hl, he⟩ o)
  | @lst a1 xs ps h hl he => exact .inl (seq (.inl (s.seq h)) ⟨hl, he⟩ o)
  | str j =>
    cases r1 <;> first | exact (show False from o).elim | skip
    exact .inr ⟨_, j, rfl, rfl, Out.now (Rel := Rp) o s (.bl _)⟩
  | _ => exact (show False from o).elim
theorem ppt_in (ha : PP X a ga) (hb : PP X b gb) (hm : behindInMarks .In b = false := by rfl) : PPT X (.Compare a [.In] [b] pos) (bB (b2 (inP false) ga gb)) := ppt_cmp (op_in_seq.or op_in_str) (opP_in false) ha hb hm
def rSlS : V → Option Int → Option Int → Hp → VK → Prop := fun x lo hi H Q => ∃ z, x = .str z ∧ z.length ≤ sizeLine ∧ Q (.str (Txt.slice z lo hi)) H
def slSP : PV → Option Int → Option Int → Res PV := fun p lo hi => match p with
  | .str z => if z.length ≤ sizeLine then .ok (.str (Txt.slice z lo hi)) else .bad
  | _ => .bad
def eSlS (g : PEnv → Res PV) (l h : PEnv → Res (Option Int)) : PEnv → Res PV := fun ρ => (g ρ).bind fun x => (l ρ).bind fun lo => (h ρ).bind fun hi => slSP x lo hi
def fSplit (g h : PEnv → Res PV) : PEnv → Res (List PV) := fun ρ => (eM1 splitP g h ρ).bind fun x => match x with
  | .lst ys => .ok ys
  | _ => .bad
end
end L2
namespace L2
open PySem PySem.Builtin PySem.Builtin.Str PySem.StrLaws
def cut1 (y : List Nat) : List Nat → Option (List Nat × List Nat)
  | [] => if ([] : List Nat).take y.length = y then some ([], []) else none
  | c :: r => if (c :: r).take y.length = y then some ([], (c :: r).drop y.length) else (cut1 y r).map fun p => (c :: p.1, p.2)
def splitF (y : List Nat) : Nat → List Nat → List (List Nat)
  | 0, x => [x]
  | n + 1, x => match cut1 y x with
    | none => [x]
    | some (a, b) => a :: splitF y n b
def splitG (y x : List Nat) : List (List Nat) := splitF y (x.length + 1) x
end L2
namespace PySem
open PySem.Spec PyProof.Rows
end PySem
namespace L2
open PySem PySem.Spec PyProof.Rows
section
variable {X : Cx} {pos : Pos} {a b : Expr} {ga gb : PEnv → Res PV}
def rRepT0 (K : PySem.W.Frag) : R2 := fun x y H Q => ∃ a xs, x = .ref a ∧ y = .int 0 ∧ SqT K H a xs ∧ 0 < xs.length ∧ ∀ p, H p = none → Q (.ref p) (upd H p (.tup []))
def mulZ : PV → PV → Res PV := fun p q => match p, q with
  | .tup xs, .int k => if k = 0 then (if 0 < xs.length then .ok (.tup []) else .bad) else mulQ (.tup xs) (.int k)
  | _, _ => .bad
end
end L2
namespace L2
open PySem PySem.Spec PyProof.Rows
section
variable {κ : Type} [DecidableEq κ]
def valV (kvs : List (κ × V)) (k : κ) : Option V := (kvs.find? fun kv => decide (kv.1 = k)).map (·.2)
def putK (kvs : List (κ × V)) (k : κ) (v : V) : List (κ × V) :=
  if (kvs.any fun kv => decide (kv.1 = k)) = true then kvs.map (fun kv => if kv.1 = k then (kv.1, v) else kv) else kvs ++ [(k, v)]
def dropK (kvs : List (κ × V)) (k : κ) : List (κ × V) := kvs.filter fun kv => decide (kv.1 ≠ k)
theorem length_putK (kvs : List (κ × V)) (k : κ) (v : V) : (putK kvs k v).length ≤ kvs.length + 1 := by
  unfold putK
  split
  · rw [List.length_map]; omega
  · rw [List.length_append, List.length_cons, List.length_nil]; omega
theorem KV.any {kvs : List (κ × V)} {vs : List (κ × Value)} (r : KV kvs vs) (k : κ) : (kvs.any fun kv => decide (kv.1 = k)) = vs.any fun kv => decide (kv.1 = k) := by
  unfold KV at r
  induction r with
  | nil => rfl
  | cons h t ih => rw [List.any_cons, List.any_cons, ih, h.1]
theorem KV.repl {kvs : List (κ × V)} {vs : List (κ × Value)} (r : KV kvs vs) (k : κ) {y : V} {u : Value} (ry : RelV y u) :
    KV (kvs.map fun kv => if kv.1 = k then (kv.1, y) else kv) (vs.map fun kv => if kv.1 = k then (kv.1, u) else kv) := by
  unfold KV at r ⊢
  induction r with
  | nil => exact .nil
  | @cons p q ps qs h t ih =>
    rw [List.map_cons, List.map_cons]
    refine .cons ?_ ih
    obtain ⟨h1, h2⟩ := h
    by_cases e : p.1 = k
    · rw [if_pos e, if_pos (h1.symm.trans e)]; exact ⟨h1, ry⟩
    · rw [if_neg e, if_neg (fun z => e (h1.trans z))]; exact ⟨h1, h2⟩
theorem KV.put {kvs : List (κ × V)} {vs : List (κ × Value)} (r : KV kvs vs) (k : κ) {y : V} {u : Value} (ry : RelV y u) : KV (putK kvs k y) (stored vs k u) := by
  unfold putK stored
  rw [r.any k]
  by_cases e : (vs.any fun kv => decide (kv.1 = k)) = true
  · rw [if_pos e, if_pos e]; exact r.repl k ry
  · rw [if_neg e, if_neg e]; exact Paired.snoc r ⟨rfl, ry⟩
end
theorem kV_is {P : Program} {w : World} {k : Key} {u : Value} (r : RelV (kV k) u) : (mixKind P w).is k u = true := by
  cases k with
  | inl i => obtain ⟨t, e⟩ := (show ∃ t, u = Value.int i t from r); subst e; exact mixKind_int P w i t
  | inr x => obtain ⟨t, e⟩ := (show ∃ t, u = Value.str x t from r); subst e; exact mixKind_str P w x t
abbrev KT (H : Hp) : List (List Key × V) → List (List Key × Addr × Value) → Prop := Paired fun p q => p.1 = q.1 ∧ H q.2.1 = some (.tup (p.1.map kV)) ∧ RelV p.2 q.2.2
section
variable {P : Program} {w : World} {H : Hp} {h : Heap} {a : Addr}
theorem rd_of {u : HO} (ok : HOk P w H h) (e : Rd H a u) : ObjOk P w H h a u := e.ok ok
theorem dk_rd {kvs : List (Key × V)} (ok : HOk P w H h) (e : Rd H a (.dK kvs)) : kvs.length ≤ sizeLine ∧ (a == sysModules) = false ∧ ∃ vs, KV kvs vs ∧ h.DictOf (mixKind P w) a vs :=
  show ObjOk P w H h a (.dK kvs) from rd_of ok e
theorem dk_of {kvs : List (Key × V)} (ok : HOk P w H h) (e : H a = some (.dK kvs)) : kvs.length ≤ sizeLine ∧ (a == sysModules) = false ∧ ∃ vs, KV kvs vs ∧ h.DictOf (mixKind P w) a vs := dk_rd ok (.inl e)
end
def DGet (H : Hp) (a : Addr) (y : V) (r : Option V) : Prop :=
  (∃ kvs k, Rd H a (.dK kvs) ∧ y = kV k ∧ r = valV kvs k) ∨ ∃ kvs k b, Rd H a (.dT kvs) ∧ y = .ref b ∧ H b = some (.tup (k.map kV)) ∧ r = valV kvs k
def DPut (H : Hp) (a : Addr) (y v : V) (H' : Hp) : Prop :=
  (∃ kvs k, H a = some (.dK kvs) ∧ y = kV k ∧ kvs.length < sizeLine ∧ H' = upd H a (.dK (putK kvs k v))) ∨
  ∃ kvs k b, H a = some (.dT kvs) ∧ y = .ref b ∧ H b = some (.tup (k.map kV)) ∧ kvs.length < sizeLine ∧ H' = upd H a (.dT (putK kvs k v))
section
variable {X : Cx} {pins : List (Addr × Obj)} {σ : St} {H : Hp} {s : Shared} {a : Addr} {y v : V} {u r : Value} {o : Option V} {A : Around} {E : Value → Shared → Prop}
theorem Inv.big (I : Inv X pins σ H s) : sysModules < s.heap.objs.size := by
  have h : mainGlobals < s.heap.objs.size := (I.mod.glob.keeps I.bk).lt
  exact Nat.lt_trans (by decide) h
theorem d_write {h' : Heap} {t' : Nat} {ob : HO} (I : Inv X pins σ H s) (mu : Mut (H a)) (hs : Heap.SameBut a s.heap h') (he : ∃ q, h'.get? a = some q) (new : ObjOk X.prog X.w (upd H a ob) h' a ob) :
    Inv X pins σ (upd H a ob) { s with heap := h', toks := t' } :=
  I.write (x := a) (e := a) mu (.inl rfl) (fun b q hb z => (hs.2 b hb).trans z) he new
theorem dk_new {P : Program} {w : World} {H' : Hp} {h' : Heap} {kvs : List (Key × V)} {vs : List (Key × Value)} (z : kvs.length ≤ sizeLine) (hd : (a == sysModules) = false) (rel : KV kvs vs) (dd : h'.DictOf (mixKind P w) a vs) :
    ObjOk P w H' h' a (.dK kvs) := ⟨z, hd, vs, rel, dd⟩
end
section
variable {X : Cx} {pins : List (Addr × Obj)} {σ : St} {H : Hp} {s : Shared} {a : Addr} {kvs : List (Key × V)} {k : Key} {u : Value} {A : Around} {E : Value → Shared → Prop}
end
def NoSl (i : Expr) : Prop := ∀ ov iv, subscripted i false ov iv = operate [ov, iv] (getItem ov iv)
def tDGet (td ty : TE) : TE := fun σ H Q => td σ H fun x H1 => ty σ H1 fun y H2 => ∃ a v, x = .ref a ∧ DGet H2 a y (some v) ∧ Q v H2
def tDIn (ty td : TE) : TE := fun σ H Q => ty σ H fun y H1 => td σ H1 fun x H2 => ∃ a o, x = .ref a ∧ DGet H2 a y o ∧ Q (.bl o.isSome) H2
def tDNotIn (ty td : TE) : TE := fun σ H Q => ty σ H fun y H1 => td σ H1 fun x H2 => ∃ a o, x = .ref a ∧ DGet H2 a y o ∧ Q (.bl (!o.isSome)) H2
def sDPut (td ty tv : TE) : TS := fun D σ H => tv σ H fun v H1 => td σ H1 fun x H2 => ty σ H2 fun y H3 => ∃ a H4, x = .ref a ∧ DPut H3 a y v H4 ∧ D.nx σ H4
def sDAug (td ty tv : TE) (rd : V → V → Hp → VK → Prop) : TS := fun D σ H => td σ H fun x H1 => ty σ H1 fun y H2 => ∃ a v, x = .ref a ∧ DGet H2 a y (some v) ∧
  tv σ H2 fun y2 H3 => rd v y2 H3 fun z H4 => ∃ H5, DPut H4 a y z H5 ∧ D.nx σ H5
def sDDel (td ty : TE) : TS := fun D σ H => td σ H fun x H1 => ty σ H1 fun y H2 => ∃ a kvs k, x = .ref a ∧ H2 a = some (.dK kvs) ∧ y = kV k ∧ (valV kvs k).isSome = true ∧ D.nx σ (upd H2 a (.dK (dropK kvs k)))
section
variable {X : Cx} {o i e value : Expr} {pos pos' tpos : Pos} {td ty tv : TE}
end
theorem dk_empty {P : Program} {w : World} {H : Hp} (h : Heap) (hb : sysModules < h.objs.size) : ObjOk P w H (h.push { cls := .type "dict", data := .dict #[] }) h.objs.size (.dK []) :=
  ⟨Nat.zero_le _, beq_eq_false_iff_ne.mpr (Ne.symm (Nat.ne_of_lt hb)), [], .nil, Heap.DictOf.new h⟩
def tDNewK : TE := fun _ H Q => ∀ p, H p = none → Q (.ref p) (upd H p (.dK []))
def tDNewT : TE := fun _ H Q => ∀ p, H p = none → Q (.ref p) (upd H p (.dT []))
section
variable {X : Cx} {pos : Pos}
end
def tPairs : List (TE × TE) → St → Hp → (List (V × V) → Hp → Prop) → Prop
  | [], _, H, Q => Q [] H
  | (tk, tv) :: r, σ, H, Q => tk σ H fun x H1 => tv σ H1 fun y H2 => tPairs r σ H2 fun ps H3 => Q ((x, y) :: ps) H3
abbrev VV : List (V × V) → List (Value × Value) → Prop := Paired fun p q => RelV p.1 q.1 ∧ RelV p.2 q.2
def PPs (X : Cx) (pos : Pos) (keys : List (Option Expr)) (values : List Expr) (trs : List (TE × TE)) : Prop :=
  ∀ (pins : List (Addr × Obj)) (s : Shared) (σ : St) (H : Hp) (Q : List (V × V) → Hp → Prop), Inv X pins σ H s → tPairs trs σ H Q →
    wpAny (model X.prog X.w) X.A (evalPairs (pairTrees keys values X.env pos)) (fun vs s' => ∃ ps H', Inv X pins σ H' s' ∧ VV ps vs ∧ Q ps H') X.xe s
theorem pps_nil {X : Cx} {pos : Pos} : PPs X pos [] [] [] := fun pins s σ H Q I h => pairTrees_nil_walk ⟨[], H, I, .nil, h⟩
theorem pps_cons {X : Cx} {pos : Pos} {k v : Expr} {ks : List (Option Expr)} {vs : List Expr} {tk tv : TE} {trs : List (TE × TE)} (hk : PE X k tk) (hv : PE X v tv) (hr : PPs X pos ks vs trs) :
    PPs X pos (some k :: ks) (v :: vs) ((tk, tv) :: trs) := fun pins s σ H Q I h =>
  pairTrees_cons_walk (thn (hk pins s σ H _ I h) fun u s1 ⟨x, H1, I1, rx, q1⟩ => thn (hv pins s1 σ H1 _ I1 q1) fun w2 s2 ⟨y, H2, I2, ry, q2⟩ =>
    thn (hr pins s2 σ H2 _ I2 q2) fun ws s3 ⟨ps, H3, I3, rel, q3⟩ => ⟨(x, y) :: ps, H3, I3, .cons ⟨rx, ry⟩ rel, q3⟩)
def mergeK (kvs more : List (Key × V)) : List (Key × V) := more.foldl (fun acc kv => putK acc kv.1 kv.2) kvs
theorem KV.merge : ∀ {more : List (Key × V)} {rs : List (Key × Value)} {kvs : List (Key × V)} {vs : List (Key × Value)}, KV more rs → KV kvs vs → KV (mergeK kvs more) (merged vs rs) := by
  intro more rs kvs vs r
  unfold KV at r
  induction r generalizing kvs vs with
  | nil => intro q; exact q
  | @cons p q ps qs h t ih =>
    intro r0
    have e : KV (putK kvs p.1 p.2) (stored vs q.1 q.2) := by
      have := r0.put p.1 h.2
      rw [← h.1]; exact this
    exact ih e
theorem length_mergeK : ∀ (more kvs : List (Key × V)), (mergeK kvs more).length ≤ kvs.length + more.length
  | [], kvs => by show kvs.length ≤ kvs.length + 0; omega
  | p :: r, kvs => by
    have h1 := length_mergeK r (putK kvs p.1 p.2)
    have h2 := length_putK kvs p.1 p.2
    show (mergeK (putK kvs p.1 p.2) r).length ≤ _
    rw [List.length_cons]; omega
theorem carries_of {P : Program} {w : World} : ∀ {kvs : List (Key × V)} {ws : List (Value × Value)}, VV (kvs.map fun kv => (kV kv.1, kv.2)) ws → ∃ rs, Carries (mixKind P w) ws rs ∧ KV kvs rs
  | [], _, r => by rw [List.map_nil] at r; cases r; exact ⟨[], True.intro, .nil⟩
  | p :: kvs, _, r => by
    rw [List.map_cons] at r
    cases r with
    | @cons a b as bs h t =>
      obtain ⟨rs, c, q⟩ := carries_of (P := P) (w := w) t
      obtain ⟨b1, b2⟩ := b
      exact ⟨(p.1, b2) :: rs, ⟨kV_is h.1, rfl, c⟩, .cons ⟨rfl, h.2⟩ q⟩
def tDisp (trs : List (TE × TE)) : TE := fun σ H Q => ∀ p, H p = none → tPairs trs σ (upd H p (.dK [])) fun ps H2 => H2 p = some (.dK []) ∧ ∃ kvs : List (Key × V), ps = kvs.map (fun kv => (kV kv.1, kv.2)) ∧ kvs.length ≤ 15 ∧ Q (.ref p) (upd H2 p (.dK (mergeK [] kvs)))
theorem pe_disp {X : Cx} {pos : Pos} {keys : List (Option Expr)} {values : List Expr} {trs : List (TE × TE)} (h : PPs X pos keys values trs) (hall : keys.all (·.isSome) = true) (hl : keys.length = values.length) (h0 : keys ≠ [])
    (h15 : keys.length ≤ 15) : PE X (.Dict keys values pos) (tDisp trs) := by
  intro pins s σ H Q I q
  have hn := I.hok.fresh (Nat.le_refl s.heap.objs.size)
  have I1 := I.laid (a := s.heap.objs.size) (o := .dK []) (h' := s.heap.push { cls := .type "dict", data := .dict #[] }) (t' := s.toks) (fun _ _ q => Heap.get?_push_of_some _ q) (Nat.le_refl _) (dk_empty s.heap I.big)
  refine wpAny_Dict_walk (knd := mixKind X.prog X.w) hall hl h0 h15 (thn (h pins _ σ _ _ I1 (q _ hn)) fun ws s2 ⟨ps, H2, I2, rel, e, kvs, ep, lk, q2⟩ => ?_)
  subst ep
  obtain ⟨rs, c, rk⟩ := carries_of (P := X.prog) (w := X.w) rel
  obtain ⟨z, hd, vs0, r0, dd⟩ := dk_of I2.hok e
  cases r0
  refine ⟨rs, c, dd, fun h' dd' hs => ⟨.ref s.heap.objs.size, _, ?_, rfl, q2⟩⟩
  have hz : (mergeK [] kvs).length ≤ sizeLine := by
    have h1 := length_mergeK kvs []
    rw [List.length_nil] at h1
    rw [sizeLine_eq]; omega
  have he : ∃ q, h'.get? s.heap.objs.size = some q := let ⟨q, _, _, hq, _⟩ := dd'; ⟨q, hq⟩
  exact d_write I2 (by rw [e]; exact True.intro) hs he (dk_new hz hd (rk.merge .nil) dd')
structure M1 (X : Cx) (o : Expr) (m : Str) (apos : Pos) (e : Expr) (cpos : Pos) : Prop where
  base : attributeBase o m X.env (eval o X.env) = eval o X.env
  few : ((backTo cpos (starEach [e] X.env)).all (fun x => !x.1) && (backToKw cpos (keywordEach [] X.env)).all (fun x => x.1.isSome)
    && decide (([e] : List Expr).length + ([] : List Keyword).length + (if ([] : List Keyword).isEmpty then 0 else 1) < 30)) = true
  line : (apos.endLine == cpos.line) = true
  trees : backTo cpos (starEach [e] X.env) = [(false, eval e X.env)]
structure M2 (X : Cx) (o : Expr) (m : Str) (apos : Pos) (e f : Expr) (cpos : Pos) : Prop where
  base : attributeBase o m X.env (eval o X.env) = eval o X.env
  few : ((backTo cpos (starEach [e, f] X.env)).all (fun x => !x.1) && (backToKw cpos (keywordEach [] X.env)).all (fun x => x.1.isSome)
    && decide (([e, f] : List Expr).length + ([] : List Keyword).length + (if ([] : List Keyword).isEmpty then 0 else 1) < 30)) = true
  line : (apos.endLine == cpos.line) = true
  trees : backTo cpos (starEach [e, f] X.env) = [(false, eval e X.env), (false, eval f X.env)]
def IsD (H : Hp) (a : Addr) : Prop := (∃ kvs, Rd H a (.dK kvs)) ∨ ∃ kvs, Rd H a (.dT kvs)
section
variable {X : Cx} {pins : List (Addr × Obj)} {σ : St} {H : Hp} {s : Shared} {a : Addr} {y d : V} {u r : Value} {o : Option V} {A : Around} {E : Value → Shared → Prop}
end
def tDGet1 (td ty : TE) : TE := fun σ H Q => td σ H fun x H1 => ∃ a, x = .ref a ∧ IsD H1 a ∧ ty σ H1 fun y H2 => ∃ o, DGet H2 a y o ∧ Q (o.getD .non) H2
def tDGet2 (td ty tx : TE) : TE := fun σ H Q => td σ H fun x H1 => ∃ a, x = .ref a ∧ IsD H1 a ∧ ty σ H1 fun y H2 => tx σ H2 fun z H3 => ∃ o, DGet H3 a y o ∧ Q (o.getD z) H3
def tDPop1 (td ty : TE) : TE := fun σ H Q => td σ H fun x H1 => ∃ a, x = .ref a ∧ IsD H1 a ∧ ty σ H1 fun y H2 => ∃ kvs k v, H2 a = some (.dK kvs) ∧ y = kV k ∧ valV kvs k = some v ∧ Q v (upd H2 a (.dK (dropK kvs k)))
def tDPop2 (td ty tx : TE) : TE := fun σ H Q => td σ H fun x H1 => ∃ a, x = .ref a ∧ IsD H1 a ∧ ty σ H1 fun y H2 => tx σ H2 fun z H3 => ∃ kvs k, H3 a = some (.dK kvs) ∧ y = kV k ∧
  (∀ v, valV kvs k = some v → Q v (upd H3 a (.dK (dropK kvs k)))) ∧ (valV kvs k = none → Q z H3)
section
variable {X : Cx} {o e f : Expr} {apos cpos : Pos} {td ty tx : TE}
end
section
variable {X : Cx} {pins : List (Addr × Obj)} {σ : St} {H : Hp} {s : Shared} {a : Addr} {kvs : List (Key × V)} {A : Around} {E : Value → Shared → Prop}
end
section
variable {X : Cx} {pins : List (Addr × Obj)} {σ : St} {H : Hp} {s : Shared} {a : Addr} {y : V} {u : Value} {A : Around} {E : Value → Shared → Prop}
end
end L2
namespace L2
open PySem PySem.Spec PyProof.Rows
section
variable {X : Cx} {pos : Pos}
theorem pp_dic1 {i : Int} {b : Bool} {j k : Nat} {p1 p2 : Pos} : PP X (.Dict [some (.Constant (.int i) j p1)] [.Constant (.bool b) k p2] pos) (cst .dic) := by
  refine PE_mono (pe_disp (pps_cons pe_int pe_bl pps_nil) rfl rfl (by simp) (by simp)) fun σ H Q ⟨Z, B, ρ, s, re, o⟩ => fun p n => ?_
  refine ⟨upd_same, [(Sum.inl i, V.bl b)], rfl, by simp, ?_⟩
  rw [upd_upd]
  exact o _ _ _ (Ext.new s n) (.dic upd_same)
end
end L2
namespace PySem.W
open PySem PySem.Spec PySem.Calls PyProof.Rows
section
variable {prog : Program} {w : World} {A : Around} {E : Value → Shared → Prop} {s : Shared} {K : Frag} {x C : Addr} {ox : Obj} {od : Option Obj}
theorem findObj_dataO {name : Str} {a g : Value} (hc : (clsIn K C).isSome = true) (ha : findIn K (.ref C) name = some (some a)) (hg : specialIn K a "__get__" = some (some g)) (ht : takesIn K a = some true) : findObj K C od name = some (.bind g a) := by
  obtain ⟨cd, hc⟩ := Option.isSome_iff_exists.mp hc
  unfold findObj
  rw [hc, Option.bind_some, ha, Option.bind_some]
  simp [hg, ht]
theorem exc_class {Q : Option Value → Shared → Prop} (X : K.In s.heap) (I : InstAt s.heap x ox C od) (hga : findIn K (.ref C) "__getattribute__" = some (some (.builtin "BaseException.__getattribute__"))) (hgh : findIn K (.ref C) "__getattr__" = some none)
    (hin : mroIn K C (.type "BaseException") = some true) (hf : findObj K C od "__class__" = some (.bind (.builtin "getset_descriptor.__get__") (.builtin "object.__class__"))) (hm : mroIn K C (.type "object") = some true)
    (h : Q (some (.ref C)) { s with toks := s.toks + 1 }) : wpAny (model prog w) A (getAttr? (.ref x) "__class__") Q E s := by
  obtain ⟨h', g, d, t, os⟩ := s
  have L0 := I.type (M := model prog w)
  have L1 := looks_findIn (M := model prog w) X hga
  have L2 := looks_findIn (M := model prog w) X hgh
  have L3 := looks_find (M := model prog w) X I hf
  have L4 := looks_mroIn (M := model prog w) X hin
  have hx2 : (Value.builtin "BaseException.__getattribute__" == Value.builtin "object.__getattribute__") = false := by decide +kernel
  unfold getAttr? getAttrBy? getAttrBy
  refine wpAny_bind (wpAny_mkText (wpAny_bind (wpAny_attempt (wpAny_holding (wpAny_bind (L0.at (wpAny_bind (L1.at ?_))))))))
  dsimp only
  rw [hx2, Bool.and_false, if_neg Bool.false_ne_true]
  unfold getAttrByItsOwn hookBefore
  refine wpAny_bind (L2.at ?_)
  unfold callGetattribute
  have hx0 : (false && onTheHeap (Value.builtin "BaseException.__getattribute__")) = false := rfl
  rw [hx0, if_neg Bool.false_ne_true]
  unfold boundAndCalled
  have SFg := PySem.F.attrBase_ValueError.ga
  refine wpAny_bind (wpAny_attempt (wpAny_holding ?_))
  rw [SFg.bind]
  refine wpAny_bind (wpAny_pure ?_)
  have sub : Looks (model prog w) h' (isInstance (.ref x) (.type "BaseException")) true := L0.andThen L4
  have hk : builtinKind "BaseException.__getattribute__" = some .slot := by decide +kernel
  have hsplit : splitId "BaseException.__getattribute__" = some ("BaseException", "__getattribute__") := by decide +kernel
  refine wpAny_call (codeAny_call_builtin SFg.plain PySem.F.entry_bexc_ga (@check_slot (model prog w) _ _ _ "BaseException.__getattribute__" "BaseException" "__getattribute__" (.ref x) [.str "__class__" t] [] _ hk hsplit sub (PySem.F.args_bexc_ga (.ref x) (.str "__class__" t)) ?_))
  unfold Builtin.«object.__getattribute__»
  refine wpAny_bind (wpAny_pure ?_)
  refine wpAny_bind (wpAny_pure ?_)
  refine wpAny_bind (L0.at (wpAny_bind (L3.at ?_)))
  dsimp only
  show wpAny _ _ (holding [Value.builtin "object.__class__"] (call (.builtin "getset_descriptor.__get__") [.builtin "object.__class__", .ref x, .ref C]) >>= ret) _ _ _
  refine wpAny_bind (wpAny_holding (wpAny_call (class_get (s := ⟨h', g, d, t + 1, os⟩) (ox := ox) (od := od) X I hm (wpAny_pure ?_))))
  show wpAny _ _ (handedOut (.ref C)) _ _ _
  rw [handedOut_of (show handedIn (.ref C) = true from rfl)]
  exact wpAny_pure (wpAny_pure h)
theorem kitx_exc (hc : (clsIn K C).isSome = true) (hga : findIn K (.ref C) "__getattribute__" = some (some (.builtin "BaseException.__getattribute__"))) (hgh : findIn K (.ref C) "__getattr__" = some none) (hin : mroIn K C (.type "BaseException") = some true)
    (ha : findIn K (.ref C) "__class__" = some (some (.builtin "object.__class__"))) (hn : specialIn K (.builtin "object.__class__") "__get__" = some (some (.builtin "getset_descriptor.__get__"))) (htk : takesIn K (.builtin "object.__class__") = some true) (hm : mroIn K C (.type "object") = some true) :
    KitX K (.ref x) (.ref C) (L2.excφ x C none) where
  ty := fun M h _ p => L2.excφ_ty M h p
  it := fun _ _ X _ => by
    obtain ⟨cdD, hcD⟩ := Option.isSome_iff_exists.mp hc
    unfold clsIn at hcD
    split at hcD
    · rename_i c' d' cd' sl' ho
      intro A' Q' E' s' k q
      unfold isType loadHead
      exact wpAny_bind (wpAny_loadPart (k _ _ (X _ _ ho)) (wpAny_pure q))
    · cases hcD
  ne := fun h tp dd its n sl X htp => by
    obtain ⟨cdD, hcD⟩ := Option.isSome_iff_exists.mp hc
    refine Bool.eq_false_iff.mpr fun q => ?_
    have e : C = tp := Value.ref.inj (beq_iff_eq.mp q)
    subst e
    unfold clsIn at hcD
    split at hcD
    · rename_i c' d' cd' sl' ho
      have z := (X _ _ ho).symm.trans htp
      cases z
    · cases hcD
  ca := fun {_ _ _ _ _ s} X p k => by
    obtain ⟨o, vs, h1, h2, h3, h4⟩ := p
    have IA : InstAt s.heap x o C none := ⟨h1, h2, by unfold notCls; rw [h3], by rw [h4]; trivial⟩
    exact exc_class X IA hga hgh hin (findObj_dataO hc ha hn htk) hm k
end
end PySem.W
namespace L2
open PySem PySem.Spec PyProof.Rows
def ClsX (K : PySem.W.Frag) (c : Str) : Prop := ∀ C, PySem.W.nsIn K mainGlobals c = some (some (.ref C)) → (PySem.W.clsIn K C).isSome = true ∧ PySem.W.findIn K (.ref C) "__getattribute__" = some (some (.builtin "BaseException.__getattribute__")) ∧ PySem.W.findIn K (.ref C) "__getattr__" = some none ∧ PySem.W.mroIn K C (.type "BaseException") = some true ∧
  PySem.W.findIn K (.ref C) "__class__" = some (some (.builtin "object.__class__")) ∧ PySem.W.mroIn K C (.type "object") = some true
structure ClsK (K : PySem.W.Frag) (tbl : List Str) : Prop where
  g : PySem.W.specialIn K (.builtin "object.__class__") "__get__" = some (some (.builtin "getset_descriptor.__get__"))
  t : PySem.W.takesIn K (.builtin "object.__class__") = some true
  c : ∀ c ∈ tbl, ClsX K c
def AnsK (K : PySem.W.Frag) (tbl : List (Str × Bool)) (cv : Value) : Prop := ∀ cb ∈ tbl, ∀ C, PySem.W.nsIn K mainGlobals cb.1 = some (some (.ref C)) → PySem.W.kitOne K (.ref C) cv = some cb.2
theorem ans_nil {K : PySem.W.Frag} {cv : Value} : AnsK K [] cv := fun c hc => by simp at hc
theorem ans_cons {K : PySem.W.Frag} {cv : Value} {c : Str} {b : Bool} {C : Addr} {tbl : List (Str × Bool)} (h1 : PySem.W.nsIn K mainGlobals c = some (some (.ref C))) (h2 : PySem.W.kitOne K (.ref C) cv = some b) (h3 : AnsK K tbl cv) : AnsK K ((c, b) :: tbl) cv := fun d hd C' q => by
  rcases List.mem_cons.mp hd with rfl | hd
  · rw [h1] at q; cases q; exact h2
  · exact h3 d hd C' q
section
variable {X : Cx} {pos : Pos}
theorem call_isY {v : V} {cv : Value} (rv : ∀ u, RelV v u → u = cv) : CallR X (.builtin "isinstance") (fun xs H Q => ∃ a C b, xs = [.ref a, v] ∧ H a = some (.ext (excφ a C none)) ∧ PySem.W.KitX X.K (.ref a) (.ref C) (excφ a C none) ∧ PySem.W.kitOne X.K (.ref C) cv = some b ∧ Q (.bl b) H) := by
  intro pins s σ H xs us Q I r h
  obtain ⟨a, C, b, rfl, hH, kx, e, q⟩ := h
  obtain ⟨u, w', rfl, r1, r2⟩ := vals2 r
  cases r1
  have e2 := rv _ r2
  subst e2
  have p : excφ a C none s.heap := by
    have z := I.hok a _ hH
    obtain ⟨z1, _⟩ := z
    exact z1
  exact PySem.W.kia_one kx I.kIn p e (fun z => nomatch z) fun tk => ⟨.bl b, H, I.tok tk, rfl, q⟩
def isY (i : Nat) (tbl : List (Str × Bool)) : PEnv → Res PV := fun ρ => match ρ[i]? with
  | some (.exc c) => match c.fo, tbl.lookup c.cls with
    | none, some b => .ok (.bl b)
    | _, _ => .bad
  | _ => .bad
theorem lookup_mem' {α : Type} {k : Str} {v : α} : ∀ {l : List (Str × α)}, l.lookup k = some v → (k, v) ∈ l
  | [], h => by simp at h
  | (a, b) :: r, h => by
    rw [List.lookup_cons] at h
    cases q : k == a with
    | true => rw [q] at h; cases h; rw [eq_of_beq q]; exact List.mem_cons_self
    | false => rw [q] at h; exact List.mem_cons_of_mem _ (lookup_mem' h)
theorem pp_isY (i : Nat) {x n : Str} {tbl : List (Str × Bool)} {v : V} {cv : Value} {p p1 p2 : Pos} (hg : Gl X "isinstance") (hm : X.mg "isinstance" = none) (hC : PE X (.Name n p2) (tC v)) (rv : ∀ u, RelV v u → u = cv) (hc : ClsK X.K (tbl.map (·.1))) (hk : AnsK X.K tbl cv)
    (hN : X.N[i]? = some x := by rfl) (hv : Vis X.env.scope x := by first | exact Or.inl rfl | exact Or.inr (Or.inl rfl) | exact Or.inr (Or.inr rfl)) (hd : (x == ("__debug__" : Str)) = false := by decide) (hcd : (x == ("__classdict__" : Str)) = false := by decide)
    (hs : starEach [.Name x p1, .Name n p2] X.env = (false, eval (.Name x p1) X.env) :: starEach [.Name n p2] X.env := by rfl) (hpl : (backTo pos (starEach [.Name n p2] X.env)).any (·.1) = false := by rfl) : PP X (.Call (.Name "isinstance" p) [.Name x p1, .Name n p2] [] pos) (isY i tbl) := by
  refine PE_mono (pe_callB (call_isY rv) hg hm bt_isinstance (pa_cons (pe_var hN hv hd hcd) (pa_cons hC pa_nil) hs) (by decide) (by decide) hs hpl) fun σ H Q ⟨Z, B, ρ, s, re, o⟩ => ?_
  unfold isY at o
  split at o
  case h_2 => exact (show False from o).elim
  rename_i c he
  obtain ⟨a, C, h1, h2, h3, h4, D, h5, h6⟩ := re.exc i c he
  split at o
  · rename_i b hfo hl
    rw [hfo] at h6
    have h6 : D = none := h6
    subst h6
    have hmem := lookup_mem' hl
    obtain ⟨k1, k2, k3, k4, k5, k6⟩ := hc.c c.cls (List.mem_map.mpr ⟨_, hmem, rfl⟩) C h4
    exact ⟨.ref a, h1, a, C, b, rfl, h5, PySem.W.kitx_exc k1 k2 k3 k4 k5 hc.g hc.t k6, hk _ hmem C h4, Out.now (Rel := Rp) o s (.bl _)⟩
  · exact (show False from o).elim
theorem pp_isYC (i : Nat) {x n : Str} {tbl : List (Str × Bool)} {p p1 p2 : Pos} (hg : Gl X "isinstance") (hm : X.mg "isinstance" = none) (hc : ClsK X.K (tbl.map (·.1))) (hk : ∃ C, X.mg n = some (.ref C) ∧ AnsK X.K tbl (.ref C)) (hgn : Gl X n := by rfl) (hdn : (n == ("__debug__" : Str)) = false := by decide)
    (hN : X.N[i]? = some x := by rfl) (hv : Vis X.env.scope x := by first | exact Or.inl rfl | exact Or.inr (Or.inl rfl) | exact Or.inr (Or.inr rfl)) (hd : (x == ("__debug__" : Str)) = false := by decide) (hcd : (x == ("__classdict__" : Str)) = false := by decide)
    (hs : starEach [.Name x p1, .Name n p2] X.env = (false, eval (.Name x p1) X.env) :: starEach [.Name n p2] X.env := by rfl) (hpl : (backTo pos (starEach [.Name n p2] X.env)).any (·.1) = false := by rfl) : PP X (.Call (.Name "isinstance" p) [.Name x p1, .Name n p2] [] pos) (isY i tbl) := by
  obtain ⟨C, h1, h2⟩ := hk
  exact pp_isY i hg hm (pe_glob (v := .ref C) hgn h1 rfl hdn) (fun _ r => r) hc h2 hN hv hd hcd hs hpl
end
end L2
namespace L2
open PySem PySem.Spec PyProof.Rows
section
variable {X : Cx} {a b o e : Expr} {ga go : PEnv → Res PV} {pos apos cpos : Pos}
theorem count_eqU {x : V} : ∀ {xs : List V} {us : List Value}, Vals xs us → xs.all flatV = true → us.countP (eqU x) = xs.countP fun y => eqV y x
  | _, _, .nil, _ => rfl
  | y :: xs, u :: us, .cons r t, f => by
    rw [List.all_cons, Bool.and_eq_true] at f
    rw [List.countP_cons, List.countP_cons, eqU_of r f.1, count_eqU t f.2]
def rCount (K : PySem.W.Frag) : V → List V → Hp → VK → Prop := fun x xs H Q => ∃ p y zs, x = .ref p ∧ xs = [y] ∧ SqL K H p zs ∧ flatV y = true ∧ zs.all flatV = true ∧ Q (.int (zs.countP fun z => eqV z y : Nat)) H
theorem mt_count : MtR X "list.count" (rCount X.K) := by
  intro pins s σ H x xs v us Q I rx r h
  obtain ⟨p, y, zs, rfl, rfl, hp, fy, fs, q⟩ := h
  cases rx
  obtain ⟨w, rfl, rw'⟩ := vals1 r
  obtain ⟨its, r', pl, hz⟩ := I.list hp
  obtain ⟨⟨cls, dd, data, sl⟩, ho, hc, n, hd⟩ := id pl.isList
  simp only at hc hd
  subst hc hd
  refine call_meets F.slot_list_count ⟨_, ho, rfl⟩ F.entry_list_count (F.args_list_count_2 _ _) (SeqAt.list_countAt p its.toArray n dd sl w (eqU y)) ⟨ho, fun z hw => mem_eqAt rw' fy r' fs z (by simpa using hw), ?_⟩
  refine ⟨.int _, H, I.tok _, ⟨_, rfl⟩, ?_⟩
  rw [show its.toArray.toList.countP (eqU y) = its.countP (eqU y) by simp, count_eqU r' fs]
  exact q
def rIndex (K : PySem.W.Frag) : V → List V → Hp → VK → Prop := fun x xs H Q => ∃ p y zs j z, x = .ref p ∧ xs = [y] ∧ SqL K H p zs ∧ flatV y = true ∧ zs.all flatV = true ∧ zs[j]? = some z ∧ eqV z y = true ∧ (∀ m z', m < j → zs[m]? = some z' → eqV z' y = false) ∧ Q (.int (j : Nat)) H
theorem mt_index : MtR X "list.index" (rIndex X.K) := by
  intro pins s σ H x xs v us Q I rx r h
  obtain ⟨p, y, zs, j, z, rfl, rfl, hp, fy, fs, hj, hz1, hno, q⟩ := h
  cases rx
  obtain ⟨w, rfl, rw'⟩ := vals1 r
  obtain ⟨its, r', pl, hz⟩ := I.list hp
  obtain ⟨⟨cls, dd, data, sl⟩, ho, hc, n, hd⟩ := id pl.isList
  simp only at hc hd
  subst hc hd
  have hl := r'.length
  have hall : ∀ (m : Nat) (z' : V), zs[m]? = some z' → flatV z' = true := fun m z' e => List.all_eq_true.mp fs z' (List.mem_of_getElem? e)
  have hjl : j < zs.length := (List.getElem?_eq_some_iff.mp hj).1
  have hi : j < its.toArray.size := by rw [List.size_toArray]; omega
  have at_ : ∀ (m : Nat) (hm : m < its.toArray.size) (z' : V), zs[m]? = some z' → eqU y its.toArray[m] = eqV z' y := fun m hm z' e => by
    obtain ⟨u, eu, ru⟩ := r'.get e
    have : its.toArray[m] = u := by
      have h2 : its[m]? = some u := eu
      rw [List.size_toArray] at hm
      rw [List.getElem?_eq_getElem hm] at h2
      simpa using h2
    rw [this]
    exact eqU_of ru (hall m z' e)
  refine call_meets F.slot_list_index ⟨_, ho, rfl⟩ F.entry_list_index (F.args_list_index_2 _ _) (SeqAt.list_indexAt p its.toArray n dd sl w (eqU y) j hi (by have := sizeLine_eq; omega) (by rw [at_ j hi z hj]; exact hz1) (fun m hm hlt => ?_)) ⟨ho, fun z hw => mem_eqAt rw' fy r' fs z (by simpa using hw), ?_⟩
  · have hm' : m < zs.length := by omega
    rw [at_ m hm _ (List.getElem?_eq_getElem hm')]
    exact hno m _ hlt (List.getElem?_eq_getElem hm')
  · exact ⟨.int _, H, I.tok _, ⟨_, rfl⟩, q⟩
def eML (f : List PV → PV → Res PV) (go ge : PEnv → Res PV) : PEnv → Res PV := fun ρ => (go ρ).bind fun x => match x with
  | .lst zs => (ge ρ).bind fun y => f zs y
  | _ => .bad
def countP' : List PV → PV → Res PV := fun zs y => if flatP y = true ∧ zs.all flatP = true then .ok (.int (zs.countP fun z => eqFl z y : Nat)) else .bad
def indexP : List PV → PV → Res PV := fun zs y => if flatP y = true ∧ zs.all flatP = true then match zs.findIdx? fun z => eqFl z y with
    | some j => .ok (.int (j : Nat))
    | none => .bad
  else .bad
theorem flats_rel {K : PySem.W.Frag} {B : Hp} {y : V} {q : PV} (r : Rp K B y q) (f : flatP q = true) : ∀ {xs : List V} {ps : List PV}, Rps K B xs ps → ps.all flatP = true → xs.all flatV = true ∧ (xs.map fun z => eqV z y) = ps.map fun z => eqFl z q
  | [], [], _, _ => ⟨rfl, rfl⟩
  | [], _ :: _, r, _ => by have := r.len; simp at this
  | _ :: _, [], r, _ => by have := r.len; simp at this
  | x :: xs, p :: ps, rr, fs => by
    rw [List.all_cons, Bool.and_eq_true] at fs
    have h1 := rr.get 0 x p rfl rfl
    obtain ⟨g1, g2⟩ := flats_rel r f (xs := xs) (ps := ps) ⟨by have := rr.len; simpa using this, fun i z w e1 e2 => rr.get (i + 1) z w (by simpa using e1) (by simpa using e2)⟩ fs.2
    exact ⟨by rw [List.all_cons, flat_rel h1 fs.1, g1]; rfl, by rw [List.map_cons, List.map_cons, g2, eqFl_rel h1 r fs.1 f]⟩
theorem mthL {r : V → List V → Hp → VK → Prop} {f : List PV → PV → Res PV} (hf : ∀ σ B H Q a xs zs y q, Same B H → SqL X.K H a xs → Rps X.K B xs zs → Rp X.K B y q → Out X Rp σ B H Q (f zs q) → r (.ref a) [y] H Q) {ge : PEnv → Res PV} {σ : St} {H : Hp} {Q : VK} (h : tE X (eML f go ge) σ H Q) :
    tBM X.K "list" r (tE X go) (tCons (tE X ge) tNil) σ H Q := by
  obtain ⟨Z, B, ρ, s, re, o⟩ := h
  refine ⟨Z, B, ρ, s, re, o.bind fun p v B1 H1 _ e1 r1 o1 => ?_⟩
  cases r1 with
  | @lst a1 xs ps h1 hl he =>
    refine ⟨.inl ⟨rfl, xs, e1.bh.seq h1⟩, Z, B1, ρ, e1.bh, re.ext e1, Out.bind (Rel := Rp) o1 fun q u B2 H2 _ e2 r2 o2 => ?_⟩
    exact hf σ B2 H2 Q _ _ _ _ _ e2.bh (e2.bh.seq (e2.b.seq h1)) (Rps.same e2.b ⟨hl, he⟩) r2 o2
  | _ => exact (show False from o1).elim
theorem pp_count (ho : PP X o go) (he : PP X e ga) (hbase : attributeBase o "count" X.env (eval o X.env) = eval o X.env := by rfl)
    (hfew : ((backTo cpos (starEach [e] X.env)).all (fun x => !x.1) && (backToKw cpos (keywordEach [] X.env)).all (fun x => x.1.isSome)
      && decide (([e] : List Expr).length + ([] : List Keyword).length + (if ([] : List Keyword).isEmpty then 0 else 1) < 30)) = true := by rfl)
    (hline : (apos.endLine == cpos.line) = true := by rfl) (hs : starEach [e] X.env = (false, eval e X.env) :: starEach [] X.env := by rfl) (hplain : (backTo cpos (starEach [] X.env)).any (·.1) = false := by rfl) :
    PP X (.Call (.Attribute o "count" apos) [e] [] cpos) (eML countP' go ga) := by
  refine PE_mono (pe_bm PySem.F.plainAttrs_list PySem.F.slot_list_count PySem.F.type_list_count mt_count ho (pa_cons he pa_nil hs) hbase hfew hline hs hplain) fun σ H Q h => mthL (fun σ B H Q a xs zs y q s hq rr ry o => ?_) h
  unfold countP' at o
  split at o
  · rename_i hh
    obtain ⟨g1, g2⟩ := flats_rel ry hh.1 rr hh.2
    refine ⟨a, y, xs, rfl, rfl, hq, flat_rel ry hh.1, g1, ?_⟩
    have e : (xs.countP fun z => eqV z y) = zs.countP fun z => eqFl z q := by
      have := congrArg (List.countP id) g2
      rw [List.countP_map, List.countP_map] at this
      exact this
    rw [e]
    exact Out.now (Rel := Rp) o s (.int _)
  · exact (show False from o).elim
theorem pp_index (ho : PP X o go) (he : PP X e ga) (hbase : attributeBase o "index" X.env (eval o X.env) = eval o X.env := by rfl)
    (hfew : ((backTo cpos (starEach [e] X.env)).all (fun x => !x.1) && (backToKw cpos (keywordEach [] X.env)).all (fun x => x.1.isSome)
      && decide (([e] : List Expr).length + ([] : List Keyword).length + (if ([] : List Keyword).isEmpty then 0 else 1) < 30)) = true := by rfl)
    (hline : (apos.endLine == cpos.line) = true := by rfl) (hs : starEach [e] X.env = (false, eval e X.env) :: starEach [] X.env := by rfl) (hplain : (backTo cpos (starEach [] X.env)).any (·.1) = false := by rfl) :
    PP X (.Call (.Attribute o "index" apos) [e] [] cpos) (eML indexP go ga) := by
  refine PE_mono (pe_bm PySem.F.plainAttrs_list PySem.F.slot_list_index PySem.F.type_list_index mt_index ho (pa_cons he pa_nil hs) hbase hfew hline hs hplain) fun σ H Q h => mthL (fun σ B H Q a xs zs y q s hq rr ry o => ?_) h
  unfold indexP at o
  split at o
  · rename_i hh
    split at o
    · rename_i j hj
      obtain ⟨g1, g2⟩ := flats_rel ry hh.1 rr hh.2
      have at_ : ∀ (m : Nat) (x : V) (p : PV), xs[m]? = some x → zs[m]? = some p → eqV x y = eqFl p q := fun m x p e1 e2 => by
        have := congrArg (fun l => l[m]?) g2
        simp only [List.getElem?_map, e1, e2] at this
        simpa using this
      obtain ⟨hl, h1, h2⟩ := List.findIdx?_eq_some_iff_getElem.mp hj
      have hx : j < xs.length := by rw [rr.len]; exact hl
      refine ⟨a, y, xs, j, xs[j], rfl, rfl, hq, flat_rel ry hh.1, g1, List.getElem?_eq_getElem hx, ?_, fun m z' hm e => ?_, Out.now (Rel := Rp) o s (.int _)⟩
      · rw [at_ j _ _ (List.getElem?_eq_getElem hx) (List.getElem?_eq_getElem hl)]; exact h1
      · have hm' : m < zs.length := by omega
        rw [at_ m _ _ e (List.getElem?_eq_getElem hm')]
        have := h2 m hm
        simpa using this
    · exact (show False from o).elim
  · exact (show False from o).elim
end
end L2
namespace PySem.SeqAt
open AutoSeq1 (wpAny_loadPart')
open MeetsSeq MeetsSeq2 MeetsSeq3 SeqRoads2
end PySem.SeqAt
namespace L2
open PySem PySem.Spec PyProof.Rows
def TupK (K : PySem.W.Frag) (mg : Str → Option Value) (x : Str) (zs : List Str) : Prop := ∃ (a : Addr) (o : Obj) (its : Array Value) (n : Nat), mg x = some (.ref a) ∧ K.lookup a = some o ∧ o.cls = .type "tuple" ∧ o.dict = none ∧ o.data = .seq its n ∧ its.size ≤ sizeLine ∧ Vals (zs.map V.str) its.toList
def strs10 : List Str → List Tok → List Value
  | z :: zs, t :: ts => .str z t :: strs10 zs ts
  | _, _ => []
section
variable {X : Cx} {a b o e : Expr} {ga go : PEnv → Res PV} {pos apos cpos : Pos}
def rIndexT (K : PySem.W.Frag) : V → List V → Hp → VK → Prop := fun x xs H Q => ∃ p y zs j z, x = .ref p ∧ xs = [y] ∧ SqT K H p zs ∧ flatV y = true ∧ zs.all flatV = true ∧ zs[j]? = some z ∧ eqV z y = true ∧ (∀ m z', m < j → zs[m]? = some z' → eqV z' y = false) ∧ Q (.int (j : Nat)) H
def eIxT (zs : List Str) (g : PEnv → Res PV) : PEnv → Res PV := fun ρ => (g ρ).bind fun x => match x with
  | .str z => match zs.findIdx? (· == z) with
    | some j => .ok (.int (j : Nat))
    | none => .bad
  | _ => .bad
theorem pss_bad {st : List Stmt} : PPSs X st sBad := fun pins s σ H D I ⟨B0, H0, B, ρ, e, re, o⟩ => (show False from o).elim
end
theorem clsX_nil {K : PySem.W.Frag} : ∀ c ∈ ([] : List Str), ClsX K c := fun c hc => nomatch hc
theorem clsX_cons {K : PySem.W.Frag} {x : Str} {C : Addr} {tbl : List Str} (q : PySem.W.nsIn K mainGlobals x = some (some (.ref C))) (u1 : (PySem.W.clsIn K C).isSome = true) (u2 : PySem.W.findIn K (.ref C) "__getattribute__" = some (some (.builtin "BaseException.__getattribute__"))) (u3 : PySem.W.findIn K (.ref C) "__getattr__" = some none)
    (u4 : PySem.W.mroIn K C (.type "BaseException") = some true) (u5 : PySem.W.findIn K (.ref C) "__class__" = some (some (.builtin "object.__class__"))) (u6 : PySem.W.mroIn K C (.type "object") = some true) (t : ∀ c ∈ tbl, ClsX K c) : ∀ c ∈ (x :: tbl), ClsX K c := fun c hc => by
  rcases List.mem_cons.mp hc with rfl | hc
  · intro C' q'
    rw [q] at q'
    cases q'
    exact ⟨u1, u2, u3, u4, u5, u6⟩
  · exact t c hc
end L2
namespace L2
open PySem PySem.Spec PyProof.Rows
section
variable {X : Cx} {a b : Expr} {ga gb : PEnv → Res PV} {pos : Pos}
theorem op_isQ : OpR X (compareOp .Is) (fun x y H Q => ∃ j, y = .bl j ∧ ((∃ i, x = .bl i ∧ Q (.bl (decide (i = j))) H) ∨ ((x = .non ∨ (∃ i, x = .int i) ∨ ∃ z, x = .str z) ∧ Q (.bl false) H))) := by
  intro pins s σ H x y v u Q I rx ry h
  obtain ⟨j, rfl, h⟩ := h
  cases ry
  rcases h with ⟨i, rfl, q⟩ | ⟨rfl | ⟨i, rfl⟩ | ⟨z, rfl⟩, q⟩
  · cases rx
    cases i <;> cases j <;> exact wpAny_pure (fin_bl I q rfl)
  · cases rx
    cases j <;> exact wpAny_pure (fin_bl I q rfl)
  · obtain ⟨t, rfl⟩ := rx
    cases j <;> exact wpAny_pure (fin_bl I q rfl)
  · obtain ⟨t, rfl⟩ := rx
    cases j <;> exact wpAny_pure (fin_bl I q rfl)
def isQP : PV → PV → Res PV := fun p q => match p, q with
  | .bl i, .bl j => .ok (.bl (decide (i = j)))
  | .non, .bl _ => .ok (.bl false)
  | .int _, .bl _ => .ok (.bl false)
  | .str _, .bl _ => .ok (.bl false)
  | _, _ => .bad
theorem opP_isQ : OpP X (fun x y H Q => ∃ j, y = .bl j ∧ ((∃ i, x = .bl i ∧ Q (.bl (decide (i = j))) H) ∨ ((x = .non ∨ (∃ i, x = .int i) ∨ ∃ z, x = .str z) ∧ Q (.bl false) H))) isQP := by
  intro σ B H Q x y p q s r1 r2 o
  cases r1 <;> first | (cases r2 <;> exact (show False from o).elim) | (cases r2 <;> first | exact (show False from o).elim | skip)
  · exact ⟨_, rfl, .inr ⟨.inl rfl, Out.now (Rel := Rp) o s (.bl _)⟩⟩
  · exact ⟨_, rfl, .inl ⟨_, rfl, Out.now (Rel := Rp) o s (.bl _)⟩⟩
  · exact ⟨_, rfl, .inr ⟨.inr (.inl ⟨_, rfl⟩), Out.now (Rel := Rp) o s (.bl _)⟩⟩
  · exact ⟨_, rfl, .inr ⟨.inr (.inr ⟨_, rfl⟩), Out.now (Rel := Rp) o s (.bl _)⟩⟩
theorem pp_isQ (ha : PP X a ga) (hb : PP X b gb) : PP X (.Compare a [.Is] [b] pos) (b2 isQP ga gb) := pp_cmp op_isQ opP_isQ ha hb (nomark _)
end
end L2
namespace Tw
open PySem L2
noncomputable section
abbrev N_is_whole : List Str := ["thing"]
def G_is_whole : GS := (sRet (aV (isP "int" (look 0)) (nV (isP "bool" (look 0)))))
def M_is_whole : List PV → Res PV := runG 1 1 G_is_whole
theorem M_is_whole_eq (a0 : PV) {p : PV} (h : G_is_whole [.val a0] = .ret p) : M_is_whole [a0] = .ok p := runG_ret rfl rfl h
theorem M_is_whole_nx (a0 : PV) {ρ : PEnv} (h : G_is_whole [.val a0] = .nxt ρ) : M_is_whole [a0] = .ok .non := runG_nxt rfl rfl h
abbrev N_is_row : List Str := ["thing", "places", "number"]
def G_is_row : GS := (sSeq (sIf (oB (nB (bT (isP "tuple" (look 0)))) (bB (b2 neP (eC lenP (aCons (look 0) aNil)) (look 1)))) (sRet (cst (.bl false))) sNil)
    (sSeq (sFor (iSq (look 0)) (tgN 2) (sIf (oB (nB (bT (eC M_is_whole (aCons (look 2) aNil)))) (bB (b2 ltP (look 2) (cst (.int 0))))) (sRet (cst (.bl false))) sNil))
    (sRet (cst (.bl true)))))
def M_is_row : List PV → Res PV := runG 2 3 G_is_row
theorem M_is_row_eq (a0 a1 : PV) {p : PV} (h : G_is_row [.val a0, .val a1, .no] = .ret p) : M_is_row [a0, a1] = .ok p := runG_ret rfl rfl h
theorem M_is_row_nx (a0 a1 : PV) {ρ : PEnv} (h : G_is_row [.val a0, .val a1, .no] = .nxt ρ) : M_is_row [a0, a1] = .ok .non := runG_nxt rfl rfl h
abbrev N_is_move : List Str := ["thing", "places", "row"]
def G_is_move : GS := (sSeq (sIf (oB (nB (bT (isP "tuple" (look 0)))) (bB (b2 neP (eC lenP (aCons (look 0) aNil)) (cst (.int 2))))) (sRet (cst (.bl false))) sNil)
    (sSeq (sFor (iSq (look 0)) (tgN 2) (sIf (oB (nB (bT (eC M_is_row (aCons (look 2) (aCons (look 1) aNil))))) (bB (b2 gtP (eC maxP (aCons (look 2) aNil)) (cst (.int 9))))) (sRet (cst (.bl false))) sNil))
    (sRet (cst (.bl true)))))
def M_is_move : List PV → Res PV := runG 2 3 G_is_move
theorem M_is_move_eq (a0 a1 : PV) {p : PV} (h : G_is_move [.val a0, .val a1, .no] = .ret p) : M_is_move [a0, a1] = .ok p := runG_ret rfl rfl h
theorem M_is_move_nx (a0 a1 : PV) {ρ : PEnv} (h : G_is_move [.val a0, .val a1, .no] = .nxt ρ) : M_is_move [a0, a1] = .ok .non := runG_nxt rfl rfl h
abbrev N_is_net : List Str := ["thing", "places", "moves", "move"]
def G_is_net : GS := (sSeq (sIf (oB (nB (bT (isP "tuple" (look 0)))) (bB (b2 neP (eC lenP (aCons (look 0) aNil)) (cst (.int 2))))) (sRet (cst (.bl false))) sNil)
    (sSeq (sSet 1 (b2 ixP (look 0) (cst (.int 0))))
    (sSeq (sSet 2 (b2 ixP (look 0) (cst (.int 1))))
    (sSeq (sIf (oB (nB (bT (eC M_is_whole (aCons (look 1) aNil)))) (oB (bB (b2 ltP (look 1) (cst (.int 1)))) (bB (b2 gtP (look 1) (cst (.int 6)))))) (sRet (cst (.bl false))) sNil)
    (sSeq (sIf (oB (nB (bT (isP "tuple" (look 2)))) (bB (b2 gtP (eC lenP (aCons (look 2) aNil)) (cst (.int 10))))) (sRet (cst (.bl false))) sNil)
    (sSeq (sFor (iSq (look 2)) (tgN 3) (sIf (nB (bT (eC M_is_move (aCons (look 3) (aCons (look 1) aNil))))) (sRet (cst (.bl false))) sNil))
    (sRet (cst (.bl true)))))))))
def M_is_net : List PV → Res PV := runG 1 4 G_is_net
theorem M_is_net_eq (a0 : PV) {p : PV} (h : G_is_net [.val a0, .no, .no, .no] = .ret p) : M_is_net [a0] = .ok p := runG_ret rfl rfl h
theorem M_is_net_nx (a0 : PV) {ρ : PEnv} (h : G_is_net [.val a0, .no, .no, .no] = .nxt ρ) : M_is_net [a0] = .ok .non := runG_nxt rfl rfl h
abbrev N_checked : List Str := ["net"]
def G_checked : GS := (sSeq (sIf (nB (bT (eC M_is_net (aCons (look 0) aNil)))) (sRaise "NoNet" (aCons (cst (.str "this is no net")) aNil)) sNil)
    (sRet (look 0)))
def M_checked : List PV → Res PV := runG 1 1 G_checked
theorem M_checked_eq (a0 : PV) {p : PV} (h : G_checked [.val a0] = .ret p) : M_checked [a0] = .ok p := runG_ret rfl rfl h
theorem M_checked_nx (a0 : PV) {ρ : PEnv} (h : G_checked [.val a0] = .nxt ρ) : M_checked [a0] = .ok .non := runG_nxt rfl rfl h
abbrev N_is_hoard : List Str := ["net", "thing"]
def G_is_hoard : GS := (sRet (eC M_is_row (aCons (look 1) (aCons (b2 ixP (eC M_checked (aCons (look 0) aNil)) (cst (.int 0))) aNil))))
def M_is_hoard : List PV → Res PV := runG 2 2 G_is_hoard
theorem M_is_hoard_eq (a0 a1 : PV) {p : PV} (h : G_is_hoard [.val a0, .val a1] = .ret p) : M_is_hoard [a0, a1] = .ok p := runG_ret rfl rfl h
theorem M_is_hoard_nx (a0 a1 : PV) {ρ : PEnv} (h : G_is_hoard [.val a0, .val a1] = .nxt ρ) : M_is_hoard [a0, a1] = .ok .non := runG_nxt rfl rfl h
abbrev N_law_cell_at : List Str := ["_law_script", "_law_k"]
def G_law_cell_at : GS := (sSeq (sIf (bB (b2 ltP (look 1) (eC lenP (aCons (look 0) aNil)))) (sRet (b2 ixP (look 0) (look 1))) sNil)
    (sSeq (sIf (bB (b2 eqP (look 0) (eLst aNil))) (sRet (cst (.int 0))) sNil)
    (sRet (b2 addP (b2 mulP (b2 ixP (look 0) (b2 modP (look 1) (eC lenP (aCons (look 0) aNil)))) (cst (.int 31))) (look 1)))))
def M_law_cell_at : List PV → Res PV := runG 2 2 G_law_cell_at
theorem M_law_cell_at_eq (a0 a1 : PV) {p : PV} (h : G_law_cell_at [.val a0, .val a1] = .ret p) : M_law_cell_at [a0, a1] = .ok p := runG_ret rfl rfl h
theorem M_law_cell_at_nx (a0 a1 : PV) {ρ : PEnv} (h : G_law_cell_at [.val a0, .val a1] = .nxt ρ) : M_law_cell_at [a0, a1] = .ok .non := runG_nxt rfl rfl h
abbrev N_law_mixed : List Str := ["_law_script", "_law_k", "_law_many", "_law_drawn"]
def G_law_mixed : GS := (sSeq (sSet 3 (b2 modP (b2 mulP (b2 addP (b2 addP (eC M_law_cell_at (aCons (look 0) (aCons (look 1) aNil))) (b2 mulP (cst (.int 7919)) (look 1))) (cst (.int 1))) (cst (.int 48271))) (cst (.int 2147483647))))
    (sRet (b2 modP (b2 modP (b2 addP (b2 addP (b2 mulP (look 3) (look 3)) (b2 mulP (cst (.int 7)) (look 3))) (look 1)) (cst (.int 2147483629))) (look 2))))
def M_law_mixed : List PV → Res PV := runG 3 4 G_law_mixed
theorem M_law_mixed_eq (a0 a1 a2 : PV) {p : PV} (h : G_law_mixed [.val a0, .val a1, .val a2, .no] = .ret p) : M_law_mixed [a0, a1, a2] = .ok p := runG_ret rfl rfl h
theorem M_law_mixed_nx (a0 a1 a2 : PV) {ρ : PEnv} (h : G_law_mixed [.val a0, .val a1, .val a2, .no] = .nxt ρ) : M_law_mixed [a0, a1, a2] = .ok .non := runG_nxt rfl rfl h
abbrev N_law_move : List Str := ["_law_script", "_law_at", "_law_size", "_law_even", "_law_cells", "_law_takes", "_law_gives", "_law_left", "_law_k"]
def G_law_move : GS := (sSeq (sSet 4 (eF (compG 1 [0, 1] (iRg rng1 (aCons (look 2) aNil)) (tgN 0) fNo (eD M_law_mixed (aCons (look 1) (aCons (b2 addP (look 2) (look 0)) (aCons (cst (.int 25)) aNil)))))))
    (sSeq (sSet 5 (eF (compG 1 [] (iSq (look 4)) (tgN 0) fNo (b2 ixP (eLst (aCons (cst (.int 0)) (aCons (cst (.int 0)) (aCons (cst (.int 1)) (aCons (cst (.int 1)) (aCons (cst (.int 2)) aNil)))))) (b2 modP (look 0) (cst (.int 5)))))))
    (sSeq (sOwn 6 (compG 1 [] (iSq (look 4)) (tgN 0) fNo (b2 ixP (eLst (aCons (cst (.int 0)) (aCons (cst (.int 0)) (aCons (cst (.int 1)) (aCons (cst (.int 1)) (aCons (cst (.int 2)) aNil)))))) (b2 divP (look 0) (cst (.int 5))))))
    (sSeq (sIf (bT (look 3)) (sSeq (sOwn 6 (compG 1 [] (iRg rng1 (aCons (look 2) aNil)) (tgN 0) fNo (cst (.int 0))))
    (sSeq (sSet 7 (eC M_law_mixed (aCons (look 0) (aCons (b2 addP (look 1) (cst (.int 4))) (aCons (b2 powP (cst (.int 4)) (cst (.int 8))) aNil)))))
    (sFor (iRg rng1 (aCons (eC sumP (aCons (look 5) aNil)) aNil)) (tgN 8) (sSeq (sSetO 6 (b2 modP (look 7) (look 2)) (b2 addP (b2 ixP (lookO 6) (b2 modP (look 7) (look 2))) (cst (.int 1))))
    (sSet 7 (b2 divP (look 7) (look 2))))))) sNil)
    (sRet (eTup (aCons (eC tupleP (aCons (look 5) aNil)) (aCons (eC tupleP (aOwn 6)) aNil))))))))
def M_law_move : List PV → Res PV := runG 4 9 G_law_move
theorem M_law_move_eq (a0 a1 a2 a3 : PV) {p : PV} (h : G_law_move [.val a0, .val a1, .val a2, .val a3, .no, .no, .no, .no, .no] = .ret p) : M_law_move [a0, a1, a2, a3] = .ok p := runG_ret rfl rfl h
theorem M_law_move_nx (a0 a1 a2 a3 : PV) {ρ : PEnv} (h : G_law_move [.val a0, .val a1, .val a2, .val a3, .no, .no, .no, .no, .no] = .nxt ρ) : M_law_move [a0, a1, a2, a3] = .ok .non := runG_nxt rfl rfl h
abbrev N_law_net : List Str := ["_law_script", "_law_at", "_law_size", "_law_many", "_law_even"]
def G_law_net : GS := (sSeq (sSet 2 (b2 addP (cst (.int 1)) (eC M_law_mixed (aCons (look 0) (aCons (look 1) (aCons (cst (.int 3)) aNil))))))
    (sSeq (sSet 3 (eC M_law_mixed (aCons (look 0) (aCons (b2 addP (look 1) (cst (.int 1))) (aCons (cst (.int 5)) aNil)))))
    (sSeq (sIf (bB (b2 eqP (eC M_law_mixed (aCons (look 0) (aCons (b2 addP (look 1) (cst (.int 2))) (aCons (cst (.int 6)) aNil)))) (cst (.int 5)))) (sSet 2 (cst (.int 4))) sNil)
    (sSeq (sSet 4 (b2 eqP (eC M_law_mixed (aCons (look 0) (aCons (b2 addP (look 1) (cst (.int 3))) (aCons (cst (.int 2)) aNil)))) (cst (.int 1))))
    (sRet (eTup (aCons (look 2) (aCons (eC tupleP (aCons (eF (compG 1 [0, 2, 4, 1] (iRg rng1 (aCons (look 3) aNil)) (tgN 0) fNo (eD M_law_move (aCons (look 1) (aCons (b2 addP (b2 addP (look 4) (cst (.int 4))) (b2 mulP (cst (.int 5)) (look 0))) (aCons (look 2) (aCons (look 3) aNil))))))) aNil)) aNil))))))))
def M_law_net : List PV → Res PV := runG 2 5 G_law_net
theorem M_law_net_eq (a0 a1 : PV) {p : PV} (h : G_law_net [.val a0, .val a1, .no, .no, .no] = .ret p) : M_law_net [a0, a1] = .ok p := runG_ret rfl rfl h
theorem M_law_net_nx (a0 a1 : PV) {ρ : PEnv} (h : G_law_net [.val a0, .val a1, .no, .no, .no] = .nxt ρ) : M_law_net [a0, a1] = .ok .non := runG_nxt rfl rfl h
abbrev N_law_hoard : List Str := ["_law_script", "_law_at", "_law_size", "_law_most"]
def G_law_hoard : GS := (sRet (eC tupleP (aCons (eF (compG 1 [0, 1, 3] (iRg rng1 (aCons (look 2) aNil)) (tgN 0) fNo (eD M_law_mixed (aCons (look 1) (aCons (b2 addP (look 2) (look 0)) (aCons (b2 addP (look 3) (cst (.int 1))) aNil)))))) aNil)))
def M_law_hoard : List PV → Res PV := runG 4 4 G_law_hoard
theorem M_law_hoard_eq (a0 a1 a2 a3 : PV) {p : PV} (h : G_law_hoard [.val a0, .val a1, .val a2, .val a3] = .ret p) : M_law_hoard [a0, a1, a2, a3] = .ok p := runG_ret rfl rfl h
theorem M_law_hoard_nx (a0 a1 a2 a3 : PV) {ρ : PEnv} (h : G_law_hoard [.val a0, .val a1, .val a2, .val a3] = .nxt ρ) : M_law_hoard [a0, a1, a2, a3] = .ok .non := runG_nxt rfl rfl h
abbrev N_need_hoard : List Str := ["net", "thing"]
def G_need_hoard : GS := (sIf (nB (bT (eC M_is_hoard (aCons (look 0) (aCons (look 1) aNil))))) (sRaise "NoHoard" (aCons (cst (.str "this is no hoard of the net")) aNil)) sNil)
def M_need_hoard : List PV → Res PV := runG 2 2 G_need_hoard
theorem M_need_hoard_eq (a0 a1 : PV) {p : PV} (h : G_need_hoard [.val a0, .val a1] = .ret p) : M_need_hoard [a0, a1] = .ok p := runG_ret rfl rfl h
theorem M_need_hoard_nx (a0 a1 : PV) {ρ : PEnv} (h : G_need_hoard [.val a0, .val a1] = .nxt ρ) : M_need_hoard [a0, a1] = .ok .non := runG_nxt rfl rfl h
abbrev N_need_move : List Str := ["net", "thing"]
def G_need_move : GS := (sIf (oB (nB (bT (eC M_is_whole (aCons (look 1) aNil)))) (oB (bB (b2 ltP (look 1) (cst (.int 0)))) (bB (b2 geP (look 1) (eC lenP (aCons (b2 ixP (look 0) (cst (.int 1))) aNil)))))) (sRaise "NoMove" (aCons (cst (.str "this is no number of a move of the net")) aNil)) sNil)
def M_need_move : List PV → Res PV := runG 2 2 G_need_move
theorem M_need_move_eq (a0 a1 : PV) {p : PV} (h : G_need_move [.val a0, .val a1] = .ret p) : M_need_move [a0, a1] = .ok p := runG_ret rfl rfl h
theorem M_need_move_nx (a0 a1 : PV) {ρ : PEnv} (h : G_need_move [.val a0, .val a1] = .nxt ρ) : M_need_move [a0, a1] = .ok .non := runG_nxt rfl rfl h
abbrev N_over : List Str := ["one", "other", "number", "least"]
def G_over : GS := (sSeq (sFor (iRg zipP2 (aCons (look 0) (aCons (look 1) aNil))) (tgT 2 (tgCons (tgN 2) (tgCons (tgN 3) tgNil))) (sIf (bB (b2 ltP (look 2) (look 3))) (sRet (cst (.bl false))) sNil))
    (sRet (cst (.bl true))))
def M_over : List PV → Res PV := runG 2 4 G_over
theorem M_over_eq (a0 a1 : PV) {p : PV} (h : G_over [.val a0, .val a1, .no, .no] = .ret p) : M_over [a0, a1] = .ok p := runG_ret rfl rfl h
theorem M_over_nx (a0 a1 : PV) {ρ : PEnv} (h : G_over [.val a0, .val a1, .no, .no] = .nxt ρ) : M_over [a0, a1] = .ok .non := runG_nxt rfl rfl h
abbrev N_can : List Str := ["net", "hoard", "move"]
def G_can : GS := (sSeq (sExp (eC M_need_hoard (aCons (look 0) (aCons (look 1) aNil))))
    (sSeq (sExp (eC M_need_move (aCons (look 0) (aCons (look 2) aNil))))
    (sRet (eC M_over (aCons (look 1) (aCons (b2 ixP (b2 ixP (b2 ixP (look 0) (cst (.int 1))) (look 2)) (cst (.int 0))) aNil))))))
def M_can : List PV → Res PV := runG 3 3 G_can
theorem M_can_eq (a0 a1 a2 : PV) {p : PV} (h : G_can [.val a0, .val a1, .val a2] = .ret p) : M_can [a0, a1, a2] = .ok p := runG_ret rfl rfl h
theorem M_can_nx (a0 a1 a2 : PV) {ρ : PEnv} (h : G_can [.val a0, .val a1, .val a2] = .nxt ρ) : M_can [a0, a1, a2] = .ok .non := runG_nxt rfl rfl h
abbrev N_need_run : List Str := ["net", "thing", "move"]
def G_need_run : GS := (sSeq (sIf (nB (bT (isP "list" (look 1)))) (sRaise "NoMove" (aCons (cst (.str "a run is a list of numbers of moves")) aNil)) sNil)
    (sFor (iSq (look 1)) (tgN 2) (sExp (eC M_need_move (aCons (look 0) (aCons (look 2) aNil))))))
def M_need_run : List PV → Res PV := runG 2 3 G_need_run
theorem M_need_run_eq (a0 a1 : PV) {p : PV} (h : G_need_run [.val a0, .val a1, .no] = .ret p) : M_need_run [a0, a1] = .ok p := runG_ret rfl rfl h
theorem M_need_run_nx (a0 a1 : PV) {ρ : PEnv} (h : G_need_run [.val a0, .val a1, .no] = .nxt ρ) : M_need_run [a0, a1] = .ok .non := runG_nxt rfl rfl h
abbrev N_behind : List Str := ["net", "hoard", "run", "here", "at", "number", "move"]
def G_behind : GS := (sSeq (sExp (eC M_need_hoard (aCons (look 0) (aCons (look 1) aNil))))
    (sSeq (sExp (eC M_need_run (aCons (look 0) (aCons (look 2) aNil))))
    sBad))
def M_behind : List PV → Res PV := runG 3 7 G_behind
theorem M_behind_eq (a0 a1 a2 : PV) {p : PV} (h : G_behind [.val a0, .val a1, .val a2, .no, .no, .no, .no] = .ret p) : M_behind [a0, a1, a2] = .ok p := runG_ret rfl rfl h
theorem M_behind_nx (a0 a1 a2 : PV) {ρ : PEnv} (h : G_behind [.val a0, .val a1, .val a2, .no, .no, .no, .no] = .nxt ρ) : M_behind [a0, a1, a2] = .ok .non := runG_nxt rfl rfl h
abbrev N_least_before : List Str := ["net", "move", "goal"]
def G_least_before : GS := (sSeq (sExp (eC M_need_move (aCons (eC M_checked (aCons (look 0) aNil)) (aCons (look 1) aNil))))
    (sSeq (sExp (eC M_need_hoard (aCons (look 0) (aCons (look 2) aNil))))
    sBad))
def M_least_before : List PV → Res PV := runG 3 3 G_least_before
theorem M_least_before_eq (a0 a1 a2 : PV) {p : PV} (h : G_least_before [.val a0, .val a1, .val a2] = .ret p) : M_least_before [a0, a1, a2] = .ok p := runG_ret rfl rfl h
theorem M_least_before_nx (a0 a1 a2 : PV) {ρ : PEnv} (h : G_least_before [.val a0, .val a1, .val a2] = .nxt ρ) : M_least_before [a0, a1, a2] = .ok .non := runG_nxt rfl rfl h
abbrev N_sill : List Str := ["net", "goal"]
def G_sill : GS := (sSeq (sExp (eC M_need_hoard (aCons (look 0) (aCons (look 1) aNil))))
    sBad)
def M_sill : List PV → Res PV := runG 2 2 G_sill
theorem M_sill_eq (a0 a1 : PV) {p : PV} (h : G_sill [.val a0, .val a1] = .ret p) : M_sill [a0, a1] = .ok p := runG_ret rfl rfl h
theorem M_sill_nx (a0 a1 : PV) {ρ : PEnv} (h : G_sill [.val a0, .val a1] = .nxt ρ) : M_sill [a0, a1] = .ok .non := runG_nxt rfl rfl h
abbrev N_cover : List Str := ["net", "start", "goal", "ahead", "back", "search", "run", "end"]
def G_cover : GS := (sSeq (sExp (eC M_need_hoard (aCons (look 0) (aCons (look 1) aNil))))
    (sSeq (sExp (eC M_need_hoard (aCons (look 0) (aCons (look 2) aNil))))
    sBad))
def M_cover : List PV → Res PV := runG 3 8 G_cover
theorem M_cover_eq (a0 a1 a2 : PV) {p : PV} (h : G_cover [.val a0, .val a1, .val a2, .no, .no, .no, .no, .no] = .ret p) : M_cover [a0, a1, a2] = .ok p := runG_ret rfl rfl h
theorem M_cover_nx (a0 a1 a2 : PV) {ρ : PEnv} (h : G_cover [.val a0, .val a1, .val a2, .no, .no, .no, .no, .no] = .nxt ρ) : M_cover [a0, a1, a2] = .ok .non := runG_nxt rfl rfl h
abbrev N_need_place : List Str := ["net", "thing"]
def G_need_place : GS := (sIf (oB (nB (bT (eC M_is_whole (aCons (look 1) aNil)))) (oB (bB (b2 ltP (look 1) (cst (.int 0)))) (bB (b2 geP (look 1) (b2 ixP (look 0) (cst (.int 0))))))) (sRaise "NoPlace" (aCons (cst (.str "this is no place of the net")) aNil)) sNil)
def M_need_place : List PV → Res PV := runG 2 2 G_need_place
theorem M_need_place_eq (a0 a1 : PV) {p : PV} (h : G_need_place [.val a0, .val a1] = .ret p) : M_need_place [a0, a1] = .ok p := runG_ret rfl rfl h
theorem M_need_place_nx (a0 a1 : PV) {ρ : PEnv} (h : G_need_place [.val a0, .val a1] = .nxt ρ) : M_need_place [a0, a1] = .ok .non := runG_nxt rfl rfl h
abbrev N_need_places : List Str := ["net", "thing", "place"]
def G_need_places : GS := (sSeq (sIf (nB (bT (isP "list" (look 1)))) (sRaise "NoPlace" (aCons (cst (.str "places are told as a list")) aNil)) sNil)
    (sFor (iSq (look 1)) (tgN 2) (sExp (eC M_need_place (aCons (look 0) (aCons (look 2) aNil))))))
def M_need_places : List PV → Res PV := runG 2 3 G_need_places
theorem M_need_places_eq (a0 a1 : PV) {p : PV} (h : G_need_places [.val a0, .val a1, .no] = .ret p) : M_need_places [a0, a1] = .ok p := runG_ret rfl rfl h
theorem M_need_places_nx (a0 a1 : PV) {ρ : PEnv} (h : G_need_places [.val a0, .val a1, .no] = .nxt ρ) : M_need_places [a0, a1] = .ok .non := runG_nxt rfl rfl h
abbrev N_together : List Str := ["net", "start", "places"]
def G_together : GS := (sSeq (sExp (eC M_need_hoard (aCons (look 0) (aCons (look 1) aNil))))
    (sSeq (sExp (eC M_need_places (aCons (look 0) (aCons (look 2) aNil))))
    sBad))
def M_together : List PV → Res PV := runG 3 3 G_together
theorem M_together_eq (a0 a1 a2 : PV) {p : PV} (h : G_together [.val a0, .val a1, .val a2] = .ret p) : M_together [a0, a1, a2] = .ok p := runG_ret rfl rfl h
theorem M_together_nx (a0 a1 a2 : PV) {ρ : PEnv} (h : G_together [.val a0, .val a1, .val a2] = .nxt ρ) : M_together [a0, a1, a2] = .ok .non := runG_nxt rfl rfl h
abbrev N_all_of : List Str := ["net", "start", "reach"]
def G_all_of : GS := (sSeq (sExp (eC M_need_hoard (aCons (look 0) (aCons (look 1) aNil))))
    sBad)
def M_all_of : List PV → Res PV := runG 2 3 G_all_of
theorem M_all_of_eq (a0 a1 : PV) {p : PV} (h : G_all_of [.val a0, .val a1, .no] = .ret p) : M_all_of [a0, a1] = .ok p := runG_ret rfl rfl h
theorem M_all_of_nx (a0 a1 : PV) {ρ : PEnv} (h : G_all_of [.val a0, .val a1, .no] = .nxt ρ) : M_all_of [a0, a1] = .ok .non := runG_nxt rfl rfl h
abbrev N_how_far : List Str := ["net", "start", "place"]
def G_how_far : GS := (sSeq (sExp (eC M_need_hoard (aCons (look 0) (aCons (look 1) aNil))))
    (sSeq (sExp (eC M_need_place (aCons (look 0) (aCons (look 2) aNil))))
    sBad))
def M_how_far : List PV → Res PV := runG 3 3 G_how_far
theorem M_how_far_eq (a0 a1 a2 : PV) {p : PV} (h : G_how_far [.val a0, .val a1, .val a2] = .ret p) : M_how_far [a0, a1, a2] = .ok p := runG_ret rfl rfl h
theorem M_how_far_nx (a0 a1 a2 : PV) {ρ : PEnv} (h : G_how_far [.val a0, .val a1, .val a2] = .nxt ρ) : M_how_far [a0, a1, a2] = .ok .non := runG_nxt rfl rfl h
abbrev N_run_to : List Str := ["net", "start", "goal", "reach"]
def G_run_to : GS := (sSeq (sExp (eC M_need_hoard (aCons (look 0) (aCons (look 1) aNil))))
    (sSeq (sExp (eC M_need_hoard (aCons (look 0) (aCons (look 2) aNil))))
    sBad))
def M_run_to : List PV → Res PV := runG 3 4 G_run_to
theorem M_run_to_eq (a0 a1 a2 : PV) {p : PV} (h : G_run_to [.val a0, .val a1, .val a2, .no] = .ret p) : M_run_to [a0, a1, a2] = .ok p := runG_ret rfl rfl h
theorem M_run_to_nx (a0 a1 a2 : PV) {ρ : PEnv} (h : G_run_to [.val a0, .val a1, .val a2, .no] = .nxt ρ) : M_run_to [a0, a1, a2] = .ok .non := runG_nxt rfl rfl h
abbrev N_stuck_hoards : List Str := ["net", "start"]
def G_stuck_hoards : GS := (sSeq (sExp (eC M_need_hoard (aCons (look 0) (aCons (look 1) aNil))))
    sBad)
def M_stuck_hoards : List PV → Res PV := runG 2 2 G_stuck_hoards
theorem M_stuck_hoards_eq (a0 a1 : PV) {p : PV} (h : G_stuck_hoards [.val a0, .val a1] = .ret p) : M_stuck_hoards [a0, a1] = .ok p := runG_ret rfl rfl h
theorem M_stuck_hoards_nx (a0 a1 : PV) {ρ : PEnv} (h : G_stuck_hoards [.val a0, .val a1] = .nxt ρ) : M_stuck_hoards [a0, a1] = .ok .non := runG_nxt rfl rfl h
abbrev N_law_with_hoard : List Str := ["_law_net_here", "_law_what", "_law_bad", "_law_good"]
def G_law_with_hoard : GS := (sSeq (sIf (bB (b2 eqP (look 1) (cst (.int 0)))) (sRet (eC M_sill (aCons (look 0) (aCons (look 2) aNil)))) sNil)
    (sSeq (sIf (bB (b2 eqP (look 1) (cst (.int 1)))) (sRet (eC M_cover (aCons (look 0) (aCons (look 2) (aCons (look 3) aNil))))) sNil)
    (sSeq (sIf (bB (b2 eqP (look 1) (cst (.int 2)))) (sRet (eC M_cover (aCons (look 0) (aCons (look 3) (aCons (look 2) aNil))))) sNil)
    (sSeq (sIf (bB (b2 eqP (look 1) (cst (.int 3)))) (sRet (eC M_all_of (aCons (look 0) (aCons (look 2) aNil)))) sNil)
    (sSeq (sIf (bB (b2 eqP (look 1) (cst (.int 4)))) (sRet (eC M_run_to (aCons (look 0) (aCons (look 2) (aCons (look 3) aNil))))) sNil)
    (sSeq (sIf (bB (b2 eqP (look 1) (cst (.int 5)))) (sRet (eC M_stuck_hoards (aCons (look 0) (aCons (look 2) aNil)))) sNil)
    (sSeq (sIf (bB (b2 eqP (look 1) (cst (.int 6)))) (sRet (eC M_behind (aCons (look 0) (aCons (look 2) (aCons (eLst aNil) aNil))))) sNil)
    (sSeq (sIf (bB (b2 eqP (look 1) (cst (.int 7)))) (sRet (eC M_together (aCons (look 0) (aCons (look 2) (aCons (eLst aNil) aNil))))) sNil)
    (sSeq (sIf (bB (b2 eqP (look 1) (cst (.int 8)))) (sRet (eC M_how_far (aCons (look 0) (aCons (look 2) (aCons (cst (.int 0)) aNil))))) sNil)
    (sSeq (sIf (bB (b2 eqP (look 1) (cst (.int 9)))) (sRet (eC M_run_to (aCons (look 0) (aCons (look 3) (aCons (look 2) aNil))))) sNil)
    (sSeq (sIf (oB (bB (b2 eqP (look 1) (cst (.int 10)))) (bB (b2 eqP (b2 ixP (look 0) (cst (.int 1))) (eTup aNil)))) (sRet (eC M_can (aCons (look 0) (aCons (look 2) (aCons (cst (.int 0)) aNil))))) sNil)
    (sRet (eC M_least_before (aCons (look 0) (aCons (cst (.int 0)) (aCons (look 2) aNil))))))))))))))))
def M_law_with_hoard : List PV → Res PV := runG 4 4 G_law_with_hoard
theorem M_law_with_hoard_eq (a0 a1 a2 a3 : PV) {p : PV} (h : G_law_with_hoard [.val a0, .val a1, .val a2, .val a3] = .ret p) : M_law_with_hoard [a0, a1, a2, a3] = .ok p := runG_ret rfl rfl h
theorem M_law_with_hoard_nx (a0 a1 a2 a3 : PV) {ρ : PEnv} (h : G_law_with_hoard [.val a0, .val a1, .val a2, .val a3] = .nxt ρ) : M_law_with_hoard [a0, a1, a2, a3] = .ok .non := runG_nxt rfl rfl h
abbrev N_law_with_move : List Str := ["_law_net_here", "_law_what", "_law_bad", "_law_good"]
def G_law_with_move : GS := (sSeq (sIf (bB (b2 eqP (look 1) (cst (.int 0)))) (sRet (eC M_can (aCons (look 0) (aCons (look 3) (aCons (look 2) aNil))))) sNil)
    (sSeq (sIf (bB (b2 eqP (look 1) (cst (.int 1)))) (sRet (eC M_least_before (aCons (look 0) (aCons (look 2) (aCons (look 3) aNil))))) sNil)
    (sSeq (sIf (bB (b2 eqP (look 1) (cst (.int 2)))) (sRet (eC M_behind (aCons (look 0) (aCons (look 3) (aCons (eLst (aCons (look 2) aNil)) aNil))))) sNil)
    (sSeq (sIf (bB (b2 eqP (look 1) (cst (.int 3)))) (sRet (eC M_behind (aCons (look 0) (aCons (look 3) (aCons (eTup aNil) aNil))))) sNil)
    (sSeq (sIf (bB (b2 eqP (look 1) (cst (.int 4)))) (sRet (eC M_behind (aCons (look 0) (aCons (look 3) (aCons (b2 ixP (eLst (aCons (cst .non) (aCons (cst (.str "0")) aNil))) (eC intP (aCons (b2 isQP (look 2) (cst (.bl true))) aNil))) aNil))))) sNil)
    (sRet (eC M_behind (aCons (look 0) (aCons (look 3) (aCons (b2 addL (eF (compG 1 [] (iSq (b2 ixP (look 0) (cst (.int 1)))) (tgN 0) fNo (cst (.int 0)))) (eLst (aCons (look 2) aNil))) aNil))))))))))
def M_law_with_move : List PV → Res PV := runG 4 4 G_law_with_move
theorem M_law_with_move_eq (a0 a1 a2 a3 : PV) {p : PV} (h : G_law_with_move [.val a0, .val a1, .val a2, .val a3] = .ret p) : M_law_with_move [a0, a1, a2, a3] = .ok p := runG_ret rfl rfl h
theorem M_law_with_move_nx (a0 a1 a2 a3 : PV) {ρ : PEnv} (h : G_law_with_move [.val a0, .val a1, .val a2, .val a3] = .nxt ρ) : M_law_with_move [a0, a1, a2, a3] = .ok .non := runG_nxt rfl rfl h
abbrev N_without_place : List Str := ["net", "place"]
def G_without_place : GS := (sSeq (sExp (eC M_need_place (aCons (eC M_checked (aCons (look 0) aNil)) (aCons (look 1) aNil))))
    sBad)
def M_without_place : List PV → Res PV := runG 2 2 G_without_place
theorem M_without_place_eq (a0 a1 : PV) {p : PV} (h : G_without_place [.val a0, .val a1] = .ret p) : M_without_place [a0, a1] = .ok p := runG_ret rfl rfl h
theorem M_without_place_nx (a0 a1 : PV) {ρ : PEnv} (h : G_without_place [.val a0, .val a1] = .nxt ρ) : M_without_place [a0, a1] = .ok .non := runG_nxt rfl rfl h
abbrev N_told_places : List Str := ["net", "places"]
def G_told_places : GS := (sSeq (sExp (eC M_need_places (aCons (eC M_checked (aCons (look 0) aNil)) (aCons (look 1) aNil))))
    sBad)
def M_told_places : List PV → Res PV := runG 2 2 G_told_places
theorem M_told_places_eq (a0 a1 : PV) {p : PV} (h : G_told_places [.val a0, .val a1] = .ret p) : M_told_places [a0, a1] = .ok p := runG_ret rfl rfl h
theorem M_told_places_nx (a0 a1 : PV) {ρ : PEnv} (h : G_told_places [.val a0, .val a1] = .nxt ρ) : M_told_places [a0, a1] = .ok .non := runG_nxt rfl rfl h
abbrev N_greatest_sink : List Str := ["net", "places", "sink", "left"]
def G_greatest_sink : GS := (sSeq (sSet 2 (eC M_told_places (aCons (look 0) (aCons (look 1) aNil))))
    sBad)
def M_greatest_sink : List PV → Res PV := runG 2 4 G_greatest_sink
theorem M_greatest_sink_eq (a0 a1 : PV) {p : PV} (h : G_greatest_sink [.val a0, .val a1, .no, .no] = .ret p) : M_greatest_sink [a0, a1] = .ok p := runG_ret rfl rfl h
theorem M_greatest_sink_nx (a0 a1 : PV) {ρ : PEnv} (h : G_greatest_sink [.val a0, .val a1, .no, .no] = .nxt ρ) : M_greatest_sink [a0, a1] = .ok .non := runG_nxt rfl rfl h
abbrev N_is_sink : List Str := ["net", "places", "told"]
def G_is_sink : GS := (sSeq (sSet 2 (eC M_told_places (aCons (look 0) (aCons (look 1) aNil))))
    sBad)
def M_is_sink : List PV → Res PV := runG 2 3 G_is_sink
theorem M_is_sink_eq (a0 a1 : PV) {p : PV} (h : G_is_sink [.val a0, .val a1, .no] = .ret p) : M_is_sink [a0, a1] = .ok p := runG_ret rfl rfl h
theorem M_is_sink_nx (a0 a1 : PV) {ρ : PEnv} (h : G_is_sink [.val a0, .val a1, .no] = .nxt ρ) : M_is_sink [a0, a1] = .ok .non := runG_nxt rfl rfl h
abbrev N_turned : List Str := ["net"]
def G_turned : GS := (sRet (eTup (aCons (b2 ixP (eC M_checked (aCons (look 0) aNil)) (cst (.int 0))) (aCons (eC tupleP (aCons (eF (compG 2 [] (iSq (b2 ixP (look 0) (cst (.int 1)))) (tgT 2 (tgCons (tgN 0) (tgCons (tgN 1) tgNil))) fNo (eTup (aCons (look 1) (aCons (look 0) aNil))))) aNil)) aNil))))
def M_turned : List PV → Res PV := runG 1 1 G_turned
theorem M_turned_eq (a0 : PV) {p : PV} (h : G_turned [.val a0] = .ret p) : M_turned [a0] = .ok p := runG_ret rfl rfl h
theorem M_turned_nx (a0 : PV) {ρ : PEnv} (h : G_turned [.val a0] = .nxt ρ) : M_turned [a0] = .ok .non := runG_nxt rfl rfl h
abbrev N_greatest_trap : List Str := ["net", "places"]
def G_greatest_trap : GS := (sRet (eC M_greatest_sink (aCons (eC M_turned (aCons (look 0) aNil)) (aCons (look 1) aNil))))
def M_greatest_trap : List PV → Res PV := runG 2 2 G_greatest_trap
theorem M_greatest_trap_eq (a0 a1 : PV) {p : PV} (h : G_greatest_trap [.val a0, .val a1] = .ret p) : M_greatest_trap [a0, a1] = .ok p := runG_ret rfl rfl h
theorem M_greatest_trap_nx (a0 a1 : PV) {ρ : PEnv} (h : G_greatest_trap [.val a0, .val a1] = .nxt ρ) : M_greatest_trap [a0, a1] = .ok .non := runG_nxt rfl rfl h
abbrev N_is_trap : List Str := ["net", "places"]
def G_is_trap : GS := (sRet (eC M_is_sink (aCons (eC M_turned (aCons (look 0) aNil)) (aCons (look 1) aNil))))
def M_is_trap : List PV → Res PV := runG 2 2 G_is_trap
theorem M_is_trap_eq (a0 a1 : PV) {p : PV} (h : G_is_trap [.val a0, .val a1] = .ret p) : M_is_trap [a0, a1] = .ok p := runG_ret rfl rfl h
theorem M_is_trap_nx (a0 a1 : PV) {ρ : PEnv} (h : G_is_trap [.val a0, .val a1] = .nxt ρ) : M_is_trap [a0, a1] = .ok .non := runG_nxt rfl rfl h
abbrev N_law_with_place : List Str := ["_law_net_here", "_law_what", "_law_bad", "_law_good"]
def G_law_with_place : GS := (sSeq (sIf (bB (b2 eqP (look 1) (cst (.int 0)))) (sRet (eC M_how_far (aCons (look 0) (aCons (look 3) (aCons (look 2) aNil))))) sNil)
    (sSeq (sIf (bB (b2 eqP (look 1) (cst (.int 1)))) (sRet (eC M_together (aCons (look 0) (aCons (look 3) (aCons (eLst (aCons (cst (.int 0)) (aCons (look 2) aNil))) aNil))))) sNil)
    (sSeq (sIf (bB (b2 eqP (look 1) (cst (.int 2)))) (sRet (eC M_greatest_sink (aCons (look 0) (aCons (eLst (aCons (look 2) aNil)) aNil)))) sNil)
    (sSeq (sIf (bB (b2 eqP (look 1) (cst (.int 3)))) (sRet (eC M_greatest_trap (aCons (look 0) (aCons (eLst (aCons (look 2) (aCons (cst (.int 0)) aNil))) aNil)))) sNil)
    (sSeq (sIf (bB (b2 eqP (look 1) (cst (.int 4)))) (sRet (eC M_is_sink (aCons (look 0) (aCons (eLst (aCons (cst (.int 0)) (aCons (look 2) aNil))) aNil)))) sNil)
    (sSeq (sIf (bB (b2 eqP (look 1) (cst (.int 5)))) (sRet (eC M_is_trap (aCons (look 0) (aCons (eLst (aCons (look 2) aNil)) aNil)))) sNil)
    (sRet (eC M_without_place (aCons (look 0) (aCons (look 2) aNil))))))))))
def M_law_with_place : List PV → Res PV := runG 4 4 G_law_with_place
theorem M_law_with_place_eq (a0 a1 a2 a3 : PV) {p : PV} (h : G_law_with_place [.val a0, .val a1, .val a2, .val a3] = .ret p) : M_law_with_place [a0, a1, a2, a3] = .ok p := runG_ret rfl rfl h
theorem M_law_with_place_nx (a0 a1 a2 a3 : PV) {ρ : PEnv} (h : G_law_with_place [.val a0, .val a1, .val a2, .val a3] = .nxt ρ) : M_law_with_place [a0, a1, a2, a3] = .ok .non := runG_nxt rfl rfl h
abbrev N_law_with_places : List Str := ["_law_net_here", "_law_what", "_law_bad", "_law_good"]
def G_law_with_places : GS := (sSeq (sIf (bB (b2 eqP (look 1) (cst (.int 0)))) (sRet (eC M_together (aCons (look 0) (aCons (look 3) (aCons (look 2) aNil))))) sNil)
    (sSeq (sIf (bB (b2 eqP (look 1) (cst (.int 1)))) (sRet (eC M_greatest_sink (aCons (look 0) (aCons (look 2) aNil)))) sNil)
    (sSeq (sIf (bB (b2 eqP (look 1) (cst (.int 2)))) (sRet (eC M_greatest_trap (aCons (look 0) (aCons (look 2) aNil)))) sNil)
    (sSeq (sIf (bB (b2 eqP (look 1) (cst (.int 3)))) (sRet (eC M_is_sink (aCons (look 0) (aCons (look 2) aNil)))) sNil)
    (sRet (eC M_is_trap (aCons (look 0) (aCons (look 2) aNil))))))))
def M_law_with_places : List PV → Res PV := runG 4 4 G_law_with_places
theorem M_law_with_places_eq (a0 a1 a2 a3 : PV) {p : PV} (h : G_law_with_places [.val a0, .val a1, .val a2, .val a3] = .ret p) : M_law_with_places [a0, a1, a2, a3] = .ok p := runG_ret rfl rfl h
theorem M_law_with_places_nx (a0 a1 a2 a3 : PV) {ρ : PEnv} (h : G_law_with_places [.val a0, .val a1, .val a2, .val a3] = .nxt ρ) : M_law_with_places [a0, a1, a2, a3] = .ok .non := runG_nxt rfl rfl h
abbrev N_law_with_two : List Str := ["_law_net_here", "_law_what", "_law_bad", "_law_good"]
def G_law_with_two : GS := (sSeq (sIf (bB (b2 eqP (look 1) (cst (.int 0)))) (sRet (eC M_can (aCons (look 0) (aCons (look 2) (aCons (negV (cst (.int 1))) aNil))))) sNil)
    (sSeq (sIf (bB (b2 eqP (look 1) (cst (.int 1)))) (sRet (eC M_behind (aCons (look 0) (aCons (look 2) (aCons (eLst (aCons (negV (cst (.int 1))) aNil)) aNil))))) sNil)
    (sSeq (sIf (bB (b2 eqP (look 1) (cst (.int 2)))) (sRet (eC M_least_before (aCons (look 0) (aCons (negV (cst (.int 1))) (aCons (look 2) aNil))))) sNil)
    (sSeq (sIf (bB (b2 eqP (look 1) (cst (.int 3)))) (sRet (eC M_together (aCons (look 0) (aCons (look 2) (aCons (eTup (aCons (cst (.int 0)) aNil)) aNil))))) sNil)
    (sRet (eC M_how_far (aCons (look 0) (aCons (look 2) (aCons (negV (cst (.int 1))) aNil)))))))))
def M_law_with_two : List PV → Res PV := runG 4 4 G_law_with_two
theorem M_law_with_two_eq (a0 a1 a2 a3 : PV) {p : PV} (h : G_law_with_two [.val a0, .val a1, .val a2, .val a3] = .ret p) : M_law_with_two [a0, a1, a2, a3] = .ok p := runG_ret rfl rfl h
theorem M_law_with_two_nx (a0 a1 a2 a3 : PV) {ρ : PEnv} (h : G_law_with_two [.val a0, .val a1, .val a2, .val a3] = .nxt ρ) : M_law_with_two [a0, a1, a2, a3] = .ok .non := runG_nxt rfl rfl h
abbrev N_law_asked : List Str := ["_law_kind_here", "_law_net_here", "_law_what", "_law_bad", "_law_good"]
def G_law_asked : GS := (sSeq (sIf (bB (b2 eqP (look 0) (cst (.int 0)))) (sRet (eC M_law_with_hoard (aCons (look 1) (aCons (look 2) (aCons (look 3) (aCons (look 4) aNil)))))) sNil)
    (sSeq (sIf (bB (b2 eqP (look 0) (cst (.int 1)))) (sRet (eC M_law_with_move (aCons (look 1) (aCons (look 2) (aCons (look 3) (aCons (look 4) aNil)))))) sNil)
    (sSeq (sIf (bB (b2 eqP (look 0) (cst (.int 2)))) (sRet (eC M_law_with_place (aCons (look 1) (aCons (look 2) (aCons (look 3) (aCons (look 4) aNil)))))) sNil)
    (sSeq (sIf (bB (b2 eqP (look 0) (cst (.int 3)))) (sRet (eC M_law_with_places (aCons (look 1) (aCons (look 2) (aCons (look 3) (aCons (look 4) aNil)))))) sNil)
    (sRet (eC M_law_with_two (aCons (look 1) (aCons (look 2) (aCons (look 3) (aCons (look 4) aNil))))))))))
def M_law_asked : List PV → Res PV := runG 5 5 G_law_asked
theorem M_law_asked_eq (a0 a1 a2 a3 a4 : PV) {p : PV} (h : G_law_asked [.val a0, .val a1, .val a2, .val a3, .val a4] = .ret p) : M_law_asked [a0, a1, a2, a3, a4] = .ok p := runG_ret rfl rfl h
theorem M_law_asked_nx (a0 a1 a2 a3 a4 : PV) {ρ : PEnv} (h : G_law_asked [.val a0, .val a1, .val a2, .val a3, .val a4] = .nxt ρ) : M_law_asked [a0, a1, a2, a3, a4] = .ok .non := runG_nxt rfl rfl h
abbrev N_law_kind : List Str := ["_law_case", "e", "_law_own", "_law_others"]
def G_law_kind : GS := (sSeq (sTry (fun ρ _ => ρ) (eC M_law_asked (aCons (b2 ixP (look 0) (cst (.int 0))) (aCons (b2 ixP (look 0) (cst (.int 1))) (aCons (b2 ixP (look 0) (cst (.int 2))) (aCons (b2 ixP (look 0) (cst (.int 3))) (aCons (b2 ixP (look 0) (cst (.int 4))) aNil)))))) ["TokenError", "NoNet", "NoHoard", "NoMove", "NoPlace", "Endless", "TooBig", "NoText", "Stuck"] (sAs 1 (sSeq (sSet 2 (eLst (aCons (isY 1 [("NoHoard", true), ("NoMove", false), ("NoNet", false), ("NoPlace", false)]) (aCons (isY 1 [("NoHoard", false), ("NoMove", true), ("NoNet", false), ("NoPlace", false)]) (aCons (isY 1 [("NoHoard", false), ("NoMove", false), ("NoNet", false), ("NoPlace", true)]) aNil)))))
    (sSeq (sOwn 3 (fLst (aCons (isY 1 [("NoHoard", false), ("NoMove", false), ("NoNet", true), ("NoPlace", false)]) (aCons (isY 1 [("NoHoard", false), ("NoMove", false), ("NoNet", false), ("NoPlace", false)]) (aCons (isY 1 [("NoHoard", false), ("NoMove", false), ("NoNet", false), ("NoPlace", false)]) (aCons (isY 1 [("NoHoard", false), ("NoMove", false), ("NoNet", false), ("NoPlace", false)]) aNil))))))
    (sSeq (sAppendO 3 (aCons (isY 1 [("NoHoard", false), ("NoMove", false), ("NoNet", false), ("NoPlace", false)]) aNil))
    (sFz 3 (sIf (aB (bT (isX 1 ["TokenError", "NoNet", "NoHoard", "NoMove", "NoPlace", "Endless", "TooBig", "NoText", "Stuck"])) (aB (bB (b2 eqP (eML countP' (b2 addL (look 2) (look 3)) (cst (.bl true))) (cst (.int 1)))) (bB (b2 (inP false) (cst (.bl true)) (look 2))))) (sRet (eML indexP (look 2) (cst (.bl true)))) sNil)))))))
    (sRet (negV (cst (.int 1)))))
def M_law_kind : List PV → Res PV := runG 1 4 G_law_kind
theorem M_law_kind_eq (a0 : PV) {p : PV} (h : G_law_kind [.val a0, .no, .no, .no] = .ret p) : M_law_kind [a0] = .ok p := runG_ret rfl rfl h
theorem M_law_kind_nx (a0 : PV) {ρ : PEnv} (h : G_law_kind [.val a0, .no, .no, .no] = .nxt ρ) : M_law_kind [a0] = .ok .non := runG_nxt rfl rfl h
abbrev N_law_bad_hoard : List Str := ["_law_good", "_law_cell", "_law_odd"]
def G_law_bad_hoard : GS := (sSeq (sSet 2 (b2 ixP (eLst (aCons (negV (cst (.int 1))) (aCons (cst (.bl true)) (aCons (cst (.str "1")) (aCons (cst .non) aNil))))) (b2 modP (b2 divP (look 1) (cst (.int 6))) (cst (.int 4)))))
    (sRet (b2 ixP (eLst (aCons (eC listP (aCons (look 0) aNil)) (aCons (b2 addP (look 0) (eTup (aCons (cst (.int 1)) aNil))) (aCons (eSl (look 0) (oSome (cst (.int 1))) oNone) (aCons (b2 addP (eSl (look 0) oNone (oSome (negV (cst (.int 1))))) (eTup (aCons (look 2) aNil))) (aCons (cst .non) (aCons (cst (.int 3)) aNil))))))) (b2 modP (look 1) (cst (.int 6))))))
def M_law_bad_hoard : List PV → Res PV := runG 2 3 G_law_bad_hoard
theorem M_law_bad_hoard_eq (a0 a1 : PV) {p : PV} (h : G_law_bad_hoard [.val a0, .val a1, .no] = .ret p) : M_law_bad_hoard [a0, a1] = .ok p := runG_ret rfl rfl h
theorem M_law_bad_hoard_nx (a0 a1 : PV) {ρ : PEnv} (h : G_law_bad_hoard [.val a0, .val a1, .no] = .nxt ρ) : M_law_bad_hoard [a0, a1] = .ok .non := runG_nxt rfl rfl h
abbrev N_law : List Str := ["_law_script", "_law_net_here", "_law_good", "_law_cell", "_law_kind_here", "_law_what", "_law_bad", "_law_due"]
def G_law : GS := (sSeq (sSet 1 (eC M_law_net (aCons (look 0) (aCons (cst (.int 0)) aNil))))
    (sSeq (sSet 2 (eC M_law_hoard (aCons (look 0) (aCons (cst (.int 24)) (aCons (b2 ixP (look 1) (cst (.int 0))) (aCons (cst (.int 3)) aNil))))))
    (sSeq (sSet 3 (eC M_law_mixed (aCons (look 0) (aCons (cst (.int 34)) (aCons (b2 powP (cst (.int 10)) (cst (.int 6))) aNil)))))
    (sSeq (sSet 4 (eC M_law_mixed (aCons (look 0) (aCons (cst (.int 35)) (aCons (cst (.int 5)) aNil)))))
    (sSeq (sSet 5 (eC M_law_mixed (aCons (look 0) (aCons (cst (.int 36)) (aCons (b2 ixP (eLst (aCons (cst (.int 12)) (aCons (cst (.int 6)) (aCons (cst (.int 7)) (aCons (cst (.int 5)) (aCons (cst (.int 5)) aNil)))))) (look 4)) aNil)))))
    (sSeq (sSet 6 (eC M_law_bad_hoard (aCons (look 2) (aCons (look 3) aNil))))
    (sSeq (sSet 7 (cst (.int 0)))
    (sSeq (sIf (bB (b2 eqP (look 4) (cst (.int 1)))) (sSeq (sSet 6 (b2 ixP (eLst (aCons (negV (cst (.int 1))) (aCons (eC lenP (aCons (b2 ixP (look 1) (cst (.int 1))) aNil)) (aCons (cst (.bl true)) (aCons (cst (.str "0")) (aCons (cst .non) (aCons (b2 addP (eC lenP (aCons (b2 ixP (look 1) (cst (.int 1))) aNil)) (cst (.int 9))) aNil))))))) (b2 modP (look 3) (cst (.int 6)))))
    (sSet 7 (cst (.int 1)))) (sIf (bB (b2 eqP (look 4) (cst (.int 2)))) (sSeq (sSet 6 (b2 ixP (eLst (aCons (negV (cst (.int 1))) (aCons (b2 ixP (look 1) (cst (.int 0))) (aCons (cst (.bl true)) (aCons (cst (.str "0")) (aCons (cst .non) (aCons (b2 addP (b2 ixP (look 1) (cst (.int 0))) (cst (.int 9))) aNil))))))) (b2 modP (look 3) (cst (.int 6)))))
    (sSet 7 (cst (.int 2)))) (sIf (bB (b2 eqP (look 4) (cst (.int 3)))) (sSeq (sSet 6 (b2 ixP (eLst (aCons (eTup (aCons (cst (.int 0)) aNil)) (aCons (cst .non) (aCons (cst (.str "0")) (aCons (cst .dic) aNil))))) (b2 modP (look 3) (cst (.int 4)))))
    (sSet 7 (cst (.int 2)))) (sIf (bB (b2 eqP (look 4) (cst (.int 4)))) (sSet 7 (eC intP (aCons (b2 eqP (look 5) (cst (.int 2))) aNil))) sNil))))
    (sSeq (sIf (aB (bB (b2 (inP false) (look 4) (eTup (aCons (cst (.int 0)) (aCons (cst (.int 4)) aNil))))) (bB (b2 notBP (eC M_is_hoard (aCons (look 1) (aCons (look 6) aNil))) (cst (.bl false))))) (sRet (cst (.bl false))) sNil)
    (sRet (b2 eqQ (eC M_law_kind (aCons (eTup (aCons (look 4) (aCons (look 1) (aCons (look 5) (aCons (look 6) (aCons (look 2) aNil)))))) aNil)) (look 7))))))))))))
def M_law : List PV → Res PV := runG 1 8 G_law
theorem M_law_eq (a0 : PV) {p : PV} (h : G_law [.val a0, .no, .no, .no, .no, .no, .no, .no] = .ret p) : M_law [a0] = .ok p := runG_ret rfl rfl h
theorem M_law_nx (a0 : PV) {ρ : PEnv} (h : G_law [.val a0, .no, .no, .no, .no, .no, .no, .no] = .nxt ρ) : M_law [a0] = .ok .non := runG_nxt rfl rfl h
end
end Tw
namespace Tw
open PySem L2
def top (i : Nat) : Stmt := PySem.Challenge.pw_tokenwall_k03_nets_refused.main.body.getD i (.Pass ⟨0, 0, 0, 0⟩)
abbrev S_is_whole : Stmt := top 14
abbrev S_is_row : Stmt := top 15
abbrev S_is_move : Stmt := top 16
abbrev S_is_net : Stmt := top 17
abbrev S_checked : Stmt := top 18
abbrev S_is_hoard : Stmt := top 19
abbrev S_law_cell_at : Stmt := top 71
abbrev S_law_mixed : Stmt := top 72
abbrev S_law_move : Stmt := top 73
abbrev S_law_net : Stmt := top 74
abbrev S_law_hoard : Stmt := top 75
abbrev S_need_hoard : Stmt := top 20
abbrev S_need_move : Stmt := top 21
abbrev S_over : Stmt := top 25
abbrev S_can : Stmt := top 26
abbrev S_need_run : Stmt := top 22
abbrev S_behind : Stmt := top 29
abbrev S_least_before : Stmt := top 34
abbrev S_sill : Stmt := top 38
abbrev S_cover : Stmt := top 44
abbrev S_need_place : Stmt := top 23
abbrev S_need_places : Stmt := top 24
abbrev S_together : Stmt := top 46
abbrev S_all_of : Stmt := top 56
abbrev S_how_far : Stmt := top 58
abbrev S_run_to : Stmt := top 59
abbrev S_stuck_hoards : Stmt := top 61
abbrev S_law_with_hoard : Stmt := top 76
abbrev S_law_with_move : Stmt := top 77
abbrev S_without_place : Stmt := top 50
abbrev S_told_places : Stmt := top 63
abbrev S_greatest_sink : Stmt := top 66
abbrev S_is_sink : Stmt := top 67
abbrev S_turned : Stmt := top 48
abbrev S_greatest_trap : Stmt := top 68
abbrev S_is_trap : Stmt := top 69
abbrev S_law_with_place : Stmt := top 78
abbrev S_law_with_places : Stmt := top 79
abbrev S_law_with_two : Stmt := top 80
abbrev S_law_asked : Stmt := top 81
abbrev S_law_kind : Stmt := top 82
abbrev S_law_bad_hoard : Stmt := top 83
abbrev S_law : Stmt := top 84
structure Top (K : PySem.W.Frag) (mg : Str → Option Value) : Prop where
  n_ValueError : mg "ValueError" = none
  n_bool : mg "bool" = none
  n_int : mg "int" = none
  n_isinstance : mg "isinstance" = none
  n_len : mg "len" = none
  n_list : mg "list" = none
  n_max : mg "max" = none
  n_range : mg "range" = none
  n_sum : mg "sum" = none
  n_tuple : mg "tuple" = none
  n_zip : mg "zip" = none
  c_MOST_PLACES : ∃ t, mg "MOST_PLACES" = some (.int 6 t)
  c_MOST_MOVES : ∃ t, mg "MOST_MOVES" = some (.int 10 t)
  c_MOST_TOKENS : ∃ t, mg "MOST_TOKENS" = some (.int 9 t)
  x_NoHoard : ExcCls K mg "NoHoard"
  x_NoMove : ExcCls K mg "NoMove"
  x_NoNet : ExcCls K mg "NoNet"
  x_NoPlace : ExcCls K mg "NoPlace"
  t_TokenError : TakesK K mg "TokenError" ["TokenError", "NoNet", "NoHoard", "NoMove", "NoPlace", "Endless", "TooBig", "NoText", "Stuck"]
  m_TokenError : NamesK K mg ["TokenError", "NoNet", "NoHoard", "NoMove", "NoPlace", "Endless", "TooBig", "NoText", "Stuck"]
  cls : ClsK K ["NoHoard", "NoMove", "NoNet", "NoPlace"]
  yk_Endless : ∃ C, mg "Endless" = some (.ref C) ∧ AnsK K [("NoHoard", false), ("NoMove", false), ("NoNet", false), ("NoPlace", false)] (.ref C)
  yk_NoHoard : ∃ C, mg "NoHoard" = some (.ref C) ∧ AnsK K [("NoHoard", true), ("NoMove", false), ("NoNet", false), ("NoPlace", false)] (.ref C)
  yk_NoMove : ∃ C, mg "NoMove" = some (.ref C) ∧ AnsK K [("NoHoard", false), ("NoMove", true), ("NoNet", false), ("NoPlace", false)] (.ref C)
  yk_NoNet : ∃ C, mg "NoNet" = some (.ref C) ∧ AnsK K [("NoHoard", false), ("NoMove", false), ("NoNet", true), ("NoPlace", false)] (.ref C)
  yk_NoPlace : ∃ C, mg "NoPlace" = some (.ref C) ∧ AnsK K [("NoHoard", false), ("NoMove", false), ("NoNet", false), ("NoPlace", true)] (.ref C)
  yk_NoText : ∃ C, mg "NoText" = some (.ref C) ∧ AnsK K [("NoHoard", false), ("NoMove", false), ("NoNet", false), ("NoPlace", false)] (.ref C)
  yk_Stuck : ∃ C, mg "Stuck" = some (.ref C) ∧ AnsK K [("NoHoard", false), ("NoMove", false), ("NoNet", false), ("NoPlace", false)] (.ref C)
  yk_TooBig : ∃ C, mg "TooBig" = some (.ref C) ∧ AnsK K [("NoHoard", false), ("NoMove", false), ("NoNet", false), ("NoPlace", false)] (.ref C)
  i_ValueError : IsK K ["TokenError", "NoNet", "NoHoard", "NoMove", "NoPlace", "Endless", "TooBig", "NoText", "Stuck"] (.type "ValueError")
  f_is_whole : Tw.Fn K mg "is_whole" ["thing"] S_is_whole
  f_is_row : Tw.Fn K mg "is_row" ["thing", "places"] S_is_row
  f_is_move : Tw.Fn K mg "is_move" ["thing", "places"] S_is_move
  f_is_net : Tw.Fn K mg "is_net" ["thing"] S_is_net
  f_checked : Tw.Fn K mg "checked" ["net"] S_checked
  f_is_hoard : Tw.Fn K mg "is_hoard" ["net", "thing"] S_is_hoard
  f_law_cell_at : Tw.Fn K mg "_law_cell_at" ["_law_script", "_law_k"] S_law_cell_at
  f_law_mixed : Tw.Fn K mg "_law_mixed" ["_law_script", "_law_k", "_law_many"] S_law_mixed
  f_law_move : Tw.Fn K mg "_law_move" ["_law_script", "_law_at", "_law_size", "_law_even"] S_law_move
  f_law_net : Tw.Fn K mg "_law_net" ["_law_script", "_law_at"] S_law_net
  f_law_hoard : Tw.Fn K mg "_law_hoard" ["_law_script", "_law_at", "_law_size", "_law_most"] S_law_hoard
  f_need_hoard : Tw.Fn K mg "need_hoard" ["net", "thing"] S_need_hoard
  f_need_move : Tw.Fn K mg "need_move" ["net", "thing"] S_need_move
  f_over : Tw.Fn K mg "over" ["one", "other"] S_over
  f_can : Tw.Fn K mg "can" ["net", "hoard", "move"] S_can
  f_need_run : Tw.Fn K mg "need_run" ["net", "thing"] S_need_run
  f_behind : Tw.Fn K mg "behind" ["net", "hoard", "run"] S_behind
  f_least_before : Tw.Fn K mg "least_before" ["net", "move", "goal"] S_least_before
  f_sill : Tw.Fn K mg "sill" ["net", "goal"] S_sill
  f_cover : Tw.Fn K mg "cover" ["net", "start", "goal"] S_cover
  f_need_place : Tw.Fn K mg "need_place" ["net", "thing"] S_need_place
  f_need_places : Tw.Fn K mg "need_places" ["net", "thing"] S_need_places
  f_together : Tw.Fn K mg "together" ["net", "start", "places"] S_together
  f_all_of : Tw.Fn K mg "all_of" ["net", "start"] S_all_of
  f_how_far : Tw.Fn K mg "how_far" ["net", "start", "place"] S_how_far
  f_run_to : Tw.Fn K mg "run_to" ["net", "start", "goal"] S_run_to
  f_stuck_hoards : Tw.Fn K mg "stuck_hoards" ["net", "start"] S_stuck_hoards
  f_law_with_hoard : Tw.Fn K mg "_law_with_hoard" ["_law_net_here", "_law_what", "_law_bad", "_law_good"] S_law_with_hoard
  f_law_with_move : Tw.Fn K mg "_law_with_move" ["_law_net_here", "_law_what", "_law_bad", "_law_good"] S_law_with_move
  f_without_place : Tw.Fn K mg "without_place" ["net", "place"] S_without_place
  f_told_places : Tw.Fn K mg "told_places" ["net", "places"] S_told_places
  f_greatest_sink : Tw.Fn K mg "greatest_sink" ["net", "places"] S_greatest_sink
  f_is_sink : Tw.Fn K mg "is_sink" ["net", "places"] S_is_sink
  f_turned : Tw.Fn K mg "turned" ["net"] S_turned
  f_greatest_trap : Tw.Fn K mg "greatest_trap" ["net", "places"] S_greatest_trap
  f_is_trap : Tw.Fn K mg "is_trap" ["net", "places"] S_is_trap
  f_law_with_place : Tw.Fn K mg "_law_with_place" ["_law_net_here", "_law_what", "_law_bad", "_law_good"] S_law_with_place
  f_law_with_places : Tw.Fn K mg "_law_with_places" ["_law_net_here", "_law_what", "_law_bad", "_law_good"] S_law_with_places
  f_law_with_two : Tw.Fn K mg "_law_with_two" ["_law_net_here", "_law_what", "_law_bad", "_law_good"] S_law_with_two
  f_law_asked : Tw.Fn K mg "_law_asked" ["_law_kind_here", "_law_net_here", "_law_what", "_law_bad", "_law_good"] S_law_asked
  f_law_kind : Tw.Fn K mg "_law_kind" ["_law_case"] S_law_kind
  f_law_bad_hoard : Tw.Fn K mg "_law_bad_hoard" ["_law_good", "_law_cell"] S_law_bad_hoard
  f_law : Tw.Fn K mg "law" ["_law_script"] S_law
theorem sc_is_whole : FnScope N_is_whole ["thing"] (defScope S_is_whole) := ⟨rfl, rfl, rfl, by decide +kernel, rfl, by decide +kernel, by decide +kernel⟩
theorem b_is_whole {P : Program} {w : World} {K : PySem.W.Frag} {mg : Str → Option Value} {base : Heap} (T : Top K mg) (f : Addr) (cdv : Value) (A : Around) (outer : List Env) (s : Shared) (H : Hp) (E : XK) (E' : Value → Shared → Prop) (hr : Room 0 (A.deeper (PyProof.Rows.envOfC "is_whole" (defScope S_is_whole) s.heap.objs.size f cdv)))
    (hp : PassesOwn (model P w) (A.deeper (PyProof.Rows.envOfC "is_whole" (defScope S_is_whole) s.heap.objs.size f cdv)) (PyProof.Rows.envOfC "is_whole" (defScope S_is_whole) s.heap.objs.size f cdv) E') :
    PPSs ((cxOf (CX1 P w) P w K mg base N_is_whole "is_whole" (defScope S_is_whole) f cdv A outer s H E).wish E') (defBody S_is_whole) G_is_whole := by
  have nd : N_is_whole.Nodup := sc_is_whole.nd
  have hu := hr.units
  exact (pss_oneP (pps_ret (pp_and (pp_isT (c := "int") (pp_var 0) (by rfl) T.n_isinstance (by rfl) T.n_int bt_int) (pp_one (pp_not (pp_isT (c := "bool") (pp_var 0) (by rfl) T.n_isinstance (by rfl) T.n_bool bt_bool))))))
theorem d_is_whole {P : Program} {w : World} {K : PySem.W.Frag} {mg : Str → Option Value} {base : Heap} (T : Top K mg) : DefX P w K mg base "is_whole" ["thing"] 1 (spX K mg M_is_whole) := def_exc T.f_is_whole sc_is_whole fun f cdv A outer s H E E' hr hp => b_is_whole T f cdv A outer s H E E' hr hp
theorem sc_is_row : FnScope N_is_row ["thing", "places"] (defScope S_is_row) := ⟨rfl, rfl, rfl, by decide +kernel, rfl, by decide +kernel, by decide +kernel⟩
theorem b_is_row {P : Program} {w : World} {K : PySem.W.Frag} {mg : Str → Option Value} {base : Heap} (T : Top K mg) (f : Addr) (cdv : Value) (A : Around) (outer : List Env) (s : Shared) (H : Hp) (E : XK) (E' : Value → Shared → Prop) (hr : Room 1 (A.deeper (PyProof.Rows.envOfC "is_row" (defScope S_is_row) s.heap.objs.size f cdv)))
    (hp : PassesOwn (model P w) (A.deeper (PyProof.Rows.envOfC "is_row" (defScope S_is_row) s.heap.objs.size f cdv)) (PyProof.Rows.envOfC "is_row" (defScope S_is_row) s.heap.objs.size f cdv) E') :
    PPSs ((cxOf (CX1 P w) P w K mg base N_is_row "is_row" (defScope S_is_row) f cdv A outer s H E).wish E') (defBody S_is_row) G_is_row := by
  have nd : N_is_row.Nodup := sc_is_row.nd
  have hu := hr.units
  exact (pss_consP (pps_if (ppw_or (ppt_not (ppt_val (pp_isT (c := "tuple") (pp_var 0) (by rfl) T.n_isinstance (by rfl) T.n_tuple bt_tuple))) (ppw_or1 (ppt_ne (pp_callB call_len_seq calP_len (by rfl) T.n_len PySem.boot_len (ppa_cons (pp_var 0) ppa_nil)) (pp_var 1)))).pt (pss_oneP (pps_ret pp_bl)) pss_nilP)
      (pss_consP (pps_for hp rfl (ppi_seq (pp_var 0)) (pg_name (i := 2) nd rfl (Or.inl rfl)) (tgr_name 2) (pss_oneP (pps_if (ppw_or (ppt_not (ppt_val (pp_callX (d_is_whole T) hr (ppa_cons (pp_var 2) ppa_nil)))) (ppw_or1 (ppt_lt (pp_var 2) pp_int))).pt (pss_oneP (pps_ret pp_bl)) pss_nilP)))
      (pss_oneP (pps_ret pp_bl))))
theorem d_is_row {P : Program} {w : World} {K : PySem.W.Frag} {mg : Str → Option Value} {base : Heap} (T : Top K mg) : DefX P w K mg base "is_row" ["thing", "places"] 2 (spX K mg M_is_row) := def_exc T.f_is_row sc_is_row fun f cdv A outer s H E E' hr hp => b_is_row T f cdv A outer s H E E' hr hp
theorem sc_is_move : FnScope N_is_move ["thing", "places"] (defScope S_is_move) := ⟨rfl, rfl, rfl, by decide +kernel, rfl, by decide +kernel, by decide +kernel⟩
theorem b_is_move {P : Program} {w : World} {K : PySem.W.Frag} {mg : Str → Option Value} {base : Heap} (T : Top K mg) (f : Addr) (cdv : Value) (A : Around) (outer : List Env) (s : Shared) (H : Hp) (E : XK) (E' : Value → Shared → Prop) (hr : Room 2 (A.deeper (PyProof.Rows.envOfC "is_move" (defScope S_is_move) s.heap.objs.size f cdv)))
    (hp : PassesOwn (model P w) (A.deeper (PyProof.Rows.envOfC "is_move" (defScope S_is_move) s.heap.objs.size f cdv)) (PyProof.Rows.envOfC "is_move" (defScope S_is_move) s.heap.objs.size f cdv) E') :
    PPSs ((cxOf (CX1 P w) P w K mg base N_is_move "is_move" (defScope S_is_move) f cdv A outer s H E).wish E') (defBody S_is_move) G_is_move := by
  have nd : N_is_move.Nodup := sc_is_move.nd
  have hu := hr.units
  exact (pss_consP (pps_if (ppw_or (ppt_not (ppt_val (pp_isT (c := "tuple") (pp_var 0) (by rfl) T.n_isinstance (by rfl) T.n_tuple bt_tuple))) (ppw_or1 (ppt_ne (pp_callB call_len_seq calP_len (by rfl) T.n_len PySem.boot_len (ppa_cons (pp_var 0) ppa_nil)) pp_int))).pt (pss_oneP (pps_ret pp_bl)) pss_nilP)
      (pss_consP (pps_for hp rfl (ppi_seq (pp_var 0)) (pg_name (i := 2) nd rfl (Or.inl rfl)) (tgr_name 2) (pss_oneP (pps_if (ppw_or (ppt_not (ppt_val (pp_callX (d_is_row T) hr (ppa_cons (pp_var 2) (ppa_cons (pp_var 1) ppa_nil))))) (ppw_or1 (ppt_gt (pp_callB ((call_maxT (by rfl)).or (call_max2 (by rfl))) calP_max (by rfl) T.n_max bt_max (ppa_cons (pp_var 2) ppa_nil)) (pp_constI T.c_MOST_TOKENS)))).pt (pss_oneP (pps_ret pp_bl)) pss_nilP)))
      (pss_oneP (pps_ret pp_bl))))
theorem d_is_move {P : Program} {w : World} {K : PySem.W.Frag} {mg : Str → Option Value} {base : Heap} (T : Top K mg) : DefX P w K mg base "is_move" ["thing", "places"] 3 (spX K mg M_is_move) := def_exc T.f_is_move sc_is_move fun f cdv A outer s H E E' hr hp => b_is_move T f cdv A outer s H E E' hr hp
theorem sc_is_net : FnScope N_is_net ["thing"] (defScope S_is_net) := ⟨rfl, rfl, rfl, by decide +kernel, rfl, by decide +kernel, by decide +kernel⟩
theorem b_is_net {P : Program} {w : World} {K : PySem.W.Frag} {mg : Str → Option Value} {base : Heap} (T : Top K mg) (f : Addr) (cdv : Value) (A : Around) (outer : List Env) (s : Shared) (H : Hp) (E : XK) (E' : Value → Shared → Prop) (hr : Room 3 (A.deeper (PyProof.Rows.envOfC "is_net" (defScope S_is_net) s.heap.objs.size f cdv)))
    (hp : PassesOwn (model P w) (A.deeper (PyProof.Rows.envOfC "is_net" (defScope S_is_net) s.heap.objs.size f cdv)) (PyProof.Rows.envOfC "is_net" (defScope S_is_net) s.heap.objs.size f cdv) E') :
    PPSs ((cxOf (CX1 P w) P w K mg base N_is_net "is_net" (defScope S_is_net) f cdv A outer s H E).wish E') (defBody S_is_net) G_is_net := by
  have nd : N_is_net.Nodup := sc_is_net.nd
  have hu := hr.units
  exact (pss_consP (pps_if (ppw_or (ppt_not (ppt_val (pp_isT (c := "tuple") (pp_var 0) (by rfl) T.n_isinstance (by rfl) T.n_tuple bt_tuple))) (ppw_or1 (ppt_ne (pp_callB call_len_seq calP_len (by rfl) T.n_len PySem.boot_len (ppa_cons (pp_var 0) ppa_nil)) pp_int))).pt (pss_oneP (pps_ret pp_bl)) pss_nilP)
      (pss_consP (pps_setE (i := 1) nd rfl (Or.inl rfl) (pp_ix (pp_var 0) pp_int))
      (pss_consP (pps_setE (i := 2) nd rfl (Or.inl rfl) (pp_ix (pp_var 0) pp_int))
      (pss_consP (pps_if (ppw_or (ppt_not (ppt_val (pp_callX (d_is_whole T) hr (ppa_cons (pp_var 1) ppa_nil)))) (ppw_or (ppt_lt (pp_var 1) pp_int) (ppw_or1 (ppt_gt (pp_var 1) (pp_constI T.c_MOST_PLACES))))).pt (pss_oneP (pps_ret pp_bl)) pss_nilP)
      (pss_consP (pps_if (ppw_or (ppt_not (ppt_val (pp_isT (c := "tuple") (pp_var 2) (by rfl) T.n_isinstance (by rfl) T.n_tuple bt_tuple))) (ppw_or1 (ppt_gt (pp_callB call_len_seq calP_len (by rfl) T.n_len PySem.boot_len (ppa_cons (pp_var 2) ppa_nil)) (pp_constI T.c_MOST_MOVES)))).pt (pss_oneP (pps_ret pp_bl)) pss_nilP)
      (pss_consP (pps_for hp rfl (ppi_seq (pp_var 2)) (pg_name (i := 3) nd rfl (Or.inl rfl)) (tgr_name 3) (pss_oneP (pps_if (ppt_not (ppt_val (pp_callX (d_is_move T) hr (ppa_cons (pp_var 3) (ppa_cons (pp_var 1) ppa_nil))))) (pss_oneP (pps_ret pp_bl)) pss_nilP)))
      (pss_oneP (pps_ret pp_bl))))))))
theorem d_is_net {P : Program} {w : World} {K : PySem.W.Frag} {mg : Str → Option Value} {base : Heap} (T : Top K mg) : DefX P w K mg base "is_net" ["thing"] 4 (spX K mg M_is_net) := def_exc T.f_is_net sc_is_net fun f cdv A outer s H E E' hr hp => b_is_net T f cdv A outer s H E E' hr hp
theorem sc_checked : FnScope N_checked ["net"] (defScope S_checked) := ⟨rfl, rfl, rfl, by decide +kernel, rfl, by decide +kernel, by decide +kernel⟩
theorem b_checked {P : Program} {w : World} {K : PySem.W.Frag} {mg : Str → Option Value} {base : Heap} (T : Top K mg) (f : Addr) (cdv : Value) (A : Around) (outer : List Env) (s : Shared) (H : Hp) (E : XK) (E' : Value → Shared → Prop) (hr : Room 4 (A.deeper (PyProof.Rows.envOfC "checked" (defScope S_checked) s.heap.objs.size f cdv)))
    (hp : PassesOwn (model P w) (A.deeper (PyProof.Rows.envOfC "checked" (defScope S_checked) s.heap.objs.size f cdv)) (PyProof.Rows.envOfC "checked" (defScope S_checked) s.heap.objs.size f cdv) E') :
    PPSs ((cxOf (CX1 P w) P w K mg base N_checked "checked" (defScope S_checked) f cdv A outer s H E).wish E') (defBody S_checked) G_checked := by
  have nd : N_checked.Nodup := sc_checked.nd
  have hu := hr.units
  exact (pss_consP (pps_if (ppt_not (ppt_val (pp_callX (d_is_net T) hr (ppa_cons (pp_var 0) ppa_nil)))) (pss_oneP (pps_raise T.x_NoNet rfl rfl (ppa_cons pp_str ppa_nil))) pss_nilP)
      (pss_oneP (pps_ret (pp_var 0))))
theorem d_checked {P : Program} {w : World} {K : PySem.W.Frag} {mg : Str → Option Value} {base : Heap} (T : Top K mg) : DefX P w K mg base "checked" ["net"] 5 (spX K mg M_checked) := def_exc T.f_checked sc_checked fun f cdv A outer s H E E' hr hp => b_checked T f cdv A outer s H E E' hr hp
theorem sc_is_hoard : FnScope N_is_hoard ["net", "thing"] (defScope S_is_hoard) := ⟨rfl, rfl, rfl, by decide +kernel, rfl, by decide +kernel, by decide +kernel⟩
theorem b_is_hoard {P : Program} {w : World} {K : PySem.W.Frag} {mg : Str → Option Value} {base : Heap} (T : Top K mg) (f : Addr) (cdv : Value) (A : Around) (outer : List Env) (s : Shared) (H : Hp) (E : XK) (E' : Value → Shared → Prop) (hr : Room 5 (A.deeper (PyProof.Rows.envOfC "is_hoard" (defScope S_is_hoard) s.heap.objs.size f cdv)))
    (hp : PassesOwn (model P w) (A.deeper (PyProof.Rows.envOfC "is_hoard" (defScope S_is_hoard) s.heap.objs.size f cdv)) (PyProof.Rows.envOfC "is_hoard" (defScope S_is_hoard) s.heap.objs.size f cdv) E') :
    PPSs ((cxOf (CX1 P w) P w K mg base N_is_hoard "is_hoard" (defScope S_is_hoard) f cdv A outer s H E).wish E') (defBody S_is_hoard) G_is_hoard := by
  have nd : N_is_hoard.Nodup := sc_is_hoard.nd
  have hu := hr.units
  exact (pss_oneP (pps_ret (pp_callX (d_is_row T) hr (ppa_cons (pp_var 1) (ppa_cons (pp_ix (pp_callX (d_checked T) hr (ppa_cons (pp_var 0) ppa_nil)) pp_int) ppa_nil)))))
theorem d_is_hoard {P : Program} {w : World} {K : PySem.W.Frag} {mg : Str → Option Value} {base : Heap} (T : Top K mg) : DefX P w K mg base "is_hoard" ["net", "thing"] 6 (spX K mg M_is_hoard) := def_exc T.f_is_hoard sc_is_hoard fun f cdv A outer s H E E' hr hp => b_is_hoard T f cdv A outer s H E E' hr hp
theorem sc_law_cell_at : FnScope N_law_cell_at ["_law_script", "_law_k"] (defScope S_law_cell_at) := ⟨rfl, rfl, rfl, by decide +kernel, rfl, by decide +kernel, by decide +kernel⟩
theorem b_law_cell_at {P : Program} {w : World} {K : PySem.W.Frag} {mg : Str → Option Value} {base : Heap} (T : Top K mg) (f : Addr) (cdv : Value) (A : Around) (outer : List Env) (s : Shared) (H : Hp) (E : XK) (E' : Value → Shared → Prop) (hr : Room 0 (A.deeper (PyProof.Rows.envOfC "_law_cell_at" (defScope S_law_cell_at) s.heap.objs.size f cdv)))
    (hp : PassesOwn (model P w) (A.deeper (PyProof.Rows.envOfC "_law_cell_at" (defScope S_law_cell_at) s.heap.objs.size f cdv)) (PyProof.Rows.envOfC "_law_cell_at" (defScope S_law_cell_at) s.heap.objs.size f cdv) E') :
    PPSs ((cxOf (CX1 P w) P w K mg base N_law_cell_at "_law_cell_at" (defScope S_law_cell_at) f cdv A outer s H E).wish E') (defBody S_law_cell_at) G_law_cell_at := by
  have nd : N_law_cell_at.Nodup := sc_law_cell_at.nd
  have hu := hr.units
  exact (pss_consP (pps_if (ppt_lt (pp_var 1) (pp_callB call_len_seq calP_len (by rfl) T.n_len PySem.boot_len (ppa_cons (pp_var 0) ppa_nil))) (pss_oneP (pps_ret (pp_ix (pp_var 0) (pp_var 1)))) pss_nilP)
      (pss_consP (pps_if (ppt_eq hu (pp_var 0) (pp_lst ppa_nil)) (pss_oneP (pps_ret pp_int)) pss_nilP)
      (pss_oneP (pps_ret (pp_add (pp_mul (pp_ix (pp_var 0) (pp_mod (pp_var 1) (pp_callB call_len_seq calP_len (by rfl) T.n_len PySem.boot_len (ppa_cons (pp_var 0) ppa_nil)))) pp_int) (pp_var 1))))))
theorem d_law_cell_at {P : Program} {w : World} {K : PySem.W.Frag} {mg : Str → Option Value} {base : Heap} (T : Top K mg) : DefX P w K mg base "_law_cell_at" ["_law_script", "_law_k"] 1 (spX K mg M_law_cell_at) := def_exc T.f_law_cell_at sc_law_cell_at fun f cdv A outer s H E E' hr hp => b_law_cell_at T f cdv A outer s H E E' hr hp
theorem sc_law_mixed : FnScope N_law_mixed ["_law_script", "_law_k", "_law_many"] (defScope S_law_mixed) := ⟨rfl, rfl, rfl, by decide +kernel, rfl, by decide +kernel, by decide +kernel⟩
theorem b_law_mixed {P : Program} {w : World} {K : PySem.W.Frag} {mg : Str → Option Value} {base : Heap} (T : Top K mg) (f : Addr) (cdv : Value) (A : Around) (outer : List Env) (s : Shared) (H : Hp) (E : XK) (E' : Value → Shared → Prop) (hr : Room 1 (A.deeper (PyProof.Rows.envOfC "_law_mixed" (defScope S_law_mixed) s.heap.objs.size f cdv)))
    (hp : PassesOwn (model P w) (A.deeper (PyProof.Rows.envOfC "_law_mixed" (defScope S_law_mixed) s.heap.objs.size f cdv)) (PyProof.Rows.envOfC "_law_mixed" (defScope S_law_mixed) s.heap.objs.size f cdv) E') :
    PPSs ((cxOf (CX1 P w) P w K mg base N_law_mixed "_law_mixed" (defScope S_law_mixed) f cdv A outer s H E).wish E') (defBody S_law_mixed) G_law_mixed := by
  have nd : N_law_mixed.Nodup := sc_law_mixed.nd
  have hu := hr.units
  exact (pss_consP (pps_setE (i := 3) nd rfl (Or.inl rfl) (pp_mod (pp_mul (pp_add (pp_add (pp_callX (d_law_cell_at T) hr (ppa_cons (pp_var 0) (ppa_cons (pp_var 1) ppa_nil))) (pp_mul pp_int (pp_var 1))) pp_int) pp_int) pp_int))
      (pss_oneP (pps_ret (pp_mod (pp_mod (pp_add (pp_add (pp_mul (pp_var 3) (pp_var 3)) (pp_mul pp_int (pp_var 3))) (pp_var 1)) pp_int) (pp_var 2)))))
theorem d_law_mixed {P : Program} {w : World} {K : PySem.W.Frag} {mg : Str → Option Value} {base : Heap} (T : Top K mg) : DefX P w K mg base "_law_mixed" ["_law_script", "_law_k", "_law_many"] 2 (spX K mg M_law_mixed) := def_exc T.f_law_mixed sc_law_mixed fun f cdv A outer s H E E' hr hp => b_law_mixed T f cdv A outer s H E E' hr hp
theorem sc_law_move : FnScope N_law_move ["_law_script", "_law_at", "_law_size", "_law_even"] (defScope S_law_move) := ⟨rfl, rfl, rfl, by decide +kernel, rfl, by decide +kernel, by decide +kernel⟩
theorem b_law_move {P : Program} {w : World} {K : PySem.W.Frag} {mg : Str → Option Value} {base : Heap} (T : Top K mg) (f : Addr) (cdv : Value) (A : Around) (outer : List Env) (s : Shared) (H : Hp) (E : XK) (E' : Value → Shared → Prop) (hr : Room 2 (A.deeper (PyProof.Rows.envOfC "_law_move" (defScope S_law_move) s.heap.objs.size f cdv)))
    (hp : PassesOwn (model P w) (A.deeper (PyProof.Rows.envOfC "_law_move" (defScope S_law_move) s.heap.objs.size f cdv)) (PyProof.Rows.envOfC "_law_move" (defScope S_law_move) s.heap.objs.size f cdv) E') :
    PPSs ((cxOf (CX1 P w) P w K mg base N_law_move "_law_move" (defScope S_law_move) f cdv A outer s H E).wish E') (defBody S_law_move) G_law_move := by
  have nd : N_law_move.Nodup := sc_law_move.nd
  have hu := hr.units
  exact (pss_consP (pps_set (ps_setC (i := 4) nd rfl (Or.inl rfl) rfl rfl rfl (lv := ["_law_k"]) (fv := ["_law_script", "_law_at"]) (ix := [0, 1]) (sc := defScope S_law_move) (N := N_law_move) (blkSc (by decide +kernel)) (ppi_range1 (by rfl) T.n_range (ppa_cons (pp_var 2) ppa_nil)) (fun _ _ _ _ _ _ => (pg_name (i := 0) (show List.Nodup (["_law_k", "_law_script", "_law_at"] : List Str) from by decide +kernel) rfl (Or.inl rfl))) (gk_name (by decide)) (fun _ _ _ _ _ _ => pts_no) (fun _ _ _ _ _ _ => pe_elt (pp_callN (d_law_mixed T) hr (ppa_cons (pp_var 1) (ppa_cons (pp_add (pp_var 2) (pp_var 0)) (ppa_cons pp_int ppa_nil)))))) (fun σ H Q h => comp_ok (tgr_name 0) (by decide) σ H Q (tF_of σ H Q h)))
      (pss_consP (pps_set (ps_setC (i := 5) nd rfl (Or.inl rfl) rfl rfl rfl (lv := ["_law_cell"]) (fv := []) (ix := []) (sc := defScope S_law_move) (N := N_law_move) (blkSc (by decide +kernel)) (ppi_seq (pp_var 4)) (fun _ _ _ _ _ _ => (pg_name (i := 0) (show List.Nodup (["_law_cell"] : List Str) from by decide +kernel) rfl (Or.inl rfl))) (gk_name (by decide)) (fun _ _ _ _ _ _ => pts_no) (fun _ _ _ _ _ _ => pe_elt (pp_ix (pp_lst (ppa_cons pp_int (ppa_cons pp_int (ppa_cons pp_int (ppa_cons pp_int (ppa_cons pp_int ppa_nil)))))) (pp_mod (pp_var 0) pp_int)))) (fun σ H Q h => comp_ok (tgr_name 0) (by decide) σ H Q (tF_of σ H Q h)))
      (pss_consP (pps_own (ps_setC (i := 6) nd rfl (Or.inl rfl) rfl rfl rfl (lv := ["_law_cell"]) (fv := []) (ix := []) (sc := defScope S_law_move) (N := N_law_move) (blkSc (by decide +kernel)) (ppi_seq (pp_var 4)) (fun _ _ _ _ _ _ => (pg_name (i := 0) (show List.Nodup (["_law_cell"] : List Str) from by decide +kernel) rfl (Or.inl rfl))) (gk_name (by decide)) (fun _ _ _ _ _ _ => pts_no) (fun _ _ _ _ _ _ => pe_elt (pp_ix (pp_lst (ppa_cons pp_int (ppa_cons pp_int (ppa_cons pp_int (ppa_cons pp_int (ppa_cons pp_int ppa_nil)))))) (pp_fdiv (pp_var 0) pp_int)))) (comp_ok (tgr_name 0) (by decide)))
      (pss_consP (pps_if (ppt_val (pp_var 3)) (pss_consP (pps_own (ps_setC (i := 6) nd rfl (Or.inl rfl) rfl rfl rfl (lv := ["_law_k"]) (fv := []) (ix := []) (sc := defScope S_law_move) (N := N_law_move) (blkSc (by decide +kernel)) (ppi_range1 (by rfl) T.n_range (ppa_cons (pp_var 2) ppa_nil)) (fun _ _ _ _ _ _ => (pg_name (i := 0) (show List.Nodup (["_law_k"] : List Str) from by decide +kernel) rfl (Or.inl rfl))) (gk_name (by decide)) (fun _ _ _ _ _ _ => pts_no) (fun _ _ _ _ _ _ => pe_elt pp_int)) (comp_ok (tgr_name 0) (by decide)))
      (pss_consP (pps_setE (i := 7) nd rfl (Or.inl rfl) (pp_callX (d_law_mixed T) hr (ppa_cons (pp_var 0) (ppa_cons (pp_add (pp_var 1) pp_int) (ppa_cons (pp_pow pp_int pp_int) ppa_nil)))))
      (pss_oneP (pps_for hp rfl (ppi_range1 (by rfl) T.n_range (ppa_cons (pp_callB (call_sum (by rfl)) calP_sum (by rfl) T.n_sum bt_sum (ppa_cons (pp_var 5) ppa_nil)) ppa_nil)) (pg_name (i := 8) nd rfl (Or.inl rfl)) (tgr_name 8) (pss_consP (pps_setO (i := 6) (pp_add (pp_ixO 6 (pp_mod (pp_var 7) (pp_var 2))) pp_int) (pp_mod (pp_var 7) (pp_var 2)))
      (pss_oneP (pps_setE (i := 7) nd rfl (Or.inl rfl) (pp_fdiv (pp_var 7) (pp_var 2))))))))) pss_nilP)
      (pss_oneP (pps_ret (pp_tup (ppa_cons (pp_callTy call_tuple_of calP_tuple (by rfl) T.n_tuple bt_tuple (ppa_cons (pp_var 5) ppa_nil)) (ppa_cons (pp_tupleO 6 (by rfl) T.n_tuple) ppa_nil)))))))))
theorem d_law_move {P : Program} {w : World} {K : PySem.W.Frag} {mg : Str → Option Value} {base : Heap} (T : Top K mg) : DefX P w K mg base "_law_move" ["_law_script", "_law_at", "_law_size", "_law_even"] 3 (spX K mg M_law_move) := def_exc T.f_law_move sc_law_move fun f cdv A outer s H E E' hr hp => b_law_move T f cdv A outer s H E E' hr hp
theorem sc_law_net : FnScope N_law_net ["_law_script", "_law_at"] (defScope S_law_net) := ⟨rfl, rfl, rfl, by decide +kernel, rfl, by decide +kernel, by decide +kernel⟩
theorem b_law_net {P : Program} {w : World} {K : PySem.W.Frag} {mg : Str → Option Value} {base : Heap} (T : Top K mg) (f : Addr) (cdv : Value) (A : Around) (outer : List Env) (s : Shared) (H : Hp) (E : XK) (E' : Value → Shared → Prop) (hr : Room 3 (A.deeper (PyProof.Rows.envOfC "_law_net" (defScope S_law_net) s.heap.objs.size f cdv)))
    (hp : PassesOwn (model P w) (A.deeper (PyProof.Rows.envOfC "_law_net" (defScope S_law_net) s.heap.objs.size f cdv)) (PyProof.Rows.envOfC "_law_net" (defScope S_law_net) s.heap.objs.size f cdv) E') :
    PPSs ((cxOf (CX1 P w) P w K mg base N_law_net "_law_net" (defScope S_law_net) f cdv A outer s H E).wish E') (defBody S_law_net) G_law_net := by
  have nd : N_law_net.Nodup := sc_law_net.nd
  have hu := hr.units
  exact (pss_consP (pps_setE (i := 2) nd rfl (Or.inr rfl) (pp_add pp_int (pp_callX (d_law_mixed T) hr (ppa_cons (pp_var 0) (ppa_cons (pp_var 1) (ppa_cons pp_int ppa_nil))))))
      (pss_consP (pps_setE (i := 3) nd rfl (Or.inl rfl) (pp_callX (d_law_mixed T) hr (ppa_cons (pp_var 0) (ppa_cons (pp_add (pp_var 1) pp_int) (ppa_cons pp_int ppa_nil)))))
      (pss_consP (pps_if (ppt_eq hu (pp_callX (d_law_mixed T) hr (ppa_cons (pp_var 0) (ppa_cons (pp_add (pp_var 1) pp_int) (ppa_cons pp_int ppa_nil)))) pp_int) (pss_oneP (pps_setE (i := 2) nd rfl (Or.inr rfl) pp_int)) pss_nilP)
      (pss_consP (pps_setE (i := 4) nd rfl (Or.inr rfl) (pp_eq hu (pp_callX (d_law_mixed T) hr (ppa_cons (pp_var 0) (ppa_cons (pp_add (pp_var 1) pp_int) (ppa_cons pp_int ppa_nil)))) pp_int))
      (pss_oneP (pps_ret (pp_tup (ppa_cons (pp_var 2) (ppa_cons (pp_callTy call_tuple_of calP_tuple (by rfl) T.n_tuple bt_tuple (ppa_cons (pp_new (ppf_comp (lv := ["_law_k"]) (fv := ["_law_script", "_law_size", "_law_even", "_law_at"]) (ix := [0, 2, 4, 1]) (sc := defScope S_law_net) (N := N_law_net) rfl rfl rfl (blkSc (by decide +kernel)) (ppi_range1 (by rfl) T.n_range (ppa_cons (pp_var 3) ppa_nil)) (fun _ _ _ _ _ _ => (pg_name (i := 0) (show List.Nodup (["_law_k", "_law_script", "_law_size", "_law_even", "_law_at"] : List Str) from by decide +kernel) rfl (Or.inl rfl))) (gk_name (by decide)) (tgr_name 0) (fun _ _ _ _ _ _ => pts_no) (fun _ _ _ _ _ _ => (pp_callN (d_law_move T) hr (ppa_cons (pp_var 1) (ppa_cons (pp_add (pp_add (pp_var 4) pp_int) (pp_mul pp_int (pp_var 0))) (ppa_cons (pp_var 2) (ppa_cons (pp_var 3) ppa_nil)))))) (by decide))) ppa_nil)) ppa_nil)))))))))
theorem d_law_net {P : Program} {w : World} {K : PySem.W.Frag} {mg : Str → Option Value} {base : Heap} (T : Top K mg) : DefX P w K mg base "_law_net" ["_law_script", "_law_at"] 4 (spX K mg M_law_net) := def_exc T.f_law_net sc_law_net fun f cdv A outer s H E E' hr hp => b_law_net T f cdv A outer s H E E' hr hp
theorem sc_law_hoard : FnScope N_law_hoard ["_law_script", "_law_at", "_law_size", "_law_most"] (defScope S_law_hoard) := ⟨rfl, rfl, rfl, by decide +kernel, rfl, by decide +kernel, by decide +kernel⟩
theorem b_law_hoard {P : Program} {w : World} {K : PySem.W.Frag} {mg : Str → Option Value} {base : Heap} (T : Top K mg) (f : Addr) (cdv : Value) (A : Around) (outer : List Env) (s : Shared) (H : Hp) (E : XK) (E' : Value → Shared → Prop) (hr : Room 2 (A.deeper (PyProof.Rows.envOfC "_law_hoard" (defScope S_law_hoard) s.heap.objs.size f cdv)))
    (hp : PassesOwn (model P w) (A.deeper (PyProof.Rows.envOfC "_law_hoard" (defScope S_law_hoard) s.heap.objs.size f cdv)) (PyProof.Rows.envOfC "_law_hoard" (defScope S_law_hoard) s.heap.objs.size f cdv) E') :
    PPSs ((cxOf (CX1 P w) P w K mg base N_law_hoard "_law_hoard" (defScope S_law_hoard) f cdv A outer s H E).wish E') (defBody S_law_hoard) G_law_hoard := by
  have nd : N_law_hoard.Nodup := sc_law_hoard.nd
  have hu := hr.units
  exact (pss_oneP (pps_ret (pp_callTy call_tuple_of calP_tuple (by rfl) T.n_tuple bt_tuple (ppa_cons (pp_new (ppf_comp (lv := ["_law_k"]) (fv := ["_law_script", "_law_at", "_law_most"]) (ix := [0, 1, 3]) (sc := defScope S_law_hoard) (N := N_law_hoard) rfl rfl rfl (blkSc (by decide +kernel)) (ppi_range1 (by rfl) T.n_range (ppa_cons (pp_var 2) ppa_nil)) (fun _ _ _ _ _ _ => (pg_name (i := 0) (show List.Nodup (["_law_k", "_law_script", "_law_at", "_law_most"] : List Str) from by decide +kernel) rfl (Or.inl rfl))) (gk_name (by decide)) (tgr_name 0) (fun _ _ _ _ _ _ => pts_no) (fun _ _ _ _ _ _ => (pp_callN (d_law_mixed T) hr (ppa_cons (pp_var 1) (ppa_cons (pp_add (pp_var 2) (pp_var 0)) (ppa_cons (pp_add (pp_var 3) pp_int) ppa_nil))))) (by decide))) ppa_nil))))
theorem d_law_hoard {P : Program} {w : World} {K : PySem.W.Frag} {mg : Str → Option Value} {base : Heap} (T : Top K mg) : DefX P w K mg base "_law_hoard" ["_law_script", "_law_at", "_law_size", "_law_most"] 3 (spX K mg M_law_hoard) := def_exc T.f_law_hoard sc_law_hoard fun f cdv A outer s H E E' hr hp => b_law_hoard T f cdv A outer s H E E' hr hp
theorem sc_need_hoard : FnScope N_need_hoard ["net", "thing"] (defScope S_need_hoard) := ⟨rfl, rfl, rfl, by decide +kernel, rfl, by decide +kernel, by decide +kernel⟩
theorem b_need_hoard {P : Program} {w : World} {K : PySem.W.Frag} {mg : Str → Option Value} {base : Heap} (T : Top K mg) (f : Addr) (cdv : Value) (A : Around) (outer : List Env) (s : Shared) (H : Hp) (E : XK) (E' : Value → Shared → Prop) (hr : Room 6 (A.deeper (PyProof.Rows.envOfC "need_hoard" (defScope S_need_hoard) s.heap.objs.size f cdv)))
    (hp : PassesOwn (model P w) (A.deeper (PyProof.Rows.envOfC "need_hoard" (defScope S_need_hoard) s.heap.objs.size f cdv)) (PyProof.Rows.envOfC "need_hoard" (defScope S_need_hoard) s.heap.objs.size f cdv) E') :
    PPSs ((cxOf (CX1 P w) P w K mg base N_need_hoard "need_hoard" (defScope S_need_hoard) f cdv A outer s H E).wish E') (defBody S_need_hoard) G_need_hoard := by
  have nd : N_need_hoard.Nodup := sc_need_hoard.nd
  have hu := hr.units
  exact (pss_oneP (pps_if (ppt_not (ppt_val (pp_callX (d_is_hoard T) hr (ppa_cons (pp_var 0) (ppa_cons (pp_var 1) ppa_nil))))) (pss_oneP (pps_raise T.x_NoHoard rfl rfl (ppa_cons pp_str ppa_nil))) pss_nilP))
theorem d_need_hoard {P : Program} {w : World} {K : PySem.W.Frag} {mg : Str → Option Value} {base : Heap} (T : Top K mg) : DefX P w K mg base "need_hoard" ["net", "thing"] 7 (spX K mg M_need_hoard) := def_exc T.f_need_hoard sc_need_hoard fun f cdv A outer s H E E' hr hp => b_need_hoard T f cdv A outer s H E E' hr hp
theorem sc_need_move : FnScope N_need_move ["net", "thing"] (defScope S_need_move) := ⟨rfl, rfl, rfl, by decide +kernel, rfl, by decide +kernel, by decide +kernel⟩
theorem b_need_move {P : Program} {w : World} {K : PySem.W.Frag} {mg : Str → Option Value} {base : Heap} (T : Top K mg) (f : Addr) (cdv : Value) (A : Around) (outer : List Env) (s : Shared) (H : Hp) (E : XK) (E' : Value → Shared → Prop) (hr : Room 1 (A.deeper (PyProof.Rows.envOfC "need_move" (defScope S_need_move) s.heap.objs.size f cdv)))
    (hp : PassesOwn (model P w) (A.deeper (PyProof.Rows.envOfC "need_move" (defScope S_need_move) s.heap.objs.size f cdv)) (PyProof.Rows.envOfC "need_move" (defScope S_need_move) s.heap.objs.size f cdv) E') :
    PPSs ((cxOf (CX1 P w) P w K mg base N_need_move "need_move" (defScope S_need_move) f cdv A outer s H E).wish E') (defBody S_need_move) G_need_move := by
  have nd : N_need_move.Nodup := sc_need_move.nd
  have hu := hr.units
  exact (pss_oneP (pps_if (ppw_or (ppt_not (ppt_val (pp_callX (d_is_whole T) hr (ppa_cons (pp_var 1) ppa_nil)))) (ppw_or (ppt_lt (pp_var 1) pp_int) (ppw_or1 (ppt_ge (pp_var 1) (pp_callB call_len_seq calP_len (by rfl) T.n_len PySem.boot_len (ppa_cons (pp_ix (pp_var 0) pp_int) ppa_nil)))))).pt (pss_oneP (pps_raise T.x_NoMove rfl rfl (ppa_cons pp_str ppa_nil))) pss_nilP))
theorem d_need_move {P : Program} {w : World} {K : PySem.W.Frag} {mg : Str → Option Value} {base : Heap} (T : Top K mg) : DefX P w K mg base "need_move" ["net", "thing"] 2 (spX K mg M_need_move) := def_exc T.f_need_move sc_need_move fun f cdv A outer s H E E' hr hp => b_need_move T f cdv A outer s H E E' hr hp
theorem sc_over : FnScope N_over ["one", "other"] (defScope S_over) := ⟨rfl, rfl, rfl, by decide +kernel, rfl, by decide +kernel, by decide +kernel⟩
theorem b_over {P : Program} {w : World} {K : PySem.W.Frag} {mg : Str → Option Value} {base : Heap} (T : Top K mg) (f : Addr) (cdv : Value) (A : Around) (outer : List Env) (s : Shared) (H : Hp) (E : XK) (E' : Value → Shared → Prop) (hr : Room 0 (A.deeper (PyProof.Rows.envOfC "over" (defScope S_over) s.heap.objs.size f cdv)))
    (hp : PassesOwn (model P w) (A.deeper (PyProof.Rows.envOfC "over" (defScope S_over) s.heap.objs.size f cdv)) (PyProof.Rows.envOfC "over" (defScope S_over) s.heap.objs.size f cdv) E') :
    PPSs ((cxOf (CX1 P w) P w K mg base N_over "over" (defScope S_over) f cdv A outer s H E).wish E') (defBody S_over) G_over := by
  have nd : N_over.Nodup := sc_over.nd
  have hu := hr.units
  exact (pss_consP (pps_for hp rfl (ppi_zip2 (by rfl) T.n_zip (ppa_cons (pp_var 0) (ppa_cons (pp_var 1) ppa_nil))) (pg_tup rfl (pgs_cons (pg_name (i := 2) nd rfl (Or.inl rfl)) (pgs_cons (pg_name (i := 3) nd rfl (Or.inl rfl)) pgs_nil))) (tgr_tup (tgsr_cons (tgr_name 2) (tgsr_cons (tgr_name 3) tgsr_nil))) (pss_oneP (pps_if (ppt_lt (pp_var 2) (pp_var 3)) (pss_oneP (pps_ret pp_bl)) pss_nilP)))
      (pss_oneP (pps_ret pp_bl)))
theorem d_over {P : Program} {w : World} {K : PySem.W.Frag} {mg : Str → Option Value} {base : Heap} (T : Top K mg) : DefX P w K mg base "over" ["one", "other"] 1 (spX K mg M_over) := def_exc T.f_over sc_over fun f cdv A outer s H E E' hr hp => b_over T f cdv A outer s H E E' hr hp
theorem sc_can : FnScope N_can ["net", "hoard", "move"] (defScope S_can) := ⟨rfl, rfl, rfl, by decide +kernel, rfl, by decide +kernel, by decide +kernel⟩
theorem b_can {P : Program} {w : World} {K : PySem.W.Frag} {mg : Str → Option Value} {base : Heap} (T : Top K mg) (f : Addr) (cdv : Value) (A : Around) (outer : List Env) (s : Shared) (H : Hp) (E : XK) (E' : Value → Shared → Prop) (hr : Room 7 (A.deeper (PyProof.Rows.envOfC "can" (defScope S_can) s.heap.objs.size f cdv)))
    (hp : PassesOwn (model P w) (A.deeper (PyProof.Rows.envOfC "can" (defScope S_can) s.heap.objs.size f cdv)) (PyProof.Rows.envOfC "can" (defScope S_can) s.heap.objs.size f cdv) E') :
    PPSs ((cxOf (CX1 P w) P w K mg base N_can "can" (defScope S_can) f cdv A outer s H E).wish E') (defBody S_can) G_can := by
  have nd : N_can.Nodup := sc_can.nd
  have hu := hr.units
  exact (pss_consP (pps_expr (pp_callX (d_need_hoard T) hr (ppa_cons (pp_var 0) (ppa_cons (pp_var 1) ppa_nil))))
      (pss_consP (pps_expr (pp_callX (d_need_move T) hr (ppa_cons (pp_var 0) (ppa_cons (pp_var 2) ppa_nil))))
      (pss_oneP (pps_ret (pp_callX (d_over T) hr (ppa_cons (pp_var 1) (ppa_cons (pp_ix (pp_ix (pp_ix (pp_var 0) pp_int) (pp_var 2)) pp_int) ppa_nil)))))))
theorem d_can {P : Program} {w : World} {K : PySem.W.Frag} {mg : Str → Option Value} {base : Heap} (T : Top K mg) : DefX P w K mg base "can" ["net", "hoard", "move"] 8 (spX K mg M_can) := def_exc T.f_can sc_can fun f cdv A outer s H E E' hr hp => b_can T f cdv A outer s H E E' hr hp
theorem sc_need_run : FnScope N_need_run ["net", "thing"] (defScope S_need_run) := ⟨rfl, rfl, rfl, by decide +kernel, rfl, by decide +kernel, by decide +kernel⟩
theorem b_need_run {P : Program} {w : World} {K : PySem.W.Frag} {mg : Str → Option Value} {base : Heap} (T : Top K mg) (f : Addr) (cdv : Value) (A : Around) (outer : List Env) (s : Shared) (H : Hp) (E : XK) (E' : Value → Shared → Prop) (hr : Room 2 (A.deeper (PyProof.Rows.envOfC "need_run" (defScope S_need_run) s.heap.objs.size f cdv)))
    (hp : PassesOwn (model P w) (A.deeper (PyProof.Rows.envOfC "need_run" (defScope S_need_run) s.heap.objs.size f cdv)) (PyProof.Rows.envOfC "need_run" (defScope S_need_run) s.heap.objs.size f cdv) E') :
    PPSs ((cxOf (CX1 P w) P w K mg base N_need_run "need_run" (defScope S_need_run) f cdv A outer s H E).wish E') (defBody S_need_run) G_need_run := by
  have nd : N_need_run.Nodup := sc_need_run.nd
  have hu := hr.units
  exact (pss_consP (pps_if (ppt_not (ppt_val (pp_isT (c := "list") (pp_var 1) (by rfl) T.n_isinstance (by rfl) T.n_list bt_list))) (pss_oneP (pps_raise T.x_NoMove rfl rfl (ppa_cons pp_str ppa_nil))) pss_nilP)
      (pss_oneP (pps_for hp rfl (ppi_seq (pp_var 1)) (pg_name (i := 2) nd rfl (Or.inl rfl)) (tgr_name 2) (pss_oneP (pps_expr (pp_callX (d_need_move T) hr (ppa_cons (pp_var 0) (ppa_cons (pp_var 2) ppa_nil))))))))
theorem d_need_run {P : Program} {w : World} {K : PySem.W.Frag} {mg : Str → Option Value} {base : Heap} (T : Top K mg) : DefX P w K mg base "need_run" ["net", "thing"] 3 (spX K mg M_need_run) := def_exc T.f_need_run sc_need_run fun f cdv A outer s H E E' hr hp => b_need_run T f cdv A outer s H E E' hr hp
theorem sc_behind : FnScope N_behind ["net", "hoard", "run"] (defScope S_behind) := ⟨rfl, rfl, rfl, by decide +kernel, rfl, by decide +kernel, by decide +kernel⟩
theorem b_behind {P : Program} {w : World} {K : PySem.W.Frag} {mg : Str → Option Value} {base : Heap} (T : Top K mg) (f : Addr) (cdv : Value) (A : Around) (outer : List Env) (s : Shared) (H : Hp) (E : XK) (E' : Value → Shared → Prop) (hr : Room 7 (A.deeper (PyProof.Rows.envOfC "behind" (defScope S_behind) s.heap.objs.size f cdv)))
    (hp : PassesOwn (model P w) (A.deeper (PyProof.Rows.envOfC "behind" (defScope S_behind) s.heap.objs.size f cdv)) (PyProof.Rows.envOfC "behind" (defScope S_behind) s.heap.objs.size f cdv) E') :
    PPSs ((cxOf (CX1 P w) P w K mg base N_behind "behind" (defScope S_behind) f cdv A outer s H E).wish E') (defBody S_behind) G_behind := by
  have nd : N_behind.Nodup := sc_behind.nd
  have hu := hr.units
  exact (pss_consP (pps_expr (pp_callX (d_need_hoard T) hr (ppa_cons (pp_var 0) (ppa_cons (pp_var 1) ppa_nil))))
      (pss_consP (pps_expr (pp_callX (d_need_run T) hr (ppa_cons (pp_var 0) (ppa_cons (pp_var 2) ppa_nil))))
      (pss_bad)))
theorem d_behind {P : Program} {w : World} {K : PySem.W.Frag} {mg : Str → Option Value} {base : Heap} (T : Top K mg) : DefX P w K mg base "behind" ["net", "hoard", "run"] 8 (spX K mg M_behind) := def_exc T.f_behind sc_behind fun f cdv A outer s H E E' hr hp => b_behind T f cdv A outer s H E E' hr hp
theorem sc_least_before : FnScope N_least_before ["net", "move", "goal"] (defScope S_least_before) := ⟨rfl, rfl, rfl, by decide +kernel, rfl, by decide +kernel, by decide +kernel⟩
theorem b_least_before {P : Program} {w : World} {K : PySem.W.Frag} {mg : Str → Option Value} {base : Heap} (T : Top K mg) (f : Addr) (cdv : Value) (A : Around) (outer : List Env) (s : Shared) (H : Hp) (E : XK) (E' : Value → Shared → Prop) (hr : Room 7 (A.deeper (PyProof.Rows.envOfC "least_before" (defScope S_least_before) s.heap.objs.size f cdv)))
    (hp : PassesOwn (model P w) (A.deeper (PyProof.Rows.envOfC "least_before" (defScope S_least_before) s.heap.objs.size f cdv)) (PyProof.Rows.envOfC "least_before" (defScope S_least_before) s.heap.objs.size f cdv) E') :
    PPSs ((cxOf (CX1 P w) P w K mg base N_least_before "least_before" (defScope S_least_before) f cdv A outer s H E).wish E') (defBody S_least_before) G_least_before := by
  have nd : N_least_before.Nodup := sc_least_before.nd
  have hu := hr.units
  exact (pss_consP (pps_expr (pp_callX (d_need_move T) hr (ppa_cons (pp_callX (d_checked T) hr (ppa_cons (pp_var 0) ppa_nil)) (ppa_cons (pp_var 1) ppa_nil))))
      (pss_consP (pps_expr (pp_callX (d_need_hoard T) hr (ppa_cons (pp_var 0) (ppa_cons (pp_var 2) ppa_nil))))
      (pss_bad)))
theorem d_least_before {P : Program} {w : World} {K : PySem.W.Frag} {mg : Str → Option Value} {base : Heap} (T : Top K mg) : DefX P w K mg base "least_before" ["net", "move", "goal"] 8 (spX K mg M_least_before) := def_exc T.f_least_before sc_least_before fun f cdv A outer s H E E' hr hp => b_least_before T f cdv A outer s H E E' hr hp
theorem sc_sill : FnScope N_sill ["net", "goal"] (defScope S_sill) := ⟨rfl, rfl, rfl, by decide +kernel, rfl, by decide +kernel, by decide +kernel⟩
theorem b_sill {P : Program} {w : World} {K : PySem.W.Frag} {mg : Str → Option Value} {base : Heap} (T : Top K mg) (f : Addr) (cdv : Value) (A : Around) (outer : List Env) (s : Shared) (H : Hp) (E : XK) (E' : Value → Shared → Prop) (hr : Room 7 (A.deeper (PyProof.Rows.envOfC "sill" (defScope S_sill) s.heap.objs.size f cdv)))
    (hp : PassesOwn (model P w) (A.deeper (PyProof.Rows.envOfC "sill" (defScope S_sill) s.heap.objs.size f cdv)) (PyProof.Rows.envOfC "sill" (defScope S_sill) s.heap.objs.size f cdv) E') :
    PPSs ((cxOf (CX1 P w) P w K mg base N_sill "sill" (defScope S_sill) f cdv A outer s H E).wish E') (defBody S_sill) G_sill := by
  have nd : N_sill.Nodup := sc_sill.nd
  have hu := hr.units
  exact (pss_consP (pps_expr (pp_callX (d_need_hoard T) hr (ppa_cons (pp_var 0) (ppa_cons (pp_var 1) ppa_nil))))
      (pss_bad))
theorem d_sill {P : Program} {w : World} {K : PySem.W.Frag} {mg : Str → Option Value} {base : Heap} (T : Top K mg) : DefX P w K mg base "sill" ["net", "goal"] 8 (spX K mg M_sill) := def_exc T.f_sill sc_sill fun f cdv A outer s H E E' hr hp => b_sill T f cdv A outer s H E E' hr hp
theorem sc_cover : FnScope N_cover ["net", "start", "goal"] (defScope S_cover) := ⟨rfl, rfl, rfl, by decide +kernel, rfl, by decide +kernel, by decide +kernel⟩
theorem b_cover {P : Program} {w : World} {K : PySem.W.Frag} {mg : Str → Option Value} {base : Heap} (T : Top K mg) (f : Addr) (cdv : Value) (A : Around) (outer : List Env) (s : Shared) (H : Hp) (E : XK) (E' : Value → Shared → Prop) (hr : Room 7 (A.deeper (PyProof.Rows.envOfC "cover" (defScope S_cover) s.heap.objs.size f cdv)))
    (hp : PassesOwn (model P w) (A.deeper (PyProof.Rows.envOfC "cover" (defScope S_cover) s.heap.objs.size f cdv)) (PyProof.Rows.envOfC "cover" (defScope S_cover) s.heap.objs.size f cdv) E') :
    PPSs ((cxOf (CX1 P w) P w K mg base N_cover "cover" (defScope S_cover) f cdv A outer s H E).wish E') (defBody S_cover) G_cover := by
  have nd : N_cover.Nodup := sc_cover.nd
  have hu := hr.units
  exact (pss_consP (pps_expr (pp_callX (d_need_hoard T) hr (ppa_cons (pp_var 0) (ppa_cons (pp_var 1) ppa_nil))))
      (pss_consP (pps_expr (pp_callX (d_need_hoard T) hr (ppa_cons (pp_var 0) (ppa_cons (pp_var 2) ppa_nil))))
      (pss_bad)))
theorem d_cover {P : Program} {w : World} {K : PySem.W.Frag} {mg : Str → Option Value} {base : Heap} (T : Top K mg) : DefX P w K mg base "cover" ["net", "start", "goal"] 8 (spX K mg M_cover) := def_exc T.f_cover sc_cover fun f cdv A outer s H E E' hr hp => b_cover T f cdv A outer s H E E' hr hp
theorem sc_need_place : FnScope N_need_place ["net", "thing"] (defScope S_need_place) := ⟨rfl, rfl, rfl, by decide +kernel, rfl, by decide +kernel, by decide +kernel⟩
theorem b_need_place {P : Program} {w : World} {K : PySem.W.Frag} {mg : Str → Option Value} {base : Heap} (T : Top K mg) (f : Addr) (cdv : Value) (A : Around) (outer : List Env) (s : Shared) (H : Hp) (E : XK) (E' : Value → Shared → Prop) (hr : Room 1 (A.deeper (PyProof.Rows.envOfC "need_place" (defScope S_need_place) s.heap.objs.size f cdv)))
    (hp : PassesOwn (model P w) (A.deeper (PyProof.Rows.envOfC "need_place" (defScope S_need_place) s.heap.objs.size f cdv)) (PyProof.Rows.envOfC "need_place" (defScope S_need_place) s.heap.objs.size f cdv) E') :
    PPSs ((cxOf (CX1 P w) P w K mg base N_need_place "need_place" (defScope S_need_place) f cdv A outer s H E).wish E') (defBody S_need_place) G_need_place := by
  have nd : N_need_place.Nodup := sc_need_place.nd
  have hu := hr.units
  exact (pss_oneP (pps_if (ppw_or (ppt_not (ppt_val (pp_callX (d_is_whole T) hr (ppa_cons (pp_var 1) ppa_nil)))) (ppw_or (ppt_lt (pp_var 1) pp_int) (ppw_or1 (ppt_ge (pp_var 1) (pp_ix (pp_var 0) pp_int))))).pt (pss_oneP (pps_raise T.x_NoPlace rfl rfl (ppa_cons pp_str ppa_nil))) pss_nilP))
theorem d_need_place {P : Program} {w : World} {K : PySem.W.Frag} {mg : Str → Option Value} {base : Heap} (T : Top K mg) : DefX P w K mg base "need_place" ["net", "thing"] 2 (spX K mg M_need_place) := def_exc T.f_need_place sc_need_place fun f cdv A outer s H E E' hr hp => b_need_place T f cdv A outer s H E E' hr hp
theorem sc_need_places : FnScope N_need_places ["net", "thing"] (defScope S_need_places) := ⟨rfl, rfl, rfl, by decide +kernel, rfl, by decide +kernel, by decide +kernel⟩
theorem b_need_places {P : Program} {w : World} {K : PySem.W.Frag} {mg : Str → Option Value} {base : Heap} (T : Top K mg) (f : Addr) (cdv : Value) (A : Around) (outer : List Env) (s : Shared) (H : Hp) (E : XK) (E' : Value → Shared → Prop) (hr : Room 2 (A.deeper (PyProof.Rows.envOfC "need_places" (defScope S_need_places) s.heap.objs.size f cdv)))
    (hp : PassesOwn (model P w) (A.deeper (PyProof.Rows.envOfC "need_places" (defScope S_need_places) s.heap.objs.size f cdv)) (PyProof.Rows.envOfC "need_places" (defScope S_need_places) s.heap.objs.size f cdv) E') :
    PPSs ((cxOf (CX1 P w) P w K mg base N_need_places "need_places" (defScope S_need_places) f cdv A outer s H E).wish E') (defBody S_need_places) G_need_places := by
  have nd : N_need_places.Nodup := sc_need_places.nd
  have hu := hr.units
  exact (pss_consP (pps_if (ppt_not (ppt_val (pp_isT (c := "list") (pp_var 1) (by rfl) T.n_isinstance (by rfl) T.n_list bt_list))) (pss_oneP (pps_raise T.x_NoPlace rfl rfl (ppa_cons pp_str ppa_nil))) pss_nilP)
      (pss_oneP (pps_for hp rfl (ppi_seq (pp_var 1)) (pg_name (i := 2) nd rfl (Or.inl rfl)) (tgr_name 2) (pss_oneP (pps_expr (pp_callX (d_need_place T) hr (ppa_cons (pp_var 0) (ppa_cons (pp_var 2) ppa_nil))))))))
theorem d_need_places {P : Program} {w : World} {K : PySem.W.Frag} {mg : Str → Option Value} {base : Heap} (T : Top K mg) : DefX P w K mg base "need_places" ["net", "thing"] 3 (spX K mg M_need_places) := def_exc T.f_need_places sc_need_places fun f cdv A outer s H E E' hr hp => b_need_places T f cdv A outer s H E E' hr hp
theorem sc_together : FnScope N_together ["net", "start", "places"] (defScope S_together) := ⟨rfl, rfl, rfl, by decide +kernel, rfl, by decide +kernel, by decide +kernel⟩
theorem b_together {P : Program} {w : World} {K : PySem.W.Frag} {mg : Str → Option Value} {base : Heap} (T : Top K mg) (f : Addr) (cdv : Value) (A : Around) (outer : List Env) (s : Shared) (H : Hp) (E : XK) (E' : Value → Shared → Prop) (hr : Room 7 (A.deeper (PyProof.Rows.envOfC "together" (defScope S_together) s.heap.objs.size f cdv)))
    (hp : PassesOwn (model P w) (A.deeper (PyProof.Rows.envOfC "together" (defScope S_together) s.heap.objs.size f cdv)) (PyProof.Rows.envOfC "together" (defScope S_together) s.heap.objs.size f cdv) E') :
    PPSs ((cxOf (CX1 P w) P w K mg base N_together "together" (defScope S_together) f cdv A outer s H E).wish E') (defBody S_together) G_together := by
  have nd : N_together.Nodup := sc_together.nd
  have hu := hr.units
  exact (pss_consP (pps_expr (pp_callX (d_need_hoard T) hr (ppa_cons (pp_var 0) (ppa_cons (pp_var 1) ppa_nil))))
      (pss_consP (pps_expr (pp_callX (d_need_places T) hr (ppa_cons (pp_var 0) (ppa_cons (pp_var 2) ppa_nil))))
      (pss_bad)))
theorem d_together {P : Program} {w : World} {K : PySem.W.Frag} {mg : Str → Option Value} {base : Heap} (T : Top K mg) : DefX P w K mg base "together" ["net", "start", "places"] 8 (spX K mg M_together) := def_exc T.f_together sc_together fun f cdv A outer s H E E' hr hp => b_together T f cdv A outer s H E E' hr hp
theorem sc_all_of : FnScope N_all_of ["net", "start"] (defScope S_all_of) := ⟨rfl, rfl, rfl, by decide +kernel, rfl, by decide +kernel, by decide +kernel⟩
theorem b_all_of {P : Program} {w : World} {K : PySem.W.Frag} {mg : Str → Option Value} {base : Heap} (T : Top K mg) (f : Addr) (cdv : Value) (A : Around) (outer : List Env) (s : Shared) (H : Hp) (E : XK) (E' : Value → Shared → Prop) (hr : Room 7 (A.deeper (PyProof.Rows.envOfC "all_of" (defScope S_all_of) s.heap.objs.size f cdv)))
    (hp : PassesOwn (model P w) (A.deeper (PyProof.Rows.envOfC "all_of" (defScope S_all_of) s.heap.objs.size f cdv)) (PyProof.Rows.envOfC "all_of" (defScope S_all_of) s.heap.objs.size f cdv) E') :
    PPSs ((cxOf (CX1 P w) P w K mg base N_all_of "all_of" (defScope S_all_of) f cdv A outer s H E).wish E') (defBody S_all_of) G_all_of := by
  have nd : N_all_of.Nodup := sc_all_of.nd
  have hu := hr.units
  exact (pss_consP (pps_expr (pp_callX (d_need_hoard T) hr (ppa_cons (pp_var 0) (ppa_cons (pp_var 1) ppa_nil))))
      (pss_bad))
theorem d_all_of {P : Program} {w : World} {K : PySem.W.Frag} {mg : Str → Option Value} {base : Heap} (T : Top K mg) : DefX P w K mg base "all_of" ["net", "start"] 8 (spX K mg M_all_of) := def_exc T.f_all_of sc_all_of fun f cdv A outer s H E E' hr hp => b_all_of T f cdv A outer s H E E' hr hp
theorem sc_how_far : FnScope N_how_far ["net", "start", "place"] (defScope S_how_far) := ⟨rfl, rfl, rfl, by decide +kernel, rfl, by decide +kernel, by decide +kernel⟩
theorem b_how_far {P : Program} {w : World} {K : PySem.W.Frag} {mg : Str → Option Value} {base : Heap} (T : Top K mg) (f : Addr) (cdv : Value) (A : Around) (outer : List Env) (s : Shared) (H : Hp) (E : XK) (E' : Value → Shared → Prop) (hr : Room 7 (A.deeper (PyProof.Rows.envOfC "how_far" (defScope S_how_far) s.heap.objs.size f cdv)))
    (hp : PassesOwn (model P w) (A.deeper (PyProof.Rows.envOfC "how_far" (defScope S_how_far) s.heap.objs.size f cdv)) (PyProof.Rows.envOfC "how_far" (defScope S_how_far) s.heap.objs.size f cdv) E') :
    PPSs ((cxOf (CX1 P w) P w K mg base N_how_far "how_far" (defScope S_how_far) f cdv A outer s H E).wish E') (defBody S_how_far) G_how_far := by
  have nd : N_how_far.Nodup := sc_how_far.nd
  have hu := hr.units
  exact (pss_consP (pps_expr (pp_callX (d_need_hoard T) hr (ppa_cons (pp_var 0) (ppa_cons (pp_var 1) ppa_nil))))
      (pss_consP (pps_expr (pp_callX (d_need_place T) hr (ppa_cons (pp_var 0) (ppa_cons (pp_var 2) ppa_nil))))
      (pss_bad)))
theorem d_how_far {P : Program} {w : World} {K : PySem.W.Frag} {mg : Str → Option Value} {base : Heap} (T : Top K mg) : DefX P w K mg base "how_far" ["net", "start", "place"] 8 (spX K mg M_how_far) := def_exc T.f_how_far sc_how_far fun f cdv A outer s H E E' hr hp => b_how_far T f cdv A outer s H E E' hr hp
theorem sc_run_to : FnScope N_run_to ["net", "start", "goal"] (defScope S_run_to) := ⟨rfl, rfl, rfl, by decide +kernel, rfl, by decide +kernel, by decide +kernel⟩
theorem b_run_to {P : Program} {w : World} {K : PySem.W.Frag} {mg : Str → Option Value} {base : Heap} (T : Top K mg) (f : Addr) (cdv : Value) (A : Around) (outer : List Env) (s : Shared) (H : Hp) (E : XK) (E' : Value → Shared → Prop) (hr : Room 7 (A.deeper (PyProof.Rows.envOfC "run_to" (defScope S_run_to) s.heap.objs.size f cdv)))
    (hp : PassesOwn (model P w) (A.deeper (PyProof.Rows.envOfC "run_to" (defScope S_run_to) s.heap.objs.size f cdv)) (PyProof.Rows.envOfC "run_to" (defScope S_run_to) s.heap.objs.size f cdv) E') :
    PPSs ((cxOf (CX1 P w) P w K mg base N_run_to "run_to" (defScope S_run_to) f cdv A outer s H E).wish E') (defBody S_run_to) G_run_to := by
  have nd : N_run_to.Nodup := sc_run_to.nd
  have hu := hr.units
  exact (pss_consP (pps_expr (pp_callX (d_need_hoard T) hr (ppa_cons (pp_var 0) (ppa_cons (pp_var 1) ppa_nil))))
      (pss_consP (pps_expr (pp_callX (d_need_hoard T) hr (ppa_cons (pp_var 0) (ppa_cons (pp_var 2) ppa_nil))))
      (pss_bad)))
theorem d_run_to {P : Program} {w : World} {K : PySem.W.Frag} {mg : Str → Option Value} {base : Heap} (T : Top K mg) : DefX P w K mg base "run_to" ["net", "start", "goal"] 8 (spX K mg M_run_to) := def_exc T.f_run_to sc_run_to fun f cdv A outer s H E E' hr hp => b_run_to T f cdv A outer s H E E' hr hp
theorem sc_stuck_hoards : FnScope N_stuck_hoards ["net", "start"] (defScope S_stuck_hoards) := ⟨rfl, rfl, rfl, by decide +kernel, rfl, by decide +kernel, by decide +kernel⟩
theorem b_stuck_hoards {P : Program} {w : World} {K : PySem.W.Frag} {mg : Str → Option Value} {base : Heap} (T : Top K mg) (f : Addr) (cdv : Value) (A : Around) (outer : List Env) (s : Shared) (H : Hp) (E : XK) (E' : Value → Shared → Prop) (hr : Room 7 (A.deeper (PyProof.Rows.envOfC "stuck_hoards" (defScope S_stuck_hoards) s.heap.objs.size f cdv)))
    (hp : PassesOwn (model P w) (A.deeper (PyProof.Rows.envOfC "stuck_hoards" (defScope S_stuck_hoards) s.heap.objs.size f cdv)) (PyProof.Rows.envOfC "stuck_hoards" (defScope S_stuck_hoards) s.heap.objs.size f cdv) E') :
    PPSs ((cxOf (CX1 P w) P w K mg base N_stuck_hoards "stuck_hoards" (defScope S_stuck_hoards) f cdv A outer s H E).wish E') (defBody S_stuck_hoards) G_stuck_hoards := by
  have nd : N_stuck_hoards.Nodup := sc_stuck_hoards.nd
  have hu := hr.units
  exact (pss_consP (pps_expr (pp_callX (d_need_hoard T) hr (ppa_cons (pp_var 0) (ppa_cons (pp_var 1) ppa_nil))))
      (pss_bad))
theorem d_stuck_hoards {P : Program} {w : World} {K : PySem.W.Frag} {mg : Str → Option Value} {base : Heap} (T : Top K mg) : DefX P w K mg base "stuck_hoards" ["net", "start"] 8 (spX K mg M_stuck_hoards) := def_exc T.f_stuck_hoards sc_stuck_hoards fun f cdv A outer s H E E' hr hp => b_stuck_hoards T f cdv A outer s H E E' hr hp
theorem sc_law_with_hoard : FnScope N_law_with_hoard ["_law_net_here", "_law_what", "_law_bad", "_law_good"] (defScope S_law_with_hoard) := ⟨rfl, rfl, rfl, by decide +kernel, rfl, by decide +kernel, by decide +kernel⟩
theorem b_law_with_hoard {P : Program} {w : World} {K : PySem.W.Frag} {mg : Str → Option Value} {base : Heap} (T : Top K mg) (f : Addr) (cdv : Value) (A : Around) (outer : List Env) (s : Shared) (H : Hp) (E : XK) (E' : Value → Shared → Prop) (hr : Room 8 (A.deeper (PyProof.Rows.envOfC "_law_with_hoard" (defScope S_law_with_hoard) s.heap.objs.size f cdv)))
    (hp : PassesOwn (model P w) (A.deeper (PyProof.Rows.envOfC "_law_with_hoard" (defScope S_law_with_hoard) s.heap.objs.size f cdv)) (PyProof.Rows.envOfC "_law_with_hoard" (defScope S_law_with_hoard) s.heap.objs.size f cdv) E') :
    PPSs ((cxOf (CX1 P w) P w K mg base N_law_with_hoard "_law_with_hoard" (defScope S_law_with_hoard) f cdv A outer s H E).wish E') (defBody S_law_with_hoard) G_law_with_hoard := by
  have nd : N_law_with_hoard.Nodup := sc_law_with_hoard.nd
  have hu := hr.units
  exact (pss_consP (pps_if (ppt_eq hu (pp_var 1) pp_int) (pss_oneP (pps_ret (pp_callX (d_sill T) hr (ppa_cons (pp_var 0) (ppa_cons (pp_var 2) ppa_nil))))) pss_nilP)
      (pss_consP (pps_if (ppt_eq hu (pp_var 1) pp_int) (pss_oneP (pps_ret (pp_callX (d_cover T) hr (ppa_cons (pp_var 0) (ppa_cons (pp_var 2) (ppa_cons (pp_var 3) ppa_nil)))))) pss_nilP)
      (pss_consP (pps_if (ppt_eq hu (pp_var 1) pp_int) (pss_oneP (pps_ret (pp_callX (d_cover T) hr (ppa_cons (pp_var 0) (ppa_cons (pp_var 3) (ppa_cons (pp_var 2) ppa_nil)))))) pss_nilP)
      (pss_consP (pps_if (ppt_eq hu (pp_var 1) pp_int) (pss_oneP (pps_ret (pp_callX (d_all_of T) hr (ppa_cons (pp_var 0) (ppa_cons (pp_var 2) ppa_nil))))) pss_nilP)
      (pss_consP (pps_if (ppt_eq hu (pp_var 1) pp_int) (pss_oneP (pps_ret (pp_callX (d_run_to T) hr (ppa_cons (pp_var 0) (ppa_cons (pp_var 2) (ppa_cons (pp_var 3) ppa_nil)))))) pss_nilP)
      (pss_consP (pps_if (ppt_eq hu (pp_var 1) pp_int) (pss_oneP (pps_ret (pp_callX (d_stuck_hoards T) hr (ppa_cons (pp_var 0) (ppa_cons (pp_var 2) ppa_nil))))) pss_nilP)
      (pss_consP (pps_if (ppt_eq hu (pp_var 1) pp_int) (pss_oneP (pps_ret (pp_callX (d_behind T) hr (ppa_cons (pp_var 0) (ppa_cons (pp_var 2) (ppa_cons (pp_lst ppa_nil) ppa_nil)))))) pss_nilP)
      (pss_consP (pps_if (ppt_eq hu (pp_var 1) pp_int) (pss_oneP (pps_ret (pp_callX (d_together T) hr (ppa_cons (pp_var 0) (ppa_cons (pp_var 2) (ppa_cons (pp_lst ppa_nil) ppa_nil)))))) pss_nilP)
      (pss_consP (pps_if (ppt_eq hu (pp_var 1) pp_int) (pss_oneP (pps_ret (pp_callX (d_how_far T) hr (ppa_cons (pp_var 0) (ppa_cons (pp_var 2) (ppa_cons pp_int ppa_nil)))))) pss_nilP)
      (pss_consP (pps_if (ppt_eq hu (pp_var 1) pp_int) (pss_oneP (pps_ret (pp_callX (d_run_to T) hr (ppa_cons (pp_var 0) (ppa_cons (pp_var 3) (ppa_cons (pp_var 2) ppa_nil)))))) pss_nilP)
      (pss_consP (pps_if (ppw_or (ppt_eq hu (pp_var 1) pp_int) (ppw_or1 (ppt_eq hu (pp_ix (pp_var 0) pp_int) (pp_tup ppa_nil)))).pt (pss_oneP (pps_ret (pp_callX (d_can T) hr (ppa_cons (pp_var 0) (ppa_cons (pp_var 2) (ppa_cons pp_int ppa_nil)))))) pss_nilP)
      (pss_oneP (pps_ret (pp_callX (d_least_before T) hr (ppa_cons (pp_var 0) (ppa_cons pp_int (ppa_cons (pp_var 2) ppa_nil)))))))))))))))))
theorem d_law_with_hoard {P : Program} {w : World} {K : PySem.W.Frag} {mg : Str → Option Value} {base : Heap} (T : Top K mg) : DefX P w K mg base "_law_with_hoard" ["_law_net_here", "_law_what", "_law_bad", "_law_good"] 9 (spX K mg M_law_with_hoard) := def_exc T.f_law_with_hoard sc_law_with_hoard fun f cdv A outer s H E E' hr hp => b_law_with_hoard T f cdv A outer s H E E' hr hp
theorem sc_law_with_move : FnScope N_law_with_move ["_law_net_here", "_law_what", "_law_bad", "_law_good"] (defScope S_law_with_move) := ⟨rfl, rfl, rfl, by decide +kernel, rfl, by decide +kernel, by decide +kernel⟩
theorem b_law_with_move {P : Program} {w : World} {K : PySem.W.Frag} {mg : Str → Option Value} {base : Heap} (T : Top K mg) (f : Addr) (cdv : Value) (A : Around) (outer : List Env) (s : Shared) (H : Hp) (E : XK) (E' : Value → Shared → Prop) (hr : Room 8 (A.deeper (PyProof.Rows.envOfC "_law_with_move" (defScope S_law_with_move) s.heap.objs.size f cdv)))
    (hp : PassesOwn (model P w) (A.deeper (PyProof.Rows.envOfC "_law_with_move" (defScope S_law_with_move) s.heap.objs.size f cdv)) (PyProof.Rows.envOfC "_law_with_move" (defScope S_law_with_move) s.heap.objs.size f cdv) E') :
    PPSs ((cxOf (CX1 P w) P w K mg base N_law_with_move "_law_with_move" (defScope S_law_with_move) f cdv A outer s H E).wish E') (defBody S_law_with_move) G_law_with_move := by
  have nd : N_law_with_move.Nodup := sc_law_with_move.nd
  have hu := hr.units
  exact (pss_consP (pps_if (ppt_eq hu (pp_var 1) pp_int) (pss_oneP (pps_ret (pp_callX (d_can T) hr (ppa_cons (pp_var 0) (ppa_cons (pp_var 3) (ppa_cons (pp_var 2) ppa_nil)))))) pss_nilP)
      (pss_consP (pps_if (ppt_eq hu (pp_var 1) pp_int) (pss_oneP (pps_ret (pp_callX (d_least_before T) hr (ppa_cons (pp_var 0) (ppa_cons (pp_var 2) (ppa_cons (pp_var 3) ppa_nil)))))) pss_nilP)
      (pss_consP (pps_if (ppt_eq hu (pp_var 1) pp_int) (pss_oneP (pps_ret (pp_callX (d_behind T) hr (ppa_cons (pp_var 0) (ppa_cons (pp_var 3) (ppa_cons (pp_lst (ppa_cons (pp_var 2) ppa_nil)) ppa_nil)))))) pss_nilP)
      (pss_consP (pps_if (ppt_eq hu (pp_var 1) pp_int) (pss_oneP (pps_ret (pp_callX (d_behind T) hr (ppa_cons (pp_var 0) (ppa_cons (pp_var 3) (ppa_cons (pp_tup ppa_nil) ppa_nil)))))) pss_nilP)
      (pss_consP (pps_if (ppt_eq hu (pp_var 1) pp_int) (pss_oneP (pps_ret (pp_callX (d_behind T) hr (ppa_cons (pp_var 0) (ppa_cons (pp_var 3) (ppa_cons (pp_ix (pp_lst (ppa_cons pp_non (ppa_cons pp_str ppa_nil))) (pp_callTy call_int1 calP_int (by rfl) T.n_int bt_int (ppa_cons (pp_isQ (pp_var 2) pp_bl) ppa_nil))) ppa_nil)))))) pss_nilP)
      (pss_oneP (pps_ret (pp_callX (d_behind T) hr (ppa_cons (pp_var 0) (ppa_cons (pp_var 3) (ppa_cons (pp_addL (pp_new (ppf_comp (lv := ["_law_move_here"]) (fv := []) (ix := []) (sc := defScope S_law_with_move) (N := N_law_with_move) rfl rfl rfl (blkSc (by decide +kernel)) (ppi_seq (pp_ix (pp_var 0) pp_int)) (fun _ _ _ _ _ _ => (pg_name (i := 0) (show List.Nodup (["_law_move_here"] : List Str) from by decide +kernel) rfl (Or.inl rfl))) (gk_name (by decide)) (tgr_name 0) (fun _ _ _ _ _ _ => pts_no) (fun _ _ _ _ _ _ => pp_int) (by decide))) (pp_lst (ppa_cons (pp_var 2) ppa_nil))) ppa_nil)))))))))))
theorem d_law_with_move {P : Program} {w : World} {K : PySem.W.Frag} {mg : Str → Option Value} {base : Heap} (T : Top K mg) : DefX P w K mg base "_law_with_move" ["_law_net_here", "_law_what", "_law_bad", "_law_good"] 9 (spX K mg M_law_with_move) := def_exc T.f_law_with_move sc_law_with_move fun f cdv A outer s H E E' hr hp => b_law_with_move T f cdv A outer s H E E' hr hp
theorem sc_without_place : FnScope N_without_place ["net", "place"] (defScope S_without_place) := ⟨rfl, rfl, rfl, by decide +kernel, rfl, by decide +kernel, by decide +kernel⟩
theorem b_without_place {P : Program} {w : World} {K : PySem.W.Frag} {mg : Str → Option Value} {base : Heap} (T : Top K mg) (f : Addr) (cdv : Value) (A : Around) (outer : List Env) (s : Shared) (H : Hp) (E : XK) (E' : Value → Shared → Prop) (hr : Room 5 (A.deeper (PyProof.Rows.envOfC "without_place" (defScope S_without_place) s.heap.objs.size f cdv)))
    (hp : PassesOwn (model P w) (A.deeper (PyProof.Rows.envOfC "without_place" (defScope S_without_place) s.heap.objs.size f cdv)) (PyProof.Rows.envOfC "without_place" (defScope S_without_place) s.heap.objs.size f cdv) E') :
    PPSs ((cxOf (CX1 P w) P w K mg base N_without_place "without_place" (defScope S_without_place) f cdv A outer s H E).wish E') (defBody S_without_place) G_without_place := by
  have nd : N_without_place.Nodup := sc_without_place.nd
  have hu := hr.units
  exact (pss_consP (pps_expr (pp_callX (d_need_place T) hr (ppa_cons (pp_callX (d_checked T) hr (ppa_cons (pp_var 0) ppa_nil)) (ppa_cons (pp_var 1) ppa_nil))))
      (pss_bad))
theorem d_without_place {P : Program} {w : World} {K : PySem.W.Frag} {mg : Str → Option Value} {base : Heap} (T : Top K mg) : DefX P w K mg base "without_place" ["net", "place"] 6 (spX K mg M_without_place) := def_exc T.f_without_place sc_without_place fun f cdv A outer s H E E' hr hp => b_without_place T f cdv A outer s H E E' hr hp
theorem sc_told_places : FnScope N_told_places ["net", "places"] (defScope S_told_places) := ⟨rfl, rfl, rfl, by decide +kernel, rfl, by decide +kernel, by decide +kernel⟩
theorem b_told_places {P : Program} {w : World} {K : PySem.W.Frag} {mg : Str → Option Value} {base : Heap} (T : Top K mg) (f : Addr) (cdv : Value) (A : Around) (outer : List Env) (s : Shared) (H : Hp) (E : XK) (E' : Value → Shared → Prop) (hr : Room 5 (A.deeper (PyProof.Rows.envOfC "told_places" (defScope S_told_places) s.heap.objs.size f cdv)))
    (hp : PassesOwn (model P w) (A.deeper (PyProof.Rows.envOfC "told_places" (defScope S_told_places) s.heap.objs.size f cdv)) (PyProof.Rows.envOfC "told_places" (defScope S_told_places) s.heap.objs.size f cdv) E') :
    PPSs ((cxOf (CX1 P w) P w K mg base N_told_places "told_places" (defScope S_told_places) f cdv A outer s H E).wish E') (defBody S_told_places) G_told_places := by
  have nd : N_told_places.Nodup := sc_told_places.nd
  have hu := hr.units
  exact (pss_consP (pps_expr (pp_callX (d_need_places T) hr (ppa_cons (pp_callX (d_checked T) hr (ppa_cons (pp_var 0) ppa_nil)) (ppa_cons (pp_var 1) ppa_nil))))
      (pss_bad))
theorem d_told_places {P : Program} {w : World} {K : PySem.W.Frag} {mg : Str → Option Value} {base : Heap} (T : Top K mg) : DefX P w K mg base "told_places" ["net", "places"] 6 (spX K mg M_told_places) := def_exc T.f_told_places sc_told_places fun f cdv A outer s H E E' hr hp => b_told_places T f cdv A outer s H E E' hr hp
theorem sc_greatest_sink : FnScope N_greatest_sink ["net", "places"] (defScope S_greatest_sink) := ⟨rfl, rfl, rfl, by decide +kernel, rfl, by decide +kernel, by decide +kernel⟩
theorem b_greatest_sink {P : Program} {w : World} {K : PySem.W.Frag} {mg : Str → Option Value} {base : Heap} (T : Top K mg) (f : Addr) (cdv : Value) (A : Around) (outer : List Env) (s : Shared) (H : Hp) (E : XK) (E' : Value → Shared → Prop) (hr : Room 6 (A.deeper (PyProof.Rows.envOfC "greatest_sink" (defScope S_greatest_sink) s.heap.objs.size f cdv)))
    (hp : PassesOwn (model P w) (A.deeper (PyProof.Rows.envOfC "greatest_sink" (defScope S_greatest_sink) s.heap.objs.size f cdv)) (PyProof.Rows.envOfC "greatest_sink" (defScope S_greatest_sink) s.heap.objs.size f cdv) E') :
    PPSs ((cxOf (CX1 P w) P w K mg base N_greatest_sink "greatest_sink" (defScope S_greatest_sink) f cdv A outer s H E).wish E') (defBody S_greatest_sink) G_greatest_sink := by
  have nd : N_greatest_sink.Nodup := sc_greatest_sink.nd
  have hu := hr.units
  exact (pss_consP (pps_setE (i := 2) nd rfl (Or.inl rfl) (pp_callX (d_told_places T) hr (ppa_cons (pp_var 0) (ppa_cons (pp_var 1) ppa_nil))))
      (pss_bad))
theorem d_greatest_sink {P : Program} {w : World} {K : PySem.W.Frag} {mg : Str → Option Value} {base : Heap} (T : Top K mg) : DefX P w K mg base "greatest_sink" ["net", "places"] 7 (spX K mg M_greatest_sink) := def_exc T.f_greatest_sink sc_greatest_sink fun f cdv A outer s H E E' hr hp => b_greatest_sink T f cdv A outer s H E E' hr hp
theorem sc_is_sink : FnScope N_is_sink ["net", "places"] (defScope S_is_sink) := ⟨rfl, rfl, rfl, by decide +kernel, rfl, by decide +kernel, by decide +kernel⟩
theorem b_is_sink {P : Program} {w : World} {K : PySem.W.Frag} {mg : Str → Option Value} {base : Heap} (T : Top K mg) (f : Addr) (cdv : Value) (A : Around) (outer : List Env) (s : Shared) (H : Hp) (E : XK) (E' : Value → Shared → Prop) (hr : Room 6 (A.deeper (PyProof.Rows.envOfC "is_sink" (defScope S_is_sink) s.heap.objs.size f cdv)))
    (hp : PassesOwn (model P w) (A.deeper (PyProof.Rows.envOfC "is_sink" (defScope S_is_sink) s.heap.objs.size f cdv)) (PyProof.Rows.envOfC "is_sink" (defScope S_is_sink) s.heap.objs.size f cdv) E') :
    PPSs ((cxOf (CX1 P w) P w K mg base N_is_sink "is_sink" (defScope S_is_sink) f cdv A outer s H E).wish E') (defBody S_is_sink) G_is_sink := by
  have nd : N_is_sink.Nodup := sc_is_sink.nd
  have hu := hr.units
  exact (pss_consP (pps_setE (i := 2) nd rfl (Or.inl rfl) (pp_callX (d_told_places T) hr (ppa_cons (pp_var 0) (ppa_cons (pp_var 1) ppa_nil))))
      (pss_bad))
theorem d_is_sink {P : Program} {w : World} {K : PySem.W.Frag} {mg : Str → Option Value} {base : Heap} (T : Top K mg) : DefX P w K mg base "is_sink" ["net", "places"] 7 (spX K mg M_is_sink) := def_exc T.f_is_sink sc_is_sink fun f cdv A outer s H E E' hr hp => b_is_sink T f cdv A outer s H E E' hr hp
theorem sc_turned : FnScope N_turned ["net"] (defScope S_turned) := ⟨rfl, rfl, rfl, by decide +kernel, rfl, by decide +kernel, by decide +kernel⟩
theorem b_turned {P : Program} {w : World} {K : PySem.W.Frag} {mg : Str → Option Value} {base : Heap} (T : Top K mg) (f : Addr) (cdv : Value) (A : Around) (outer : List Env) (s : Shared) (H : Hp) (E : XK) (E' : Value → Shared → Prop) (hr : Room 5 (A.deeper (PyProof.Rows.envOfC "turned" (defScope S_turned) s.heap.objs.size f cdv)))
    (hp : PassesOwn (model P w) (A.deeper (PyProof.Rows.envOfC "turned" (defScope S_turned) s.heap.objs.size f cdv)) (PyProof.Rows.envOfC "turned" (defScope S_turned) s.heap.objs.size f cdv) E') :
    PPSs ((cxOf (CX1 P w) P w K mg base N_turned "turned" (defScope S_turned) f cdv A outer s H E).wish E') (defBody S_turned) G_turned := by
  have nd : N_turned.Nodup := sc_turned.nd
  have hu := hr.units
  exact (pss_oneP (pps_ret (pp_tup (ppa_cons (pp_ix (pp_callX (d_checked T) hr (ppa_cons (pp_var 0) ppa_nil)) pp_int) (ppa_cons (pp_callTy call_tuple_of calP_tuple (by rfl) T.n_tuple bt_tuple (ppa_cons (pp_new (ppf_comp (lv := ["takes", "gives"]) (fv := []) (ix := []) (sc := defScope S_turned) (N := N_turned) rfl rfl rfl (blkSc (by decide +kernel)) (ppi_seq (pp_ix (pp_var 0) pp_int)) (fun _ _ _ _ _ _ => (pg_tup rfl (pgs_cons (pg_name (i := 0) (show List.Nodup (["takes", "gives"] : List Str) from by decide +kernel) rfl (Or.inl rfl)) (pgs_cons (pg_name (i := 1) (show List.Nodup (["takes", "gives"] : List Str) from by decide +kernel) rfl (Or.inl rfl)) pgs_nil)))) (gk_tup (gsk_cons (gk_name (by decide)) (gsk_cons (gk_name (by decide)) gsk_nil))) (tgr_tup (tgsr_cons (tgr_name 0) (tgsr_cons (tgr_name 1) tgsr_nil))) (fun _ _ _ _ _ _ => pts_no) (fun _ _ _ _ _ _ => (pp_tup (ppa_cons (pp_var 1) (ppa_cons (pp_var 0) ppa_nil)))) (by decide))) ppa_nil)) ppa_nil)))))
theorem d_turned {P : Program} {w : World} {K : PySem.W.Frag} {mg : Str → Option Value} {base : Heap} (T : Top K mg) : DefX P w K mg base "turned" ["net"] 6 (spX K mg M_turned) := def_exc T.f_turned sc_turned fun f cdv A outer s H E E' hr hp => b_turned T f cdv A outer s H E E' hr hp
theorem sc_greatest_trap : FnScope N_greatest_trap ["net", "places"] (defScope S_greatest_trap) := ⟨rfl, rfl, rfl, by decide +kernel, rfl, by decide +kernel, by decide +kernel⟩
theorem b_greatest_trap {P : Program} {w : World} {K : PySem.W.Frag} {mg : Str → Option Value} {base : Heap} (T : Top K mg) (f : Addr) (cdv : Value) (A : Around) (outer : List Env) (s : Shared) (H : Hp) (E : XK) (E' : Value → Shared → Prop) (hr : Room 7 (A.deeper (PyProof.Rows.envOfC "greatest_trap" (defScope S_greatest_trap) s.heap.objs.size f cdv)))
    (hp : PassesOwn (model P w) (A.deeper (PyProof.Rows.envOfC "greatest_trap" (defScope S_greatest_trap) s.heap.objs.size f cdv)) (PyProof.Rows.envOfC "greatest_trap" (defScope S_greatest_trap) s.heap.objs.size f cdv) E') :
    PPSs ((cxOf (CX1 P w) P w K mg base N_greatest_trap "greatest_trap" (defScope S_greatest_trap) f cdv A outer s H E).wish E') (defBody S_greatest_trap) G_greatest_trap := by
  have nd : N_greatest_trap.Nodup := sc_greatest_trap.nd
  have hu := hr.units
  exact (pss_oneP (pps_ret (pp_callX (d_greatest_sink T) hr (ppa_cons (pp_callX (d_turned T) hr (ppa_cons (pp_var 0) ppa_nil)) (ppa_cons (pp_var 1) ppa_nil)))))
theorem d_greatest_trap {P : Program} {w : World} {K : PySem.W.Frag} {mg : Str → Option Value} {base : Heap} (T : Top K mg) : DefX P w K mg base "greatest_trap" ["net", "places"] 8 (spX K mg M_greatest_trap) := def_exc T.f_greatest_trap sc_greatest_trap fun f cdv A outer s H E E' hr hp => b_greatest_trap T f cdv A outer s H E E' hr hp
theorem sc_is_trap : FnScope N_is_trap ["net", "places"] (defScope S_is_trap) := ⟨rfl, rfl, rfl, by decide +kernel, rfl, by decide +kernel, by decide +kernel⟩
theorem b_is_trap {P : Program} {w : World} {K : PySem.W.Frag} {mg : Str → Option Value} {base : Heap} (T : Top K mg) (f : Addr) (cdv : Value) (A : Around) (outer : List Env) (s : Shared) (H : Hp) (E : XK) (E' : Value → Shared → Prop) (hr : Room 7 (A.deeper (PyProof.Rows.envOfC "is_trap" (defScope S_is_trap) s.heap.objs.size f cdv)))
    (hp : PassesOwn (model P w) (A.deeper (PyProof.Rows.envOfC "is_trap" (defScope S_is_trap) s.heap.objs.size f cdv)) (PyProof.Rows.envOfC "is_trap" (defScope S_is_trap) s.heap.objs.size f cdv) E') :
    PPSs ((cxOf (CX1 P w) P w K mg base N_is_trap "is_trap" (defScope S_is_trap) f cdv A outer s H E).wish E') (defBody S_is_trap) G_is_trap := by
  have nd : N_is_trap.Nodup := sc_is_trap.nd
  have hu := hr.units
  exact (pss_oneP (pps_ret (pp_callX (d_is_sink T) hr (ppa_cons (pp_callX (d_turned T) hr (ppa_cons (pp_var 0) ppa_nil)) (ppa_cons (pp_var 1) ppa_nil)))))
theorem d_is_trap {P : Program} {w : World} {K : PySem.W.Frag} {mg : Str → Option Value} {base : Heap} (T : Top K mg) : DefX P w K mg base "is_trap" ["net", "places"] 8 (spX K mg M_is_trap) := def_exc T.f_is_trap sc_is_trap fun f cdv A outer s H E E' hr hp => b_is_trap T f cdv A outer s H E E' hr hp
theorem sc_law_with_place : FnScope N_law_with_place ["_law_net_here", "_law_what", "_law_bad", "_law_good"] (defScope S_law_with_place) := ⟨rfl, rfl, rfl, by decide +kernel, rfl, by decide +kernel, by decide +kernel⟩
theorem b_law_with_place {P : Program} {w : World} {K : PySem.W.Frag} {mg : Str → Option Value} {base : Heap} (T : Top K mg) (f : Addr) (cdv : Value) (A : Around) (outer : List Env) (s : Shared) (H : Hp) (E : XK) (E' : Value → Shared → Prop) (hr : Room 8 (A.deeper (PyProof.Rows.envOfC "_law_with_place" (defScope S_law_with_place) s.heap.objs.size f cdv)))
    (hp : PassesOwn (model P w) (A.deeper (PyProof.Rows.envOfC "_law_with_place" (defScope S_law_with_place) s.heap.objs.size f cdv)) (PyProof.Rows.envOfC "_law_with_place" (defScope S_law_with_place) s.heap.objs.size f cdv) E') :
    PPSs ((cxOf (CX1 P w) P w K mg base N_law_with_place "_law_with_place" (defScope S_law_with_place) f cdv A outer s H E).wish E') (defBody S_law_with_place) G_law_with_place := by
  have nd : N_law_with_place.Nodup := sc_law_with_place.nd
  have hu := hr.units
  exact (pss_consP (pps_if (ppt_eq hu (pp_var 1) pp_int) (pss_oneP (pps_ret (pp_callX (d_how_far T) hr (ppa_cons (pp_var 0) (ppa_cons (pp_var 3) (ppa_cons (pp_var 2) ppa_nil)))))) pss_nilP)
      (pss_consP (pps_if (ppt_eq hu (pp_var 1) pp_int) (pss_oneP (pps_ret (pp_callX (d_together T) hr (ppa_cons (pp_var 0) (ppa_cons (pp_var 3) (ppa_cons (pp_lst (ppa_cons pp_int (ppa_cons (pp_var 2) ppa_nil))) ppa_nil)))))) pss_nilP)
      (pss_consP (pps_if (ppt_eq hu (pp_var 1) pp_int) (pss_oneP (pps_ret (pp_callX (d_greatest_sink T) hr (ppa_cons (pp_var 0) (ppa_cons (pp_lst (ppa_cons (pp_var 2) ppa_nil)) ppa_nil))))) pss_nilP)
      (pss_consP (pps_if (ppt_eq hu (pp_var 1) pp_int) (pss_oneP (pps_ret (pp_callX (d_greatest_trap T) hr (ppa_cons (pp_var 0) (ppa_cons (pp_lst (ppa_cons (pp_var 2) (ppa_cons pp_int ppa_nil))) ppa_nil))))) pss_nilP)
      (pss_consP (pps_if (ppt_eq hu (pp_var 1) pp_int) (pss_oneP (pps_ret (pp_callX (d_is_sink T) hr (ppa_cons (pp_var 0) (ppa_cons (pp_lst (ppa_cons pp_int (ppa_cons (pp_var 2) ppa_nil))) ppa_nil))))) pss_nilP)
      (pss_consP (pps_if (ppt_eq hu (pp_var 1) pp_int) (pss_oneP (pps_ret (pp_callX (d_is_trap T) hr (ppa_cons (pp_var 0) (ppa_cons (pp_lst (ppa_cons (pp_var 2) ppa_nil)) ppa_nil))))) pss_nilP)
      (pss_oneP (pps_ret (pp_callX (d_without_place T) hr (ppa_cons (pp_var 0) (ppa_cons (pp_var 2) ppa_nil)))))))))))
theorem d_law_with_place {P : Program} {w : World} {K : PySem.W.Frag} {mg : Str → Option Value} {base : Heap} (T : Top K mg) : DefX P w K mg base "_law_with_place" ["_law_net_here", "_law_what", "_law_bad", "_law_good"] 9 (spX K mg M_law_with_place) := def_exc T.f_law_with_place sc_law_with_place fun f cdv A outer s H E E' hr hp => b_law_with_place T f cdv A outer s H E E' hr hp
theorem sc_law_with_places : FnScope N_law_with_places ["_law_net_here", "_law_what", "_law_bad", "_law_good"] (defScope S_law_with_places) := ⟨rfl, rfl, rfl, by decide +kernel, rfl, by decide +kernel, by decide +kernel⟩
theorem b_law_with_places {P : Program} {w : World} {K : PySem.W.Frag} {mg : Str → Option Value} {base : Heap} (T : Top K mg) (f : Addr) (cdv : Value) (A : Around) (outer : List Env) (s : Shared) (H : Hp) (E : XK) (E' : Value → Shared → Prop) (hr : Room 8 (A.deeper (PyProof.Rows.envOfC "_law_with_places" (defScope S_law_with_places) s.heap.objs.size f cdv)))
    (hp : PassesOwn (model P w) (A.deeper (PyProof.Rows.envOfC "_law_with_places" (defScope S_law_with_places) s.heap.objs.size f cdv)) (PyProof.Rows.envOfC "_law_with_places" (defScope S_law_with_places) s.heap.objs.size f cdv) E') :
    PPSs ((cxOf (CX1 P w) P w K mg base N_law_with_places "_law_with_places" (defScope S_law_with_places) f cdv A outer s H E).wish E') (defBody S_law_with_places) G_law_with_places := by
  have nd : N_law_with_places.Nodup := sc_law_with_places.nd
  have hu := hr.units
  exact (pss_consP (pps_if (ppt_eq hu (pp_var 1) pp_int) (pss_oneP (pps_ret (pp_callX (d_together T) hr (ppa_cons (pp_var 0) (ppa_cons (pp_var 3) (ppa_cons (pp_var 2) ppa_nil)))))) pss_nilP)
      (pss_consP (pps_if (ppt_eq hu (pp_var 1) pp_int) (pss_oneP (pps_ret (pp_callX (d_greatest_sink T) hr (ppa_cons (pp_var 0) (ppa_cons (pp_var 2) ppa_nil))))) pss_nilP)
      (pss_consP (pps_if (ppt_eq hu (pp_var 1) pp_int) (pss_oneP (pps_ret (pp_callX (d_greatest_trap T) hr (ppa_cons (pp_var 0) (ppa_cons (pp_var 2) ppa_nil))))) pss_nilP)
      (pss_consP (pps_if (ppt_eq hu (pp_var 1) pp_int) (pss_oneP (pps_ret (pp_callX (d_is_sink T) hr (ppa_cons (pp_var 0) (ppa_cons (pp_var 2) ppa_nil))))) pss_nilP)
      (pss_oneP (pps_ret (pp_callX (d_is_trap T) hr (ppa_cons (pp_var 0) (ppa_cons (pp_var 2) ppa_nil)))))))))
theorem d_law_with_places {P : Program} {w : World} {K : PySem.W.Frag} {mg : Str → Option Value} {base : Heap} (T : Top K mg) : DefX P w K mg base "_law_with_places" ["_law_net_here", "_law_what", "_law_bad", "_law_good"] 9 (spX K mg M_law_with_places) := def_exc T.f_law_with_places sc_law_with_places fun f cdv A outer s H E E' hr hp => b_law_with_places T f cdv A outer s H E E' hr hp
theorem sc_law_with_two : FnScope N_law_with_two ["_law_net_here", "_law_what", "_law_bad", "_law_good"] (defScope S_law_with_two) := ⟨rfl, rfl, rfl, by decide +kernel, rfl, by decide +kernel, by decide +kernel⟩
theorem b_law_with_two {P : Program} {w : World} {K : PySem.W.Frag} {mg : Str → Option Value} {base : Heap} (T : Top K mg) (f : Addr) (cdv : Value) (A : Around) (outer : List Env) (s : Shared) (H : Hp) (E : XK) (E' : Value → Shared → Prop) (hr : Room 8 (A.deeper (PyProof.Rows.envOfC "_law_with_two" (defScope S_law_with_two) s.heap.objs.size f cdv)))
    (hp : PassesOwn (model P w) (A.deeper (PyProof.Rows.envOfC "_law_with_two" (defScope S_law_with_two) s.heap.objs.size f cdv)) (PyProof.Rows.envOfC "_law_with_two" (defScope S_law_with_two) s.heap.objs.size f cdv) E') :
    PPSs ((cxOf (CX1 P w) P w K mg base N_law_with_two "_law_with_two" (defScope S_law_with_two) f cdv A outer s H E).wish E') (defBody S_law_with_two) G_law_with_two := by
  have nd : N_law_with_two.Nodup := sc_law_with_two.nd
  have hu := hr.units
  exact (pss_consP (pps_if (ppt_eq hu (pp_var 1) pp_int) (pss_oneP (pps_ret (pp_callX (d_can T) hr (ppa_cons (pp_var 0) (ppa_cons (pp_var 2) (ppa_cons (pp_neg pp_int) ppa_nil)))))) pss_nilP)
      (pss_consP (pps_if (ppt_eq hu (pp_var 1) pp_int) (pss_oneP (pps_ret (pp_callX (d_behind T) hr (ppa_cons (pp_var 0) (ppa_cons (pp_var 2) (ppa_cons (pp_lst (ppa_cons (pp_neg pp_int) ppa_nil)) ppa_nil)))))) pss_nilP)
      (pss_consP (pps_if (ppt_eq hu (pp_var 1) pp_int) (pss_oneP (pps_ret (pp_callX (d_least_before T) hr (ppa_cons (pp_var 0) (ppa_cons (pp_neg pp_int) (ppa_cons (pp_var 2) ppa_nil)))))) pss_nilP)
      (pss_consP (pps_if (ppt_eq hu (pp_var 1) pp_int) (pss_oneP (pps_ret (pp_callX (d_together T) hr (ppa_cons (pp_var 0) (ppa_cons (pp_var 2) (ppa_cons (pp_tup (ppa_cons pp_int ppa_nil)) ppa_nil)))))) pss_nilP)
      (pss_oneP (pps_ret (pp_callX (d_how_far T) hr (ppa_cons (pp_var 0) (ppa_cons (pp_var 2) (ppa_cons (pp_neg pp_int) ppa_nil))))))))))
theorem d_law_with_two {P : Program} {w : World} {K : PySem.W.Frag} {mg : Str → Option Value} {base : Heap} (T : Top K mg) : DefX P w K mg base "_law_with_two" ["_law_net_here", "_law_what", "_law_bad", "_law_good"] 9 (spX K mg M_law_with_two) := def_exc T.f_law_with_two sc_law_with_two fun f cdv A outer s H E E' hr hp => b_law_with_two T f cdv A outer s H E E' hr hp
theorem sc_law_asked : FnScope N_law_asked ["_law_kind_here", "_law_net_here", "_law_what", "_law_bad", "_law_good"] (defScope S_law_asked) := ⟨rfl, rfl, rfl, by decide +kernel, rfl, by decide +kernel, by decide +kernel⟩
theorem b_law_asked {P : Program} {w : World} {K : PySem.W.Frag} {mg : Str → Option Value} {base : Heap} (T : Top K mg) (f : Addr) (cdv : Value) (A : Around) (outer : List Env) (s : Shared) (H : Hp) (E : XK) (E' : Value → Shared → Prop) (hr : Room 9 (A.deeper (PyProof.Rows.envOfC "_law_asked" (defScope S_law_asked) s.heap.objs.size f cdv)))
    (hp : PassesOwn (model P w) (A.deeper (PyProof.Rows.envOfC "_law_asked" (defScope S_law_asked) s.heap.objs.size f cdv)) (PyProof.Rows.envOfC "_law_asked" (defScope S_law_asked) s.heap.objs.size f cdv) E') :
    PPSs ((cxOf (CX1 P w) P w K mg base N_law_asked "_law_asked" (defScope S_law_asked) f cdv A outer s H E).wish E') (defBody S_law_asked) G_law_asked := by
  have nd : N_law_asked.Nodup := sc_law_asked.nd
  have hu := hr.units
  exact (pss_consP (pps_if (ppt_eq hu (pp_var 0) pp_int) (pss_oneP (pps_ret (pp_callX (d_law_with_hoard T) hr (ppa_cons (pp_var 1) (ppa_cons (pp_var 2) (ppa_cons (pp_var 3) (ppa_cons (pp_var 4) ppa_nil))))))) pss_nilP)
      (pss_consP (pps_if (ppt_eq hu (pp_var 0) pp_int) (pss_oneP (pps_ret (pp_callX (d_law_with_move T) hr (ppa_cons (pp_var 1) (ppa_cons (pp_var 2) (ppa_cons (pp_var 3) (ppa_cons (pp_var 4) ppa_nil))))))) pss_nilP)
      (pss_consP (pps_if (ppt_eq hu (pp_var 0) pp_int) (pss_oneP (pps_ret (pp_callX (d_law_with_place T) hr (ppa_cons (pp_var 1) (ppa_cons (pp_var 2) (ppa_cons (pp_var 3) (ppa_cons (pp_var 4) ppa_nil))))))) pss_nilP)
      (pss_consP (pps_if (ppt_eq hu (pp_var 0) pp_int) (pss_oneP (pps_ret (pp_callX (d_law_with_places T) hr (ppa_cons (pp_var 1) (ppa_cons (pp_var 2) (ppa_cons (pp_var 3) (ppa_cons (pp_var 4) ppa_nil))))))) pss_nilP)
      (pss_oneP (pps_ret (pp_callX (d_law_with_two T) hr (ppa_cons (pp_var 1) (ppa_cons (pp_var 2) (ppa_cons (pp_var 3) (ppa_cons (pp_var 4) ppa_nil)))))))))))
theorem d_law_asked {P : Program} {w : World} {K : PySem.W.Frag} {mg : Str → Option Value} {base : Heap} (T : Top K mg) : DefX P w K mg base "_law_asked" ["_law_kind_here", "_law_net_here", "_law_what", "_law_bad", "_law_good"] 10 (spX K mg M_law_asked) := def_exc T.f_law_asked sc_law_asked fun f cdv A outer s H E E' hr hp => b_law_asked T f cdv A outer s H E E' hr hp
theorem sc_law_kind : FnScope N_law_kind ["_law_case"] (defScope S_law_kind) := ⟨rfl, rfl, rfl, by decide +kernel, rfl, by decide +kernel, by decide +kernel⟩
theorem b_law_kind {P : Program} {w : World} {K : PySem.W.Frag} {mg : Str → Option Value} {base : Heap} (T : Top K mg) (f : Addr) (cdv : Value) (A : Around) (outer : List Env) (s : Shared) (H : Hp) (E : XK) (E' : Value → Shared → Prop) (hr : Room 10 (A.deeper (PyProof.Rows.envOfC "_law_kind" (defScope S_law_kind) s.heap.objs.size f cdv)))
    (hp : PassesOwn (model P w) (A.deeper (PyProof.Rows.envOfC "_law_kind" (defScope S_law_kind) s.heap.objs.size f cdv)) (PyProof.Rows.envOfC "_law_kind" (defScope S_law_kind) s.heap.objs.size f cdv) E') :
    PPSs ((cxOf (CX1 P w) P w K mg base N_law_kind "_law_kind" (defScope S_law_kind) f cdv A outer s H E).wish E') (defBody S_law_kind) G_law_kind := by
  have nd : N_law_kind.Nodup := sc_law_kind.nd
  have hu := hr.units
  exact (pss_consP (pps_tryE rfl rfl (fun _ _ => (pp_callX (d_law_asked T) hr (ppa_cons (pp_ix (pp_var 0) pp_int) (ppa_cons (pp_ix (pp_var 0) pp_int) (ppa_cons (pp_ix (pp_var 0) pp_int) (ppa_cons (pp_ix (pp_var 0) pp_int) (ppa_cons (pp_ix (pp_var 0) pp_int) ppa_nil))))))) (handler_as (i := 1) nd rfl rfl T.t_TokenError T.m_TokenError (fun _ _ => (pss_consP (pps_setE (i := 2) nd rfl (Or.inl rfl) (pp_lst (ppa_cons (pp_isYC 1 (tbl := [("NoHoard", true), ("NoMove", false), ("NoNet", false), ("NoPlace", false)]) (by rfl) T.n_isinstance T.cls T.yk_NoHoard) (ppa_cons (pp_isYC 1 (tbl := [("NoHoard", false), ("NoMove", true), ("NoNet", false), ("NoPlace", false)]) (by rfl) T.n_isinstance T.cls T.yk_NoMove) (ppa_cons (pp_isYC 1 (tbl := [("NoHoard", false), ("NoMove", false), ("NoNet", false), ("NoPlace", true)]) (by rfl) T.n_isinstance T.cls T.yk_NoPlace) ppa_nil)))))
      (pss_consP (pps_own (ps_set (i := 3) nd rfl (Or.inl rfl) (ppf_lst (ppa_cons (pp_isYC 1 (tbl := [("NoHoard", false), ("NoMove", false), ("NoNet", true), ("NoPlace", false)]) (by rfl) T.n_isinstance T.cls T.yk_NoNet) (ppa_cons (pp_isYC 1 (tbl := [("NoHoard", false), ("NoMove", false), ("NoNet", false), ("NoPlace", false)]) (by rfl) T.n_isinstance T.cls T.yk_Endless) (ppa_cons (pp_isYC 1 (tbl := [("NoHoard", false), ("NoMove", false), ("NoNet", false), ("NoPlace", false)]) (by rfl) T.n_isinstance T.cls T.yk_TooBig) (ppa_cons (pp_isYC 1 (tbl := [("NoHoard", false), ("NoMove", false), ("NoNet", false), ("NoPlace", false)]) (by rfl) T.n_isinstance T.cls T.yk_NoText) ppa_nil)))))) (fun _ _ _ h => h))
      (pss_consP (pps_appendO (i := 3) (ppa_cons (pp_isYC 1 (tbl := [("NoHoard", false), ("NoMove", false), ("NoNet", false), ("NoPlace", false)]) (by rfl) T.n_isinstance T.cls T.yk_Stuck) ppa_nil))
      (pss_oneP (pps_fz 3 (pps_if (ppw_and (ppt_val (pp_isX 1 (by rfl) T.n_isinstance (pe_bltn (v := .ty "ValueError") (by rfl) T.n_ValueError bt_ValueError rfl) (fun _ r => r) T.i_ValueError)) (ppw_and (ppt_eq hu (pp_count (pp_addL (pp_var 2) (pp_var 3)) pp_bl) pp_int) (ppw_and1 (ppt_in pp_bl (pp_var 2))))).pt (pss_oneP (pps_ret (pp_index (pp_var 2) pp_bl))) pss_nilP)))))))))
      (pss_oneP (pps_ret (pp_neg pp_int))))
theorem d_law_kind {P : Program} {w : World} {K : PySem.W.Frag} {mg : Str → Option Value} {base : Heap} (T : Top K mg) : DefX P w K mg base "_law_kind" ["_law_case"] 11 (spX K mg M_law_kind) := def_exc T.f_law_kind sc_law_kind fun f cdv A outer s H E E' hr hp => b_law_kind T f cdv A outer s H E E' hr hp
theorem sc_law_bad_hoard : FnScope N_law_bad_hoard ["_law_good", "_law_cell"] (defScope S_law_bad_hoard) := ⟨rfl, rfl, rfl, by decide +kernel, rfl, by decide +kernel, by decide +kernel⟩
theorem b_law_bad_hoard {P : Program} {w : World} {K : PySem.W.Frag} {mg : Str → Option Value} {base : Heap} (T : Top K mg) (f : Addr) (cdv : Value) (A : Around) (outer : List Env) (s : Shared) (H : Hp) (E : XK) (E' : Value → Shared → Prop) (hr : Room 0 (A.deeper (PyProof.Rows.envOfC "_law_bad_hoard" (defScope S_law_bad_hoard) s.heap.objs.size f cdv)))
    (hp : PassesOwn (model P w) (A.deeper (PyProof.Rows.envOfC "_law_bad_hoard" (defScope S_law_bad_hoard) s.heap.objs.size f cdv)) (PyProof.Rows.envOfC "_law_bad_hoard" (defScope S_law_bad_hoard) s.heap.objs.size f cdv) E') :
    PPSs ((cxOf (CX1 P w) P w K mg base N_law_bad_hoard "_law_bad_hoard" (defScope S_law_bad_hoard) f cdv A outer s H E).wish E') (defBody S_law_bad_hoard) G_law_bad_hoard := by
  have nd : N_law_bad_hoard.Nodup := sc_law_bad_hoard.nd
  have hu := hr.units
  exact (pss_consP (pps_setE (i := 2) nd rfl (Or.inl rfl) (pp_ix (pp_lst (ppa_cons (pp_neg pp_int) (ppa_cons pp_bl (ppa_cons pp_str (ppa_cons pp_non ppa_nil))))) (pp_mod (pp_fdiv (pp_var 1) pp_int) pp_int)))
      (pss_oneP (pps_ret (pp_ix (pp_lst (ppa_cons (pp_callTy call_list_of calP_list (by rfl) T.n_list bt_list (ppa_cons (pp_var 0) ppa_nil)) (ppa_cons (pp_add (pp_var 0) (pp_tup (ppa_cons pp_int ppa_nil))) (ppa_cons (pp_slice (pp_var 0) (ppo_some pp_int) ppo_none) (ppa_cons (pp_add (pp_slice (pp_var 0) ppo_none (ppo_some (pp_neg pp_int))) (pp_tup (ppa_cons (pp_var 2) ppa_nil))) (ppa_cons pp_non (ppa_cons pp_int ppa_nil))))))) (pp_mod (pp_var 1) pp_int)))))
theorem d_law_bad_hoard {P : Program} {w : World} {K : PySem.W.Frag} {mg : Str → Option Value} {base : Heap} (T : Top K mg) : DefX P w K mg base "_law_bad_hoard" ["_law_good", "_law_cell"] 1 (spX K mg M_law_bad_hoard) := def_exc T.f_law_bad_hoard sc_law_bad_hoard fun f cdv A outer s H E E' hr hp => b_law_bad_hoard T f cdv A outer s H E E' hr hp
theorem sc_law : FnScope N_law ["_law_script"] (defScope S_law) := ⟨rfl, rfl, rfl, by decide +kernel, rfl, by decide +kernel, by decide +kernel⟩
theorem b_law {P : Program} {w : World} {K : PySem.W.Frag} {mg : Str → Option Value} {base : Heap} (T : Top K mg) (f : Addr) (cdv : Value) (A : Around) (outer : List Env) (s : Shared) (H : Hp) (E : XK) (E' : Value → Shared → Prop) (hr : Room 11 (A.deeper (PyProof.Rows.envOfC "law" (defScope S_law) s.heap.objs.size f cdv)))
    (hp : PassesOwn (model P w) (A.deeper (PyProof.Rows.envOfC "law" (defScope S_law) s.heap.objs.size f cdv)) (PyProof.Rows.envOfC "law" (defScope S_law) s.heap.objs.size f cdv) E') :
    PPSs ((cxOf (CX1 P w) P w K mg base N_law "law" (defScope S_law) f cdv A outer s H E).wish E') (defBody S_law) G_law := by
  have nd : N_law.Nodup := sc_law.nd
  have hu := hr.units
  refine pss_consP (pps_setE (i := 1) nd rfl (Or.inl rfl) (pp_callX (d_law_net T) hr (ppa_cons (pp_var 0) (ppa_cons pp_int ppa_nil)))) ?_
  refine pss_consP (pps_setE (i := 2) nd rfl (Or.inl rfl) (pp_callX (d_law_hoard T) hr (ppa_cons (pp_var 0) (ppa_cons pp_int (ppa_cons (pp_ix (pp_var 1) pp_int) (ppa_cons pp_int ppa_nil)))))) ?_
  refine pss_consP (pps_setE (i := 3) nd rfl (Or.inl rfl) (pp_callX (d_law_mixed T) hr (ppa_cons (pp_var 0) (ppa_cons pp_int (ppa_cons (pp_pow pp_int pp_int) ppa_nil))))) ?_
  refine pss_consP (pps_setE (i := 4) nd rfl (Or.inl rfl) (pp_callX (d_law_mixed T) hr (ppa_cons (pp_var 0) (ppa_cons pp_int (ppa_cons pp_int ppa_nil))))) ?_
  refine pss_consP (pps_setE (i := 5) nd rfl (Or.inl rfl) (pp_callX (d_law_mixed T) hr (ppa_cons (pp_var 0) (ppa_cons pp_int (ppa_cons (pp_ix (pp_lst (ppa_cons pp_int (ppa_cons pp_int (ppa_cons pp_int (ppa_cons pp_int (ppa_cons pp_int ppa_nil)))))) (pp_var 4)) ppa_nil))))) ?_
  refine pss_consP (pps_setE (i := 6) nd rfl (Or.inl rfl) (pp_callX (d_law_bad_hoard T) hr (ppa_cons (pp_var 2) (ppa_cons (pp_var 3) ppa_nil)))) ?_
  refine pss_consP (pps_setE (i := 7) nd rfl (Or.inl rfl) pp_int) ?_
  refine pss_consP (pps_if (ppt_eq hu (pp_var 4) pp_int) ?_ ?_) ?_
  · refine pss_consP (pps_setE (i := 6) nd rfl (Or.inl rfl) (pp_ix (pp_lst (ppa_cons (pp_neg pp_int) (ppa_cons (pp_callB call_len_seq calP_len (by rfl) T.n_len PySem.boot_len (ppa_cons (pp_ix (pp_var 1) pp_int) ppa_nil)) (ppa_cons pp_bl (ppa_cons pp_str (ppa_cons pp_non (ppa_cons (pp_add (pp_callB call_len_seq calP_len (by rfl) T.n_len PySem.boot_len (ppa_cons (pp_ix (pp_var 1) pp_int) ppa_nil)) pp_int) ppa_nil))))))) (pp_mod (pp_var 3) pp_int))) ?_
    exact (pss_oneP (pps_setE (i := 7) nd rfl (Or.inl rfl) pp_int))
  · refine pss_oneP (pps_if (ppt_eq hu (pp_var 4) pp_int) ?_ ?_)
    · refine pss_consP (pps_setE (i := 6) nd rfl (Or.inl rfl) (pp_ix (pp_lst (ppa_cons (pp_neg pp_int) (ppa_cons (pp_ix (pp_var 1) pp_int) (ppa_cons pp_bl (ppa_cons pp_str (ppa_cons pp_non (ppa_cons (pp_add (pp_ix (pp_var 1) pp_int) pp_int) ppa_nil))))))) (pp_mod (pp_var 3) pp_int))) ?_
      exact (pss_oneP (pps_setE (i := 7) nd rfl (Or.inl rfl) pp_int))
    · refine pss_oneP (pps_if (ppt_eq hu (pp_var 4) pp_int) ?_ ?_)
      · refine pss_consP ?_ ?_
        · generalize hE : (Expr.Dict _ _ _) = el
          have hd : PP ((cxOf (CX1 P w) P w K mg base N_law "law" (defScope S_law) f cdv A outer s H E).wish E') el (cst .dic) := by rw [← hE]; exact pp_dic1
          have hst : starEach [el] (((cxOf (CX1 P w) P w K mg base N_law "law" (defScope S_law) f cdv A outer s H E).wish E')).env = (false, eval el (((cxOf (CX1 P w) P w K mg base N_law "law" (defScope S_law) f cdv A outer s H E).wish E')).env) :: starEach [] (((cxOf (CX1 P w) P w K mg base N_law "law" (defScope S_law) f cdv A outer s H E).wish E')).env := by rw [← hE]; rfl
          clear hE
          exact (pps_setE (i := 6) nd rfl (Or.inl rfl) (pp_ix (pp_lst (ppa_cons (pp_tup (ppa_cons pp_int ppa_nil)) (ppa_cons pp_non (ppa_cons pp_str (ppa_cons hd ppa_nil hst))))) (pp_mod (pp_var 3) pp_int)))
        exact (pss_oneP (pps_setE (i := 7) nd rfl (Or.inl rfl) pp_int))
      · refine pss_oneP (pps_if (ppt_eq hu (pp_var 4) pp_int) ?_ ?_)
        · exact (pss_oneP (pps_setE (i := 7) nd rfl (Or.inl rfl) (pp_callTy call_int1 calP_int (by rfl) T.n_int bt_int (ppa_cons (pp_eq hu (pp_var 5) pp_int) ppa_nil))))
        · exact (pss_nilP)
  refine pss_consP (pps_if (ppw_and (ppt_in (pp_var 4) (pp_tup (ppa_cons pp_int (ppa_cons pp_int ppa_nil)))) (ppw_and1 (ppt_notB (pp_callX (d_is_hoard T) hr (ppa_cons (pp_var 1) (ppa_cons (pp_var 6) ppa_nil))) pp_bl))).pt ?_ ?_) ?_
  · exact (pss_oneP (pps_ret pp_bl))
  · exact (pss_nilP)
  exact (pss_oneP (pps_ret (pp_eqQ hu (pp_callX (d_law_kind T) hr (ppa_cons (pp_tup (ppa_cons (pp_var 4) (ppa_cons (pp_var 1) (ppa_cons (pp_var 5) (ppa_cons (pp_var 6) (ppa_cons (pp_var 2) ppa_nil)))))) ppa_nil)) (pp_var 7))))
theorem d_law {P : Program} {w : World} {K : PySem.W.Frag} {mg : Str → Option Value} {base : Heap} (T : Top K mg) : DefX P w K mg base "law" ["_law_script"] 12 (spX K mg M_law) := def_exc T.f_law sc_law fun f cdv A outer s H E E' hr hp => b_law T f cdv A outer s H E E' hr hp
theorem fn_law {P : Program} {w : World} {K : PySem.W.Frag} {mg : Str → Option Value} {base : Heap} {f : Addr} {fd : FuncData} (T : Top K mg) (F : Fun K "law" "law" S_law f fd) : FnOk P w K mg base (CX1 P w) 12 f fd ["_law_script"] (spX K mg M_law) := fn_exc F sc_law fun f cdv A outer s H E E' hr hp => b_law T f cdv A outer s H E E' hr hp
end Tw
namespace Tw
open PySem L2
abbrev scr (ns : List Int) : PV := .lst (ns.map .int)
def cellA (ns : List Int) (k : Int) : Int := if k < ns.length then ns.getD k.toNat 0 else if ns = [] then 0 else ns.getD (k % ns.length).toNat 0 * 31 + k
theorem cell_at_ok {ns : List Int} {k : Int} (h0 : 0 ≤ k) : M_law_cell_at [scr ns, .int k] = .ok (.int (cellA ns k)) := by
  refine M_law_cell_at_eq _ _ ?_
  unfold G_law_cell_at cellA scr
  by_cases h : k < ns.length
  · simp [h, ix_int h0 h]
  · by_cases he : ns = []
    · subst he
      have h' : ¬ k < 0 := by simpa using h
      simp [h']
    · have hp : 0 < (ns.length : Int) := by have := List.length_pos_iff.mpr he; omega
      have h1 : 0 ≤ k % (ns.length : Int) := Int.emod_nonneg _ (by omega)
      have h2 : k % (ns.length : Int) < ns.length := Int.emod_lt_of_pos _ hp
      have hm : (ns.map PV.int).isEmpty = false := by cases ns <;> simp_all
      simp [h, he, hm, modP_ok hp, ix_int h1 h2, mulP_r (j := 31) (by decide)]
def drawn (ns : List Int) (k : Int) : Int := (cellA ns k + 7919 * k + 1) * 48271 % 2147483647
theorem drawn_eq (ns : List Int) (k : Int) : (cellA ns k + 7919 * k + 1) * 48271 % 2147483647 = drawn ns k := rfl
def mixV (ns : List Int) (k many : Int) : Int := (drawn ns k * drawn ns k + 7 * drawn ns k + k) % 2147483629 % many
theorem mixed_ok {ns : List Int} {k many : Int} (h0 : 0 ≤ k) (hm : 0 < many) : M_law_mixed [scr ns, .int k, .int many] = .ok (.int (mixV ns k many)) := by
  refine M_law_mixed_eq _ _ _ ?_
  unfold G_law_mixed
  have d0 : 0 ≤ drawn ns k := Int.emod_nonneg _ (by decide)
  have d1 : drawn ns k < 2147483647 := Int.emod_lt_of_pos _ (by decide)
  simp [cell_at_ok h0, mulP_l (i := 7919) (j := k) (by decide), mulP_r (j := 48271) (by decide), modP_ok (j := 2147483647) (by decide), drawn_eq, mulP_l (i := drawn ns k) (j := drawn ns k) (by constructor <;> omega), mulP_l (i := 7) (j := drawn ns k) (by decide),
    modP_ok (j := 2147483629) (by decide), modP_ok hm, mixV]
theorem mix_lo {ns : List Int} {k many : Int} (hm : 0 < many) : 0 ≤ mixV ns k many := Int.emod_nonneg _ (by omega)
theorem mix_hi {ns : List Int} {k many : Int} (hm : 0 < many) : mixV ns k many < many := Int.emod_lt_of_pos _ hm
end Tw
namespace Tw
open PySem L2
def rowOk (n : Nat) (r : List Int) : Prop := r.length = n ∧ ∀ x ∈ r, 0 ≤ x ∧ x ≤ 9
def mvPV (m : List Int × List Int) : PV := .tup [.tup (m.1.map .int), .tup (m.2.map .int)]
def mvOk (n : Nat) (m : List Int × List Int) : Prop := rowOk n m.1 ∧ rowOk n m.2
def netPV (n : Nat) (ms : List (List Int × List Int)) : PV := .tup [.int n, .tup (ms.map mvPV)]
structure netOk (n : Nat) (ms : List (List Int × List Int)) : Prop where
  lo : 1 ≤ n
  hi : n ≤ 6
  few : ms.length ≤ 10
  mv : ∀ m ∈ ms, mvOk n m
def someL (b : Bool) : List Int := if b then [0, 1, 3, 5, 9] else [0, 0, 1, 1, 2]
theorem someL_ok {b : Bool} {i : Int} (h0 : 0 ≤ i) (h : i < 5) : ∃ v, atI ((someL b).map PV.int) i = some (.int v) ∧ v = (someL b).getD i.toNat 0 ∧ 0 ≤ v ∧ v ≤ 9 ∧ (b = false → v ≤ 2) := by
  have hl : (someL b).length = 5 := by cases b <;> rfl
  refine ⟨_, ix_int h0 (by rw [hl]; exact h), rfl, ?_⟩
  have : i = 0 ∨ i = 1 ∨ i = 2 ∨ i = 3 ∨ i = 4 := by omega
  rcases this with rfl | rfl | rfl | rfl | rfl <;> cases b <;> decide
def cellsV (ns : List Int) (at_ : Int) (size : Nat) : List Int := (List.range size).map fun (k : Nat) => mixV ns (at_ + k) 25
theorem cellsV_mem {ns : List Int} {at_ : Int} {size : Nat} {x : Int} (h : x ∈ cellsV ns at_ size) : 0 ≤ x ∧ x < 25 := by
  obtain ⟨k, _, rfl⟩ := List.mem_map.mp h
  exact ⟨mix_lo (by decide), mix_hi (by decide)⟩
def pick (b : Bool) (i : Int) : Int := (someL b).getD i.toNat 0
theorem pick_ok {b : Bool} {i : Int} (h0 : 0 ≤ i) (h : i < 5) : atI ((someL b).map PV.int) i = some (.int (pick b i)) ∧ 0 ≤ pick b i ∧ pick b i ≤ 9 ∧ (b = false → pick b i ≤ 2) := by
  obtain ⟨v, e1, e2, e3⟩ := someL_ok (b := b) h0 h
  subst e2; exact ⟨e1, e3⟩
theorem move_loop {ns : List Int} {at_ : Int} {size : Nat} {v3 v4 v5 : PV} {n : Nat} (hs : 1 ≤ size ∧ size ≤ 4) {gs : List Int} (hg : gs.length = size) (hz : ∀ x ∈ gs, x = 0) {left : Int} :
    ∃ (ρ' : PEnv) (gs' : List Int), forF (tgN 8) (sSeq (sSetO 6 (b2 modP (look 7) (look 2)) (b2 addP (b2 ixP (lookO 6) (b2 modP (look 7) (look 2))) (cst (.int 1)))) (sSet 7 (b2 divP (look 7) (look 2)))) (rngL 0 n)
      [.val (scr ns), .val (.int at_), .val (.int size), .val v3, .val v4, .val v5, .own (gs.map .int), .val (.int left), .no] = .nxt ρ' ∧
      ∃ v8 v9, ρ' = [.val (scr ns), .val (.int at_), .val (.int size), .val v3, .val v4, .val v5, .own (gs'.map .int), v8, v9] ∧ gs'.length = size ∧ ∀ x ∈ gs', 0 ≤ x ∧ x ≤ n := by
  have step : ∀ (i : Nat) (p : PV) (ρ : PEnv), (rngL 0 n)[i]? = some p → (∃ (gs : List Int) (left : Int) (v9 : Sl), ρ = [.val (scr ns), .val (.int at_), .val (.int size), .val v3, .val v4, .val v5, .own (gs.map .int), .val (.int left), v9] ∧ gs.length = size ∧ ∀ x ∈ gs, 0 ≤ x ∧ x ≤ i) →
      ∃ ρ1 ρ2, tgN 8 p ρ = .ok ρ1 ∧ (sSeq (sSetO 6 (b2 modP (look 7) (look 2)) (b2 addP (b2 ixP (lookO 6) (b2 modP (look 7) (look 2))) (cst (.int 1)))) (sSet 7 (b2 divP (look 7) (look 2)))) ρ1 = .nxt ρ2 ∧
      ∃ (gs : List Int) (left : Int) (v9 : Sl), ρ2 = [.val (scr ns), .val (.int at_), .val (.int size), .val v3, .val v4, .val v5, .own (gs.map .int), .val (.int left), v9] ∧ gs.length = size ∧ ∀ x ∈ gs, 0 ≤ x ∧ x ≤ ((i + 1 : Nat) : Int) := by
    rintro i p ρ hp ⟨gs, left, v9, rfl, hl, hb⟩
    have hpos : (0 : Int) < size := by omega
    have m0 : 0 ≤ left % (size : Int) := Int.emod_nonneg _ (by omega)
    have m1 : left % (size : Int) < size := Int.emod_lt_of_pos _ hpos
    have m2 : left % (size : Int) < gs.length := by omega
    have hix : ixN (gs.map PV.int).length (left % (size : Int)) = some (left % (size : Int)).toNat := by
      unfold ixN; rw [if_pos m0, if_pos (by rw [List.length_map]; exact m2)]
    refine ⟨_, [.val (scr ns), .val (.int at_), .val (.int size), .val v3, .val v4, .val v5, .own ((gs.set (left % (size : Int)).toNat (gs.getD (left % (size : Int)).toNat 0 + 1)).map .int), .val (.int (left / size)), .val p], rfl, ?_, gs.set (left % (size : Int)).toNat (gs.getD (left % (size : Int)).toNat 0 + 1), left / size, .val p, rfl, by simp [hl], fun x hx => ?_⟩
    · simp only [sSeq_def, sSetO, List.set_cons_succ, List.set_cons_zero, List.getElem?_cons_succ, List.getElem?_cons_zero]
      simp only [b2_def, look_s, look_0, lookO_s, lookO_0, modP_ok hpos, bind_ok, ixP_l, ix_int m0 m2, ofO_some, cst_ok, addP_ii, ofR_ok, hix, thenR_nxt, sSet_def, divP_ok hpos (by omega : (size : Int) < 1073741824), List.set_cons_succ, List.set_cons_zero, List.map_set]
    · rcases List.mem_or_eq_of_mem_set hx with hx | rfl
      · have := hb x hx
        constructor
        · exact this.1
        · push_cast; omega
      · have hmem : gs.getD (left % (size : Int)).toNat 0 ∈ gs := by
          rw [List.getD_eq_getElem?_getD, List.getElem?_eq_getElem (by omega)]; exact List.getElem_mem _
        have := hb _ hmem
        push_cast; omega
  obtain ⟨ρ', e, gs', left', v9, rfl, h1, h2⟩ := forF_inv (ps := rngL 0 n) (fun i ρ => ∃ (gs : List Int) (left : Int) (v9 : Sl), ρ = [.val (scr ns), .val (.int at_), .val (.int size), .val v3, .val v4, .val v5, .own (gs.map .int), .val (.int left), v9] ∧ gs.length = size ∧ ∀ x ∈ gs, 0 ≤ x ∧ x ≤ i) step
    (ρ := [.val (scr ns), .val (.int at_), .val (.int size), .val v3, .val v4, .val v5, .own (gs.map .int), .val (.int left), .no]) ⟨gs, left, .no, rfl, hg, fun x hx => by rw [hz x hx]; simp⟩
  rw [rngL_len] at h2
  exact ⟨_, gs', e, _, _, rfl, h1, h2⟩
end Tw
namespace Tw
open PySem L2
theorem sum_le {l : List Int} {b : Int} (h : ∀ x ∈ l, 0 ≤ x ∧ x ≤ b) : 0 ≤ l.sum ∧ l.sum ≤ b * l.length := by
  induction l with
  | nil => simp
  | cons x l ih =>
    obtain ⟨h1, h2⟩ := ih fun y hy => h y (List.mem_cons_of_mem _ hy)
    obtain ⟨h3, h4⟩ := h x List.mem_cons_self
    rw [List.sum_cons, List.length_cons]
    push_cast
    rw [Int.mul_add, Int.mul_one]
    omega
theorem mv_cells {ns : List Int} {at_ : Int} {size : Nat} (h0 : 0 ≤ at_) : compF (tgN 0) fNo (eD M_law_mixed (aCons (look 1) (aCons (b2 addP (look 2) (look 0)) (aCons (cst (.int 25)) aNil)))) [.no, .val (scr ns), .val (.int at_)] (rngL 0 size) = .ok ((cellsV ns at_ size).map .int) := by
  refine comp_rng fun k hk => ?_
  simp [mixed_ok (ns := ns) (k := at_ + k) (many := 25) (by omega) (by decide)]
theorem some5 : (someL false).map PV.int = [.int 0, .int 0, .int 1, .int 1, .int 2] := rfl
theorem mv_takes {cs : List Int} : compF (tgN 0) fNo (b2 ixP (eLst (aCons (cst (.int 0)) (aCons (cst (.int 0)) (aCons (cst (.int 1)) (aCons (cst (.int 1)) (aCons (cst (.int 2)) aNil)))))) (b2 modP (look 0) (cst (.int 5)))) [.no] (cs.map .int) = .ok ((cs.map fun c => pick false (c % 5)).map .int) := by
  refine comp_ints fun x hx => ?_
  have p := pick_ok (b := false) (i := x % 5) (Int.emod_nonneg _ (by decide)) (Int.emod_lt_of_pos _ (by decide))
  rw [some5] at p
  simp [modP_ok (i := x) (j := 5) (by decide), p.1]
theorem mv_gives {cs : List Int} (hc : ∀ x ∈ cs, 0 ≤ x ∧ x < 25) : compF (tgN 0) fNo (b2 ixP (eLst (aCons (cst (.int 0)) (aCons (cst (.int 0)) (aCons (cst (.int 1)) (aCons (cst (.int 1)) (aCons (cst (.int 2)) aNil)))))) (b2 divP (look 0) (cst (.int 5)))) [.no] (cs.map .int) = .ok ((cs.map fun c => pick false (c / 5)).map .int) := by
  refine comp_ints fun x hx => ?_
  have hx' := hc x hx
  have p := pick_ok (b := false) (i := x / 5) (by omega) (by omega)
  rw [some5] at p
  simp [divP_ok (i := x) (j := 5) (by decide) (by decide), p.1]
theorem mv_takes_ok {cs : List Int} {size : Nat} (b : Bool) (hl : cs.length = size) : rowOk size (cs.map fun c => pick b (c % 5)) := ⟨by rw [List.length_map]; exact hl, fun x hx => by
  obtain ⟨c, hc, rfl⟩ := List.mem_map.mp hx
  have p := pick_ok (b := b) (i := c % 5) (Int.emod_nonneg _ (by decide)) (Int.emod_lt_of_pos _ (by decide))
  exact ⟨p.2.1, p.2.2.1⟩⟩
theorem mv_gives_ok {cs : List Int} {size : Nat} (b : Bool) (hl : cs.length = size) (hc : ∀ x ∈ cs, 0 ≤ x ∧ x < 25) : rowOk size (cs.map fun c => pick b (c / 5)) := ⟨by rw [List.length_map]; exact hl, fun x hx => by
  obtain ⟨c, hc', rfl⟩ := List.mem_map.mp hx
  have hc' := hc c hc'
  have p := pick_ok (b := b) (i := c / 5) (by omega) (by omega)
  exact ⟨p.2.1, p.2.2.1⟩⟩
theorem mv_sum {cs : List Int} {size : Nat} (hl : cs.length = size) : 0 ≤ (cs.map fun c => pick false (c % 5)).sum ∧ (cs.map fun c => pick false (c % 5)).sum ≤ 2 * size := by
  have h := sum_le (l := cs.map fun c => pick false (c % 5)) (b := 2) fun x hx => by
      obtain ⟨c, hc, rfl⟩ := List.mem_map.mp hx
      have p := pick_ok (b := false) (i := c % 5) (Int.emod_nonneg _ (by decide)) (Int.emod_lt_of_pos _ (by decide))
      exact ⟨p.2.1, p.2.2.2 rfl⟩
  rw [List.length_map, hl] at h
  exact h
theorem move_ok {ns : List Int} {at_ : Int} {size : Nat} {even : Bool} (h0 : 0 ≤ at_) (hs : 1 ≤ size ∧ size ≤ 4) :
    ∃ m, M_law_move [scr ns, .int at_, .int size, .bl even] = .ok (mvPV m) ∧ mvOk size m := by
  have hcomp := mv_cells (ns := ns) (size := size) h0
  have hr : rng1 [.int (size : Int)] = .ok (rngL 0 size) := rng1_ok (by omega) (by omega)
  have hz : size < sizeLine := lt_line (by omega)
  have hcl : (cellsV ns at_ size).length = size := by simp [cellsV]
  have hcm : ∀ x ∈ cellsV ns at_ size, 0 ≤ x ∧ x < 25 := fun x hx => cellsV_mem hx
  have m4 := mixed_ok (ns := ns) (k := at_ + 4) (many := 65536) (by omega) (by decide)
  generalize cellsV ns at_ size = cs at *
  have ht' := mv_takes (cs := cs)
  have hg' := mv_gives hcm
  have hgo := mv_gives_ok false hcl hcm
  have hsum := mv_sum hcl
  have htr' := mv_takes_ok false hcl
  generalize (cs.map fun c => pick false (c % 5)) = ts at *
  generalize (cs.map fun c => pick false (c / 5)) = gs at *
  cases even with
  | false =>
    refine ⟨(ts, gs), ?_, htr', hgo⟩
    refine M_law_move_eq _ _ _ _ ?_
    unfold G_law_move
    simp [bρ, hr, hz, hcomp, hcl, ht', hg', mvPV]
  | true =>
    have hzero : compF (tgN 0) fNo (cst (.int 0)) [.no] (rngL 0 size) = .ok ((((List.range size).map fun _ => (0 : Int))).map .int) := comp_rng fun k hk => rfl
    have hz1 : ((List.range size).map fun _ => (0 : Int)).length = size := by simp
    have hz2 : ∀ x ∈ ((List.range size).map fun _ => (0 : Int)), x = 0 := fun x hx => by obtain ⟨_, _, rfl⟩ := List.mem_map.mp hx; rfl
    generalize ((List.range size).map fun _ => (0 : Int)) = zs at *
    have hrs := rng1_ok hsum.1 (by omega)
    obtain ⟨ρ', gs', e, v8, v9, rfl, h1, h2⟩ := move_loop (ns := ns) (at_ := at_) (size := size) (v3 := .bl true) (v4 := .lst (cs.map .int)) (v5 := .lst (ts.map .int))
      (n := ts.sum.toNat) hs (gs := zs) hz1 hz2 (left := mixV ns (at_ + 4) 65536)
    refine ⟨(ts, gs'), ?_, htr', h1, fun x hx => by have := h2 x hx; omega⟩
    refine M_law_move_eq _ _ _ _ ?_
    unfold G_law_move
    simp [bρ, hr, hz, hcomp, hcl, ht', hg', hzero, pow48, m4, hrs, e, mvPV]
theorem mvs_of {n : Nat} : ∀ {ys : List PV}, (∀ y ∈ ys, ∃ m, y = mvPV m ∧ mvOk n m) → ∃ ms : List (List Int × List Int), ys = ms.map mvPV ∧ ∀ m ∈ ms, mvOk n m
  | [], _ => ⟨[], rfl, fun m hm => by simp at hm⟩
  | y :: ys, h => by
    obtain ⟨m, rfl, hm⟩ := h y List.mem_cons_self
    obtain ⟨ms, rfl, hms⟩ := mvs_of fun z hz => h z (List.mem_cons_of_mem _ hz)
    exact ⟨m :: ms, rfl, fun z hz => (List.mem_cons.mp hz).elim (fun q => by rw [q]; exact hm) (hms z)⟩
theorem net_ok {ns : List Int} {at_ : Int} (h0 : 0 ≤ at_) : ∃ n ms, M_law_net [scr ns, .int at_] = .ok (netPV n ms) ∧ netOk n ms ∧ n ≤ 4 ∧ ms.length ≤ 4 := by
  have m0 := mixed_ok (ns := ns) (k := at_) (many := 3) h0 (by decide)
  have m1 := mixed_ok (ns := ns) (k := at_ + 1) (many := 5) (by omega) (by decide)
  have m2 := mixed_ok (ns := ns) (k := at_ + 2) (many := 6) (by omega) (by decide)
  have m3 := mixed_ok (ns := ns) (k := at_ + 3) (many := 2) (by omega) (by decide)
  have b0 := mix_lo (ns := ns) (k := at_) (many := 3) (by decide)
  have b0' := mix_hi (ns := ns) (k := at_) (many := 3) (by decide)
  have b1 := mix_lo (ns := ns) (k := at_ + 1) (many := 5) (by decide)
  have b1' := mix_hi (ns := ns) (k := at_ + 1) (many := 5) (by decide)
  generalize mixV ns at_ 3 = a at *
  generalize mixV ns (at_ + 1) 5 = b at *
  generalize mixV ns (at_ + 2) 6 = c at *
  generalize mixV ns (at_ + 3) 2 = d at *
  have hr := rng1_ok b1 (by omega)
  have hz : b.toNat < sizeLine := lt_line (by omega)
  have main : ∀ size : Nat, 1 ≤ size ∧ size ≤ 4 → ∃ ms : List (List Int × List Int), compF (tgN 0) fNo (eD M_law_move (aCons (look 1) (aCons (b2 addP (b2 addP (look 4) (cst (.int 4))) (b2 mulP (cst (.int 5)) (look 0))) (aCons (look 2) (aCons (look 3) aNil))))) [.no, .val (scr ns), .val (.int size), .val (.bl (decide (d = 1))), .val (.int at_)] (rngL 0 b.toNat) = .ok (ms.map mvPV) ∧ ms.length = b.toNat ∧ ∀ m ∈ ms, mvOk size m := by
    intro size hs
    obtain ⟨ys, e, l, p⟩ := comp_ex (ge := eD M_law_move (aCons (look 1) (aCons (b2 addP (b2 addP (look 4) (cst (.int 4))) (b2 mulP (cst (.int 5)) (look 0))) (aCons (look 2) (aCons (look 3) aNil))))) (ρ := [.no, .val (scr ns), .val (.int size), .val (.bl (decide (d = 1))), .val (.int at_)]) (n := b.toNat) (P := fun y => ∃ m, y = mvPV m ∧ mvOk size m) fun k hk => by
      obtain ⟨m, e, hm⟩ := move_ok (ns := ns) (at_ := at_ + 4 + 5 * k) (size := size) (even := decide (d = 1)) (by omega) hs
      exact ⟨mvPV m, by simp [mulP_l (i := 5) (j := (k : Int)) (by decide), e], m, rfl, hm⟩
    obtain ⟨ms, rfl, hms⟩ := mvs_of p
    exact ⟨ms, e, by simpa using l, hms⟩
  by_cases hc : c = 5
  · obtain ⟨ms, e, l, p⟩ := main 4 (by omega)
    refine ⟨4, ms, M_law_net_eq _ _ ?_, ⟨by omega, by omega, by omega, p⟩, by omega, by omega⟩
    have e' : (((4 : Nat) : Int)) = 4 := rfl
    rw [e'] at e
    unfold G_law_net netPV
    simp [bρ, m0, m1, m2, m3, hc, hr, hz, e]
  · have hs : ((1 + a).toNat : Int) = 1 + a := by omega
    obtain ⟨ms, e, l, p⟩ := main (1 + a).toNat (by omega)
    refine ⟨(1 + a).toNat, ms, M_law_net_eq _ _ ?_, ⟨by omega, by omega, by omega, p⟩, by omega, by omega⟩
    rw [hs] at e
    unfold G_law_net netPV
    rw [hs]
    simp [bρ, m0, m1, m2, m3, hc, hr, hz, e]
end Tw
namespace Tw
open PySem L2
def wholeB : PV → Bool
  | .int _ => true
  | _ => false
def numB : PV → Bool
  | .int i => decide (0 ≤ i)
  | _ => false
def num9B : PV → Bool
  | .int i => decide (0 ≤ i) && decide (i ≤ 9)
  | _ => false
def natRowB (n : Int) : PV → Bool
  | .tup xs => decide ((xs.length : Int) = n) && xs.all numB
  | _ => false
def rowB (n : Int) : PV → Bool
  | .tup xs => decide ((xs.length : Int) = n) && xs.all num9B
  | _ => false
def moveB (n : Int) : PV → Bool
  | .tup [a, b] => rowB n a && rowB n b
  | _ => false
def netB : PV → Bool
  | .tup [.int n, .tup ms] => decide (1 ≤ n) && decide (n ≤ 6) && decide (ms.length ≤ 10) && ms.all (moveB n)
  | _ => false
theorem is_whole_all (p : PV) : M_is_whole [p] = .ok (.bl (wholeB p)) := by
  refine M_is_whole_eq _ ?_
  unfold G_is_whole
  cases p <;> simp [wholeB]
theorem is_row_all (p : PV) (n : Int) : M_is_row [p, .int n] = .ok (.bl (natRowB n p)) := by
  refine M_is_row_eq _ _ ?_
  unfold G_is_row
  cases p with
  | tup xs =>
    by_cases hl : (xs.length : Int) = n
    · rcases forF_all (m := tgN 2) (G := sIf (oB (nB (bT (eC M_is_whole (aCons (look 2) aNil)))) (bB (b2 ltP (look 2) (cst (.int 0))))) (sRet (cst (.bl false))) sNil) (v := .bl false) (t := numB) (ps := xs)
        (fun ρ => ∃ v, ρ = [.val (.tup xs), .val (.int n), v]) (fun p ρ hp ⟨v, e⟩ => by
          subst e
          refine ⟨[.val (.tup xs), .val (.int n), .val p], rfl, ?_⟩
          cases p with
          | int i =>
            by_cases hi : i < 0
            · exact .inr ⟨decide_eq_false (by omega), by simp [is_whole_all, wholeB, hi]⟩
            · exact .inl ⟨decide_eq_true (by omega), _, by simp [is_whole_all, wholeB, hi]; rfl, _, rfl⟩
          | _ => exact .inr ⟨rfl, by simp [is_whole_all, wholeB]⟩) (ρ := [.val (.tup xs), .val (.int n), .no]) ⟨.no, rfl⟩ with ⟨a, ρ', e, _⟩ | ⟨a, e⟩
      · simp [hl, e, natRowB, a]
      · simp [hl, e, natRowB, a]
    · simp [hl, natRowB]
  | _ => simp [natRowB]
theorem ints_of : ∀ {xs : List PV}, xs.all numB = true → ∃ ns : List Int, xs = ns.map .int ∧ ∀ x ∈ ns, 0 ≤ x
  | [], _ => ⟨[], rfl, fun x hx => by simp at hx⟩
  | x :: xs, h => by
    rw [List.all_cons, Bool.and_eq_true] at h
    obtain ⟨ns, rfl, hn⟩ := ints_of h.2
    cases x with
    | int i => exact ⟨i :: ns, rfl, fun y hy => (List.mem_cons.mp hy).elim (fun q => by rw [q]; exact of_decide_eq_true h.1) (hn y)⟩
    | _ => exact absurd h.1 Bool.false_ne_true
theorem rowB_nat {n : Int} {p : PV} (h : rowB n p = true) : natRowB n p = true := by
  cases p with
  | tup xs =>
    unfold rowB at h
    unfold natRowB
    rw [Bool.and_eq_true] at h ⊢
    refine ⟨h.1, ?_⟩
    rw [List.all_eq_true] at h ⊢
    intro x hx
    have := h.2 x hx
    cases x with
    | int i => unfold num9B at this; rw [Bool.and_eq_true] at this; exact this.1
    | _ => exact absurd this Bool.false_ne_true
  | _ => exact absurd h Bool.false_ne_true
theorem rowB_max {n : Int} {ns : List Int} (hn : 1 ≤ n) (h : natRowB n (.tup (ns.map .int)) = true) : ns ≠ [] ∧ rowB n (.tup (ns.map .int)) = !decide (9 < maxI ns) := by
  unfold natRowB at h
  rw [Bool.and_eq_true] at h
  have hl := of_decide_eq_true h.1
  have hne : ns ≠ [] := fun z => by subst z; simp at hl; omega
  refine ⟨hne, ?_⟩
  have hm := maxI_spec hne
  show (decide (((List.map PV.int ns).length : Int) = n) && (List.map PV.int ns).all num9B) = !decide (9 < maxI ns)
  rw [h.1, Bool.true_and]
  have h0 : ∀ x ∈ ns, 0 ≤ x := fun x hx => by
    have := List.all_eq_true.mp h.2 (.int x) (List.mem_map.mpr ⟨x, hx, rfl⟩)
    exact of_decide_eq_true this
  by_cases h9 : 9 < maxI ns
  · rw [decide_eq_true h9]
    rw [show (!true) = false from rfl, List.all_eq_false]
    exact ⟨.int (maxI ns), List.mem_map.mpr ⟨_, hm.1, rfl⟩, by show ¬ (decide (0 ≤ maxI ns) && decide (maxI ns ≤ 9)) = true; rw [Bool.and_comm, decide_eq_false (by omega)]; exact Bool.false_ne_true⟩
  · rw [decide_eq_false h9]
    rw [show (!false) = true from rfl, List.all_eq_true]
    intro x hx
    obtain ⟨y, hy, rfl⟩ := List.mem_map.mp hx
    show (decide (0 ≤ y) && decide (y ≤ 9)) = true
    rw [decide_eq_true (h0 y hy), decide_eq_true (by have := hm.2 y hy; omega)]
    rfl
theorem is_move_all (p : PV) {n : Int} (hn : 1 ≤ n) : M_is_move [p, .int n] = .ok (.bl (moveB n p)) := by
  refine M_is_move_eq _ _ ?_
  unfold G_is_move
  have one : ∀ (p r : PV), (rowB n r = true ∧ (sIf (oB (nB (bT (eC M_is_row (aCons (look 2) (aCons (look 1) aNil))))) (bB (b2 gtP (eC maxP (aCons (look 2) aNil)) (cst (.int 9))))) (sRet (cst (.bl false))) sNil) [.val p, .val (.int n), .val r] = .nxt [.val p, .val (.int n), .val r]) ∨
      (rowB n r = false ∧ (sIf (oB (nB (bT (eC M_is_row (aCons (look 2) (aCons (look 1) aNil))))) (bB (b2 gtP (eC maxP (aCons (look 2) aNil)) (cst (.int 9))))) (sRet (cst (.bl false))) sNil) [.val p, .val (.int n), .val r] = .ret (.bl false)) := fun p r => by
    cases hr : natRowB n r with
    | false =>
      have : rowB n r = false := by
        cases h : rowB n r with
        | false => rfl
        | true => rw [rowB_nat h] at hr; cases hr
      exact .inr ⟨this, by simp [is_row_all, hr]⟩
    | true =>
      cases r with
      | tup xs =>
        have h2 := hr
        unfold natRowB at h2
        rw [Bool.and_eq_true] at h2
        obtain ⟨ns, rfl, h0⟩ := ints_of h2.2
        obtain ⟨hne, hm⟩ := rowB_max hn hr
        by_cases h9 : 9 < maxI ns
        · rw [decide_eq_true h9] at hm
          exact .inr ⟨hm, by simp [is_row_all, hr, maxP_row hne, h9]⟩
        · rw [decide_eq_false h9] at hm
          exact .inl ⟨hm, by simp [is_row_all, hr, maxP_row hne, h9]⟩
      | _ => exact absurd hr Bool.false_ne_true
  cases p with
  | tup xs =>
    match xs with
    | [] => simp [moveB]
    | [a] => simp [moveB]
    | [a, b] =>
      rcases forF_all (m := tgN 2) (G := sIf (oB (nB (bT (eC M_is_row (aCons (look 2) (aCons (look 1) aNil))))) (bB (b2 gtP (eC maxP (aCons (look 2) aNil)) (cst (.int 9))))) (sRet (cst (.bl false))) sNil) (v := .bl false) (t := rowB n) (ps := [a, b])
        (fun ρ => ∃ v, ρ = [.val (.tup [a, b]), .val (.int n), v]) (fun r ρ hp ⟨v, e⟩ => by
          subst e
          refine ⟨[.val (.tup [a, b]), .val (.int n), .val r], rfl, ?_⟩
          rcases one (.tup [a, b]) r with h | h
          · exact .inl ⟨h.1, _, h.2, _, rfl⟩
          · exact .inr h) (ρ := [.val (.tup [a, b]), .val (.int n), .no]) ⟨.no, rfl⟩ with ⟨a1, ρ', e, _⟩ | ⟨a1, e⟩
      · have : moveB n (.tup [a, b]) = true := by simpa [moveB] using a1
        simp [e, this]
      · have : moveB n (.tup [a, b]) = false := by simpa [moveB] using a1
        simp [e, this]
    | a :: b :: c :: ys =>
      have : ¬ ((ys.length : Int) + 1 + 1 + 1 = 2) := by omega
      simp [moveB, this]
  | _ => simp [moveB]
end Tw
namespace Tw
open PySem L2
theorem is_net_all (t : PV) : M_is_net [t] = .ok (.bl (netB t)) := by
  refine M_is_net_eq _ ?_
  unfold G_is_net
  cases t with
  | tup xs =>
    match xs with
    | [] => simp [netB]
    | [a] => simp [netB]
    | [a, b] =>
      cases a with
      | int n =>
        by_cases h1 : n < 1
        · have h1' : ¬ 1 ≤ n := by omega
          cases b <;> simp [is_whole_all, wholeB, h1, h1', netB]
        · by_cases h6 : 6 < n
          · have h1' : ¬ n ≤ 6 := by omega
            cases b <;> simp [is_whole_all, wholeB, h1, h6, h1', netB]
          · cases b with
            | tup ms =>
              have a1 : 1 ≤ n := by omega
              have a6 : n ≤ 6 := by omega
              by_cases h10 : 10 < (ms.length : Int)
              · have : ¬ ms.length ≤ 10 := by omega
                simp [is_whole_all, wholeB, h1, h6, h10, netB, this]
              · have h10' : ms.length ≤ 10 := by omega
                rcases forF_all (m := tgN 3) (G := sIf (nB (bT (eC M_is_move (aCons (look 3) (aCons (look 1) aNil))))) (sRet (cst (.bl false))) sNil) (v := .bl false) (t := moveB n) (ps := ms)
                  (fun ρ => ∃ v, ρ = [.val (.tup [.int n, .tup ms]), .val (.int n), .val (.tup ms), v]) (fun r ρ hp ⟨v, e⟩ => by
                    subst e
                    refine ⟨[.val (.tup [.int n, .tup ms]), .val (.int n), .val (.tup ms), .val r], rfl, ?_⟩
                    cases hm : moveB n r with
                    | true => exact .inl ⟨rfl, _, by simp [is_move_all r a1, hm]; rfl, _, rfl⟩
                    | false => exact .inr ⟨rfl, by simp [is_move_all r a1, hm]⟩) (ρ := [.val (.tup [.int n, .tup ms]), .val (.int n), .val (.tup ms), .no]) ⟨.no, rfl⟩ with ⟨b1, ρ', e, _⟩ | ⟨b1, e⟩
                · simp [is_whole_all, wholeB, h1, h6, h10, netB, h10', e, b1, a1, a6]
                · simp [is_whole_all, wholeB, h1, h6, h10, netB, h10', e, b1]
            | _ => simp [is_whole_all, wholeB, h1, h6, netB]
      | _ => simp [is_whole_all, wholeB, netB]
    | a :: b :: c :: ys =>
      have : ¬ ((ys.length : Int) + 1 + 1 + 1 = 2) := by omega
      simp [netB, this]
  | _ => simp [netB]
end Tw
namespace L2
@[simp] theorem ofR_x {α : Type} (c : XC) (k : α → RS) : ofR (.exc c : Res α) k = .exc c := (rfl)
@[simp] theorem thenR_x (c : XC) (G : GS) : thenR (.exc c) G = .exc c := (rfl)
end L2
namespace Tw
open PySem L2
abbrev row (r : List Int) : PV := .tup (r.map .int)
theorem checked_yes {t : PV} (h : netB t = true) : M_checked [t] = .ok t := by
  refine M_checked_eq _ ?_
  unfold G_checked
  simp [is_net_all, h]
theorem row9_ok {n : Nat} {r : List Int} (h : rowOk n r) : rowB n (row r) = true := by
  show (decide (((r.map PV.int).length : Int) = n) && (r.map PV.int).all num9B) = true
  rw [decide_eq_true (by rw [List.length_map, h.1]), Bool.true_and, List.all_eq_true]
  intro x hx
  obtain ⟨y, hy, rfl⟩ := List.mem_map.mp hx
  show (decide (0 ≤ y) && decide (y ≤ 9)) = true
  rw [decide_eq_true (h.2 y hy).1, decide_eq_true (h.2 y hy).2]; rfl
theorem netB_ok {n : Nat} {ms : List (List Int × List Int)} (h : netOk n ms) : netB (netPV n ms) = true := by
  show (decide ((1 : Int) ≤ n) && decide ((n : Int) ≤ 6) && decide ((ms.map mvPV).length ≤ 10) && (ms.map mvPV).all (moveB n)) = true
  rw [decide_eq_true (by have := h.lo; omega), decide_eq_true (by have := h.hi; omega), decide_eq_true (by rw [List.length_map]; exact h.few), Bool.true_and, Bool.true_and, Bool.true_and, List.all_eq_true]
  intro x hx
  obtain ⟨m, hm, rfl⟩ := List.mem_map.mp hx
  show (rowB n (row m.1) && rowB n (row m.2)) = true
  rw [row9_ok (h.mv m hm).1, row9_ok (h.mv m hm).2]; rfl
theorem checked_ok {n : Nat} {ms : List (List Int × List Int)} (h : netOk n ms) : M_checked [netPV n ms] = .ok (netPV n ms) := checked_yes (netB_ok h)
theorem few_line {ms : List (List Int × List Int)} {n : Nat} (h : netOk n ms) : ms.length < sizeLine := by have := h.few; exact lt_line (by omega)
abbrev xH : XC := ⟨"NoHoard", []⟩
abbrev xM : XC := ⟨"NoMove", []⟩
abbrev xP : XC := ⟨"NoPlace", []⟩
theorem is_hoard_all {n : Nat} {ms : List (List Int × List Int)} (h : netOk n ms) (p : PV) : M_is_hoard [netPV n ms, p] = .ok (.bl (natRowB n p)) := by
  have e1 := checked_ok h
  have e2 := is_row_all p n
  refine M_is_hoard_eq _ _ ?_
  unfold G_is_hoard
  unfold netPV at e1 ⊢
  simp [e1, e2]
theorem hoard_no {n : Nat} {ms : List (List Int × List Int)} {p : PV} (h : netOk n ms) (q : natRowB n p = false) : M_need_hoard [netPV n ms, p] = .exc xH := by
  have e := is_hoard_all h p
  rw [q] at e
  refine runG_exc rfl rfl ?_
  unfold G_need_hoard
  generalize netPV n ms = nn at *
  simp [e, sRaise]
theorem hoard_yes {n : Nat} {ms : List (List Int × List Int)} {p : PV} (h : netOk n ms) (q : natRowB n p = true) : M_need_hoard [netPV n ms, p] = .ok .non := by
  have e := is_hoard_all h p
  rw [q] at e
  refine M_need_hoard_nx _ _ (ρ := [.val (netPV n ms), .val p]) ?_
  unfold G_need_hoard
  generalize netPV n ms = nn at *
  simp [e]
def badN (k : Int) : PV → Bool
  | .int i => decide (i < 0) || decide (k ≤ i)
  | _ => true
theorem move_no {n : Nat} {ms : List (List Int × List Int)} {p : PV} (q : badN ms.length p = true) : M_need_move [netPV n ms, p] = .exc xM := by
  have e := is_whole_all p
  refine runG_exc rfl rfl ?_
  show G_need_move [.val (netPV n ms), .val p] = _
  unfold G_need_move netPV
  cases p with
  | int i =>
    have q : (decide (i < 0) || decide ((ms.length : Int) ≤ i)) = true := q
    by_cases h1 : i < 0
    · simp [e, wholeB, h1, sRaise]
    · have h2 : (ms.length : Int) ≤ i := by simpa [h1] using q
      simp [e, wholeB, h1, h2, sRaise]
  | _ => simp [e, wholeB, sRaise]
theorem move_yes {n : Nat} {ms : List (List Int × List Int)} {i : Int} (h0 : 0 ≤ i) (h : i < ms.length) : M_need_move [netPV n ms, .int i] = .ok .non := by
  have e := is_whole_all (.int i)
  refine M_need_move_nx _ _ (ρ := [.val (netPV n ms), .val (.int i)]) ?_
  unfold G_need_move netPV
  have h1 : ¬ i < 0 := by omega
  have h2 : ¬ (ms.length : Int) ≤ i := by omega
  simp [e, wholeB, h1, h2]
def listB : PV → Bool
  | .lst _ => true
  | _ => false
theorem isT_list (p : PV) : isT "list" p = some (listB p) := by cases p <;> rfl
theorem run_not {n : Nat} {ms : List (List Int × List Int)} {p : PV} (q : listB p = false) : M_need_run [netPV n ms, p] = .exc xM := by
  have e := isT_list p
  rw [q] at e
  refine runG_exc rfl rfl ?_
  show G_need_run [.val (netPV n ms), .val p, .no] = _
  unfold G_need_run
  generalize netPV n ms = nn at *
  simp [e, sRaise]
theorem run_no {n : Nat} {ms : List (List Int × List Int)} {p : PV} (q : badN ms.length p = true) : ∀ {k : Nat}, (0 < k → 0 < ms.length) → M_need_run [netPV n ms, .lst (List.replicate k (.int 0) ++ [p])] = .exc xM := by
  intro k hk
  have e1 := move_no (n := n) q
  have lp : ∀ (j : Nat) (l : PV) (s : Sl), (0 < j → 0 < ms.length) → forF (tgN 2) (sExp (eC M_need_move (aCons (look 0) (aCons (look 2) aNil)))) (List.replicate j (.int 0) ++ [p]) [.val (netPV n ms), .val l, s] = .exc xM := by
    intro j
    induction j with
    | zero =>
      intro l s _
      generalize netPV n ms = nn at *
      simp [forF, e1]
    | succ j ih =>
      intro l s hj
      have e2 := move_yes (n := n) (ms := ms) (i := 0) (by omega) (by have := hj (by omega); omega)
      have := ih l (.val (.int 0)) (fun _ => hj (by omega))
      rw [List.replicate_succ, List.cons_append, forF]
      show (match sExp (eC M_need_move (aCons (look 0) (aCons (look 2) aNil))) [.val (netPV n ms), .val l, .val (.int 0)] with | .nxt ρ2 => forF (tgN 2) (sExp (eC M_need_move (aCons (look 0) (aCons (look 2) aNil)))) (List.replicate j (PV.int 0) ++ [p]) ρ2 | .cnt ρ2 => forF (tgN 2) (sExp (eC M_need_move (aCons (look 0) (aCons (look 2) aNil)))) (List.replicate j (PV.int 0) ++ [p]) ρ2 | .brk ρ2 => .nxt ρ2 | .ret p => .ret p | .exc c => .exc c | .bad => .bad) = _
      have q2 : sExp (eC M_need_move (aCons (look 0) (aCons (look 2) aNil))) [.val (netPV n ms), .val l, .val (.int 0)] = .nxt [.val (netPV n ms), .val l, .val (.int 0)] := by
        generalize netPV n ms = nn at *
        simp [e2]
      rw [q2]
      exact this
  have := lp k (.lst (List.replicate k (.int 0) ++ [p])) .no hk
  refine runG_exc rfl rfl ?_
  show G_need_run [.val (netPV n ms), .val (.lst (List.replicate k (.int 0) ++ [p])), .no] = _
  have e := isT_list (.lst (List.replicate k (.int 0) ++ [p]))
  unfold G_need_run
  generalize List.replicate k (PV.int 0) ++ [p] = zz at *
  generalize netPV n ms = nn at *
  simp [e, listB, this]
theorem place_no {n : Nat} {ms : List (List Int × List Int)} {p : PV} (q : badN n p = true) : M_need_place [netPV n ms, p] = .exc xP := by
  have e := is_whole_all p
  refine runG_exc rfl rfl ?_
  show G_need_place [.val (netPV n ms), .val p] = _
  unfold G_need_place netPV
  cases p with
  | int i =>
    have q : (decide (i < 0) || decide ((n : Int) ≤ i)) = true := q
    by_cases h1 : i < 0
    · simp [e, wholeB, h1, sRaise]
    · have h2 : (n : Int) ≤ i := by simpa [h1] using q
      simp [e, wholeB, h1, h2, sRaise]
  | _ => simp [e, wholeB, sRaise]
theorem place_yes {n : Nat} {ms : List (List Int × List Int)} {i : Int} (h0 : 0 ≤ i) (h : i < n) : M_need_place [netPV n ms, .int i] = .ok .non := by
  have e := is_whole_all (.int i)
  refine M_need_place_nx _ _ (ρ := [.val (netPV n ms), .val (.int i)]) ?_
  unfold G_need_place netPV
  have h1 : ¬ i < 0 := by omega
  have h2 : ¬ (n : Int) ≤ i := by omega
  simp [e, wholeB, h1, h2]
inductive BadPs (n : Nat) : PV → Prop where
  | no {p : PV} (q : listB p = false) : BadPs n p
  | one {p : PV} {r : List PV} (q : badN n p = true) : BadPs n (.lst (p :: r))
  | two {p : PV} (q : badN n p = true) : BadPs n (.lst [.int 0, p])
theorem places_no {n : Nat} {ms : List (List Int × List Int)} {p : PV} (h1 : 1 ≤ n) (b : BadPs n p) : M_need_places [netPV n ms, p] = .exc xP := by
  refine runG_exc rfl rfl ?_
  show G_need_places [.val (netPV n ms), .val p, .no] = _
  unfold G_need_places
  cases b with
  | no q =>
    have e := isT_list p
    rw [q] at e
    generalize netPV n ms = nn at *
    simp [e, sRaise]
  | @one p r q =>
    have e := isT_list (.lst (p :: r))
    have e1 := place_no (n := n) (ms := ms) q
    generalize netPV n ms = nn at *
    simp [e, listB, forF, e1]
  | @two p q =>
    have e := isT_list (.lst [.int 0, p])
    have e1 := place_no (n := n) (ms := ms) q
    have e2 := place_yes (n := n) (ms := ms) (i := 0) (by omega) (by omega)
    generalize netPV n ms = nn at *
    simp [e, listB, forF, e1, e2]
theorem sill_x {N p : PV} {c : XC} (e : M_need_hoard [N, p] = .exc c) : M_sill [N, p] = .exc c := by
  refine runG_exc rfl rfl ?_
  unfold G_sill; simp [e]
theorem all_of_x {N p : PV} {c : XC} (e : M_need_hoard [N, p] = .exc c) : M_all_of [N, p] = .exc c := by
  refine runG_exc rfl rfl ?_
  unfold G_all_of; simp [e]
theorem stuck_x {N p : PV} {c : XC} (e : M_need_hoard [N, p] = .exc c) : M_stuck_hoards [N, p] = .exc c := by
  refine runG_exc rfl rfl ?_
  unfold G_stuck_hoards; simp [e]
theorem cover_x1 {N p r : PV} {c : XC} (e : M_need_hoard [N, p] = .exc c) : M_cover [N, p, r] = .exc c := by
  refine runG_exc rfl rfl ?_
  unfold G_cover; simp [e]
theorem cover_x2 {N p r : PV} {c : XC} (e0 : M_need_hoard [N, p] = .ok .non) (e : M_need_hoard [N, r] = .exc c) : M_cover [N, p, r] = .exc c := by
  refine runG_exc rfl rfl ?_
  unfold G_cover; simp [e0, e]
theorem run_to_x1 {N p r : PV} {c : XC} (e : M_need_hoard [N, p] = .exc c) : M_run_to [N, p, r] = .exc c := by
  refine runG_exc rfl rfl ?_
  unfold G_run_to; simp [e]
theorem run_to_x2 {N p r : PV} {c : XC} (e0 : M_need_hoard [N, p] = .ok .non) (e : M_need_hoard [N, r] = .exc c) : M_run_to [N, p, r] = .exc c := by
  refine runG_exc rfl rfl ?_
  unfold G_run_to; simp [e0, e]
theorem behind_x1 {N p r : PV} {c : XC} (e : M_need_hoard [N, p] = .exc c) : M_behind [N, p, r] = .exc c := by
  refine runG_exc rfl rfl ?_
  unfold G_behind; simp [e]
theorem behind_x2 {N p r : PV} {c : XC} (e0 : M_need_hoard [N, p] = .ok .non) (e : M_need_run [N, r] = .exc c) : M_behind [N, p, r] = .exc c := by
  refine runG_exc rfl rfl ?_
  unfold G_behind; simp [e0, e]
theorem tog_x1 {N p r : PV} {c : XC} (e : M_need_hoard [N, p] = .exc c) : M_together [N, p, r] = .exc c := by
  refine runG_exc rfl rfl ?_
  unfold G_together; simp [e]
theorem tog_x2 {N p r : PV} {c : XC} (e0 : M_need_hoard [N, p] = .ok .non) (e : M_need_places [N, r] = .exc c) : M_together [N, p, r] = .exc c := by
  refine runG_exc rfl rfl ?_
  unfold G_together; simp [e0, e]
theorem far_x1 {N p r : PV} {c : XC} (e : M_need_hoard [N, p] = .exc c) : M_how_far [N, p, r] = .exc c := by
  refine runG_exc rfl rfl ?_
  unfold G_how_far; simp [e]
theorem far_x2 {N p r : PV} {c : XC} (e0 : M_need_hoard [N, p] = .ok .non) (e : M_need_place [N, r] = .exc c) : M_how_far [N, p, r] = .exc c := by
  refine runG_exc rfl rfl ?_
  unfold G_how_far; simp [e0, e]
theorem can_x1 {N p r : PV} {c : XC} (e : M_need_hoard [N, p] = .exc c) : M_can [N, p, r] = .exc c := by
  refine runG_exc rfl rfl ?_
  unfold G_can; simp [e]
theorem can_x2 {N p r : PV} {c : XC} (e0 : M_need_hoard [N, p] = .ok .non) (e : M_need_move [N, r] = .exc c) : M_can [N, p, r] = .exc c := by
  refine runG_exc rfl rfl ?_
  unfold G_can; simp [e0, e]
theorem least_x1 {N p r : PV} {c : XC} (k : M_checked [N] = .ok N) (e : M_need_move [N, p] = .exc c) : M_least_before [N, p, r] = .exc c := by
  refine runG_exc rfl rfl ?_
  unfold G_least_before; simp [k, e]
theorem least_x2 {N p r : PV} {c : XC} (k : M_checked [N] = .ok N) (e0 : M_need_move [N, p] = .ok .non) (e : M_need_hoard [N, r] = .exc c) : M_least_before [N, p, r] = .exc c := by
  refine runG_exc rfl rfl ?_
  unfold G_least_before; simp [k, e0, e]
theorem told_x {N p : PV} {c : XC} (k : M_checked [N] = .ok N) (e : M_need_places [N, p] = .exc c) : M_told_places [N, p] = .exc c := by
  refine runG_exc rfl rfl ?_
  unfold G_told_places; simp [k, e]
theorem gsink_x {N p : PV} {c : XC} (e : M_told_places [N, p] = .exc c) : M_greatest_sink [N, p] = .exc c := by
  refine runG_exc rfl rfl ?_
  unfold G_greatest_sink; simp [e]
theorem sink_x {N p : PV} {c : XC} (e : M_told_places [N, p] = .exc c) : M_is_sink [N, p] = .exc c := by
  refine runG_exc rfl rfl ?_
  unfold G_is_sink; simp [e]
theorem gtrap_x {N N' p : PV} {c : XC} (t : M_turned [N] = .ok N') (e : M_greatest_sink [N', p] = .exc c) : M_greatest_trap [N, p] = .exc c := by
  refine runG_exc rfl rfl ?_
  unfold G_greatest_trap; simp [t, e]
theorem trap_x {N N' p : PV} {c : XC} (t : M_turned [N] = .ok N') (e : M_is_sink [N', p] = .exc c) : M_is_trap [N, p] = .exc c := by
  refine runG_exc rfl rfl ?_
  unfold G_is_trap; simp [t, e]
theorem out_x {N p : PV} {c : XC} (k : M_checked [N] = .ok N) (e : M_need_place [N, p] = .exc c) : M_without_place [N, p] = .exc c := by
  refine runG_exc rfl rfl ?_
  unfold G_without_place; simp [k, e]
def swp (m : List Int × List Int) : List Int × List Int := (m.2, m.1)
theorem swp_net {n : Nat} {ms : List (List Int × List Int)} (h : netOk n ms) : netOk n (ms.map swp) := ⟨h.lo, h.hi, by rw [List.length_map]; exact h.few, fun m hm => by
  obtain ⟨m', h1, rfl⟩ := List.mem_map.mp hm
  exact ⟨(h.mv m' h1).2, (h.mv m' h1).1⟩⟩
theorem comp_m2 {ge : PEnv → Res PV} {ρ : PEnv} {f : List Int × List Int → List Int × List Int} : ∀ {ms : List (List Int × List Int)}, (∀ m ∈ ms, ge (.val (row m.1) :: .val (row m.2) :: ρ) = .ok (mvPV (f m))) → compF (tgT 2 (tgCons (tgN 0) (tgCons (tgN 1) tgNil))) fNo ge (.no :: .no :: ρ) (ms.map mvPV) = .ok ((ms.map f).map mvPV)
  | [], _ => rfl
  | m :: ms, h => by
    have e := comp_m2 (ge := ge) (ρ := ρ) (f := f) (ms := ms) fun z hz => h z (List.mem_cons_of_mem _ hz)
    have e1 : tgT 2 (tgCons (tgN 0) (tgCons (tgN 1) tgNil)) (mvPV m) (.no :: .no :: ρ) = .ok (.val (row m.1) :: .val (row m.2) :: ρ) := rfl
    rw [List.map_cons, List.map_cons, List.map_cons, compF, e, e1]
    show (nox (ge (.val (row m.1) :: .val (row m.2) :: ρ))).bind _ = _
    rw [h m List.mem_cons_self]
    rfl
theorem turned_ok {n : Nat} {ms : List (List Int × List Int)} (h : netOk n ms) : M_turned [netPV n ms] = .ok (netPV n (ms.map swp)) := by
  have e1 := checked_ok h
  have hz := few_line h
  have hc : compF (tgT 2 (tgCons (tgN 0) (tgCons (tgN 1) tgNil))) fNo (eTup (aCons (look 1) (aCons (look 0) aNil))) [.no, .no] (ms.map mvPV) = .ok ((ms.map swp).map mvPV) := comp_m2 fun m hm => rfl
  refine M_turned_eq _ ?_
  unfold G_turned
  generalize ms.map swp = zs at *
  unfold netPV at e1 ⊢
  simp [e1, bρ, hz, hc]
end Tw
namespace Tw
open PySem L2
section
variable {n : Nat} {ms : List (List Int × List Int)} {p g : PV}
theorem with_hoard_x {w : Int} (h : netOk n ms) (hw : 0 ≤ w ∧ w < 12) (hp : natRowB n p = false) (hg : natRowB n g = true) : M_law_with_hoard [netPV n ms, .int w, p, g] = .exc xH := by
  have eb := hoard_no h hp
  have eg := hoard_yes h hg
  have ck := checked_ok h
  have f0 := sill_x eb
  have f1 := cover_x1 (r := g) eb
  have f2 := cover_x2 eg eb
  have f3 := all_of_x eb
  have f4 := run_to_x1 (r := g) eb
  have f5 := stuck_x eb
  have f6 := behind_x1 (r := .lst []) eb
  have f7 := tog_x1 (r := .lst []) eb
  have f8 := far_x1 (r := .int 0) eb
  have f9 := run_to_x2 eg eb
  have fa := can_x1 (r := .int 0) eb
  have hn : eqP (.tup (ms.map mvPV)) (.tup []) = .ok (.bl ms.isEmpty) := by cases ms <;> rfl
  have fb : ms ≠ [] → M_least_before [netPV n ms, .int 0, p] = .exc xH := fun q => least_x2 ck (move_yes (by omega) (by have := List.length_pos_iff.mpr q; omega)) eb
  refine runG_exc rfl rfl ?_
  show G_law_with_hoard [.val (netPV n ms), .val (.int w), .val p, .val g] = _
  unfold G_law_with_hoard
  clear eb eg ck
  have : w = 0 ∨ w = 1 ∨ w = 2 ∨ w = 3 ∨ w = 4 ∨ w = 5 ∨ w = 6 ∨ w = 7 ∨ w = 8 ∨ w = 9 ∨ w = 10 ∨ w = 11 := by omega
  rcases this with rfl | rfl | rfl | rfl | rfl | rfl | rfl | rfl | rfl | rfl | rfl | rfl
  all_goals try (generalize netPV n ms = nn at *; simp [f0, f1, f2, f3, f4, f5, f6, f7, f8, f9, fa]; done)
  by_cases q : ms = []
  · subst q
    unfold netPV at fa ⊢
    rw [List.map_nil] at fa ⊢
    have e0 : eqP (.tup []) (.tup []) = .ok (.bl true) := rfl
    simp [fa, e0]
  · have fb := fb q
    have he : ms.isEmpty = false := by cases ms with | nil => exact absurd rfl q | cons _ _ => rfl
    rw [he] at hn
    unfold netPV at fb ⊢
    simp [fb, hn]
theorem with_move_x {w : Int} (h : netOk n ms) (hw : 0 ≤ w ∧ w < 6) (hp : badN ms.length p = true) (hf : (∃ i, p = .int i) ∨ (∃ b, p = .bl b) ∨ (∃ z, p = .str z) ∨ p = .non) (hg : natRowB n g = true) : M_law_with_move [netPV n ms, .int w, p, g] = .exc xM := by
  have eg := hoard_yes h hg
  have ck := checked_ok h
  have em := move_no (n := n) hp
  have f0 := can_x2 eg em
  have f1 := least_x1 (r := g) ck em
  have f2 := behind_x2 eg (run_no (n := n) (k := 0) hp (fun z => absurd z (Nat.lt_irrefl _)))
  have f3 := behind_x2 (r := .tup []) eg (run_not rfl)
  have f4 := behind_x2 (r := .non) eg (run_not rfl)
  have f4' := behind_x2 (r := .str "0") eg (run_not rfl)
  have f5 := behind_x2 eg (run_no (n := n) (k := ms.length) hp (fun z => z))
  have hc : compF (tgN 0) fNo (cst (.int 0)) [.no] (ms.map mvPV) = .ok (List.replicate ms.length (.int 0)) := by
    have : ∀ ks : List (List Int × List Int), compF (tgN 0) fNo (cst (.int 0)) [.no] (ks.map mvPV) = .ok (List.replicate ks.length (.int 0)) := fun ks => by
      induction ks with
      | nil => rfl
      | cons m ks ih => rw [List.map_cons, compF, ih]; rfl
    exact this ms
  have hz := few_line h
  have ad : addL (.lst (List.replicate ms.length (.int 0))) (.lst [p]) = .ok (.lst (List.replicate ms.length (.int 0) ++ [p])) := addL_ok (by have := h.few; simp; omega)
  have mk : mkL [p] = .ok (.lst [p]) := mkL_ok (by simp)
  have mk2 : mkL [PV.non, PV.str "0"] = .ok (.lst [.non, .str "0"]) := mkL_ok (by simp)
  refine runG_exc rfl rfl ?_
  show G_law_with_move [.val (netPV n ms), .val (.int w), .val p, .val g] = _
  unfold G_law_with_move
  clear eg ck em
  have f2' : M_behind [netPV n ms, g, .lst [p]] = .exc xM := f2
  have : w = 0 ∨ w = 1 ∨ w = 2 ∨ w = 3 ∨ w = 4 ∨ w = 5 := by omega
  rcases this with rfl | rfl | rfl | rfl | rfl | rfl
  · generalize netPV n ms = nn at *; simp [f0]
  · generalize netPV n ms = nn at *; simp [f1]
  · generalize netPV n ms = nn at *; simp [mk, f2']
  · generalize netPV n ms = nn at *; simp [f3]
  · have i0 : ixP (.lst [.non, .str "0"]) (.int 0) = .ok .non := rfl
    have i1 : ixP (.lst [.non, .str "0"]) (.int 1) = .ok (.str "0") := rfl
    have p0 : intP [.bl false] = .ok (.int 0) := rfl
    have p1 : intP [.bl true] = .ok (.int 1) := rfl
    generalize netPV n ms = nn at *
    rcases hf with ⟨i, rfl⟩ | ⟨b, rfl⟩ | ⟨z, rfl⟩ | rfl
    · have : isQP (.int i) (.bl true) = .ok (.bl false) := rfl
      simp [mk2, this, p0, i0, f4]
    · cases b with
      | true =>
        have : isQP (.bl true) (.bl true) = .ok (.bl true) := rfl
        simp [mk2, this, p1, i1, f4']
      | false =>
        have : isQP (.bl false) (.bl true) = .ok (.bl false) := rfl
        simp [mk2, this, p0, i0, f4]
    · have : isQP (.str z) (.bl true) = .ok (.bl false) := rfl
      simp [mk2, this, p0, i0, f4]
    · have : isQP .non (.bl true) = .ok (.bl false) := rfl
      simp [mk2, this, p0, i0, f4]
  · generalize List.replicate ms.length (PV.int 0) = rr at *
    generalize hr : rr ++ [p] = rp at *
    unfold netPV at *
    simp [bρ, hz, hc, mk, ad, f5]
theorem with_place_x {w : Int} (h : netOk n ms) (hw : 0 ≤ w ∧ w < 7) (hp : badN n p = true) (hg : natRowB n g = true) : M_law_with_place [netPV n ms, .int w, p, g] = .exc xP := by
  have eg := hoard_yes h hg
  have ck := checked_ok h
  have ck' := checked_ok (swp_net h)
  have t := turned_ok h
  have ep := place_no (n := n) (ms := ms) hp
  have q1 : ∀ {ks : List (List Int × List Int)}, M_need_places [netPV n ks, .lst [.int 0, p]] = .exc xP := places_no h.lo (.two hp)
  have q2 : ∀ {ks : List (List Int × List Int)}, M_need_places [netPV n ks, .lst [p]] = .exc xP := places_no h.lo (.one hp)
  have q3 : ∀ {ks : List (List Int × List Int)}, M_need_places [netPV n ks, .lst [p, .int 0]] = .exc xP := places_no h.lo (.one hp)
  have f0 := far_x2 eg ep
  have f1 := tog_x2 eg (q1 (ks := ms))
  have f2 := gsink_x (told_x ck (q2 (ks := ms)))
  have f3 := gtrap_x t (gsink_x (told_x ck' q3))
  have f4 := sink_x (told_x ck (q1 (ks := ms)))
  have f5 := trap_x t (sink_x (told_x ck' q2))
  have f6 := out_x ck ep
  have m1 : mkL [p] = .ok (.lst [p]) := mkL_ok (by simp)
  refine runG_exc rfl rfl ?_
  show G_law_with_place [.val (netPV n ms), .val (.int w), .val p, .val g] = _
  unfold G_law_with_place
  clear eg ck ck' t ep q1 q2 q3
  have : w = 0 ∨ w = 1 ∨ w = 2 ∨ w = 3 ∨ w = 4 ∨ w = 5 ∨ w = 6 := by omega
  generalize netPV n ms = nn at *
  rcases this with rfl | rfl | rfl | rfl | rfl | rfl | rfl <;> simp [m1, f0, f1, f2, f3, f4, f5, f6]
theorem with_places_x {w : Int} (h : netOk n ms) (hw : 0 ≤ w ∧ w < 5) (hp : listB p = false) (hg : natRowB n g = true) : M_law_with_places [netPV n ms, .int w, p, g] = .exc xP := by
  have eg := hoard_yes h hg
  have ck := checked_ok h
  have ck' := checked_ok (swp_net h)
  have t := turned_ok h
  have q : ∀ {ks : List (List Int × List Int)}, M_need_places [netPV n ks, p] = .exc xP := places_no h.lo (.no hp)
  have f0 := tog_x2 eg (q (ks := ms))
  have f1 := gsink_x (told_x ck (q (ks := ms)))
  have f2 := gtrap_x t (gsink_x (told_x ck' q))
  have f3 := sink_x (told_x ck (q (ks := ms)))
  have f4 := trap_x t (sink_x (told_x ck' q))
  refine runG_exc rfl rfl ?_
  show G_law_with_places [.val (netPV n ms), .val (.int w), .val p, .val g] = _
  unfold G_law_with_places
  clear eg ck ck' t q
  have : w = 0 ∨ w = 1 ∨ w = 2 ∨ w = 3 ∨ w = 4 := by omega
  generalize netPV n ms = nn at *
  rcases this with rfl | rfl | rfl | rfl | rfl <;> simp [f0, f1, f2, f3, f4]
theorem with_two_x {w : Int} (h : netOk n ms) (hw : 0 ≤ w ∧ w < 5) (hp : natRowB n p = false) : M_law_with_two [netPV n ms, .int w, p, g] = .exc (if w = 2 then xM else xH) := by
  have eb := hoard_no h hp
  have ck := checked_ok h
  have em := move_no (n := n) (ms := ms) (p := .int (-1)) rfl
  have f0 := can_x1 (r := .int (-1)) eb
  have f1 := behind_x1 (r := .lst [.int (-1)]) eb
  have f2 := least_x1 (r := p) ck em
  have f3 := tog_x1 (r := .tup [.int 0]) eb
  have f4 := far_x1 (r := .int (-1)) eb
  have m1 : mkL [PV.int (-1)] = .ok (.lst [.int (-1)]) := mkL_ok (by simp)
  refine runG_exc rfl rfl ?_
  show G_law_with_two [.val (netPV n ms), .val (.int w), .val p, .val g] = _
  unfold G_law_with_two
  clear eb ck em
  have : w = 0 ∨ w = 1 ∨ w = 2 ∨ w = 3 ∨ w = 4 := by omega
  generalize netPV n ms = nn at *
  rcases this with rfl | rfl | rfl | rfl | rfl <;> simp [m1, f0, f1, f2, f3, f4]
end
/-!   · exact (go (b1 := false) (b2' := true) (b3 := false) (i := 1) (by decide +kernel) (by decide +kernel) (by decide +kernel) (by decide +kernel) (by decide +kernel) (by decide +kernel) rfl rfl rfl).trans (by rw [show num3 _ = 1 from by decide +kernel])
# which one -/
theorem asked_x {k w : Int} {N p g : PV} {c : XC} (hk : 0 ≤ k ∧ k < 5) (h0 : k = 0 → M_law_with_hoard [N, .int w, p, g] = .exc c) (h1 : k = 1 → M_law_with_move [N, .int w, p, g] = .exc c) (h2 : k = 2 → M_law_with_place [N, .int w, p, g] = .exc c) (h3 : k = 3 → M_law_with_places [N, .int w, p, g] = .exc c) (h4 : k = 4 → M_law_with_two [N, .int w, p, g] = .exc c) :
    M_law_asked [.int k, N, .int w, p, g] = .exc c := by
  refine runG_exc rfl rfl ?_
  show G_law_asked [.val (.int k), .val N, .val (.int w), .val p, .val g] = _
  unfold G_law_asked
  have : k = 0 ∨ k = 1 ∨ k = 2 ∨ k = 3 ∨ k = 4 := by omega
  rcases this with rfl | rfl | rfl | rfl | rfl
  · simp [h0 rfl]
  · simp [h1 rfl]
  · simp [h2 rfl]
  · simp [h3 rfl]
  · simp [h4 rfl]
def bodyX : GS := (sSeq (sSet 2 (eLst (aCons (isY 1 [("NoHoard", true), ("NoMove", false), ("NoNet", false), ("NoPlace", false)]) (aCons (isY 1 [("NoHoard", false), ("NoMove", true), ("NoNet", false), ("NoPlace", false)]) (aCons (isY 1 [("NoHoard", false), ("NoMove", false), ("NoNet", false), ("NoPlace", true)]) aNil)))))
    (sSeq (sOwn 3 (fLst (aCons (isY 1 [("NoHoard", false), ("NoMove", false), ("NoNet", true), ("NoPlace", false)]) (aCons (isY 1 [("NoHoard", false), ("NoMove", false), ("NoNet", false), ("NoPlace", false)]) (aCons (isY 1 [("NoHoard", false), ("NoMove", false), ("NoNet", false), ("NoPlace", false)]) (aCons (isY 1 [("NoHoard", false), ("NoMove", false), ("NoNet", false), ("NoPlace", false)]) aNil))))))
    (sSeq (sAppendO 3 (aCons (isY 1 [("NoHoard", false), ("NoMove", false), ("NoNet", false), ("NoPlace", false)]) aNil))
    (sFz 3 (sIf (aB (bT (isX 1 ["TokenError", "NoNet", "NoHoard", "NoMove", "NoPlace", "Endless", "TooBig", "NoText", "Stuck"])) (aB (bB (b2 eqP (eML countP' (b2 addL (look 2) (look 3)) (cst (.bl true))) (cst (.int 1)))) (bB (b2 (inP false) (cst (.bl true)) (look 2))))) (sRet (eML indexP (look 2) (cst (.bl true)))) sNil)))))
def ans3 (x : Str) : Bool × Bool × Bool := (x == "NoHoard", x == "NoMove", x == "NoPlace")
def num3 (x : Str) : Int := if x = "NoHoard" then 0 else if x = "NoMove" then 1 else 2
theorem isY_ok {i : Nat} {tbl : List (Str × Bool)} {ρ : PEnv} {x : Str} {b : Bool} (h : ρ[i]? = some (.exc ⟨x, []⟩)) (hl : tbl.lookup x = some b) : isY i tbl ρ = .ok (.bl b) := by
  unfold isY
  rw [h]
  show (match XC.fo ⟨x, []⟩, tbl.lookup x with | none, some b => Res.ok (PV.bl b) | _, _ => .bad) = _
  rw [hl]
  rfl
theorem bodyX_ok {cs : PV} {x : Str} (hx : x = "NoHoard" ∨ x = "NoMove" ∨ x = "NoPlace") : bodyX [.val cs, .exc ⟨x, []⟩, .no, .no] = .ret (.int (num3 x)) := by
  have mk3 : ∀ a b c : PV, mkL [a, b, c] = .ok (.lst [a, b, c]) := fun a b c => mkL_ok (by simp)
  have y : ∀ {s2 s3 : Sl} {tbl : List (Str × Bool)} {b : Bool}, tbl.lookup x = some b → isY 1 tbl [.val cs, .exc ⟨x, []⟩, s2, s3] = .ok (.bl b) := fun hl => isY_ok rfl hl
  unfold bodyX
  have go : ∀ {b1 b2' b3 : Bool} {i : Int} (h1 : List.lookup x [("NoHoard", true), ("NoMove", false), ("NoNet", false), ("NoPlace", false)] = some b1) (h2 : List.lookup x [("NoHoard", false), ("NoMove", true), ("NoNet", false), ("NoPlace", false)] = some b2') (h3 : List.lookup x [("NoHoard", false), ("NoMove", false), ("NoNet", false), ("NoPlace", true)] = some b3)
      (h4 : List.lookup x [("NoHoard", false), ("NoMove", false), ("NoNet", true), ("NoPlace", false)] = some false) (h5 : List.lookup x [("NoHoard", false), ("NoMove", false), ("NoNet", false), ("NoPlace", false)] = some false) (hm : x ∈ (["TokenError", "NoNet", "NoHoard", "NoMove", "NoPlace", "Endless", "TooBig", "NoText", "Stuck"] : List Str))
      (hc : countP' [.bl b1, .bl b2', .bl b3, .bl false, .bl false, .bl false, .bl false, .bl false] (.bl true) = .ok (.int 1)) (hi : inP false (.bl true) (.lst [.bl b1, .bl b2', .bl b3]) = .ok (.bl true)) (hx : indexP [.bl b1, .bl b2', .bl b3] (.bl true) = .ok (.int i)),
      (sSeq (sSet 2 (eLst (aCons (isY 1 [("NoHoard", true), ("NoMove", false), ("NoNet", false), ("NoPlace", false)]) (aCons (isY 1 [("NoHoard", false), ("NoMove", true), ("NoNet", false), ("NoPlace", false)]) (aCons (isY 1 [("NoHoard", false), ("NoMove", false), ("NoNet", false), ("NoPlace", true)]) aNil)))))
    (sSeq (sOwn 3 (fLst (aCons (isY 1 [("NoHoard", false), ("NoMove", false), ("NoNet", true), ("NoPlace", false)]) (aCons (isY 1 [("NoHoard", false), ("NoMove", false), ("NoNet", false), ("NoPlace", false)]) (aCons (isY 1 [("NoHoard", false), ("NoMove", false), ("NoNet", false), ("NoPlace", false)]) (aCons (isY 1 [("NoHoard", false), ("NoMove", false), ("NoNet", false), ("NoPlace", false)]) aNil))))))
    (sSeq (sAppendO 3 (aCons (isY 1 [("NoHoard", false), ("NoMove", false), ("NoNet", false), ("NoPlace", false)]) aNil))
    (sFz 3 (sIf (aB (bT (isX 1 ["TokenError", "NoNet", "NoHoard", "NoMove", "NoPlace", "Endless", "TooBig", "NoText", "Stuck"])) (aB (bB (b2 eqP (eML countP' (b2 addL (look 2) (look 3)) (cst (.bl true))) (cst (.int 1)))) (bB (b2 (inP false) (cst (.bl true)) (look 2))))) (sRet (eML indexP (look 2) (cst (.bl true)))) sNil))))) [.val cs, .exc ⟨x, []⟩, .no, .no] = .ret (.int i) := by
    intro b1 b2' b3 i h1 h2 h3 h4 h5 hm hc hi hx'
    have y1 := fun {s2 s3 : Sl} => y (s2 := s2) (s3 := s3) h1
    have y2 := fun {s2 s3 : Sl} => y (s2 := s2) (s3 := s3) h2
    have y3 := fun {s2 s3 : Sl} => y (s2 := s2) (s3 := s3) h3
    have y4 := fun {s2 s3 : Sl} => y (s2 := s2) (s3 := s3) h4
    have y5 := fun {s2 s3 : Sl} => y (s2 := s2) (s3 := s3) h5
    have ad : addL (.lst [.bl b1, .bl b2', .bl b3]) (.lst [.bl false, .bl false, .bl false, .bl false, .bl false]) = .ok (.lst [.bl b1, .bl b2', .bl b3, .bl false, .bl false, .bl false, .bl false, .bl false]) := addL_ok (by simp)
    have ix : ∀ {s2 s3 : Sl}, isX 1 ["TokenError", "NoNet", "NoHoard", "NoMove", "NoPlace", "Endless", "TooBig", "NoText", "Stuck"] [.val cs, .exc ⟨x, []⟩, s2, s3] = .ok (.bl true) := fun {s2 s3} => by
      unfold isX
      show (if x ∈ _ then _ else _) = _
      rw [if_pos hm]
    rw [sSeq_nxt (sSet_ok (p := .lst [.bl b1, .bl b2', .bl b3]) (by simp [y1, y2, y3, mk3]))]
    rw [sSeq_nxt (sOwn_ok (ps := [.bl false, .bl false, .bl false, .bl false]) (fLst_def _ _ (by simp [y4, y5]) (by simp)))]
    rw [sSeq_nxt (sAppendO_ok (ps := [.bl false, .bl false, .bl false, .bl false]) (q := .bl false) rfl (by simp [y5]) (by simp))]
    have e1 : eqP (.int 1) (.int 1) = .ok (.bl true) := rfl
    simp [fz, ix, eML, ad, hc, hi, hx', e1]
  rcases hx with rfl | rfl | rfl
  · exact (go (b1 := true) (b2' := false) (b3 := false) (i := 0) (by decide +kernel) (by decide +kernel) (by decide +kernel) (by decide +kernel) (by decide +kernel) (by decide +kernel) rfl rfl rfl).trans (by rw [show num3 _ = 0 from by decide +kernel])
  · exact (go (b1 := false) (b2' := true) (b3 := false) (i := 1) (by decide +kernel) (by decide +kernel) (by decide +kernel) (by decide +kernel) (by decide +kernel) (by decide +kernel) rfl rfl rfl).trans (by rw [show num3 _ = 1 from by decide +kernel])
  · exact (go (b1 := false) (b2' := false) (b3 := true) (i := 2) (by decide +kernel) (by decide +kernel) (by decide +kernel) (by decide +kernel) (by decide +kernel) (by decide +kernel) rfl rfl rfl).trans (by rw [show num3 _ = 2 from by decide +kernel])
theorem kind_go {cs : PV} {ge : PEnv → Res PV} {x : Str} {i : Int} (hx : x = "NoHoard" ∨ x = "NoMove" ∨ x = "NoPlace") (hi : num3 x = i) (e : ge [.val cs, .no, .no, .no] = .exc ⟨x, []⟩) :
    (sSeq (sTry (fun ρ _ => ρ) ge ["TokenError", "NoNet", "NoHoard", "NoMove", "NoPlace", "Endless", "TooBig", "NoText", "Stuck"] (sAs 1 bodyX)) (sRet (negV (cst (.int 1))))) [.val cs, .no, .no, .no] = .ret (.int i) := by
  have b := bodyX_ok (cs := cs) hx
  have hm : x ∈ (["TokenError", "NoNet", "NoHoard", "NoMove", "NoPlace", "Endless", "TooBig", "NoText", "Stuck"] : List Str) := by rcases hx with rfl | rfl | rfl <;> decide +kernel
  have t : sTry (fun ρ _ => ρ) ge ["TokenError", "NoNet", "NoHoard", "NoMove", "NoPlace", "Endless", "TooBig", "NoText", "Stuck"] (sAs 1 bodyX) [.val cs, .no, .no, .no] = .ret (.int i) := by
    unfold sTry
    rw [e]
    show (if x ∈ _ then sAs 1 bodyX ⟨x, []⟩ [.val cs, .no, .no, .no] else .bad) = _
    rw [if_pos hm]
    unfold sAs
    show (match bodyX [.val cs, .exc ⟨x, []⟩, .no, .no] with | .nxt ρ' => RS.nxt (ρ'.set 1 .no) | .ret p => .ret p | .brk ρ' => .brk (ρ'.set 1 .no) | .cnt ρ' => .cnt (ρ'.set 1 .no) | _ => .bad) = _
    rw [b, hi]
  rw [sSeq_def, t]
  rfl
theorem kind_x {k w N p g : PV} {c : XC} {i : Int} (hc : (c = xH ∧ i = 0) ∨ (c = xM ∧ i = 1) ∨ (c = xP ∧ i = 2)) (e : M_law_asked [k, N, w, p, g] = .exc c) : M_law_kind [.tup [k, N, w, p, g]] = .ok (.int i) := by
  refine M_law_kind_eq _ ?_
  have mk3 : ∀ a b c : PV, mkL [a, b, c] = .ok (.lst [a, b, c]) := fun a b c => mkL_ok (by simp)
  have try_ : ∀ {c : XC}, M_law_asked [k, N, w, p, g] = .exc c → (eC M_law_asked (aCons (b2 ixP (look 0) (cst (.int 0))) (aCons (b2 ixP (look 0) (cst (.int 1))) (aCons (b2 ixP (look 0) (cst (.int 2))) (aCons (b2 ixP (look 0) (cst (.int 3))) (aCons (b2 ixP (look 0) (cst (.int 4))) aNil)))))) [.val (.tup [k, N, w, p, g]), .no, .no, .no] = .exc c := fun {c} e => by
    have i0 : ixP (.tup [k, N, w, p, g]) (.int 0) = .ok k := rfl
    have i1 : ixP (.tup [k, N, w, p, g]) (.int 1) = .ok N := rfl
    have i2 : ixP (.tup [k, N, w, p, g]) (.int 2) = .ok w := rfl
    have i3 : ixP (.tup [k, N, w, p, g]) (.int 3) = .ok p := rfl
    have i4 : ixP (.tup [k, N, w, p, g]) (.int 4) = .ok g := rfl
    simp [i0, i1, i2, i3, i4, e]
  have e' := try_ e
  clear try_ e
  rcases hc with ⟨rfl, rfl⟩ | ⟨rfl, rfl⟩ | ⟨rfl, rfl⟩
  · exact kind_go (.inl rfl) (by decide +kernel) e'
  · exact kind_go (.inr (.inl rfl)) (by decide +kernel) e'
  · exact kind_go (.inr (.inr rfl)) (by decide +kernel) e'
end Tw
namespace Tw
open PySem L2
theorem sl_last {xs : List PV} (h : 1 ≤ xs.length) : slP (.tup xs) none (some (-1)) = .ok (.tup (xs.take (xs.length - 1))) := by
  have e : HT.sIx xs.length xs.length (some (-1)) = xs.length - 1 := by
    show (if (-1 : Int) < 0 then ((-1 : Int) + (xs.length : Int)).toNat else min (-1 : Int).toNat xs.length) = _
    rw [if_pos (by decide)]; omega
  show (if HT.sIx xs.length 0 none = 0 ∧ HT.sIx xs.length xs.length (some (-1)) = xs.length then Res.bad else Res.ok (PV.tup (cutP xs none (some (-1))))) = _
  rw [if_neg (by rw [e]; omega)]
  unfold cutP
  rw [e, HT.sIx_none]
  simp
theorem six {x : Int} (h : 0 ≤ x ∧ x < 6) : x = 0 ∨ x = 1 ∨ x = 2 ∨ x = 3 ∨ x = 4 ∨ x = 5 := by omega
theorem nat_len {n : Nat} {xs : List PV} (h : xs.length ≠ n) : natRowB n (.tup xs) = false := by
  show (decide ((xs.length : Int) = n) && xs.all numB) = false
  rw [decide_eq_false (by omega), Bool.false_and]
theorem nat_bad {n : Nat} {xs : List PV} {o : PV} (h : numB o = false) : natRowB n (.tup (xs ++ [o])) = false := by
  show (decide (((xs ++ [o]).length : Int) = n) && (xs ++ [o]).all numB) = false
  rw [List.all_append]
  simp [h]
theorem bad_hoard_ok {n : Nat} {g : List Int} {c : Int} (h1 : 1 ≤ n) (hn : n ≤ 6) (hg : g.length = n) (hc : 0 ≤ c) : ∃ p, M_law_bad_hoard [row g, .int c] = .ok p ∧ natRowB n p = false := by
  have m4 : ∀ a b c d : PV, mkL [a, b, c, d] = .ok (.lst [a, b, c, d]) := fun a b c d => mkL_ok (by simp)
  have m6 : ∀ a b c d e f : PV, mkL [a, b, c, d, e, f] = .ok (.lst [a, b, c, d, e, f]) := fun a b c d e f => mkL_ok (by simp)
  have hl : (g.map PV.int).length = n := by rw [List.length_map]; exact hg
  have e1 : listP [row g] = .ok (.lst (g.map .int)) := rfl
  have e2 : addP (row g) (.tup [.int 1]) = .ok (.tup (g.map .int ++ [.int 1])) := addP_tt _ _ (by simp; omega)
  have e3 : slP (row g) (some 1) none = .ok (.tup ((g.map PV.int).drop 1)) := sl_from (xs := g.map PV.int) (k := 1) (by omega) (by omega)
  have e4 : slP (row g) none (some (-1)) = .ok (.tup ((g.map PV.int).take (n - 1))) := by rw [← hl]; exact sl_last (by omega)
  have e5 : ∀ o : PV, addP (.tup ((g.map PV.int).take (n - 1))) (.tup [o]) = .ok (.tup ((g.map PV.int).take (n - 1) ++ [o])) := fun o => addP_tt _ _ (by simp; omega)
  have d6 : divP (.int c) (.int 6) = .ok (.int (c / 6)) := divP_ok (i := c) (j := 6) (by decide) (by decide)
  have mo6 : modP (.int c) (.int 6) = .ok (.int (c % 6)) := modP_ok (i := c) (j := 6) (by decide)
  have mo4 : modP (.int (c / 6)) (.int 4) = .ok (.int (c / 6 % 4)) := modP_ok (i := c / 6) (j := 4) (by decide)
  have odd : ∃ o, ixP (.lst [.int (-1), .bl true, .str "1", .non]) (.int (c / 6 % 4)) = .ok o ∧ numB o = false := by
    have : c / 6 % 4 = 0 ∨ c / 6 % 4 = 1 ∨ c / 6 % 4 = 2 ∨ c / 6 % 4 = 3 := by omega
    rcases this with q | q | q | q <;> rw [q]
    · exact ⟨.int (-1), rfl, rfl⟩
    · exact ⟨.bl true, rfl, rfl⟩
    · exact ⟨.str "1", rfl, rfl⟩
    · exact ⟨.non, rfl, rfl⟩
  obtain ⟨o, eo, ho⟩ := odd
  have pick : ∃ p, ixP (.lst [.lst (g.map .int), .tup (g.map .int ++ [.int 1]), .tup ((g.map PV.int).drop 1), .tup ((g.map PV.int).take (n - 1) ++ [o]), .non, .int 3]) (.int (c % 6)) = .ok p ∧ natRowB n p = false := by
    rcases six (x := c % 6) (by omega) with q | q | q | q | q | q <;> rw [q]
    · exact ⟨_, rfl, rfl⟩
    · exact ⟨_, rfl, nat_len (by simp; omega)⟩
    · exact ⟨_, rfl, nat_len (by simp; omega)⟩
    · exact ⟨_, rfl, nat_bad ho⟩
    · exact ⟨_, rfl, rfl⟩
    · exact ⟨_, rfl, rfl⟩
  obtain ⟨p, ep, hp⟩ := pick
  refine ⟨p, M_law_bad_hoard_eq _ _ ?_, hp⟩
  have e5 := e5 o
  have hng : negV (cst (.int 1)) = fun _ => .ok (.int (-1)) := rfl
  unfold G_law_bad_hoard
  rw [sSeq_nxt (sSet_ok (p := o) (by simp [m4, d6, mo4, eo]))]
  generalize (g.map PV.int).take (n - 1) ++ [o] = z3 at *
  generalize (g.map PV.int).take (n - 1) = z4 at *
  generalize (g.map PV.int).drop 1 = z2 at *
  generalize g.map PV.int ++ [.int 1] = z1 at *
  simp [m6, e1, e2, e3, e4, e5, mo6, ep, oSome, oNone]
theorem hoard_draw {ns : List Int} {n : Nat} (hn : n ≤ 6) : ∃ g : List Int, M_law_hoard [scr ns, .int 24, .int n, .int 3] = .ok (row g) ∧ g.length = n ∧ natRowB n (row g) = true := by
  have hc : compF (tgN 0) fNo (eD M_law_mixed (aCons (look 1) (aCons (b2 addP (look 2) (look 0)) (aCons (b2 addP (look 3) (cst (.int 1))) aNil)))) [.no, .val (scr ns), .val (.int 24), .val (.int 3)] (rngL 0 n) = .ok (((List.range n).map fun (j : Nat) => mixV ns (24 + j) 4).map .int) := by
    refine comp_rng fun j hj => ?_
    simp [mixed_ok (ns := ns) (k := 24 + (j : Int)) (many := 4) (by omega) (by decide)]
  have hr : rng1 [.int (n : Int)] = .ok (rngL 0 (n : Int).toNat) := rng1_ok (by omega) (by omega)
  rw [show ((n : Int)).toNat = n by omega] at hr
  have hz : n < sizeLine := lt_line (by omega)
  have hm : ∀ x ∈ ((List.range n).map fun (j : Nat) => mixV ns (24 + j) 4), 0 ≤ x := fun x hx => by
    obtain ⟨j, _, rfl⟩ := List.mem_map.mp hx
    exact mix_lo (by decide)
  have hl : ((List.range n).map fun (j : Nat) => mixV ns (24 + j) 4).length = n := by simp
  generalize ((List.range n).map fun (j : Nat) => mixV ns (24 + j) 4) = g at *
  refine ⟨g, M_law_hoard_eq _ _ _ _ ?_, hl, ?_⟩
  · unfold G_law_hoard
    simp [hr, bρ, hz, hc]
  · show (decide (((g.map PV.int).length : Int) = n) && (g.map PV.int).all numB) = true
    rw [decide_eq_true (by rw [List.length_map, hl]), Bool.true_and, List.all_eq_true]
    intro x hx
    obtain ⟨y, hy, rfl⟩ := List.mem_map.mp hx
    exact decide_eq_true (hm y hy)
end Tw
namespace Tw
open PySem L2
theorem pow106 : powP (.int 10) (.int 6) = .ok (.int 1000000) := by
  rw [powP_ok (by unfold CPow; decide)]; rfl
def ifC : GS := (sIf (bB (b2 eqP (look 4) (cst (.int 1)))) (sSeq (sSet 6 (b2 ixP (eLst (aCons (negV (cst (.int 1))) (aCons (eC lenP (aCons (b2 ixP (look 1) (cst (.int 1))) aNil)) (aCons (cst (.bl true)) (aCons (cst (.str "0")) (aCons (cst .non) (aCons (b2 addP (eC lenP (aCons (b2 ixP (look 1) (cst (.int 1))) aNil)) (cst (.int 9))) aNil))))))) (b2 modP (look 3) (cst (.int 6)))))
    (sSet 7 (cst (.int 1)))) (sIf (bB (b2 eqP (look 4) (cst (.int 2)))) (sSeq (sSet 6 (b2 ixP (eLst (aCons (negV (cst (.int 1))) (aCons (b2 ixP (look 1) (cst (.int 0))) (aCons (cst (.bl true)) (aCons (cst (.str "0")) (aCons (cst .non) (aCons (b2 addP (b2 ixP (look 1) (cst (.int 0))) (cst (.int 9))) aNil))))))) (b2 modP (look 3) (cst (.int 6)))))
    (sSet 7 (cst (.int 2)))) (sIf (bB (b2 eqP (look 4) (cst (.int 3)))) (sSeq (sSet 6 (b2 ixP (eLst (aCons (eTup (aCons (cst (.int 0)) aNil)) (aCons (cst .non) (aCons (cst (.str "0")) (aCons (cst .dic) aNil))))) (b2 modP (look 3) (cst (.int 4)))))
    (sSet 7 (cst (.int 2)))) (sIf (bB (b2 eqP (look 4) (cst (.int 4)))) (sSet 7 (eC intP (aCons (b2 eqP (look 5) (cst (.int 2))) aNil))) sNil))))
theorem pick6 {a0 a1 a2 a3 a4 a5 : PV} {c : Int} : ∃ p, ixP (.lst [a0, a1, a2, a3, a4, a5]) (.int (c % 6)) = .ok p ∧ (p = a0 ∨ p = a1 ∨ p = a2 ∨ p = a3 ∨ p = a4 ∨ p = a5) := by
  rcases six (x := c % 6) (by omega) with q | q | q | q | q | q <;> rw [q]
  · exact ⟨_, rfl, .inl rfl⟩
  · exact ⟨_, rfl, .inr (.inl rfl)⟩
  · exact ⟨_, rfl, .inr (.inr (.inl rfl))⟩
  · exact ⟨_, rfl, .inr (.inr (.inr (.inl rfl)))⟩
  · exact ⟨_, rfl, .inr (.inr (.inr (.inr (.inl rfl))))⟩
  · exact ⟨_, rfl, .inr (.inr (.inr (.inr (.inr rfl))))⟩
theorem bad6 {k : Int} (hk : 0 ≤ k) {p : PV} (h : p = .int (-1) ∨ p = .int k ∨ p = .bl true ∨ p = .str "0" ∨ p = .non ∨ p = .int (k + 9)) : badN k p = true ∧ ((∃ i, p = .int i) ∨ (∃ b, p = .bl b) ∨ (∃ z, p = .str z) ∨ p = .non) := by
  rcases h with rfl | rfl | rfl | rfl | rfl | rfl
  · exact ⟨rfl, .inl ⟨_, rfl⟩⟩
  · refine ⟨?_, .inl ⟨_, rfl⟩⟩
    show (decide (k < 0) || decide (k ≤ k)) = true
    rw [decide_eq_true (Int.le_refl k), Bool.or_true]
  · exact ⟨rfl, .inr (.inl ⟨_, rfl⟩)⟩
  · exact ⟨rfl, .inr (.inr (.inl ⟨_, rfl⟩))⟩
  · exact ⟨rfl, .inr (.inr (.inr rfl))⟩
  · refine ⟨?_, .inl ⟨_, rfl⟩⟩
    show (decide (k + 9 < 0) || decide (k ≤ k + 9)) = true
    rw [decide_eq_true (show k ≤ k + 9 by omega), Bool.or_true]
theorem law_ok {ns : List Int} : M_law [scr ns] = .ok (.bl true) := by
  obtain ⟨n, ms, e1, h, hn, hm⟩ := net_ok (ns := ns) (at_ := 0) (by decide)
  have hlo := h.lo
  obtain ⟨g, e2, hg, hgr⟩ := hoard_draw (ns := ns) (n := n) (by omega)
  have m34 := mixed_ok (ns := ns) (k := 34) (many := 1000000) (by decide) (by decide)
  have c0 := mix_lo (ns := ns) (k := 34) (many := 1000000) (by decide)
  have m35 := mixed_ok (ns := ns) (k := 35) (many := 5) (by decide) (by decide)
  have k0 := mix_lo (ns := ns) (k := 35) (many := 5) (by decide)
  have k5 := mix_hi (ns := ns) (k := 35) (many := 5) (by decide)
  generalize mixV ns 34 1000000 = c at *
  generalize mixV ns 35 5 = k at *
  obtain ⟨bh, e6, hbh⟩ := bad_hoard_ok (n := n) (g := g) (c := c) hlo (by omega) hg c0
  have what : ∃ w t : Int, ixP (.lst [.int 12, .int 6, .int 7, .int 5, .int 5]) (.int k) = .ok (.int t) ∧ M_law_mixed [scr ns, .int 36, .int t] = .ok (.int w) ∧ 0 ≤ w ∧ w < t ∧ (k = 0 → t = 12) ∧ (k = 1 → t = 6) ∧ (k = 2 → t = 7) ∧ (k = 3 → t = 5) ∧ (k = 4 → t = 5) := by
    have : k = 0 ∨ k = 1 ∨ k = 2 ∨ k = 3 ∨ k = 4 := by omega
    rcases this with rfl | rfl | rfl | rfl | rfl
    · exact ⟨_, 12, rfl, mixed_ok (by decide) (by decide), mix_lo (by decide), mix_hi (by decide), by omega, by omega, by omega, by omega, by omega⟩
    · exact ⟨_, 6, rfl, mixed_ok (by decide) (by decide), mix_lo (by decide), mix_hi (by decide), by omega, by omega, by omega, by omega, by omega⟩
    · exact ⟨_, 7, rfl, mixed_ok (by decide) (by decide), mix_lo (by decide), mix_hi (by decide), by omega, by omega, by omega, by omega, by omega⟩
    · exact ⟨_, 5, rfl, mixed_ok (by decide) (by decide), mix_lo (by decide), mix_hi (by decide), by omega, by omega, by omega, by omega, by omega⟩
    · exact ⟨_, 5, rfl, mixed_ok (by decide) (by decide), mix_lo (by decide), mix_hi (by decide), by omega, by omega, by omega, by omega, by omega⟩
  obtain ⟨w, t, i5, m36, w0, wt, t0, t1, t2, t3, t4⟩ := what
  have mo6 : modP (.int c) (.int 6) = .ok (.int (c % 6)) := modP_ok (i := c) (j := 6) (by decide)
  have mo4 : modP (.int c) (.int 4) = .ok (.int (c % 4)) := modP_ok (i := c) (j := 4) (by decide)
  have m4 : ∀ a b c d : PV, mkL [a, b, c, d] = .ok (.lst [a, b, c, d]) := fun a b c d => mkL_ok (by simp)
  have m6 : ∀ a b c d e f : PV, mkL [a, b, c, d, e, f] = .ok (.lst [a, b, c, d, e, f]) := fun a b c d e f => mkL_ok (by simp)
  have main : ∃ (p : PV) (d : Int) (x : XC), ifC [.val (scr ns), .val (netPV n ms), .val (row g), .val (.int c), .val (.int k), .val (.int w), .val bh, .val (.int 0)] = .nxt [.val (scr ns), .val (netPV n ms), .val (row g), .val (.int c), .val (.int k), .val (.int w), .val p, .val (.int d)] ∧ ((k = 0 ∨ k = 4) → natRowB n p = false) ∧
      M_law_asked [.int k, netPV n ms, .int w, p, row g] = .exc x ∧ ((x = xH ∧ d = 0) ∨ (x = xM ∧ d = 1) ∨ (x = xP ∧ d = 2)) := by
    have hk : k = 0 ∨ k = 1 ∨ k = 2 ∨ k = 3 ∨ k = 4 := by omega
    rcases hk with rfl | rfl | rfl | rfl | rfl
    · refine ⟨bh, 0, xH, ?_, fun _ => hbh, asked_x (by omega) (fun _ => with_hoard_x h ⟨w0, by have := t0 rfl; omega⟩ hbh hgr) (fun z => absurd z (by decide)) (fun z => absurd z (by decide)) (fun z => absurd z (by decide)) (fun z => absurd z (by decide)), .inl ⟨rfl, rfl⟩⟩
      unfold ifC
      simp
    · obtain ⟨p, ep, hp⟩ := pick6 (a0 := .int (-1)) (a1 := .int ms.length) (a2 := .bl true) (a3 := .str "0") (a4 := .non) (a5 := .int (ms.length + 9)) (c := c)
      obtain ⟨b1, b2'⟩ := bad6 (k := ms.length) (by omega) hp
      refine ⟨p, 1, xM, ?_, fun z => absurd z (by decide), asked_x (by omega) (fun z => absurd z (by decide)) (fun _ => with_move_x h ⟨w0, by have := t1 rfl; omega⟩ b1 b2' hgr) (fun z => absurd z (by decide)) (fun z => absurd z (by decide)) (fun z => absurd z (by decide)), .inr (.inl ⟨rfl, rfl⟩)⟩
      unfold ifC netPV
      simp [m6, mo6, ep]
    · obtain ⟨p, ep, hp⟩ := pick6 (a0 := .int (-1)) (a1 := .int n) (a2 := .bl true) (a3 := .str "0") (a4 := .non) (a5 := .int (n + 9)) (c := c)
      obtain ⟨b1, b2'⟩ := bad6 (k := n) (by omega) hp
      refine ⟨p, 2, xP, ?_, fun z => absurd z (by decide), asked_x (by omega) (fun z => absurd z (by decide)) (fun z => absurd z (by decide)) (fun _ => with_place_x h ⟨w0, by have := t2 rfl; omega⟩ b1 hgr) (fun z => absurd z (by decide)) (fun z => absurd z (by decide)), .inr (.inr ⟨rfl, rfl⟩)⟩
      unfold ifC netPV
      simp [m6, mo6, ep]
    · have pk : ∃ p, ixP (.lst [.tup [.int 0], .non, .str "0", .dic]) (.int (c % 4)) = .ok p ∧ listB p = false := by
        have : c % 4 = 0 ∨ c % 4 = 1 ∨ c % 4 = 2 ∨ c % 4 = 3 := by omega
        rcases this with q | q | q | q <;> rw [q]
        · exact ⟨_, rfl, rfl⟩
        · exact ⟨_, rfl, rfl⟩
        · exact ⟨_, rfl, rfl⟩
        · exact ⟨_, rfl, rfl⟩
      obtain ⟨p, ep, hp⟩ := pk
      refine ⟨p, 2, xP, ?_, fun z => absurd z (by decide), asked_x (by omega) (fun z => absurd z (by decide)) (fun z => absurd z (by decide)) (fun z => absurd z (by decide)) (fun _ => with_places_x h ⟨w0, by have := t3 rfl; omega⟩ hp hgr) (fun z => absurd z (by decide)), .inr (.inr ⟨rfl, rfl⟩)⟩
      unfold ifC
      generalize netPV n ms = nn at *
      simp [m4, mo4, ep]
    · have ak : M_law_asked [.int 4, netPV n ms, .int w, bh, row g] = .exc (if w = 2 then xM else xH) := asked_x (by omega) (fun z => absurd z (by decide)) (fun z => absurd z (by decide)) (fun z => absurd z (by decide)) (fun z => absurd z (by decide)) (fun _ => with_two_x h ⟨w0, by have := t4 rfl; omega⟩ hbh)
      by_cases hw : w = 2
      · rw [if_pos hw] at ak
        refine ⟨bh, 1, xM, ?_, fun _ => hbh, ak, .inr (.inl ⟨rfl, rfl⟩)⟩
        have p1 : intP [.bl true] = .ok (.int 1) := rfl
        unfold ifC
        generalize netPV n ms = nn at *
        simp [hw, p1]
      · rw [if_neg hw] at ak
        refine ⟨bh, 0, xH, ?_, fun _ => hbh, ak, .inl ⟨rfl, rfl⟩⟩
        have p0 : intP [.bl false] = .ok (.int 0) := rfl
        unfold ifC
        generalize netPV n ms = nn at *
        simp [hw, p0]
  obtain ⟨p, d, x, e8, hrow, ea, hx⟩ := main
  have ek := kind_x hx ea
  have ih := is_hoard_all h p
  refine M_law_eq _ ?_
  have hgl : G_law = (sSeq (sSet 1 (eC M_law_net (aCons (look 0) (aCons (cst (.int 0)) aNil))))
    (sSeq (sSet 2 (eC M_law_hoard (aCons (look 0) (aCons (cst (.int 24)) (aCons (b2 ixP (look 1) (cst (.int 0))) (aCons (cst (.int 3)) aNil))))))
    (sSeq (sSet 3 (eC M_law_mixed (aCons (look 0) (aCons (cst (.int 34)) (aCons (b2 powP (cst (.int 10)) (cst (.int 6))) aNil)))))
    (sSeq (sSet 4 (eC M_law_mixed (aCons (look 0) (aCons (cst (.int 35)) (aCons (cst (.int 5)) aNil)))))
    (sSeq (sSet 5 (eC M_law_mixed (aCons (look 0) (aCons (cst (.int 36)) (aCons (b2 ixP (eLst (aCons (cst (.int 12)) (aCons (cst (.int 6)) (aCons (cst (.int 7)) (aCons (cst (.int 5)) (aCons (cst (.int 5)) aNil)))))) (look 4)) aNil)))))
    (sSeq (sSet 6 (eC M_law_bad_hoard (aCons (look 2) (aCons (look 3) aNil))))
    (sSeq (sSet 7 (cst (.int 0)))
    (sSeq ifC
    (sSeq (sIf (aB (bB (b2 (inP false) (look 4) (eTup (aCons (cst (.int 0)) (aCons (cst (.int 4)) aNil))))) (bB (b2 notBP (eC M_is_hoard (aCons (look 1) (aCons (look 6) aNil))) (cst (.bl false))))) (sRet (cst (.bl false))) sNil)
    (sRet (b2 eqQ (eC M_law_kind (aCons (eTup (aCons (look 4) (aCons (look 1) (aCons (look 5) (aCons (look 6) (aCons (look 2) aNil)))))) aNil)) (look 7)))))))))))) := rfl
  rw [hgl]
  clear hgl
  rw [sSeq_nxt (sSet_ok (p := netPV n ms) (by simp [e1]))]
  rw [sSeq_nxt (sSet_ok (p := row g) (by unfold netPV; simp [e2]))]
  rw [sSeq_nxt (sSet_ok (p := .int c) (by simp [pow106, m34]))]
  rw [sSeq_nxt (sSet_ok (p := .int k) (by simp [m35]))]
  rw [sSeq_nxt (sSet_ok (p := .int w) (by simp [i5, m36]))]
  rw [sSeq_nxt (sSet_ok (p := bh) (by
    generalize row g = gg at *
    simp [e6]))]
  rw [sSeq_nxt (sSet_ok (p := .int 0) (by simp))]
  refine (sSeq_nxt e8).trans ?_
  have q : eqQ (.int d) (.int d) = .ok (.bl true) := by
    show ofB (some (decide (d = d))) = _
    simp
  have hk : k = 0 ∨ k = 1 ∨ k = 2 ∨ k = 3 ∨ k = 4 := by omega
  have i0 : inP false (.int 0) (.tup [.int 0, .int 4]) = .ok (.bl true) := rfl
  have i1 : inP false (.int 1) (.tup [.int 0, .int 4]) = .ok (.bl false) := rfl
  have i2 : inP false (.int 2) (.tup [.int 0, .int 4]) = .ok (.bl false) := rfl
  have i3 : inP false (.int 3) (.tup [.int 0, .int 4]) = .ok (.bl false) := rfl
  have i4 : inP false (.int 4) (.tup [.int 0, .int 4]) = .ok (.bl true) := rfl
  have nb : notBP (.bl false) (.bl false) = .ok (.bl false) := rfl
  generalize row g = gg at *
  generalize netPV n ms = nn at *
  have mt : ∀ a b c d e : PV, mkT [a, b, c, d, e] = .ok (.tup [a, b, c, d, e]) := fun a b c d e => mkT_ok (by simp)
  rcases hk with rfl | rfl | rfl | rfl | rfl
  · rw [hrow (.inl rfl)] at ih; simp [i0, ih, nb, mt, ek, q]
  · simp [i1, mt, ek, q]
  · simp [i2, mt, ek, q]
  · simp [i3, mt, ek, q]
  · rw [hrow (.inr rfl)] at ih; simp [i4, ih, nb, mt, ek, q]
end Tw
namespace Tw
open PySem L2
theorem top_mk {K : PySem.W.Frag} {h : Heap} {mg : Str → Option Value} (X : K.In h) (G : h.Ns mainGlobals mg)
    (z_ValueError : PySem.W.nsIn K mainGlobals "ValueError" = some none)
    (z_bool : PySem.W.nsIn K mainGlobals "bool" = some none)
    (z_int : PySem.W.nsIn K mainGlobals "int" = some none)
    (z_isinstance : PySem.W.nsIn K mainGlobals "isinstance" = some none)
    (z_len : PySem.W.nsIn K mainGlobals "len" = some none)
    (z_list : PySem.W.nsIn K mainGlobals "list" = some none)
    (z_max : PySem.W.nsIn K mainGlobals "max" = some none)
    (z_range : PySem.W.nsIn K mainGlobals "range" = some none)
    (z_sum : PySem.W.nsIn K mainGlobals "sum" = some none)
    (z_tuple : PySem.W.nsIn K mainGlobals "tuple" = some none)
    (z_zip : PySem.W.nsIn K mainGlobals "zip" = some none)
    {tk_MOST_PLACES : Tok} (y_MOST_PLACES : PySem.W.nsIn K mainGlobals "MOST_PLACES" = some (some (.int 6 tk_MOST_PLACES)))
    {tk_MOST_MOVES : Tok} (y_MOST_MOVES : PySem.W.nsIn K mainGlobals "MOST_MOVES" = some (some (.int 10 tk_MOST_MOVES)))
    {tk_MOST_TOKENS : Tok} (y_MOST_TOKENS : PySem.W.nsIn K mainGlobals "MOST_TOKENS" = some (some (.int 9 tk_MOST_TOKENS)))
    {C_Endless : Addr} (q_Endless : PySem.W.nsIn K mainGlobals "Endless" = some (some (.ref C_Endless)))
    {C_NoHoard : Addr} (q_NoHoard : PySem.W.nsIn K mainGlobals "NoHoard" = some (some (.ref C_NoHoard)))
    {C_NoMove : Addr} (q_NoMove : PySem.W.nsIn K mainGlobals "NoMove" = some (some (.ref C_NoMove)))
    {C_NoNet : Addr} (q_NoNet : PySem.W.nsIn K mainGlobals "NoNet" = some (some (.ref C_NoNet)))
    {C_NoPlace : Addr} (q_NoPlace : PySem.W.nsIn K mainGlobals "NoPlace" = some (some (.ref C_NoPlace)))
    {C_NoText : Addr} (q_NoText : PySem.W.nsIn K mainGlobals "NoText" = some (some (.ref C_NoText)))
    {C_Stuck : Addr} (q_Stuck : PySem.W.nsIn K mainGlobals "Stuck" = some (some (.ref C_Stuck)))
    {C_TokenError : Addr} (q_TokenError : PySem.W.nsIn K mainGlobals "TokenError" = some (some (.ref C_TokenError)))
    {C_TooBig : Addr} (q_TooBig : PySem.W.nsIn K mainGlobals "TooBig" = some (some (.ref C_TooBig)))
    (e_NoHoard : PySem.W.excIn K C_NoHoard bmV "ValueError.__new__" = true)
    (e_NoMove : PySem.W.excIn K C_NoMove bmV "ValueError.__new__" = true)
    (e_NoNet : PySem.W.excIn K C_NoNet bmV "ValueError.__new__" = true)
    (e_NoPlace : PySem.W.excIn K C_NoPlace bmV "ValueError.__new__" = true)
    (s_TokenError_TokenError : PySem.W.exmOne K (.ref C_TokenError) (.ref C_TokenError) = some true)
    (s_NoNet_TokenError : PySem.W.exmOne K (.ref C_NoNet) (.ref C_TokenError) = some true)
    (s_NoHoard_TokenError : PySem.W.exmOne K (.ref C_NoHoard) (.ref C_TokenError) = some true)
    (s_NoMove_TokenError : PySem.W.exmOne K (.ref C_NoMove) (.ref C_TokenError) = some true)
    (s_NoPlace_TokenError : PySem.W.exmOne K (.ref C_NoPlace) (.ref C_TokenError) = some true)
    (s_Endless_TokenError : PySem.W.exmOne K (.ref C_Endless) (.ref C_TokenError) = some true)
    (s_TooBig_TokenError : PySem.W.exmOne K (.ref C_TooBig) (.ref C_TokenError) = some true)
    (s_NoText_TokenError : PySem.W.exmOne K (.ref C_NoText) (.ref C_TokenError) = some true)
    (s_Stuck_TokenError : PySem.W.exmOne K (.ref C_Stuck) (.ref C_TokenError) = some true)
    (cg : PySem.W.specialIn K (.builtin "object.__class__") "__get__" = some (some (.builtin "getset_descriptor.__get__")))
    (ct : PySem.W.takesIn K (.builtin "object.__class__") = some true)
    (u1_NoHoard : PySem.W.isClsIn K C_NoHoard = true)
    (u2_NoHoard : PySem.W.findIn K (.ref C_NoHoard) "__getattribute__" = some (some (.builtin "BaseException.__getattribute__")))
    (u3_NoHoard : PySem.W.findIn K (.ref C_NoHoard) "__getattr__" = some none)
    (u4_NoHoard : PySem.W.mroIn K C_NoHoard (.type "BaseException") = some true)
    (u5_NoHoard : PySem.W.findIn K (.ref C_NoHoard) "__class__" = some (some (.builtin "object.__class__")))
    (u6_NoHoard : PySem.W.mroIn K C_NoHoard (.type "object") = some true)
    (u1_NoMove : PySem.W.isClsIn K C_NoMove = true)
    (u2_NoMove : PySem.W.findIn K (.ref C_NoMove) "__getattribute__" = some (some (.builtin "BaseException.__getattribute__")))
    (u3_NoMove : PySem.W.findIn K (.ref C_NoMove) "__getattr__" = some none)
    (u4_NoMove : PySem.W.mroIn K C_NoMove (.type "BaseException") = some true)
    (u5_NoMove : PySem.W.findIn K (.ref C_NoMove) "__class__" = some (some (.builtin "object.__class__")))
    (u6_NoMove : PySem.W.mroIn K C_NoMove (.type "object") = some true)
    (u1_NoNet : PySem.W.isClsIn K C_NoNet = true)
    (u2_NoNet : PySem.W.findIn K (.ref C_NoNet) "__getattribute__" = some (some (.builtin "BaseException.__getattribute__")))
    (u3_NoNet : PySem.W.findIn K (.ref C_NoNet) "__getattr__" = some none)
    (u4_NoNet : PySem.W.mroIn K C_NoNet (.type "BaseException") = some true)
    (u5_NoNet : PySem.W.findIn K (.ref C_NoNet) "__class__" = some (some (.builtin "object.__class__")))
    (u6_NoNet : PySem.W.mroIn K C_NoNet (.type "object") = some true)
    (u1_NoPlace : PySem.W.isClsIn K C_NoPlace = true)
    (u2_NoPlace : PySem.W.findIn K (.ref C_NoPlace) "__getattribute__" = some (some (.builtin "BaseException.__getattribute__")))
    (u3_NoPlace : PySem.W.findIn K (.ref C_NoPlace) "__getattr__" = some none)
    (u4_NoPlace : PySem.W.mroIn K C_NoPlace (.type "BaseException") = some true)
    (u5_NoPlace : PySem.W.findIn K (.ref C_NoPlace) "__class__" = some (some (.builtin "object.__class__")))
    (u6_NoPlace : PySem.W.mroIn K C_NoPlace (.type "object") = some true)
    (jy_NoHoard_Endless : PySem.W.kitOne K (.ref C_NoHoard) (.ref C_Endless) = some false)
    (jy_NoMove_Endless : PySem.W.kitOne K (.ref C_NoMove) (.ref C_Endless) = some false)
    (jy_NoNet_Endless : PySem.W.kitOne K (.ref C_NoNet) (.ref C_Endless) = some false)
    (jy_NoPlace_Endless : PySem.W.kitOne K (.ref C_NoPlace) (.ref C_Endless) = some false)
    (jy_NoHoard_NoHoard : PySem.W.kitOne K (.ref C_NoHoard) (.ref C_NoHoard) = some true)
    (jy_NoMove_NoHoard : PySem.W.kitOne K (.ref C_NoMove) (.ref C_NoHoard) = some false)
    (jy_NoNet_NoHoard : PySem.W.kitOne K (.ref C_NoNet) (.ref C_NoHoard) = some false)
    (jy_NoPlace_NoHoard : PySem.W.kitOne K (.ref C_NoPlace) (.ref C_NoHoard) = some false)
    (jy_NoHoard_NoMove : PySem.W.kitOne K (.ref C_NoHoard) (.ref C_NoMove) = some false)
    (jy_NoMove_NoMove : PySem.W.kitOne K (.ref C_NoMove) (.ref C_NoMove) = some true)
    (jy_NoNet_NoMove : PySem.W.kitOne K (.ref C_NoNet) (.ref C_NoMove) = some false)
    (jy_NoPlace_NoMove : PySem.W.kitOne K (.ref C_NoPlace) (.ref C_NoMove) = some false)
    (jy_NoHoard_NoNet : PySem.W.kitOne K (.ref C_NoHoard) (.ref C_NoNet) = some false)
    (jy_NoMove_NoNet : PySem.W.kitOne K (.ref C_NoMove) (.ref C_NoNet) = some false)
    (jy_NoNet_NoNet : PySem.W.kitOne K (.ref C_NoNet) (.ref C_NoNet) = some true)
    (jy_NoPlace_NoNet : PySem.W.kitOne K (.ref C_NoPlace) (.ref C_NoNet) = some false)
    (jy_NoHoard_NoPlace : PySem.W.kitOne K (.ref C_NoHoard) (.ref C_NoPlace) = some false)
    (jy_NoMove_NoPlace : PySem.W.kitOne K (.ref C_NoMove) (.ref C_NoPlace) = some false)
    (jy_NoNet_NoPlace : PySem.W.kitOne K (.ref C_NoNet) (.ref C_NoPlace) = some false)
    (jy_NoPlace_NoPlace : PySem.W.kitOne K (.ref C_NoPlace) (.ref C_NoPlace) = some true)
    (jy_NoHoard_NoText : PySem.W.kitOne K (.ref C_NoHoard) (.ref C_NoText) = some false)
    (jy_NoMove_NoText : PySem.W.kitOne K (.ref C_NoMove) (.ref C_NoText) = some false)
    (jy_NoNet_NoText : PySem.W.kitOne K (.ref C_NoNet) (.ref C_NoText) = some false)
    (jy_NoPlace_NoText : PySem.W.kitOne K (.ref C_NoPlace) (.ref C_NoText) = some false)
    (jy_NoHoard_Stuck : PySem.W.kitOne K (.ref C_NoHoard) (.ref C_Stuck) = some false)
    (jy_NoMove_Stuck : PySem.W.kitOne K (.ref C_NoMove) (.ref C_Stuck) = some false)
    (jy_NoNet_Stuck : PySem.W.kitOne K (.ref C_NoNet) (.ref C_Stuck) = some false)
    (jy_NoPlace_Stuck : PySem.W.kitOne K (.ref C_NoPlace) (.ref C_Stuck) = some false)
    (jy_NoHoard_TooBig : PySem.W.kitOne K (.ref C_NoHoard) (.ref C_TooBig) = some false)
    (jy_NoMove_TooBig : PySem.W.kitOne K (.ref C_NoMove) (.ref C_TooBig) = some false)
    (jy_NoNet_TooBig : PySem.W.kitOne K (.ref C_NoNet) (.ref C_TooBig) = some false)
    (jy_NoPlace_TooBig : PySem.W.kitOne K (.ref C_NoPlace) (.ref C_TooBig) = some false)
    (j_TokenError_ValueError : PySem.W.kitOne K (.ref C_TokenError) (.type "ValueError") = some true)
    (j_NoNet_ValueError : PySem.W.kitOne K (.ref C_NoNet) (.type "ValueError") = some true)
    (j_NoHoard_ValueError : PySem.W.kitOne K (.ref C_NoHoard) (.type "ValueError") = some true)
    (j_NoMove_ValueError : PySem.W.kitOne K (.ref C_NoMove) (.type "ValueError") = some true)
    (j_NoPlace_ValueError : PySem.W.kitOne K (.ref C_NoPlace) (.type "ValueError") = some true)
    (j_Endless_ValueError : PySem.W.kitOne K (.ref C_Endless) (.type "ValueError") = some true)
    (j_TooBig_ValueError : PySem.W.kitOne K (.ref C_TooBig) (.type "ValueError") = some true)
    (j_NoText_ValueError : PySem.W.kitOne K (.ref C_NoText) (.type "ValueError") = some true)
    (j_Stuck_ValueError : PySem.W.kitOne K (.ref C_Stuck) (.type "ValueError") = some true)
    {f_is_whole : Addr} {od_is_whole an_is_whole : Option Addr} {sl_is_whole : Array (Option Value)} {oc_is_whole kV_is_whole dc_is_whole pm_is_whole cd_is_whole ct_is_whole : Value} (a_is_whole : PySem.W.nsIn K mainGlobals "is_whole" = some (some (.ref f_is_whole))) (l_is_whole : K.lookup f_is_whole = some ⟨oc_is_whole, od_is_whole, .func (PySem.W.fnOf "is_whole" "is_whole" (defArgs S_is_whole) (defBody S_is_whole) (defScope S_is_whole) .none kV_is_whole dc_is_whole pm_is_whole an_is_whole cd_is_whole ct_is_whole), sl_is_whole⟩) (c_is_whole : PySem.W.codeIn K cd_is_whole "is_whole" = true) (k_is_whole : PySem.W.keepIn K (.ref f_is_whole) = true)
    {f_is_row : Addr} {od_is_row an_is_row : Option Addr} {sl_is_row : Array (Option Value)} {oc_is_row kV_is_row dc_is_row pm_is_row cd_is_row ct_is_row : Value} (a_is_row : PySem.W.nsIn K mainGlobals "is_row" = some (some (.ref f_is_row))) (l_is_row : K.lookup f_is_row = some ⟨oc_is_row, od_is_row, .func (PySem.W.fnOf "is_row" "is_row" (defArgs S_is_row) (defBody S_is_row) (defScope S_is_row) .none kV_is_row dc_is_row pm_is_row an_is_row cd_is_row ct_is_row), sl_is_row⟩) (c_is_row : PySem.W.codeIn K cd_is_row "is_row" = true) (k_is_row : PySem.W.keepIn K (.ref f_is_row) = true)
    {f_is_move : Addr} {od_is_move an_is_move : Option Addr} {sl_is_move : Array (Option Value)} {oc_is_move kV_is_move dc_is_move pm_is_move cd_is_move ct_is_move : Value} (a_is_move : PySem.W.nsIn K mainGlobals "is_move" = some (some (.ref f_is_move))) (l_is_move : K.lookup f_is_move = some ⟨oc_is_move, od_is_move, .func (PySem.W.fnOf "is_move" "is_move" (defArgs S_is_move) (defBody S_is_move) (defScope S_is_move) .none kV_is_move dc_is_move pm_is_move an_is_move cd_is_move ct_is_move), sl_is_move⟩) (c_is_move : PySem.W.codeIn K cd_is_move "is_move" = true) (k_is_move : PySem.W.keepIn K (.ref f_is_move) = true)
    {f_is_net : Addr} {od_is_net an_is_net : Option Addr} {sl_is_net : Array (Option Value)} {oc_is_net kV_is_net dc_is_net pm_is_net cd_is_net ct_is_net : Value} (a_is_net : PySem.W.nsIn K mainGlobals "is_net" = some (some (.ref f_is_net))) (l_is_net : K.lookup f_is_net = some ⟨oc_is_net, od_is_net, .func (PySem.W.fnOf "is_net" "is_net" (defArgs S_is_net) (defBody S_is_net) (defScope S_is_net) .none kV_is_net dc_is_net pm_is_net an_is_net cd_is_net ct_is_net), sl_is_net⟩) (c_is_net : PySem.W.codeIn K cd_is_net "is_net" = true) (k_is_net : PySem.W.keepIn K (.ref f_is_net) = true)
    {f_checked : Addr} {od_checked an_checked : Option Addr} {sl_checked : Array (Option Value)} {oc_checked kV_checked dc_checked pm_checked cd_checked ct_checked : Value} (a_checked : PySem.W.nsIn K mainGlobals "checked" = some (some (.ref f_checked))) (l_checked : K.lookup f_checked = some ⟨oc_checked, od_checked, .func (PySem.W.fnOf "checked" "checked" (defArgs S_checked) (defBody S_checked) (defScope S_checked) .none kV_checked dc_checked pm_checked an_checked cd_checked ct_checked), sl_checked⟩) (c_checked : PySem.W.codeIn K cd_checked "checked" = true) (k_checked : PySem.W.keepIn K (.ref f_checked) = true)
    {f_is_hoard : Addr} {od_is_hoard an_is_hoard : Option Addr} {sl_is_hoard : Array (Option Value)} {oc_is_hoard kV_is_hoard dc_is_hoard pm_is_hoard cd_is_hoard ct_is_hoard : Value} (a_is_hoard : PySem.W.nsIn K mainGlobals "is_hoard" = some (some (.ref f_is_hoard))) (l_is_hoard : K.lookup f_is_hoard = some ⟨oc_is_hoard, od_is_hoard, .func (PySem.W.fnOf "is_hoard" "is_hoard" (defArgs S_is_hoard) (defBody S_is_hoard) (defScope S_is_hoard) .none kV_is_hoard dc_is_hoard pm_is_hoard an_is_hoard cd_is_hoard ct_is_hoard), sl_is_hoard⟩) (c_is_hoard : PySem.W.codeIn K cd_is_hoard "is_hoard" = true) (k_is_hoard : PySem.W.keepIn K (.ref f_is_hoard) = true)
    {f_law_cell_at : Addr} {od_law_cell_at an_law_cell_at : Option Addr} {sl_law_cell_at : Array (Option Value)} {oc_law_cell_at kV_law_cell_at dc_law_cell_at pm_law_cell_at cd_law_cell_at ct_law_cell_at : Value} (a_law_cell_at : PySem.W.nsIn K mainGlobals "_law_cell_at" = some (some (.ref f_law_cell_at))) (l_law_cell_at : K.lookup f_law_cell_at = some ⟨oc_law_cell_at, od_law_cell_at, .func (PySem.W.fnOf "_law_cell_at" "_law_cell_at" (defArgs S_law_cell_at) (defBody S_law_cell_at) (defScope S_law_cell_at) .none kV_law_cell_at dc_law_cell_at pm_law_cell_at an_law_cell_at cd_law_cell_at ct_law_cell_at), sl_law_cell_at⟩) (c_law_cell_at : PySem.W.codeIn K cd_law_cell_at "_law_cell_at" = true) (k_law_cell_at : PySem.W.keepIn K (.ref f_law_cell_at) = true)
    {f_law_mixed : Addr} {od_law_mixed an_law_mixed : Option Addr} {sl_law_mixed : Array (Option Value)} {oc_law_mixed kV_law_mixed dc_law_mixed pm_law_mixed cd_law_mixed ct_law_mixed : Value} (a_law_mixed : PySem.W.nsIn K mainGlobals "_law_mixed" = some (some (.ref f_law_mixed))) (l_law_mixed : K.lookup f_law_mixed = some ⟨oc_law_mixed, od_law_mixed, .func (PySem.W.fnOf "_law_mixed" "_law_mixed" (defArgs S_law_mixed) (defBody S_law_mixed) (defScope S_law_mixed) .none kV_law_mixed dc_law_mixed pm_law_mixed an_law_mixed cd_law_mixed ct_law_mixed), sl_law_mixed⟩) (c_law_mixed : PySem.W.codeIn K cd_law_mixed "_law_mixed" = true) (k_law_mixed : PySem.W.keepIn K (.ref f_law_mixed) = true)
    {f_law_move : Addr} {od_law_move an_law_move : Option Addr} {sl_law_move : Array (Option Value)} {oc_law_move kV_law_move dc_law_move pm_law_move cd_law_move ct_law_move : Value} (a_law_move : PySem.W.nsIn K mainGlobals "_law_move" = some (some (.ref f_law_move))) (l_law_move : K.lookup f_law_move = some ⟨oc_law_move, od_law_move, .func (PySem.W.fnOf "_law_move" "_law_move" (defArgs S_law_move) (defBody S_law_move) (defScope S_law_move) .none kV_law_move dc_law_move pm_law_move an_law_move cd_law_move ct_law_move), sl_law_move⟩) (c_law_move : PySem.W.codeIn K cd_law_move "_law_move" = true) (k_law_move : PySem.W.keepIn K (.ref f_law_move) = true)
    {f_law_net : Addr} {od_law_net an_law_net : Option Addr} {sl_law_net : Array (Option Value)} {oc_law_net kV_law_net dc_law_net pm_law_net cd_law_net ct_law_net : Value} (a_law_net : PySem.W.nsIn K mainGlobals "_law_net" = some (some (.ref f_law_net))) (l_law_net : K.lookup f_law_net = some ⟨oc_law_net, od_law_net, .func (PySem.W.fnOf "_law_net" "_law_net" (defArgs S_law_net) (defBody S_law_net) (defScope S_law_net) .none kV_law_net dc_law_net pm_law_net an_law_net cd_law_net ct_law_net), sl_law_net⟩) (c_law_net : PySem.W.codeIn K cd_law_net "_law_net" = true) (k_law_net : PySem.W.keepIn K (.ref f_law_net) = true)
    {f_law_hoard : Addr} {od_law_hoard an_law_hoard : Option Addr} {sl_law_hoard : Array (Option Value)} {oc_law_hoard kV_law_hoard dc_law_hoard pm_law_hoard cd_law_hoard ct_law_hoard : Value} (a_law_hoard : PySem.W.nsIn K mainGlobals "_law_hoard" = some (some (.ref f_law_hoard))) (l_law_hoard : K.lookup f_law_hoard = some ⟨oc_law_hoard, od_law_hoard, .func (PySem.W.fnOf "_law_hoard" "_law_hoard" (defArgs S_law_hoard) (defBody S_law_hoard) (defScope S_law_hoard) .none kV_law_hoard dc_law_hoard pm_law_hoard an_law_hoard cd_law_hoard ct_law_hoard), sl_law_hoard⟩) (c_law_hoard : PySem.W.codeIn K cd_law_hoard "_law_hoard" = true) (k_law_hoard : PySem.W.keepIn K (.ref f_law_hoard) = true)
    {f_need_hoard : Addr} {od_need_hoard an_need_hoard : Option Addr} {sl_need_hoard : Array (Option Value)} {oc_need_hoard kV_need_hoard dc_need_hoard pm_need_hoard cd_need_hoard ct_need_hoard : Value} (a_need_hoard : PySem.W.nsIn K mainGlobals "need_hoard" = some (some (.ref f_need_hoard))) (l_need_hoard : K.lookup f_need_hoard = some ⟨oc_need_hoard, od_need_hoard, .func (PySem.W.fnOf "need_hoard" "need_hoard" (defArgs S_need_hoard) (defBody S_need_hoard) (defScope S_need_hoard) .none kV_need_hoard dc_need_hoard pm_need_hoard an_need_hoard cd_need_hoard ct_need_hoard), sl_need_hoard⟩) (c_need_hoard : PySem.W.codeIn K cd_need_hoard "need_hoard" = true) (k_need_hoard : PySem.W.keepIn K (.ref f_need_hoard) = true)
    {f_need_move : Addr} {od_need_move an_need_move : Option Addr} {sl_need_move : Array (Option Value)} {oc_need_move kV_need_move dc_need_move pm_need_move cd_need_move ct_need_move : Value} (a_need_move : PySem.W.nsIn K mainGlobals "need_move" = some (some (.ref f_need_move))) (l_need_move : K.lookup f_need_move = some ⟨oc_need_move, od_need_move, .func (PySem.W.fnOf "need_move" "need_move" (defArgs S_need_move) (defBody S_need_move) (defScope S_need_move) .none kV_need_move dc_need_move pm_need_move an_need_move cd_need_move ct_need_move), sl_need_move⟩) (c_need_move : PySem.W.codeIn K cd_need_move "need_move" = true) (k_need_move : PySem.W.keepIn K (.ref f_need_move) = true)
    {f_over : Addr} {od_over an_over : Option Addr} {sl_over : Array (Option Value)} {oc_over kV_over dc_over pm_over cd_over ct_over : Value} (a_over : PySem.W.nsIn K mainGlobals "over" = some (some (.ref f_over))) (l_over : K.lookup f_over = some ⟨oc_over, od_over, .func (PySem.W.fnOf "over" "over" (defArgs S_over) (defBody S_over) (defScope S_over) .none kV_over dc_over pm_over an_over cd_over ct_over), sl_over⟩) (c_over : PySem.W.codeIn K cd_over "over" = true) (k_over : PySem.W.keepIn K (.ref f_over) = true)
    {f_can : Addr} {od_can an_can : Option Addr} {sl_can : Array (Option Value)} {oc_can kV_can dc_can pm_can cd_can ct_can : Value} (a_can : PySem.W.nsIn K mainGlobals "can" = some (some (.ref f_can))) (l_can : K.lookup f_can = some ⟨oc_can, od_can, .func (PySem.W.fnOf "can" "can" (defArgs S_can) (defBody S_can) (defScope S_can) .none kV_can dc_can pm_can an_can cd_can ct_can), sl_can⟩) (c_can : PySem.W.codeIn K cd_can "can" = true) (k_can : PySem.W.keepIn K (.ref f_can) = true)
    {f_need_run : Addr} {od_need_run an_need_run : Option Addr} {sl_need_run : Array (Option Value)} {oc_need_run kV_need_run dc_need_run pm_need_run cd_need_run ct_need_run : Value} (a_need_run : PySem.W.nsIn K mainGlobals "need_run" = some (some (.ref f_need_run))) (l_need_run : K.lookup f_need_run = some ⟨oc_need_run, od_need_run, .func (PySem.W.fnOf "need_run" "need_run" (defArgs S_need_run) (defBody S_need_run) (defScope S_need_run) .none kV_need_run dc_need_run pm_need_run an_need_run cd_need_run ct_need_run), sl_need_run⟩) (c_need_run : PySem.W.codeIn K cd_need_run "need_run" = true) (k_need_run : PySem.W.keepIn K (.ref f_need_run) = true)
    {f_behind : Addr} {od_behind an_behind : Option Addr} {sl_behind : Array (Option Value)} {oc_behind kV_behind dc_behind pm_behind cd_behind ct_behind : Value} (a_behind : PySem.W.nsIn K mainGlobals "behind" = some (some (.ref f_behind))) (l_behind : K.lookup f_behind = some ⟨oc_behind, od_behind, .func (PySem.W.fnOf "behind" "behind" (defArgs S_behind) (defBody S_behind) (defScope S_behind) .none kV_behind dc_behind pm_behind an_behind cd_behind ct_behind), sl_behind⟩) (c_behind : PySem.W.codeIn K cd_behind "behind" = true) (k_behind : PySem.W.keepIn K (.ref f_behind) = true)
    {f_least_before : Addr} {od_least_before an_least_before : Option Addr} {sl_least_before : Array (Option Value)} {oc_least_before kV_least_before dc_least_before pm_least_before cd_least_before ct_least_before : Value} (a_least_before : PySem.W.nsIn K mainGlobals "least_before" = some (some (.ref f_least_before))) (l_least_before : K.lookup f_least_before = some ⟨oc_least_before, od_least_before, .func (PySem.W.fnOf "least_before" "least_before" (defArgs S_least_before) (defBody S_least_before) (defScope S_least_before) .none kV_least_before dc_least_before pm_least_before an_least_before cd_least_before ct_least_before), sl_least_before⟩) (c_least_before : PySem.W.codeIn K cd_least_before "least_before" = true) (k_least_before : PySem.W.keepIn K (.ref f_least_before) = true)
    {f_sill : Addr} {od_sill an_sill : Option Addr} {sl_sill : Array (Option Value)} {oc_sill kV_sill dc_sill pm_sill cd_sill ct_sill : Value} (a_sill : PySem.W.nsIn K mainGlobals "sill" = some (some (.ref f_sill))) (l_sill : K.lookup f_sill = some ⟨oc_sill, od_sill, .func (PySem.W.fnOf "sill" "sill" (defArgs S_sill) (defBody S_sill) (defScope S_sill) .none kV_sill dc_sill pm_sill an_sill cd_sill ct_sill), sl_sill⟩) (c_sill : PySem.W.codeIn K cd_sill "sill" = true) (k_sill : PySem.W.keepIn K (.ref f_sill) = true)
    {f_cover : Addr} {od_cover an_cover : Option Addr} {sl_cover : Array (Option Value)} {oc_cover kV_cover dc_cover pm_cover cd_cover ct_cover : Value} (a_cover : PySem.W.nsIn K mainGlobals "cover" = some (some (.ref f_cover))) (l_cover : K.lookup f_cover = some ⟨oc_cover, od_cover, .func (PySem.W.fnOf "cover" "cover" (defArgs S_cover) (defBody S_cover) (defScope S_cover) .none kV_cover dc_cover pm_cover an_cover cd_cover ct_cover), sl_cover⟩) (c_cover : PySem.W.codeIn K cd_cover "cover" = true) (k_cover : PySem.W.keepIn K (.ref f_cover) = true)
    {f_need_place : Addr} {od_need_place an_need_place : Option Addr} {sl_need_place : Array (Option Value)} {oc_need_place kV_need_place dc_need_place pm_need_place cd_need_place ct_need_place : Value} (a_need_place : PySem.W.nsIn K mainGlobals "need_place" = some (some (.ref f_need_place))) (l_need_place : K.lookup f_need_place = some ⟨oc_need_place, od_need_place, .func (PySem.W.fnOf "need_place" "need_place" (defArgs S_need_place) (defBody S_need_place) (defScope S_need_place) .none kV_need_place dc_need_place pm_need_place an_need_place cd_need_place ct_need_place), sl_need_place⟩) (c_need_place : PySem.W.codeIn K cd_need_place "need_place" = true) (k_need_place : PySem.W.keepIn K (.ref f_need_place) = true)
    {f_need_places : Addr} {od_need_places an_need_places : Option Addr} {sl_need_places : Array (Option Value)} {oc_need_places kV_need_places dc_need_places pm_need_places cd_need_places ct_need_places : Value} (a_need_places : PySem.W.nsIn K mainGlobals "need_places" = some (some (.ref f_need_places))) (l_need_places : K.lookup f_need_places = some ⟨oc_need_places, od_need_places, .func (PySem.W.fnOf "need_places" "need_places" (defArgs S_need_places) (defBody S_need_places) (defScope S_need_places) .none kV_need_places dc_need_places pm_need_places an_need_places cd_need_places ct_need_places), sl_need_places⟩) (c_need_places : PySem.W.codeIn K cd_need_places "need_places" = true) (k_need_places : PySem.W.keepIn K (.ref f_need_places) = true)
    {f_together : Addr} {od_together an_together : Option Addr} {sl_together : Array (Option Value)} {oc_together kV_together dc_together pm_together cd_together ct_together : Value} (a_together : PySem.W.nsIn K mainGlobals "together" = some (some (.ref f_together))) (l_together : K.lookup f_together = some ⟨oc_together, od_together, .func (PySem.W.fnOf "together" "together" (defArgs S_together) (defBody S_together) (defScope S_together) .none kV_together dc_together pm_together an_together cd_together ct_together), sl_together⟩) (c_together : PySem.W.codeIn K cd_together "together" = true) (k_together : PySem.W.keepIn K (.ref f_together) = true)
    {f_all_of : Addr} {od_all_of an_all_of : Option Addr} {sl_all_of : Array (Option Value)} {oc_all_of kV_all_of dc_all_of pm_all_of cd_all_of ct_all_of : Value} (a_all_of : PySem.W.nsIn K mainGlobals "all_of" = some (some (.ref f_all_of))) (l_all_of : K.lookup f_all_of = some ⟨oc_all_of, od_all_of, .func (PySem.W.fnOf "all_of" "all_of" (defArgs S_all_of) (defBody S_all_of) (defScope S_all_of) .none kV_all_of dc_all_of pm_all_of an_all_of cd_all_of ct_all_of), sl_all_of⟩) (c_all_of : PySem.W.codeIn K cd_all_of "all_of" = true) (k_all_of : PySem.W.keepIn K (.ref f_all_of) = true)
    {f_how_far : Addr} {od_how_far an_how_far : Option Addr} {sl_how_far : Array (Option Value)} {oc_how_far kV_how_far dc_how_far pm_how_far cd_how_far ct_how_far : Value} (a_how_far : PySem.W.nsIn K mainGlobals "how_far" = some (some (.ref f_how_far))) (l_how_far : K.lookup f_how_far = some ⟨oc_how_far, od_how_far, .func (PySem.W.fnOf "how_far" "how_far" (defArgs S_how_far) (defBody S_how_far) (defScope S_how_far) .none kV_how_far dc_how_far pm_how_far an_how_far cd_how_far ct_how_far), sl_how_far⟩) (c_how_far : PySem.W.codeIn K cd_how_far "how_far" = true) (k_how_far : PySem.W.keepIn K (.ref f_how_far) = true)
    {f_run_to : Addr} {od_run_to an_run_to : Option Addr} {sl_run_to : Array (Option Value)} {oc_run_to kV_run_to dc_run_to pm_run_to cd_run_to ct_run_to : Value} (a_run_to : PySem.W.nsIn K mainGlobals "run_to" = some (some (.ref f_run_to))) (l_run_to : K.lookup f_run_to = some ⟨oc_run_to, od_run_to, .func (PySem.W.fnOf "run_to" "run_to" (defArgs S_run_to) (defBody S_run_to) (defScope S_run_to) .none kV_run_to dc_run_to pm_run_to an_run_to cd_run_to ct_run_to), sl_run_to⟩) (c_run_to : PySem.W.codeIn K cd_run_to "run_to" = true) (k_run_to : PySem.W.keepIn K (.ref f_run_to) = true)
    {f_stuck_hoards : Addr} {od_stuck_hoards an_stuck_hoards : Option Addr} {sl_stuck_hoards : Array (Option Value)} {oc_stuck_hoards kV_stuck_hoards dc_stuck_hoards pm_stuck_hoards cd_stuck_hoards ct_stuck_hoards : Value} (a_stuck_hoards : PySem.W.nsIn K mainGlobals "stuck_hoards" = some (some (.ref f_stuck_hoards))) (l_stuck_hoards : K.lookup f_stuck_hoards = some ⟨oc_stuck_hoards, od_stuck_hoards, .func (PySem.W.fnOf "stuck_hoards" "stuck_hoards" (defArgs S_stuck_hoards) (defBody S_stuck_hoards) (defScope S_stuck_hoards) .none kV_stuck_hoards dc_stuck_hoards pm_stuck_hoards an_stuck_hoards cd_stuck_hoards ct_stuck_hoards), sl_stuck_hoards⟩) (c_stuck_hoards : PySem.W.codeIn K cd_stuck_hoards "stuck_hoards" = true) (k_stuck_hoards : PySem.W.keepIn K (.ref f_stuck_hoards) = true)
    {f_law_with_hoard : Addr} {od_law_with_hoard an_law_with_hoard : Option Addr} {sl_law_with_hoard : Array (Option Value)} {oc_law_with_hoard kV_law_with_hoard dc_law_with_hoard pm_law_with_hoard cd_law_with_hoard ct_law_with_hoard : Value} (a_law_with_hoard : PySem.W.nsIn K mainGlobals "_law_with_hoard" = some (some (.ref f_law_with_hoard))) (l_law_with_hoard : K.lookup f_law_with_hoard = some ⟨oc_law_with_hoard, od_law_with_hoard, .func (PySem.W.fnOf "_law_with_hoard" "_law_with_hoard" (defArgs S_law_with_hoard) (defBody S_law_with_hoard) (defScope S_law_with_hoard) .none kV_law_with_hoard dc_law_with_hoard pm_law_with_hoard an_law_with_hoard cd_law_with_hoard ct_law_with_hoard), sl_law_with_hoard⟩) (c_law_with_hoard : PySem.W.codeIn K cd_law_with_hoard "_law_with_hoard" = true) (k_law_with_hoard : PySem.W.keepIn K (.ref f_law_with_hoard) = true)
    {f_law_with_move : Addr} {od_law_with_move an_law_with_move : Option Addr} {sl_law_with_move : Array (Option Value)} {oc_law_with_move kV_law_with_move dc_law_with_move pm_law_with_move cd_law_with_move ct_law_with_move : Value} (a_law_with_move : PySem.W.nsIn K mainGlobals "_law_with_move" = some (some (.ref f_law_with_move))) (l_law_with_move : K.lookup f_law_with_move = some ⟨oc_law_with_move, od_law_with_move, .func (PySem.W.fnOf "_law_with_move" "_law_with_move" (defArgs S_law_with_move) (defBody S_law_with_move) (defScope S_law_with_move) .none kV_law_with_move dc_law_with_move pm_law_with_move an_law_with_move cd_law_with_move ct_law_with_move), sl_law_with_move⟩) (c_law_with_move : PySem.W.codeIn K cd_law_with_move "_law_with_move" = true) (k_law_with_move : PySem.W.keepIn K (.ref f_law_with_move) = true)
    {f_without_place : Addr} {od_without_place an_without_place : Option Addr} {sl_without_place : Array (Option Value)} {oc_without_place kV_without_place dc_without_place pm_without_place cd_without_place ct_without_place : Value} (a_without_place : PySem.W.nsIn K mainGlobals "without_place" = some (some (.ref f_without_place))) (l_without_place : K.lookup f_without_place = some ⟨oc_without_place, od_without_place, .func (PySem.W.fnOf "without_place" "without_place" (defArgs S_without_place) (defBody S_without_place) (defScope S_without_place) .none kV_without_place dc_without_place pm_without_place an_without_place cd_without_place ct_without_place), sl_without_place⟩) (c_without_place : PySem.W.codeIn K cd_without_place "without_place" = true) (k_without_place : PySem.W.keepIn K (.ref f_without_place) = true)
    {f_told_places : Addr} {od_told_places an_told_places : Option Addr} {sl_told_places : Array (Option Value)} {oc_told_places kV_told_places dc_told_places pm_told_places cd_told_places ct_told_places : Value} (a_told_places : PySem.W.nsIn K mainGlobals "told_places" = some (some (.ref f_told_places))) (l_told_places : K.lookup f_told_places = some ⟨oc_told_places, od_told_places, .func (PySem.W.fnOf "told_places" "told_places" (defArgs S_told_places) (defBody S_told_places) (defScope S_told_places) .none kV_told_places dc_told_places pm_told_places an_told_places cd_told_places ct_told_places), sl_told_places⟩) (c_told_places : PySem.W.codeIn K cd_told_places "told_places" = true) (k_told_places : PySem.W.keepIn K (.ref f_told_places) = true)
    {f_greatest_sink : Addr} {od_greatest_sink an_greatest_sink : Option Addr} {sl_greatest_sink : Array (Option Value)} {oc_greatest_sink kV_greatest_sink dc_greatest_sink pm_greatest_sink cd_greatest_sink ct_greatest_sink : Value} (a_greatest_sink : PySem.W.nsIn K mainGlobals "greatest_sink" = some (some (.ref f_greatest_sink))) (l_greatest_sink : K.lookup f_greatest_sink = some ⟨oc_greatest_sink, od_greatest_sink, .func (PySem.W.fnOf "greatest_sink" "greatest_sink" (defArgs S_greatest_sink) (defBody S_greatest_sink) (defScope S_greatest_sink) .none kV_greatest_sink dc_greatest_sink pm_greatest_sink an_greatest_sink cd_greatest_sink ct_greatest_sink), sl_greatest_sink⟩) (c_greatest_sink : PySem.W.codeIn K cd_greatest_sink "greatest_sink" = true) (k_greatest_sink : PySem.W.keepIn K (.ref f_greatest_sink) = true)
    {f_is_sink : Addr} {od_is_sink an_is_sink : Option Addr} {sl_is_sink : Array (Option Value)} {oc_is_sink kV_is_sink dc_is_sink pm_is_sink cd_is_sink ct_is_sink : Value} (a_is_sink : PySem.W.nsIn K mainGlobals "is_sink" = some (some (.ref f_is_sink))) (l_is_sink : K.lookup f_is_sink = some ⟨oc_is_sink, od_is_sink, .func (PySem.W.fnOf "is_sink" "is_sink" (defArgs S_is_sink) (defBody S_is_sink) (defScope S_is_sink) .none kV_is_sink dc_is_sink pm_is_sink an_is_sink cd_is_sink ct_is_sink), sl_is_sink⟩) (c_is_sink : PySem.W.codeIn K cd_is_sink "is_sink" = true) (k_is_sink : PySem.W.keepIn K (.ref f_is_sink) = true)
    {f_turned : Addr} {od_turned an_turned : Option Addr} {sl_turned : Array (Option Value)} {oc_turned kV_turned dc_turned pm_turned cd_turned ct_turned : Value} (a_turned : PySem.W.nsIn K mainGlobals "turned" = some (some (.ref f_turned))) (l_turned : K.lookup f_turned = some ⟨oc_turned, od_turned, .func (PySem.W.fnOf "turned" "turned" (defArgs S_turned) (defBody S_turned) (defScope S_turned) .none kV_turned dc_turned pm_turned an_turned cd_turned ct_turned), sl_turned⟩) (c_turned : PySem.W.codeIn K cd_turned "turned" = true) (k_turned : PySem.W.keepIn K (.ref f_turned) = true)
    {f_greatest_trap : Addr} {od_greatest_trap an_greatest_trap : Option Addr} {sl_greatest_trap : Array (Option Value)} {oc_greatest_trap kV_greatest_trap dc_greatest_trap pm_greatest_trap cd_greatest_trap ct_greatest_trap : Value} (a_greatest_trap : PySem.W.nsIn K mainGlobals "greatest_trap" = some (some (.ref f_greatest_trap))) (l_greatest_trap : K.lookup f_greatest_trap = some ⟨oc_greatest_trap, od_greatest_trap, .func (PySem.W.fnOf "greatest_trap" "greatest_trap" (defArgs S_greatest_trap) (defBody S_greatest_trap) (defScope S_greatest_trap) .none kV_greatest_trap dc_greatest_trap pm_greatest_trap an_greatest_trap cd_greatest_trap ct_greatest_trap), sl_greatest_trap⟩) (c_greatest_trap : PySem.W.codeIn K cd_greatest_trap "greatest_trap" = true) (k_greatest_trap : PySem.W.keepIn K (.ref f_greatest_trap) = true)
    {f_is_trap : Addr} {od_is_trap an_is_trap : Option Addr} {sl_is_trap : Array (Option Value)} {oc_is_trap kV_is_trap dc_is_trap pm_is_trap cd_is_trap ct_is_trap : Value} (a_is_trap : PySem.W.nsIn K mainGlobals "is_trap" = some (some (.ref f_is_trap))) (l_is_trap : K.lookup f_is_trap = some ⟨oc_is_trap, od_is_trap, .func (PySem.W.fnOf "is_trap" "is_trap" (defArgs S_is_trap) (defBody S_is_trap) (defScope S_is_trap) .none kV_is_trap dc_is_trap pm_is_trap an_is_trap cd_is_trap ct_is_trap), sl_is_trap⟩) (c_is_trap : PySem.W.codeIn K cd_is_trap "is_trap" = true) (k_is_trap : PySem.W.keepIn K (.ref f_is_trap) = true)
    {f_law_with_place : Addr} {od_law_with_place an_law_with_place : Option Addr} {sl_law_with_place : Array (Option Value)} {oc_law_with_place kV_law_with_place dc_law_with_place pm_law_with_place cd_law_with_place ct_law_with_place : Value} (a_law_with_place : PySem.W.nsIn K mainGlobals "_law_with_place" = some (some (.ref f_law_with_place))) (l_law_with_place : K.lookup f_law_with_place = some ⟨oc_law_with_place, od_law_with_place, .func (PySem.W.fnOf "_law_with_place" "_law_with_place" (defArgs S_law_with_place) (defBody S_law_with_place) (defScope S_law_with_place) .none kV_law_with_place dc_law_with_place pm_law_with_place an_law_with_place cd_law_with_place ct_law_with_place), sl_law_with_place⟩) (c_law_with_place : PySem.W.codeIn K cd_law_with_place "_law_with_place" = true) (k_law_with_place : PySem.W.keepIn K (.ref f_law_with_place) = true)
    {f_law_with_places : Addr} {od_law_with_places an_law_with_places : Option Addr} {sl_law_with_places : Array (Option Value)} {oc_law_with_places kV_law_with_places dc_law_with_places pm_law_with_places cd_law_with_places ct_law_with_places : Value} (a_law_with_places : PySem.W.nsIn K mainGlobals "_law_with_places" = some (some (.ref f_law_with_places))) (l_law_with_places : K.lookup f_law_with_places = some ⟨oc_law_with_places, od_law_with_places, .func (PySem.W.fnOf "_law_with_places" "_law_with_places" (defArgs S_law_with_places) (defBody S_law_with_places) (defScope S_law_with_places) .none kV_law_with_places dc_law_with_places pm_law_with_places an_law_with_places cd_law_with_places ct_law_with_places), sl_law_with_places⟩) (c_law_with_places : PySem.W.codeIn K cd_law_with_places "_law_with_places" = true) (k_law_with_places : PySem.W.keepIn K (.ref f_law_with_places) = true)
    {f_law_with_two : Addr} {od_law_with_two an_law_with_two : Option Addr} {sl_law_with_two : Array (Option Value)} {oc_law_with_two kV_law_with_two dc_law_with_two pm_law_with_two cd_law_with_two ct_law_with_two : Value} (a_law_with_two : PySem.W.nsIn K mainGlobals "_law_with_two" = some (some (.ref f_law_with_two))) (l_law_with_two : K.lookup f_law_with_two = some ⟨oc_law_with_two, od_law_with_two, .func (PySem.W.fnOf "_law_with_two" "_law_with_two" (defArgs S_law_with_two) (defBody S_law_with_two) (defScope S_law_with_two) .none kV_law_with_two dc_law_with_two pm_law_with_two an_law_with_two cd_law_with_two ct_law_with_two), sl_law_with_two⟩) (c_law_with_two : PySem.W.codeIn K cd_law_with_two "_law_with_two" = true) (k_law_with_two : PySem.W.keepIn K (.ref f_law_with_two) = true)
    {f_law_asked : Addr} {od_law_asked an_law_asked : Option Addr} {sl_law_asked : Array (Option Value)} {oc_law_asked kV_law_asked dc_law_asked pm_law_asked cd_law_asked ct_law_asked : Value} (a_law_asked : PySem.W.nsIn K mainGlobals "_law_asked" = some (some (.ref f_law_asked))) (l_law_asked : K.lookup f_law_asked = some ⟨oc_law_asked, od_law_asked, .func (PySem.W.fnOf "_law_asked" "_law_asked" (defArgs S_law_asked) (defBody S_law_asked) (defScope S_law_asked) .none kV_law_asked dc_law_asked pm_law_asked an_law_asked cd_law_asked ct_law_asked), sl_law_asked⟩) (c_law_asked : PySem.W.codeIn K cd_law_asked "_law_asked" = true) (k_law_asked : PySem.W.keepIn K (.ref f_law_asked) = true)
    {f_law_kind : Addr} {od_law_kind an_law_kind : Option Addr} {sl_law_kind : Array (Option Value)} {oc_law_kind kV_law_kind dc_law_kind pm_law_kind cd_law_kind ct_law_kind : Value} (a_law_kind : PySem.W.nsIn K mainGlobals "_law_kind" = some (some (.ref f_law_kind))) (l_law_kind : K.lookup f_law_kind = some ⟨oc_law_kind, od_law_kind, .func (PySem.W.fnOf "_law_kind" "_law_kind" (defArgs S_law_kind) (defBody S_law_kind) (defScope S_law_kind) .none kV_law_kind dc_law_kind pm_law_kind an_law_kind cd_law_kind ct_law_kind), sl_law_kind⟩) (c_law_kind : PySem.W.codeIn K cd_law_kind "_law_kind" = true) (k_law_kind : PySem.W.keepIn K (.ref f_law_kind) = true)
    {f_law_bad_hoard : Addr} {od_law_bad_hoard an_law_bad_hoard : Option Addr} {sl_law_bad_hoard : Array (Option Value)} {oc_law_bad_hoard kV_law_bad_hoard dc_law_bad_hoard pm_law_bad_hoard cd_law_bad_hoard ct_law_bad_hoard : Value} (a_law_bad_hoard : PySem.W.nsIn K mainGlobals "_law_bad_hoard" = some (some (.ref f_law_bad_hoard))) (l_law_bad_hoard : K.lookup f_law_bad_hoard = some ⟨oc_law_bad_hoard, od_law_bad_hoard, .func (PySem.W.fnOf "_law_bad_hoard" "_law_bad_hoard" (defArgs S_law_bad_hoard) (defBody S_law_bad_hoard) (defScope S_law_bad_hoard) .none kV_law_bad_hoard dc_law_bad_hoard pm_law_bad_hoard an_law_bad_hoard cd_law_bad_hoard ct_law_bad_hoard), sl_law_bad_hoard⟩) (c_law_bad_hoard : PySem.W.codeIn K cd_law_bad_hoard "_law_bad_hoard" = true) (k_law_bad_hoard : PySem.W.keepIn K (.ref f_law_bad_hoard) = true)
    {f_law : Addr} {od_law an_law : Option Addr} {sl_law : Array (Option Value)} {oc_law kV_law dc_law pm_law cd_law ct_law : Value} (a_law : PySem.W.nsIn K mainGlobals "law" = some (some (.ref f_law))) (l_law : K.lookup f_law = some ⟨oc_law, od_law, .func (PySem.W.fnOf "law" "law" (defArgs S_law) (defBody S_law) (defScope S_law) .none kV_law dc_law pm_law an_law cd_law ct_law), sl_law⟩) (c_law : PySem.W.codeIn K cd_law "law" = true) (k_law : PySem.W.keepIn K (.ref f_law) = true) : Top K mg :=
  ⟨PySem.W.mg_none_of X G z_ValueError,
   PySem.W.mg_none_of X G z_bool,
   PySem.W.mg_none_of X G z_int,
   PySem.W.mg_none_of X G z_isinstance,
   PySem.W.mg_none_of X G z_len,
   PySem.W.mg_none_of X G z_list,
   PySem.W.mg_none_of X G z_max,
   PySem.W.mg_none_of X G z_range,
   PySem.W.mg_none_of X G z_sum,
   PySem.W.mg_none_of X G z_tuple,
   PySem.W.mg_none_of X G z_zip,
   ⟨_, PySem.W.mg_of X G y_MOST_PLACES⟩,
   ⟨_, PySem.W.mg_of X G y_MOST_MOVES⟩,
   ⟨_, PySem.W.mg_of X G y_MOST_TOKENS⟩,
   ⟨_, PySem.W.mg_of X G q_NoHoard, e_NoHoard⟩,
   ⟨_, PySem.W.mg_of X G q_NoMove, e_NoMove⟩,
   ⟨_, PySem.W.mg_of X G q_NoNet, e_NoNet⟩,
   ⟨_, PySem.W.mg_of X G q_NoPlace, e_NoPlace⟩,
   ⟨_, PySem.W.mg_of X G q_TokenError, (takes_cons (PySem.W.mg_of X G q_TokenError) s_TokenError_TokenError (takes_cons (PySem.W.mg_of X G q_NoNet) s_NoNet_TokenError (takes_cons (PySem.W.mg_of X G q_NoHoard) s_NoHoard_TokenError (takes_cons (PySem.W.mg_of X G q_NoMove) s_NoMove_TokenError (takes_cons (PySem.W.mg_of X G q_NoPlace) s_NoPlace_TokenError (takes_cons (PySem.W.mg_of X G q_Endless) s_Endless_TokenError (takes_cons (PySem.W.mg_of X G q_TooBig) s_TooBig_TokenError (takes_cons (PySem.W.mg_of X G q_NoText) s_NoText_TokenError (takes_cons (PySem.W.mg_of X G q_Stuck) s_Stuck_TokenError takes_nil)))))))))⟩,
   (names_cons q_TokenError (PySem.W.mg_of X G q_TokenError) (names_cons q_NoNet (PySem.W.mg_of X G q_NoNet) (names_cons q_NoHoard (PySem.W.mg_of X G q_NoHoard) (names_cons q_NoMove (PySem.W.mg_of X G q_NoMove) (names_cons q_NoPlace (PySem.W.mg_of X G q_NoPlace) (names_cons q_Endless (PySem.W.mg_of X G q_Endless) (names_cons q_TooBig (PySem.W.mg_of X G q_TooBig) (names_cons q_NoText (PySem.W.mg_of X G q_NoText) (names_cons q_Stuck (PySem.W.mg_of X G q_Stuck) names_nil))))))))),
   ⟨cg, ct, (clsX_cons q_NoHoard u1_NoHoard u2_NoHoard u3_NoHoard u4_NoHoard u5_NoHoard u6_NoHoard (clsX_cons q_NoMove u1_NoMove u2_NoMove u3_NoMove u4_NoMove u5_NoMove u6_NoMove (clsX_cons q_NoNet u1_NoNet u2_NoNet u3_NoNet u4_NoNet u5_NoNet u6_NoNet (clsX_cons q_NoPlace u1_NoPlace u2_NoPlace u3_NoPlace u4_NoPlace u5_NoPlace u6_NoPlace clsX_nil))))⟩,
   ⟨_, PySem.W.mg_of X G q_Endless, (ans_cons q_NoHoard jy_NoHoard_Endless (ans_cons q_NoMove jy_NoMove_Endless (ans_cons q_NoNet jy_NoNet_Endless (ans_cons q_NoPlace jy_NoPlace_Endless ans_nil))))⟩,
   ⟨_, PySem.W.mg_of X G q_NoHoard, (ans_cons q_NoHoard jy_NoHoard_NoHoard (ans_cons q_NoMove jy_NoMove_NoHoard (ans_cons q_NoNet jy_NoNet_NoHoard (ans_cons q_NoPlace jy_NoPlace_NoHoard ans_nil))))⟩,
   ⟨_, PySem.W.mg_of X G q_NoMove, (ans_cons q_NoHoard jy_NoHoard_NoMove (ans_cons q_NoMove jy_NoMove_NoMove (ans_cons q_NoNet jy_NoNet_NoMove (ans_cons q_NoPlace jy_NoPlace_NoMove ans_nil))))⟩,
   ⟨_, PySem.W.mg_of X G q_NoNet, (ans_cons q_NoHoard jy_NoHoard_NoNet (ans_cons q_NoMove jy_NoMove_NoNet (ans_cons q_NoNet jy_NoNet_NoNet (ans_cons q_NoPlace jy_NoPlace_NoNet ans_nil))))⟩,
   ⟨_, PySem.W.mg_of X G q_NoPlace, (ans_cons q_NoHoard jy_NoHoard_NoPlace (ans_cons q_NoMove jy_NoMove_NoPlace (ans_cons q_NoNet jy_NoNet_NoPlace (ans_cons q_NoPlace jy_NoPlace_NoPlace ans_nil))))⟩,
   ⟨_, PySem.W.mg_of X G q_NoText, (ans_cons q_NoHoard jy_NoHoard_NoText (ans_cons q_NoMove jy_NoMove_NoText (ans_cons q_NoNet jy_NoNet_NoText (ans_cons q_NoPlace jy_NoPlace_NoText ans_nil))))⟩,
   ⟨_, PySem.W.mg_of X G q_Stuck, (ans_cons q_NoHoard jy_NoHoard_Stuck (ans_cons q_NoMove jy_NoMove_Stuck (ans_cons q_NoNet jy_NoNet_Stuck (ans_cons q_NoPlace jy_NoPlace_Stuck ans_nil))))⟩,
   ⟨_, PySem.W.mg_of X G q_TooBig, (ans_cons q_NoHoard jy_NoHoard_TooBig (ans_cons q_NoMove jy_NoMove_TooBig (ans_cons q_NoNet jy_NoNet_TooBig (ans_cons q_NoPlace jy_NoPlace_TooBig ans_nil))))⟩,
   (is_cons q_TokenError j_TokenError_ValueError (is_cons q_NoNet j_NoNet_ValueError (is_cons q_NoHoard j_NoHoard_ValueError (is_cons q_NoMove j_NoMove_ValueError (is_cons q_NoPlace j_NoPlace_ValueError (is_cons q_Endless j_Endless_ValueError (is_cons q_TooBig j_TooBig_ValueError (is_cons q_NoText j_NoText_ValueError (is_cons q_Stuck j_Stuck_ValueError is_nil))))))))),
   Tw.Fn.mk' (fun_mk (st := S_is_whole) l_is_whole c_is_whole k_is_whole) (PySem.W.mg_of X G a_is_whole) (fun _ _ _ _ _ _ us hl => match us, hl with | [_], _ => rfl),
   Tw.Fn.mk' (fun_mk (st := S_is_row) l_is_row c_is_row k_is_row) (PySem.W.mg_of X G a_is_row) (fun _ _ _ _ _ _ us hl => match us, hl with | [_, _], _ => rfl),
   Tw.Fn.mk' (fun_mk (st := S_is_move) l_is_move c_is_move k_is_move) (PySem.W.mg_of X G a_is_move) (fun _ _ _ _ _ _ us hl => match us, hl with | [_, _], _ => rfl),
   Tw.Fn.mk' (fun_mk (st := S_is_net) l_is_net c_is_net k_is_net) (PySem.W.mg_of X G a_is_net) (fun _ _ _ _ _ _ us hl => match us, hl with | [_], _ => rfl),
   Tw.Fn.mk' (fun_mk (st := S_checked) l_checked c_checked k_checked) (PySem.W.mg_of X G a_checked) (fun _ _ _ _ _ _ us hl => match us, hl with | [_], _ => rfl),
   Tw.Fn.mk' (fun_mk (st := S_is_hoard) l_is_hoard c_is_hoard k_is_hoard) (PySem.W.mg_of X G a_is_hoard) (fun _ _ _ _ _ _ us hl => match us, hl with | [_, _], _ => rfl),
   Tw.Fn.mk' (fun_mk (st := S_law_cell_at) l_law_cell_at c_law_cell_at k_law_cell_at) (PySem.W.mg_of X G a_law_cell_at) (fun _ _ _ _ _ _ us hl => match us, hl with | [_, _], _ => rfl),
   Tw.Fn.mk' (fun_mk (st := S_law_mixed) l_law_mixed c_law_mixed k_law_mixed) (PySem.W.mg_of X G a_law_mixed) (fun _ _ _ _ _ _ us hl => match us, hl with | [_, _, _], _ => rfl),
   Tw.Fn.mk' (fun_mk (st := S_law_move) l_law_move c_law_move k_law_move) (PySem.W.mg_of X G a_law_move) (fun _ _ _ _ _ _ us hl => match us, hl with | [_, _, _, _], _ => rfl),
   Tw.Fn.mk' (fun_mk (st := S_law_net) l_law_net c_law_net k_law_net) (PySem.W.mg_of X G a_law_net) (fun _ _ _ _ _ _ us hl => match us, hl with | [_, _], _ => rfl),
   Tw.Fn.mk' (fun_mk (st := S_law_hoard) l_law_hoard c_law_hoard k_law_hoard) (PySem.W.mg_of X G a_law_hoard) (fun _ _ _ _ _ _ us hl => match us, hl with | [_, _, _, _], _ => rfl),
   Tw.Fn.mk' (fun_mk (st := S_need_hoard) l_need_hoard c_need_hoard k_need_hoard) (PySem.W.mg_of X G a_need_hoard) (fun _ _ _ _ _ _ us hl => match us, hl with | [_, _], _ => rfl),
   Tw.Fn.mk' (fun_mk (st := S_need_move) l_need_move c_need_move k_need_move) (PySem.W.mg_of X G a_need_move) (fun _ _ _ _ _ _ us hl => match us, hl with | [_, _], _ => rfl),
   Tw.Fn.mk' (fun_mk (st := S_over) l_over c_over k_over) (PySem.W.mg_of X G a_over) (fun _ _ _ _ _ _ us hl => match us, hl with | [_, _], _ => rfl),
   Tw.Fn.mk' (fun_mk (st := S_can) l_can c_can k_can) (PySem.W.mg_of X G a_can) (fun _ _ _ _ _ _ us hl => match us, hl with | [_, _, _], _ => rfl),
   Tw.Fn.mk' (fun_mk (st := S_need_run) l_need_run c_need_run k_need_run) (PySem.W.mg_of X G a_need_run) (fun _ _ _ _ _ _ us hl => match us, hl with | [_, _], _ => rfl),
   Tw.Fn.mk' (fun_mk (st := S_behind) l_behind c_behind k_behind) (PySem.W.mg_of X G a_behind) (fun _ _ _ _ _ _ us hl => match us, hl with | [_, _, _], _ => rfl),
   Tw.Fn.mk' (fun_mk (st := S_least_before) l_least_before c_least_before k_least_before) (PySem.W.mg_of X G a_least_before) (fun _ _ _ _ _ _ us hl => match us, hl with | [_, _, _], _ => rfl),
   Tw.Fn.mk' (fun_mk (st := S_sill) l_sill c_sill k_sill) (PySem.W.mg_of X G a_sill) (fun _ _ _ _ _ _ us hl => match us, hl with | [_, _], _ => rfl),
   Tw.Fn.mk' (fun_mk (st := S_cover) l_cover c_cover k_cover) (PySem.W.mg_of X G a_cover) (fun _ _ _ _ _ _ us hl => match us, hl with | [_, _, _], _ => rfl),
   Tw.Fn.mk' (fun_mk (st := S_need_place) l_need_place c_need_place k_need_place) (PySem.W.mg_of X G a_need_place) (fun _ _ _ _ _ _ us hl => match us, hl with | [_, _], _ => rfl),
   Tw.Fn.mk' (fun_mk (st := S_need_places) l_need_places c_need_places k_need_places) (PySem.W.mg_of X G a_need_places) (fun _ _ _ _ _ _ us hl => match us, hl with | [_, _], _ => rfl),
   Tw.Fn.mk' (fun_mk (st := S_together) l_together c_together k_together) (PySem.W.mg_of X G a_together) (fun _ _ _ _ _ _ us hl => match us, hl with | [_, _, _], _ => rfl),
   Tw.Fn.mk' (fun_mk (st := S_all_of) l_all_of c_all_of k_all_of) (PySem.W.mg_of X G a_all_of) (fun _ _ _ _ _ _ us hl => match us, hl with | [_, _], _ => rfl),
   Tw.Fn.mk' (fun_mk (st := S_how_far) l_how_far c_how_far k_how_far) (PySem.W.mg_of X G a_how_far) (fun _ _ _ _ _ _ us hl => match us, hl with | [_, _, _], _ => rfl),
   Tw.Fn.mk' (fun_mk (st := S_run_to) l_run_to c_run_to k_run_to) (PySem.W.mg_of X G a_run_to) (fun _ _ _ _ _ _ us hl => match us, hl with | [_, _, _], _ => rfl),
   Tw.Fn.mk' (fun_mk (st := S_stuck_hoards) l_stuck_hoards c_stuck_hoards k_stuck_hoards) (PySem.W.mg_of X G a_stuck_hoards) (fun _ _ _ _ _ _ us hl => match us, hl with | [_, _], _ => rfl),
   Tw.Fn.mk' (fun_mk (st := S_law_with_hoard) l_law_with_hoard c_law_with_hoard k_law_with_hoard) (PySem.W.mg_of X G a_law_with_hoard) (fun _ _ _ _ _ _ us hl => match us, hl with | [_, _, _, _], _ => rfl),
   Tw.Fn.mk' (fun_mk (st := S_law_with_move) l_law_with_move c_law_with_move k_law_with_move) (PySem.W.mg_of X G a_law_with_move) (fun _ _ _ _ _ _ us hl => match us, hl with | [_, _, _, _], _ => rfl),
   Tw.Fn.mk' (fun_mk (st := S_without_place) l_without_place c_without_place k_without_place) (PySem.W.mg_of X G a_without_place) (fun _ _ _ _ _ _ us hl => match us, hl with | [_, _], _ => rfl),
   Tw.Fn.mk' (fun_mk (st := S_told_places) l_told_places c_told_places k_told_places) (PySem.W.mg_of X G a_told_places) (fun _ _ _ _ _ _ us hl => match us, hl with | [_, _], _ => rfl),
   Tw.Fn.mk' (fun_mk (st := S_greatest_sink) l_greatest_sink c_greatest_sink k_greatest_sink) (PySem.W.mg_of X G a_greatest_sink) (fun _ _ _ _ _ _ us hl => match us, hl with | [_, _], _ => rfl),
   Tw.Fn.mk' (fun_mk (st := S_is_sink) l_is_sink c_is_sink k_is_sink) (PySem.W.mg_of X G a_is_sink) (fun _ _ _ _ _ _ us hl => match us, hl with | [_, _], _ => rfl),
   Tw.Fn.mk' (fun_mk (st := S_turned) l_turned c_turned k_turned) (PySem.W.mg_of X G a_turned) (fun _ _ _ _ _ _ us hl => match us, hl with | [_], _ => rfl),
   Tw.Fn.mk' (fun_mk (st := S_greatest_trap) l_greatest_trap c_greatest_trap k_greatest_trap) (PySem.W.mg_of X G a_greatest_trap) (fun _ _ _ _ _ _ us hl => match us, hl with | [_, _], _ => rfl),
   Tw.Fn.mk' (fun_mk (st := S_is_trap) l_is_trap c_is_trap k_is_trap) (PySem.W.mg_of X G a_is_trap) (fun _ _ _ _ _ _ us hl => match us, hl with | [_, _], _ => rfl),
   Tw.Fn.mk' (fun_mk (st := S_law_with_place) l_law_with_place c_law_with_place k_law_with_place) (PySem.W.mg_of X G a_law_with_place) (fun _ _ _ _ _ _ us hl => match us, hl with | [_, _, _, _], _ => rfl),
   Tw.Fn.mk' (fun_mk (st := S_law_with_places) l_law_with_places c_law_with_places k_law_with_places) (PySem.W.mg_of X G a_law_with_places) (fun _ _ _ _ _ _ us hl => match us, hl with | [_, _, _, _], _ => rfl),
   Tw.Fn.mk' (fun_mk (st := S_law_with_two) l_law_with_two c_law_with_two k_law_with_two) (PySem.W.mg_of X G a_law_with_two) (fun _ _ _ _ _ _ us hl => match us, hl with | [_, _, _, _], _ => rfl),
   Tw.Fn.mk' (fun_mk (st := S_law_asked) l_law_asked c_law_asked k_law_asked) (PySem.W.mg_of X G a_law_asked) (fun _ _ _ _ _ _ us hl => match us, hl with | [_, _, _, _, _], _ => rfl),
   Tw.Fn.mk' (fun_mk (st := S_law_kind) l_law_kind c_law_kind k_law_kind) (PySem.W.mg_of X G a_law_kind) (fun _ _ _ _ _ _ us hl => match us, hl with | [_], _ => rfl),
   Tw.Fn.mk' (fun_mk (st := S_law_bad_hoard) l_law_bad_hoard c_law_bad_hoard k_law_bad_hoard) (PySem.W.mg_of X G a_law_bad_hoard) (fun _ _ _ _ _ _ us hl => match us, hl with | [_, _], _ => rfl),
   Tw.Fn.mk' (fun_mk (st := S_law) l_law c_law k_law) (PySem.W.mg_of X G a_law) (fun _ _ _ _ _ _ us hl => match us, hl with | [_], _ => rfl)⟩
theorem all_mk {l : PySem.W.OpenLaw} {w : World} {K : PySem.W.Frag} {h : Heap} {mg : Str → Option Value} {fa : Addr} (X : K.In h) (G : h.Ns mainGlobals mg) (hfa : mg "law" = some (.ref fa))
    (z_ValueError : PySem.W.nsIn K mainGlobals "ValueError" = some none)
    (z_bool : PySem.W.nsIn K mainGlobals "bool" = some none)
    (z_int : PySem.W.nsIn K mainGlobals "int" = some none)
    (z_isinstance : PySem.W.nsIn K mainGlobals "isinstance" = some none)
    (z_len : PySem.W.nsIn K mainGlobals "len" = some none)
    (z_list : PySem.W.nsIn K mainGlobals "list" = some none)
    (z_max : PySem.W.nsIn K mainGlobals "max" = some none)
    (z_range : PySem.W.nsIn K mainGlobals "range" = some none)
    (z_sum : PySem.W.nsIn K mainGlobals "sum" = some none)
    (z_tuple : PySem.W.nsIn K mainGlobals "tuple" = some none)
    (z_zip : PySem.W.nsIn K mainGlobals "zip" = some none)
    {tk_MOST_PLACES : Tok} (y_MOST_PLACES : PySem.W.nsIn K mainGlobals "MOST_PLACES" = some (some (.int 6 tk_MOST_PLACES)))
    {tk_MOST_MOVES : Tok} (y_MOST_MOVES : PySem.W.nsIn K mainGlobals "MOST_MOVES" = some (some (.int 10 tk_MOST_MOVES)))
    {tk_MOST_TOKENS : Tok} (y_MOST_TOKENS : PySem.W.nsIn K mainGlobals "MOST_TOKENS" = some (some (.int 9 tk_MOST_TOKENS)))
    {C_Endless : Addr} (q_Endless : PySem.W.nsIn K mainGlobals "Endless" = some (some (.ref C_Endless)))
    {C_NoHoard : Addr} (q_NoHoard : PySem.W.nsIn K mainGlobals "NoHoard" = some (some (.ref C_NoHoard)))
    {C_NoMove : Addr} (q_NoMove : PySem.W.nsIn K mainGlobals "NoMove" = some (some (.ref C_NoMove)))
    {C_NoNet : Addr} (q_NoNet : PySem.W.nsIn K mainGlobals "NoNet" = some (some (.ref C_NoNet)))
    {C_NoPlace : Addr} (q_NoPlace : PySem.W.nsIn K mainGlobals "NoPlace" = some (some (.ref C_NoPlace)))
    {C_NoText : Addr} (q_NoText : PySem.W.nsIn K mainGlobals "NoText" = some (some (.ref C_NoText)))
    {C_Stuck : Addr} (q_Stuck : PySem.W.nsIn K mainGlobals "Stuck" = some (some (.ref C_Stuck)))
    {C_TokenError : Addr} (q_TokenError : PySem.W.nsIn K mainGlobals "TokenError" = some (some (.ref C_TokenError)))
    {C_TooBig : Addr} (q_TooBig : PySem.W.nsIn K mainGlobals "TooBig" = some (some (.ref C_TooBig)))
    (e_NoHoard : PySem.W.excIn K C_NoHoard bmV "ValueError.__new__" = true)
    (e_NoMove : PySem.W.excIn K C_NoMove bmV "ValueError.__new__" = true)
    (e_NoNet : PySem.W.excIn K C_NoNet bmV "ValueError.__new__" = true)
    (e_NoPlace : PySem.W.excIn K C_NoPlace bmV "ValueError.__new__" = true)
    (s_TokenError_TokenError : PySem.W.exmOne K (.ref C_TokenError) (.ref C_TokenError) = some true)
    (s_NoNet_TokenError : PySem.W.exmOne K (.ref C_NoNet) (.ref C_TokenError) = some true)
    (s_NoHoard_TokenError : PySem.W.exmOne K (.ref C_NoHoard) (.ref C_TokenError) = some true)
    (s_NoMove_TokenError : PySem.W.exmOne K (.ref C_NoMove) (.ref C_TokenError) = some true)
    (s_NoPlace_TokenError : PySem.W.exmOne K (.ref C_NoPlace) (.ref C_TokenError) = some true)
    (s_Endless_TokenError : PySem.W.exmOne K (.ref C_Endless) (.ref C_TokenError) = some true)
    (s_TooBig_TokenError : PySem.W.exmOne K (.ref C_TooBig) (.ref C_TokenError) = some true)
    (s_NoText_TokenError : PySem.W.exmOne K (.ref C_NoText) (.ref C_TokenError) = some true)
    (s_Stuck_TokenError : PySem.W.exmOne K (.ref C_Stuck) (.ref C_TokenError) = some true)
    (cg : PySem.W.specialIn K (.builtin "object.__class__") "__get__" = some (some (.builtin "getset_descriptor.__get__")))
    (ct : PySem.W.takesIn K (.builtin "object.__class__") = some true)
    (u1_NoHoard : PySem.W.isClsIn K C_NoHoard = true)
    (u2_NoHoard : PySem.W.findIn K (.ref C_NoHoard) "__getattribute__" = some (some (.builtin "BaseException.__getattribute__")))
    (u3_NoHoard : PySem.W.findIn K (.ref C_NoHoard) "__getattr__" = some none)
    (u4_NoHoard : PySem.W.mroIn K C_NoHoard (.type "BaseException") = some true)
    (u5_NoHoard : PySem.W.findIn K (.ref C_NoHoard) "__class__" = some (some (.builtin "object.__class__")))
    (u6_NoHoard : PySem.W.mroIn K C_NoHoard (.type "object") = some true)
    (u1_NoMove : PySem.W.isClsIn K C_NoMove = true)
    (u2_NoMove : PySem.W.findIn K (.ref C_NoMove) "__getattribute__" = some (some (.builtin "BaseException.__getattribute__")))
    (u3_NoMove : PySem.W.findIn K (.ref C_NoMove) "__getattr__" = some none)
    (u4_NoMove : PySem.W.mroIn K C_NoMove (.type "BaseException") = some true)
    (u5_NoMove : PySem.W.findIn K (.ref C_NoMove) "__class__" = some (some (.builtin "object.__class__")))
    (u6_NoMove : PySem.W.mroIn K C_NoMove (.type "object") = some true)
    (u1_NoNet : PySem.W.isClsIn K C_NoNet = true)
    (u2_NoNet : PySem.W.findIn K (.ref C_NoNet) "__getattribute__" = some (some (.builtin "BaseException.__getattribute__")))
    (u3_NoNet : PySem.W.findIn K (.ref C_NoNet) "__getattr__" = some none)
    (u4_NoNet : PySem.W.mroIn K C_NoNet (.type "BaseException") = some true)
    (u5_NoNet : PySem.W.findIn K (.ref C_NoNet) "__class__" = some (some (.builtin "object.__class__")))
    (u6_NoNet : PySem.W.mroIn K C_NoNet (.type "object") = some true)
    (u1_NoPlace : PySem.W.isClsIn K C_NoPlace = true)
    (u2_NoPlace : PySem.W.findIn K (.ref C_NoPlace) "__getattribute__" = some (some (.builtin "BaseException.__getattribute__")))
    (u3_NoPlace : PySem.W.findIn K (.ref C_NoPlace) "__getattr__" = some none)
    (u4_NoPlace : PySem.W.mroIn K C_NoPlace (.type "BaseException") = some true)
    (u5_NoPlace : PySem.W.findIn K (.ref C_NoPlace) "__class__" = some (some (.builtin "object.__class__")))
    (u6_NoPlace : PySem.W.mroIn K C_NoPlace (.type "object") = some true)
    (jy_NoHoard_Endless : PySem.W.kitOne K (.ref C_NoHoard) (.ref C_Endless) = some false)
    (jy_NoMove_Endless : PySem.W.kitOne K (.ref C_NoMove) (.ref C_Endless) = some false)
    (jy_NoNet_Endless : PySem.W.kitOne K (.ref C_NoNet) (.ref C_Endless) = some false)
    (jy_NoPlace_Endless : PySem.W.kitOne K (.ref C_NoPlace) (.ref C_Endless) = some false)
    (jy_NoHoard_NoHoard : PySem.W.kitOne K (.ref C_NoHoard) (.ref C_NoHoard) = some true)
    (jy_NoMove_NoHoard : PySem.W.kitOne K (.ref C_NoMove) (.ref C_NoHoard) = some false)
    (jy_NoNet_NoHoard : PySem.W.kitOne K (.ref C_NoNet) (.ref C_NoHoard) = some false)
    (jy_NoPlace_NoHoard : PySem.W.kitOne K (.ref C_NoPlace) (.ref C_NoHoard) = some false)
    (jy_NoHoard_NoMove : PySem.W.kitOne K (.ref C_NoHoard) (.ref C_NoMove) = some false)
    (jy_NoMove_NoMove : PySem.W.kitOne K (.ref C_NoMove) (.ref C_NoMove) = some true)
    (jy_NoNet_NoMove : PySem.W.kitOne K (.ref C_NoNet) (.ref C_NoMove) = some false)
    (jy_NoPlace_NoMove : PySem.W.kitOne K (.ref C_NoPlace) (.ref C_NoMove) = some false)
    (jy_NoHoard_NoNet : PySem.W.kitOne K (.ref C_NoHoard) (.ref C_NoNet) = some false)
    (jy_NoMove_NoNet : PySem.W.kitOne K (.ref C_NoMove) (.ref C_NoNet) = some false)
    (jy_NoNet_NoNet : PySem.W.kitOne K (.ref C_NoNet) (.ref C_NoNet) = some true)
    (jy_NoPlace_NoNet : PySem.W.kitOne K (.ref C_NoPlace) (.ref C_NoNet) = some false)
    (jy_NoHoard_NoPlace : PySem.W.kitOne K (.ref C_NoHoard) (.ref C_NoPlace) = some false)
    (jy_NoMove_NoPlace : PySem.W.kitOne K (.ref C_NoMove) (.ref C_NoPlace) = some false)
    (jy_NoNet_NoPlace : PySem.W.kitOne K (.ref C_NoNet) (.ref C_NoPlace) = some false)
    (jy_NoPlace_NoPlace : PySem.W.kitOne K (.ref C_NoPlace) (.ref C_NoPlace) = some true)
    (jy_NoHoard_NoText : PySem.W.kitOne K (.ref C_NoHoard) (.ref C_NoText) = some false)
    (jy_NoMove_NoText : PySem.W.kitOne K (.ref C_NoMove) (.ref C_NoText) = some false)
    (jy_NoNet_NoText : PySem.W.kitOne K (.ref C_NoNet) (.ref C_NoText) = some false)
    (jy_NoPlace_NoText : PySem.W.kitOne K (.ref C_NoPlace) (.ref C_NoText) = some false)
    (jy_NoHoard_Stuck : PySem.W.kitOne K (.ref C_NoHoard) (.ref C_Stuck) = some false)
    (jy_NoMove_Stuck : PySem.W.kitOne K (.ref C_NoMove) (.ref C_Stuck) = some false)
    (jy_NoNet_Stuck : PySem.W.kitOne K (.ref C_NoNet) (.ref C_Stuck) = some false)
    (jy_NoPlace_Stuck : PySem.W.kitOne K (.ref C_NoPlace) (.ref C_Stuck) = some false)
    (jy_NoHoard_TooBig : PySem.W.kitOne K (.ref C_NoHoard) (.ref C_TooBig) = some false)
    (jy_NoMove_TooBig : PySem.W.kitOne K (.ref C_NoMove) (.ref C_TooBig) = some false)
    (jy_NoNet_TooBig : PySem.W.kitOne K (.ref C_NoNet) (.ref C_TooBig) = some false)
    (jy_NoPlace_TooBig : PySem.W.kitOne K (.ref C_NoPlace) (.ref C_TooBig) = some false)
    (j_TokenError_ValueError : PySem.W.kitOne K (.ref C_TokenError) (.type "ValueError") = some true)
    (j_NoNet_ValueError : PySem.W.kitOne K (.ref C_NoNet) (.type "ValueError") = some true)
    (j_NoHoard_ValueError : PySem.W.kitOne K (.ref C_NoHoard) (.type "ValueError") = some true)
    (j_NoMove_ValueError : PySem.W.kitOne K (.ref C_NoMove) (.type "ValueError") = some true)
    (j_NoPlace_ValueError : PySem.W.kitOne K (.ref C_NoPlace) (.type "ValueError") = some true)
    (j_Endless_ValueError : PySem.W.kitOne K (.ref C_Endless) (.type "ValueError") = some true)
    (j_TooBig_ValueError : PySem.W.kitOne K (.ref C_TooBig) (.type "ValueError") = some true)
    (j_NoText_ValueError : PySem.W.kitOne K (.ref C_NoText) (.type "ValueError") = some true)
    (j_Stuck_ValueError : PySem.W.kitOne K (.ref C_Stuck) (.type "ValueError") = some true)
    {f_is_whole : Addr} {od_is_whole an_is_whole : Option Addr} {sl_is_whole : Array (Option Value)} {oc_is_whole kV_is_whole dc_is_whole pm_is_whole cd_is_whole ct_is_whole : Value} (a_is_whole : PySem.W.nsIn K mainGlobals "is_whole" = some (some (.ref f_is_whole))) (l_is_whole : K.lookup f_is_whole = some ⟨oc_is_whole, od_is_whole, .func (PySem.W.fnOf "is_whole" "is_whole" (defArgs S_is_whole) (defBody S_is_whole) (defScope S_is_whole) .none kV_is_whole dc_is_whole pm_is_whole an_is_whole cd_is_whole ct_is_whole), sl_is_whole⟩) (c_is_whole : PySem.W.codeIn K cd_is_whole "is_whole" = true) (k_is_whole : PySem.W.keepIn K (.ref f_is_whole) = true)
    {f_is_row : Addr} {od_is_row an_is_row : Option Addr} {sl_is_row : Array (Option Value)} {oc_is_row kV_is_row dc_is_row pm_is_row cd_is_row ct_is_row : Value} (a_is_row : PySem.W.nsIn K mainGlobals "is_row" = some (some (.ref f_is_row))) (l_is_row : K.lookup f_is_row = some ⟨oc_is_row, od_is_row, .func (PySem.W.fnOf "is_row" "is_row" (defArgs S_is_row) (defBody S_is_row) (defScope S_is_row) .none kV_is_row dc_is_row pm_is_row an_is_row cd_is_row ct_is_row), sl_is_row⟩) (c_is_row : PySem.W.codeIn K cd_is_row "is_row" = true) (k_is_row : PySem.W.keepIn K (.ref f_is_row) = true)
    {f_is_move : Addr} {od_is_move an_is_move : Option Addr} {sl_is_move : Array (Option Value)} {oc_is_move kV_is_move dc_is_move pm_is_move cd_is_move ct_is_move : Value} (a_is_move : PySem.W.nsIn K mainGlobals "is_move" = some (some (.ref f_is_move))) (l_is_move : K.lookup f_is_move = some ⟨oc_is_move, od_is_move, .func (PySem.W.fnOf "is_move" "is_move" (defArgs S_is_move) (defBody S_is_move) (defScope S_is_move) .none kV_is_move dc_is_move pm_is_move an_is_move cd_is_move ct_is_move), sl_is_move⟩) (c_is_move : PySem.W.codeIn K cd_is_move "is_move" = true) (k_is_move : PySem.W.keepIn K (.ref f_is_move) = true)
    {f_is_net : Addr} {od_is_net an_is_net : Option Addr} {sl_is_net : Array (Option Value)} {oc_is_net kV_is_net dc_is_net pm_is_net cd_is_net ct_is_net : Value} (a_is_net : PySem.W.nsIn K mainGlobals "is_net" = some (some (.ref f_is_net))) (l_is_net : K.lookup f_is_net = some ⟨oc_is_net, od_is_net, .func (PySem.W.fnOf "is_net" "is_net" (defArgs S_is_net) (defBody S_is_net) (defScope S_is_net) .none kV_is_net dc_is_net pm_is_net an_is_net cd_is_net ct_is_net), sl_is_net⟩) (c_is_net : PySem.W.codeIn K cd_is_net "is_net" = true) (k_is_net : PySem.W.keepIn K (.ref f_is_net) = true)
    {f_checked : Addr} {od_checked an_checked : Option Addr} {sl_checked : Array (Option Value)} {oc_checked kV_checked dc_checked pm_checked cd_checked ct_checked : Value} (a_checked : PySem.W.nsIn K mainGlobals "checked" = some (some (.ref f_checked))) (l_checked : K.lookup f_checked = some ⟨oc_checked, od_checked, .func (PySem.W.fnOf "checked" "checked" (defArgs S_checked) (defBody S_checked) (defScope S_checked) .none kV_checked dc_checked pm_checked an_checked cd_checked ct_checked), sl_checked⟩) (c_checked : PySem.W.codeIn K cd_checked "checked" = true) (k_checked : PySem.W.keepIn K (.ref f_checked) = true)
    {f_is_hoard : Addr} {od_is_hoard an_is_hoard : Option Addr} {sl_is_hoard : Array (Option Value)} {oc_is_hoard kV_is_hoard dc_is_hoard pm_is_hoard cd_is_hoard ct_is_hoard : Value} (a_is_hoard : PySem.W.nsIn K mainGlobals "is_hoard" = some (some (.ref f_is_hoard))) (l_is_hoard : K.lookup f_is_hoard = some ⟨oc_is_hoard, od_is_hoard, .func (PySem.W.fnOf "is_hoard" "is_hoard" (defArgs S_is_hoard) (defBody S_is_hoard) (defScope S_is_hoard) .none kV_is_hoard dc_is_hoard pm_is_hoard an_is_hoard cd_is_hoard ct_is_hoard), sl_is_hoard⟩) (c_is_hoard : PySem.W.codeIn K cd_is_hoard "is_hoard" = true) (k_is_hoard : PySem.W.keepIn K (.ref f_is_hoard) = true)
    {f_law_cell_at : Addr} {od_law_cell_at an_law_cell_at : Option Addr} {sl_law_cell_at : Array (Option Value)} {oc_law_cell_at kV_law_cell_at dc_law_cell_at pm_law_cell_at cd_law_cell_at ct_law_cell_at : Value} (a_law_cell_at : PySem.W.nsIn K mainGlobals "_law_cell_at" = some (some (.ref f_law_cell_at))) (l_law_cell_at : K.lookup f_law_cell_at = some ⟨oc_law_cell_at, od_law_cell_at, .func (PySem.W.fnOf "_law_cell_at" "_law_cell_at" (defArgs S_law_cell_at) (defBody S_law_cell_at) (defScope S_law_cell_at) .none kV_law_cell_at dc_law_cell_at pm_law_cell_at an_law_cell_at cd_law_cell_at ct_law_cell_at), sl_law_cell_at⟩) (c_law_cell_at : PySem.W.codeIn K cd_law_cell_at "_law_cell_at" = true) (k_law_cell_at : PySem.W.keepIn K (.ref f_law_cell_at) = true)
    {f_law_mixed : Addr} {od_law_mixed an_law_mixed : Option Addr} {sl_law_mixed : Array (Option Value)} {oc_law_mixed kV_law_mixed dc_law_mixed pm_law_mixed cd_law_mixed ct_law_mixed : Value} (a_law_mixed : PySem.W.nsIn K mainGlobals "_law_mixed" = some (some (.ref f_law_mixed))) (l_law_mixed : K.lookup f_law_mixed = some ⟨oc_law_mixed, od_law_mixed, .func (PySem.W.fnOf "_law_mixed" "_law_mixed" (defArgs S_law_mixed) (defBody S_law_mixed) (defScope S_law_mixed) .none kV_law_mixed dc_law_mixed pm_law_mixed an_law_mixed cd_law_mixed ct_law_mixed), sl_law_mixed⟩) (c_law_mixed : PySem.W.codeIn K cd_law_mixed "_law_mixed" = true) (k_law_mixed : PySem.W.keepIn K (.ref f_law_mixed) = true)
    {f_law_move : Addr} {od_law_move an_law_move : Option Addr} {sl_law_move : Array (Option Value)} {oc_law_move kV_law_move dc_law_move pm_law_move cd_law_move ct_law_move : Value} (a_law_move : PySem.W.nsIn K mainGlobals "_law_move" = some (some (.ref f_law_move))) (l_law_move : K.lookup f_law_move = some ⟨oc_law_move, od_law_move, .func (PySem.W.fnOf "_law_move" "_law_move" (defArgs S_law_move) (defBody S_law_move) (defScope S_law_move) .none kV_law_move dc_law_move pm_law_move an_law_move cd_law_move ct_law_move), sl_law_move⟩) (c_law_move : PySem.W.codeIn K cd_law_move "_law_move" = true) (k_law_move : PySem.W.keepIn K (.ref f_law_move) = true)
    {f_law_net : Addr} {od_law_net an_law_net : Option Addr} {sl_law_net : Array (Option Value)} {oc_law_net kV_law_net dc_law_net pm_law_net cd_law_net ct_law_net : Value} (a_law_net : PySem.W.nsIn K mainGlobals "_law_net" = some (some (.ref f_law_net))) (l_law_net : K.lookup f_law_net = some ⟨oc_law_net, od_law_net, .func (PySem.W.fnOf "_law_net" "_law_net" (defArgs S_law_net) (defBody S_law_net) (defScope S_law_net) .none kV_law_net dc_law_net pm_law_net an_law_net cd_law_net ct_law_net), sl_law_net⟩) (c_law_net : PySem.W.codeIn K cd_law_net "_law_net" = true) (k_law_net : PySem.W.keepIn K (.ref f_law_net) = true)
    {f_law_hoard : Addr} {od_law_hoard an_law_hoard : Option Addr} {sl_law_hoard : Array (Option Value)} {oc_law_hoard kV_law_hoard dc_law_hoard pm_law_hoard cd_law_hoard ct_law_hoard : Value} (a_law_hoard : PySem.W.nsIn K mainGlobals "_law_hoard" = some (some (.ref f_law_hoard))) (l_law_hoard : K.lookup f_law_hoard = some ⟨oc_law_hoard, od_law_hoard, .func (PySem.W.fnOf "_law_hoard" "_law_hoard" (defArgs S_law_hoard) (defBody S_law_hoard) (defScope S_law_hoard) .none kV_law_hoard dc_law_hoard pm_law_hoard an_law_hoard cd_law_hoard ct_law_hoard), sl_law_hoard⟩) (c_law_hoard : PySem.W.codeIn K cd_law_hoard "_law_hoard" = true) (k_law_hoard : PySem.W.keepIn K (.ref f_law_hoard) = true)
    {f_need_hoard : Addr} {od_need_hoard an_need_hoard : Option Addr} {sl_need_hoard : Array (Option Value)} {oc_need_hoard kV_need_hoard dc_need_hoard pm_need_hoard cd_need_hoard ct_need_hoard : Value} (a_need_hoard : PySem.W.nsIn K mainGlobals "need_hoard" = some (some (.ref f_need_hoard))) (l_need_hoard : K.lookup f_need_hoard = some ⟨oc_need_hoard, od_need_hoard, .func (PySem.W.fnOf "need_hoard" "need_hoard" (defArgs S_need_hoard) (defBody S_need_hoard) (defScope S_need_hoard) .none kV_need_hoard dc_need_hoard pm_need_hoard an_need_hoard cd_need_hoard ct_need_hoard), sl_need_hoard⟩) (c_need_hoard : PySem.W.codeIn K cd_need_hoard "need_hoard" = true) (k_need_hoard : PySem.W.keepIn K (.ref f_need_hoard) = true)
    {f_need_move : Addr} {od_need_move an_need_move : Option Addr} {sl_need_move : Array (Option Value)} {oc_need_move kV_need_move dc_need_move pm_need_move cd_need_move ct_need_move : Value} (a_need_move : PySem.W.nsIn K mainGlobals "need_move" = some (some (.ref f_need_move))) (l_need_move : K.lookup f_need_move = some ⟨oc_need_move, od_need_move, .func (PySem.W.fnOf "need_move" "need_move" (defArgs S_need_move) (defBody S_need_move) (defScope S_need_move) .none kV_need_move dc_need_move pm_need_move an_need_move cd_need_move ct_need_move), sl_need_move⟩) (c_need_move : PySem.W.codeIn K cd_need_move "need_move" = true) (k_need_move : PySem.W.keepIn K (.ref f_need_move) = true)
    {f_over : Addr} {od_over an_over : Option Addr} {sl_over : Array (Option Value)} {oc_over kV_over dc_over pm_over cd_over ct_over : Value} (a_over : PySem.W.nsIn K mainGlobals "over" = some (some (.ref f_over))) (l_over : K.lookup f_over = some ⟨oc_over, od_over, .func (PySem.W.fnOf "over" "over" (defArgs S_over) (defBody S_over) (defScope S_over) .none kV_over dc_over pm_over an_over cd_over ct_over), sl_over⟩) (c_over : PySem.W.codeIn K cd_over "over" = true) (k_over : PySem.W.keepIn K (.ref f_over) = true)
    {f_can : Addr} {od_can an_can : Option Addr} {sl_can : Array (Option Value)} {oc_can kV_can dc_can pm_can cd_can ct_can : Value} (a_can : PySem.W.nsIn K mainGlobals "can" = some (some (.ref f_can))) (l_can : K.lookup f_can = some ⟨oc_can, od_can, .func (PySem.W.fnOf "can" "can" (defArgs S_can) (defBody S_can) (defScope S_can) .none kV_can dc_can pm_can an_can cd_can ct_can), sl_can⟩) (c_can : PySem.W.codeIn K cd_can "can" = true) (k_can : PySem.W.keepIn K (.ref f_can) = true)
    {f_need_run : Addr} {od_need_run an_need_run : Option Addr} {sl_need_run : Array (Option Value)} {oc_need_run kV_need_run dc_need_run pm_need_run cd_need_run ct_need_run : Value} (a_need_run : PySem.W.nsIn K mainGlobals "need_run" = some (some (.ref f_need_run))) (l_need_run : K.lookup f_need_run = some ⟨oc_need_run, od_need_run, .func (PySem.W.fnOf "need_run" "need_run" (defArgs S_need_run) (defBody S_need_run) (defScope S_need_run) .none kV_need_run dc_need_run pm_need_run an_need_run cd_need_run ct_need_run), sl_need_run⟩) (c_need_run : PySem.W.codeIn K cd_need_run "need_run" = true) (k_need_run : PySem.W.keepIn K (.ref f_need_run) = true)
    {f_behind : Addr} {od_behind an_behind : Option Addr} {sl_behind : Array (Option Value)} {oc_behind kV_behind dc_behind pm_behind cd_behind ct_behind : Value} (a_behind : PySem.W.nsIn K mainGlobals "behind" = some (some (.ref f_behind))) (l_behind : K.lookup f_behind = some ⟨oc_behind, od_behind, .func (PySem.W.fnOf "behind" "behind" (defArgs S_behind) (defBody S_behind) (defScope S_behind) .none kV_behind dc_behind pm_behind an_behind cd_behind ct_behind), sl_behind⟩) (c_behind : PySem.W.codeIn K cd_behind "behind" = true) (k_behind : PySem.W.keepIn K (.ref f_behind) = true)
    {f_least_before : Addr} {od_least_before an_least_before : Option Addr} {sl_least_before : Array (Option Value)} {oc_least_before kV_least_before dc_least_before pm_least_before cd_least_before ct_least_before : Value} (a_least_before : PySem.W.nsIn K mainGlobals "least_before" = some (some (.ref f_least_before))) (l_least_before : K.lookup f_least_before = some ⟨oc_least_before, od_least_before, .func (PySem.W.fnOf "least_before" "least_before" (defArgs S_least_before) (defBody S_least_before) (defScope S_least_before) .none kV_least_before dc_least_before pm_least_before an_least_before cd_least_before ct_least_before), sl_least_before⟩) (c_least_before : PySem.W.codeIn K cd_least_before "least_before" = true) (k_least_before : PySem.W.keepIn K (.ref f_least_before) = true)
    {f_sill : Addr} {od_sill an_sill : Option Addr} {sl_sill : Array (Option Value)} {oc_sill kV_sill dc_sill pm_sill cd_sill ct_sill : Value} (a_sill : PySem.W.nsIn K mainGlobals "sill" = some (some (.ref f_sill))) (l_sill : K.lookup f_sill = some ⟨oc_sill, od_sill, .func (PySem.W.fnOf "sill" "sill" (defArgs S_sill) (defBody S_sill) (defScope S_sill) .none kV_sill dc_sill pm_sill an_sill cd_sill ct_sill), sl_sill⟩) (c_sill : PySem.W.codeIn K cd_sill "sill" = true) (k_sill : PySem.W.keepIn K (.ref f_sill) = true)
    {f_cover : Addr} {od_cover an_cover : Option Addr} {sl_cover : Array (Option Value)} {oc_cover kV_cover dc_cover pm_cover cd_cover ct_cover : Value} (a_cover : PySem.W.nsIn K mainGlobals "cover" = some (some (.ref f_cover))) (l_cover : K.lookup f_cover = some ⟨oc_cover, od_cover, .func (PySem.W.fnOf "cover" "cover" (defArgs S_cover) (defBody S_cover) (defScope S_cover) .none kV_cover dc_cover pm_cover an_cover cd_cover ct_cover), sl_cover⟩) (c_cover : PySem.W.codeIn K cd_cover "cover" = true) (k_cover : PySem.W.keepIn K (.ref f_cover) = true)
    {f_need_place : Addr} {od_need_place an_need_place : Option Addr} {sl_need_place : Array (Option Value)} {oc_need_place kV_need_place dc_need_place pm_need_place cd_need_place ct_need_place : Value} (a_need_place : PySem.W.nsIn K mainGlobals "need_place" = some (some (.ref f_need_place))) (l_need_place : K.lookup f_need_place = some ⟨oc_need_place, od_need_place, .func (PySem.W.fnOf "need_place" "need_place" (defArgs S_need_place) (defBody S_need_place) (defScope S_need_place) .none kV_need_place dc_need_place pm_need_place an_need_place cd_need_place ct_need_place), sl_need_place⟩) (c_need_place : PySem.W.codeIn K cd_need_place "need_place" = true) (k_need_place : PySem.W.keepIn K (.ref f_need_place) = true)
    {f_need_places : Addr} {od_need_places an_need_places : Option Addr} {sl_need_places : Array (Option Value)} {oc_need_places kV_need_places dc_need_places pm_need_places cd_need_places ct_need_places : Value} (a_need_places : PySem.W.nsIn K mainGlobals "need_places" = some (some (.ref f_need_places))) (l_need_places : K.lookup f_need_places = some ⟨oc_need_places, od_need_places, .func (PySem.W.fnOf "need_places" "need_places" (defArgs S_need_places) (defBody S_need_places) (defScope S_need_places) .none kV_need_places dc_need_places pm_need_places an_need_places cd_need_places ct_need_places), sl_need_places⟩) (c_need_places : PySem.W.codeIn K cd_need_places "need_places" = true) (k_need_places : PySem.W.keepIn K (.ref f_need_places) = true)
    {f_together : Addr} {od_together an_together : Option Addr} {sl_together : Array (Option Value)} {oc_together kV_together dc_together pm_together cd_together ct_together : Value} (a_together : PySem.W.nsIn K mainGlobals "together" = some (some (.ref f_together))) (l_together : K.lookup f_together = some ⟨oc_together, od_together, .func (PySem.W.fnOf "together" "together" (defArgs S_together) (defBody S_together) (defScope S_together) .none kV_together dc_together pm_together an_together cd_together ct_together), sl_together⟩) (c_together : PySem.W.codeIn K cd_together "together" = true) (k_together : PySem.W.keepIn K (.ref f_together) = true)
    {f_all_of : Addr} {od_all_of an_all_of : Option Addr} {sl_all_of : Array (Option Value)} {oc_all_of kV_all_of dc_all_of pm_all_of cd_all_of ct_all_of : Value} (a_all_of : PySem.W.nsIn K mainGlobals "all_of" = some (some (.ref f_all_of))) (l_all_of : K.lookup f_all_of = some ⟨oc_all_of, od_all_of, .func (PySem.W.fnOf "all_of" "all_of" (defArgs S_all_of) (defBody S_all_of) (defScope S_all_of) .none kV_all_of dc_all_of pm_all_of an_all_of cd_all_of ct_all_of), sl_all_of⟩) (c_all_of : PySem.W.codeIn K cd_all_of "all_of" = true) (k_all_of : PySem.W.keepIn K (.ref f_all_of) = true)
    {f_how_far : Addr} {od_how_far an_how_far : Option Addr} {sl_how_far : Array (Option Value)} {oc_how_far kV_how_far dc_how_far pm_how_far cd_how_far ct_how_far : Value} (a_how_far : PySem.W.nsIn K mainGlobals "how_far" = some (some (.ref f_how_far))) (l_how_far : K.lookup f_how_far = some ⟨oc_how_far, od_how_far, .func (PySem.W.fnOf "how_far" "how_far" (defArgs S_how_far) (defBody S_how_far) (defScope S_how_far) .none kV_how_far dc_how_far pm_how_far an_how_far cd_how_far ct_how_far), sl_how_far⟩) (c_how_far : PySem.W.codeIn K cd_how_far "how_far" = true) (k_how_far : PySem.W.keepIn K (.ref f_how_far) = true)
    {f_run_to : Addr} {od_run_to an_run_to : Option Addr} {sl_run_to : Array (Option Value)} {oc_run_to kV_run_to dc_run_to pm_run_to cd_run_to ct_run_to : Value} (a_run_to : PySem.W.nsIn K mainGlobals "run_to" = some (some (.ref f_run_to))) (l_run_to : K.lookup f_run_to = some ⟨oc_run_to, od_run_to, .func (PySem.W.fnOf "run_to" "run_to" (defArgs S_run_to) (defBody S_run_to) (defScope S_run_to) .none kV_run_to dc_run_to pm_run_to an_run_to cd_run_to ct_run_to), sl_run_to⟩) (c_run_to : PySem.W.codeIn K cd_run_to "run_to" = true) (k_run_to : PySem.W.keepIn K (.ref f_run_to) = true)
    {f_stuck_hoards : Addr} {od_stuck_hoards an_stuck_hoards : Option Addr} {sl_stuck_hoards : Array (Option Value)} {oc_stuck_hoards kV_stuck_hoards dc_stuck_hoards pm_stuck_hoards cd_stuck_hoards ct_stuck_hoards : Value} (a_stuck_hoards : PySem.W.nsIn K mainGlobals "stuck_hoards" = some (some (.ref f_stuck_hoards))) (l_stuck_hoards : K.lookup f_stuck_hoards = some ⟨oc_stuck_hoards, od_stuck_hoards, .func (PySem.W.fnOf "stuck_hoards" "stuck_hoards" (defArgs S_stuck_hoards) (defBody S_stuck_hoards) (defScope S_stuck_hoards) .none kV_stuck_hoards dc_stuck_hoards pm_stuck_hoards an_stuck_hoards cd_stuck_hoards ct_stuck_hoards), sl_stuck_hoards⟩) (c_stuck_hoards : PySem.W.codeIn K cd_stuck_hoards "stuck_hoards" = true) (k_stuck_hoards : PySem.W.keepIn K (.ref f_stuck_hoards) = true)
    {f_law_with_hoard : Addr} {od_law_with_hoard an_law_with_hoard : Option Addr} {sl_law_with_hoard : Array (Option Value)} {oc_law_with_hoard kV_law_with_hoard dc_law_with_hoard pm_law_with_hoard cd_law_with_hoard ct_law_with_hoard : Value} (a_law_with_hoard : PySem.W.nsIn K mainGlobals "_law_with_hoard" = some (some (.ref f_law_with_hoard))) (l_law_with_hoard : K.lookup f_law_with_hoard = some ⟨oc_law_with_hoard, od_law_with_hoard, .func (PySem.W.fnOf "_law_with_hoard" "_law_with_hoard" (defArgs S_law_with_hoard) (defBody S_law_with_hoard) (defScope S_law_with_hoard) .none kV_law_with_hoard dc_law_with_hoard pm_law_with_hoard an_law_with_hoard cd_law_with_hoard ct_law_with_hoard), sl_law_with_hoard⟩) (c_law_with_hoard : PySem.W.codeIn K cd_law_with_hoard "_law_with_hoard" = true) (k_law_with_hoard : PySem.W.keepIn K (.ref f_law_with_hoard) = true)
    {f_law_with_move : Addr} {od_law_with_move an_law_with_move : Option Addr} {sl_law_with_move : Array (Option Value)} {oc_law_with_move kV_law_with_move dc_law_with_move pm_law_with_move cd_law_with_move ct_law_with_move : Value} (a_law_with_move : PySem.W.nsIn K mainGlobals "_law_with_move" = some (some (.ref f_law_with_move))) (l_law_with_move : K.lookup f_law_with_move = some ⟨oc_law_with_move, od_law_with_move, .func (PySem.W.fnOf "_law_with_move" "_law_with_move" (defArgs S_law_with_move) (defBody S_law_with_move) (defScope S_law_with_move) .none kV_law_with_move dc_law_with_move pm_law_with_move an_law_with_move cd_law_with_move ct_law_with_move), sl_law_with_move⟩) (c_law_with_move : PySem.W.codeIn K cd_law_with_move "_law_with_move" = true) (k_law_with_move : PySem.W.keepIn K (.ref f_law_with_move) = true)
    {f_without_place : Addr} {od_without_place an_without_place : Option Addr} {sl_without_place : Array (Option Value)} {oc_without_place kV_without_place dc_without_place pm_without_place cd_without_place ct_without_place : Value} (a_without_place : PySem.W.nsIn K mainGlobals "without_place" = some (some (.ref f_without_place))) (l_without_place : K.lookup f_without_place = some ⟨oc_without_place, od_without_place, .func (PySem.W.fnOf "without_place" "without_place" (defArgs S_without_place) (defBody S_without_place) (defScope S_without_place) .none kV_without_place dc_without_place pm_without_place an_without_place cd_without_place ct_without_place), sl_without_place⟩) (c_without_place : PySem.W.codeIn K cd_without_place "without_place" = true) (k_without_place : PySem.W.keepIn K (.ref f_without_place) = true)
    {f_told_places : Addr} {od_told_places an_told_places : Option Addr} {sl_told_places : Array (Option Value)} {oc_told_places kV_told_places dc_told_places pm_told_places cd_told_places ct_told_places : Value} (a_told_places : PySem.W.nsIn K mainGlobals "told_places" = some (some (.ref f_told_places))) (l_told_places : K.lookup f_told_places = some ⟨oc_told_places, od_told_places, .func (PySem.W.fnOf "told_places" "told_places" (defArgs S_told_places) (defBody S_told_places) (defScope S_told_places) .none kV_told_places dc_told_places pm_told_places an_told_places cd_told_places ct_told_places), sl_told_places⟩) (c_told_places : PySem.W.codeIn K cd_told_places "told_places" = true) (k_told_places : PySem.W.keepIn K (.ref f_told_places) = true)
    {f_greatest_sink : Addr} {od_greatest_sink an_greatest_sink : Option Addr} {sl_greatest_sink : Array (Option Value)} {oc_greatest_sink kV_greatest_sink dc_greatest_sink pm_greatest_sink cd_greatest_sink ct_greatest_sink : Value} (a_greatest_sink : PySem.W.nsIn K mainGlobals "greatest_sink" = some (some (.ref f_greatest_sink))) (l_greatest_sink : K.lookup f_greatest_sink = some ⟨oc_greatest_sink, od_greatest_sink, .func (PySem.W.fnOf "greatest_sink" "greatest_sink" (defArgs S_greatest_sink) (defBody S_greatest_sink) (defScope S_greatest_sink) .none kV_greatest_sink dc_greatest_sink pm_greatest_sink an_greatest_sink cd_greatest_sink ct_greatest_sink), sl_greatest_sink⟩) (c_greatest_sink : PySem.W.codeIn K cd_greatest_sink "greatest_sink" = true) (k_greatest_sink : PySem.W.keepIn K (.ref f_greatest_sink) = true)
    {f_is_sink : Addr} {od_is_sink an_is_sink : Option Addr} {sl_is_sink : Array (Option Value)} {oc_is_sink kV_is_sink dc_is_sink pm_is_sink cd_is_sink ct_is_sink : Value} (a_is_sink : PySem.W.nsIn K mainGlobals "is_sink" = some (some (.ref f_is_sink))) (l_is_sink : K.lookup f_is_sink = some ⟨oc_is_sink, od_is_sink, .func (PySem.W.fnOf "is_sink" "is_sink" (defArgs S_is_sink) (defBody S_is_sink) (defScope S_is_sink) .none kV_is_sink dc_is_sink pm_is_sink an_is_sink cd_is_sink ct_is_sink), sl_is_sink⟩) (c_is_sink : PySem.W.codeIn K cd_is_sink "is_sink" = true) (k_is_sink : PySem.W.keepIn K (.ref f_is_sink) = true)
    {f_turned : Addr} {od_turned an_turned : Option Addr} {sl_turned : Array (Option Value)} {oc_turned kV_turned dc_turned pm_turned cd_turned ct_turned : Value} (a_turned : PySem.W.nsIn K mainGlobals "turned" = some (some (.ref f_turned))) (l_turned : K.lookup f_turned = some ⟨oc_turned, od_turned, .func (PySem.W.fnOf "turned" "turned" (defArgs S_turned) (defBody S_turned) (defScope S_turned) .none kV_turned dc_turned pm_turned an_turned cd_turned ct_turned), sl_turned⟩) (c_turned : PySem.W.codeIn K cd_turned "turned" = true) (k_turned : PySem.W.keepIn K (.ref f_turned) = true)
    {f_greatest_trap : Addr} {od_greatest_trap an_greatest_trap : Option Addr} {sl_greatest_trap : Array (Option Value)} {oc_greatest_trap kV_greatest_trap dc_greatest_trap pm_greatest_trap cd_greatest_trap ct_greatest_trap : Value} (a_greatest_trap : PySem.W.nsIn K mainGlobals "greatest_trap" = some (some (.ref f_greatest_trap))) (l_greatest_trap : K.lookup f_greatest_trap = some ⟨oc_greatest_trap, od_greatest_trap, .func (PySem.W.fnOf "greatest_trap" "greatest_trap" (defArgs S_greatest_trap) (defBody S_greatest_trap) (defScope S_greatest_trap) .none kV_greatest_trap dc_greatest_trap pm_greatest_trap an_greatest_trap cd_greatest_trap ct_greatest_trap), sl_greatest_trap⟩) (c_greatest_trap : PySem.W.codeIn K cd_greatest_trap "greatest_trap" = true) (k_greatest_trap : PySem.W.keepIn K (.ref f_greatest_trap) = true)
    {f_is_trap : Addr} {od_is_trap an_is_trap : Option Addr} {sl_is_trap : Array (Option Value)} {oc_is_trap kV_is_trap dc_is_trap pm_is_trap cd_is_trap ct_is_trap : Value} (a_is_trap : PySem.W.nsIn K mainGlobals "is_trap" = some (some (.ref f_is_trap))) (l_is_trap : K.lookup f_is_trap = some ⟨oc_is_trap, od_is_trap, .func (PySem.W.fnOf "is_trap" "is_trap" (defArgs S_is_trap) (defBody S_is_trap) (defScope S_is_trap) .none kV_is_trap dc_is_trap pm_is_trap an_is_trap cd_is_trap ct_is_trap), sl_is_trap⟩) (c_is_trap : PySem.W.codeIn K cd_is_trap "is_trap" = true) (k_is_trap : PySem.W.keepIn K (.ref f_is_trap) = true)
    {f_law_with_place : Addr} {od_law_with_place an_law_with_place : Option Addr} {sl_law_with_place : Array (Option Value)} {oc_law_with_place kV_law_with_place dc_law_with_place pm_law_with_place cd_law_with_place ct_law_with_place : Value} (a_law_with_place : PySem.W.nsIn K mainGlobals "_law_with_place" = some (some (.ref f_law_with_place))) (l_law_with_place : K.lookup f_law_with_place = some ⟨oc_law_with_place, od_law_with_place, .func (PySem.W.fnOf "_law_with_place" "_law_with_place" (defArgs S_law_with_place) (defBody S_law_with_place) (defScope S_law_with_place) .none kV_law_with_place dc_law_with_place pm_law_with_place an_law_with_place cd_law_with_place ct_law_with_place), sl_law_with_place⟩) (c_law_with_place : PySem.W.codeIn K cd_law_with_place "_law_with_place" = true) (k_law_with_place : PySem.W.keepIn K (.ref f_law_with_place) = true)
    {f_law_with_places : Addr} {od_law_with_places an_law_with_places : Option Addr} {sl_law_with_places : Array (Option Value)} {oc_law_with_places kV_law_with_places dc_law_with_places pm_law_with_places cd_law_with_places ct_law_with_places : Value} (a_law_with_places : PySem.W.nsIn K mainGlobals "_law_with_places" = some (some (.ref f_law_with_places))) (l_law_with_places : K.lookup f_law_with_places = some ⟨oc_law_with_places, od_law_with_places, .func (PySem.W.fnOf "_law_with_places" "_law_with_places" (defArgs S_law_with_places) (defBody S_law_with_places) (defScope S_law_with_places) .none kV_law_with_places dc_law_with_places pm_law_with_places an_law_with_places cd_law_with_places ct_law_with_places), sl_law_with_places⟩) (c_law_with_places : PySem.W.codeIn K cd_law_with_places "_law_with_places" = true) (k_law_with_places : PySem.W.keepIn K (.ref f_law_with_places) = true)
    {f_law_with_two : Addr} {od_law_with_two an_law_with_two : Option Addr} {sl_law_with_two : Array (Option Value)} {oc_law_with_two kV_law_with_two dc_law_with_two pm_law_with_two cd_law_with_two ct_law_with_two : Value} (a_law_with_two : PySem.W.nsIn K mainGlobals "_law_with_two" = some (some (.ref f_law_with_two))) (l_law_with_two : K.lookup f_law_with_two = some ⟨oc_law_with_two, od_law_with_two, .func (PySem.W.fnOf "_law_with_two" "_law_with_two" (defArgs S_law_with_two) (defBody S_law_with_two) (defScope S_law_with_two) .none kV_law_with_two dc_law_with_two pm_law_with_two an_law_with_two cd_law_with_two ct_law_with_two), sl_law_with_two⟩) (c_law_with_two : PySem.W.codeIn K cd_law_with_two "_law_with_two" = true) (k_law_with_two : PySem.W.keepIn K (.ref f_law_with_two) = true)
    {f_law_asked : Addr} {od_law_asked an_law_asked : Option Addr} {sl_law_asked : Array (Option Value)} {oc_law_asked kV_law_asked dc_law_asked pm_law_asked cd_law_asked ct_law_asked : Value} (a_law_asked : PySem.W.nsIn K mainGlobals "_law_asked" = some (some (.ref f_law_asked))) (l_law_asked : K.lookup f_law_asked = some ⟨oc_law_asked, od_law_asked, .func (PySem.W.fnOf "_law_asked" "_law_asked" (defArgs S_law_asked) (defBody S_law_asked) (defScope S_law_asked) .none kV_law_asked dc_law_asked pm_law_asked an_law_asked cd_law_asked ct_law_asked), sl_law_asked⟩) (c_law_asked : PySem.W.codeIn K cd_law_asked "_law_asked" = true) (k_law_asked : PySem.W.keepIn K (.ref f_law_asked) = true)
    {f_law_kind : Addr} {od_law_kind an_law_kind : Option Addr} {sl_law_kind : Array (Option Value)} {oc_law_kind kV_law_kind dc_law_kind pm_law_kind cd_law_kind ct_law_kind : Value} (a_law_kind : PySem.W.nsIn K mainGlobals "_law_kind" = some (some (.ref f_law_kind))) (l_law_kind : K.lookup f_law_kind = some ⟨oc_law_kind, od_law_kind, .func (PySem.W.fnOf "_law_kind" "_law_kind" (defArgs S_law_kind) (defBody S_law_kind) (defScope S_law_kind) .none kV_law_kind dc_law_kind pm_law_kind an_law_kind cd_law_kind ct_law_kind), sl_law_kind⟩) (c_law_kind : PySem.W.codeIn K cd_law_kind "_law_kind" = true) (k_law_kind : PySem.W.keepIn K (.ref f_law_kind) = true)
    {f_law_bad_hoard : Addr} {od_law_bad_hoard an_law_bad_hoard : Option Addr} {sl_law_bad_hoard : Array (Option Value)} {oc_law_bad_hoard kV_law_bad_hoard dc_law_bad_hoard pm_law_bad_hoard cd_law_bad_hoard ct_law_bad_hoard : Value} (a_law_bad_hoard : PySem.W.nsIn K mainGlobals "_law_bad_hoard" = some (some (.ref f_law_bad_hoard))) (l_law_bad_hoard : K.lookup f_law_bad_hoard = some ⟨oc_law_bad_hoard, od_law_bad_hoard, .func (PySem.W.fnOf "_law_bad_hoard" "_law_bad_hoard" (defArgs S_law_bad_hoard) (defBody S_law_bad_hoard) (defScope S_law_bad_hoard) .none kV_law_bad_hoard dc_law_bad_hoard pm_law_bad_hoard an_law_bad_hoard cd_law_bad_hoard ct_law_bad_hoard), sl_law_bad_hoard⟩) (c_law_bad_hoard : PySem.W.codeIn K cd_law_bad_hoard "_law_bad_hoard" = true) (k_law_bad_hoard : PySem.W.keepIn K (.ref f_law_bad_hoard) = true)
    {f_law : Addr} {od_law an_law : Option Addr} {sl_law : Array (Option Value)} {oc_law kV_law dc_law pm_law cd_law ct_law : Value} (a_law : PySem.W.nsIn K mainGlobals "law" = some (some (.ref f_law))) (l_law : K.lookup f_law = some ⟨oc_law, od_law, .func (PySem.W.fnOf "law" "law" (defArgs S_law) (defBody S_law) (defScope S_law) .none kV_law dc_law pm_law an_law cd_law ct_law), sl_law⟩) (c_law : PySem.W.codeIn K cd_law "law" = true) (k_law : PySem.W.keepIn K (.ref f_law) = true) :
    ∃ fd : FuncData, (∀ (s : Shared) (v : Value), BindsTo s fd ⟨[v], []⟩ [("_law_script", v)]) ∧ ∀ base : Heap, K.In base → base.Ns mainGlobals mg → FnOk l.prog w K mg base (CX1 l.prog w) 12 fa fd ["_law_script"] (spX K mg M_law) := by
  have e := hfa.symm.trans (PySem.W.mg_of X G a_law)
  cases e
  have T : Top K mg := top_mk X G z_ValueError z_bool z_int z_isinstance z_len z_list z_max z_range z_sum z_tuple z_zip y_MOST_PLACES y_MOST_MOVES y_MOST_TOKENS q_Endless q_NoHoard q_NoMove q_NoNet q_NoPlace q_NoText q_Stuck q_TokenError q_TooBig e_NoHoard e_NoMove e_NoNet e_NoPlace s_TokenError_TokenError s_NoNet_TokenError s_NoHoard_TokenError s_NoMove_TokenError s_NoPlace_TokenError s_Endless_TokenError s_TooBig_TokenError s_NoText_TokenError s_Stuck_TokenError cg ct u1_NoHoard u2_NoHoard u3_NoHoard u4_NoHoard u5_NoHoard u6_NoHoard u1_NoMove u2_NoMove u3_NoMove u4_NoMove u5_NoMove u6_NoMove u1_NoNet u2_NoNet u3_NoNet u4_NoNet u5_NoNet u6_NoNet u1_NoPlace u2_NoPlace u3_NoPlace u4_NoPlace u5_NoPlace u6_NoPlace jy_NoHoard_Endless jy_NoMove_Endless jy_NoNet_Endless jy_NoPlace_Endless jy_NoHoard_NoHoard jy_NoMove_NoHoard jy_NoNet_NoHoard jy_NoPlace_NoHoard jy_NoHoard_NoMove jy_NoMove_NoMove jy_NoNet_NoMove jy_NoPlace_NoMove jy_NoHoard_NoNet jy_NoMove_NoNet jy_NoNet_NoNet jy_NoPlace_NoNet jy_NoHoard_NoPlace jy_NoMove_NoPlace jy_NoNet_NoPlace jy_NoPlace_NoPlace jy_NoHoard_NoText jy_NoMove_NoText jy_NoNet_NoText jy_NoPlace_NoText jy_NoHoard_Stuck jy_NoMove_Stuck jy_NoNet_Stuck jy_NoPlace_Stuck jy_NoHoard_TooBig jy_NoMove_TooBig jy_NoNet_TooBig jy_NoPlace_TooBig j_TokenError_ValueError j_NoNet_ValueError j_NoHoard_ValueError j_NoMove_ValueError j_NoPlace_ValueError j_Endless_ValueError j_TooBig_ValueError j_NoText_ValueError j_Stuck_ValueError a_is_whole l_is_whole c_is_whole k_is_whole a_is_row l_is_row c_is_row k_is_row a_is_move l_is_move c_is_move k_is_move a_is_net l_is_net c_is_net k_is_net a_checked l_checked c_checked k_checked a_is_hoard l_is_hoard c_is_hoard k_is_hoard a_law_cell_at l_law_cell_at c_law_cell_at k_law_cell_at a_law_mixed l_law_mixed c_law_mixed k_law_mixed a_law_move l_law_move c_law_move k_law_move a_law_net l_law_net c_law_net k_law_net a_law_hoard l_law_hoard c_law_hoard k_law_hoard a_need_hoard l_need_hoard c_need_hoard k_need_hoard a_need_move l_need_move c_need_move k_need_move a_over l_over c_over k_over a_can l_can c_can k_can a_need_run l_need_run c_need_run k_need_run a_behind l_behind c_behind k_behind a_least_before l_least_before c_least_before k_least_before a_sill l_sill c_sill k_sill a_cover l_cover c_cover k_cover a_need_place l_need_place c_need_place k_need_place a_need_places l_need_places c_need_places k_need_places a_together l_together c_together k_together a_all_of l_all_of c_all_of k_all_of a_how_far l_how_far c_how_far k_how_far a_run_to l_run_to c_run_to k_run_to a_stuck_hoards l_stuck_hoards c_stuck_hoards k_stuck_hoards a_law_with_hoard l_law_with_hoard c_law_with_hoard k_law_with_hoard a_law_with_move l_law_with_move c_law_with_move k_law_with_move a_without_place l_without_place c_without_place k_without_place a_told_places l_told_places c_told_places k_told_places a_greatest_sink l_greatest_sink c_greatest_sink k_greatest_sink a_is_sink l_is_sink c_is_sink k_is_sink a_turned l_turned c_turned k_turned a_greatest_trap l_greatest_trap c_greatest_trap k_greatest_trap a_is_trap l_is_trap c_is_trap k_is_trap a_law_with_place l_law_with_place c_law_with_place k_law_with_place a_law_with_places l_law_with_places c_law_with_places k_law_with_places a_law_with_two l_law_with_two c_law_with_two k_law_with_two a_law_asked l_law_asked c_law_asked k_law_asked a_law_kind l_law_kind c_law_kind k_law_kind a_law_bad_hoard l_law_bad_hoard c_law_bad_hoard k_law_bad_hoard a_law l_law c_law k_law
  exact ⟨PySem.W.fnOf "law" "law" (defArgs S_law) (defBody S_law) (defScope S_law) .none kV_law dc_law pm_law an_law cd_law ct_law, fun s v => .of_eq rfl, fun base _ _ => fn_law T (fun_mk (st := S_law) l_law c_law k_law)⟩
end Tw
open PySem PySem.W PyProof.Rows
def PySem.W.Fast.tw345484114905774341 : Unit := ()
def PySem.W.Fast.tw14944174603673880003 : Unit := ()
def PySem.W.Fast.tw8337165906712999554 : Unit := ()
def PySem.W.Fast.tw18017979509729663672 : Unit := ()
def PySem.W.Fast.tw11445895795973014709 : Unit := ()
def PySem.W.Fast.tw12074824116577860764 : Unit := ()
def PySem.W.Fast.tw16810336218729517763 : Unit := ()
def PySem.W.Fast.tw14681548883879329796 : Unit := ()
def PySem.W.Fast.tw8377425096772091225 : Unit := ()
def PySem.W.Fast.tw1473685108365096045 : Unit := ()
def PySem.W.Fast.tw16258957397498701495 : Unit := ()
def PySem.W.Fast.tw6658853057367309155 : Unit := ()
def PySem.W.Fast.tw15071706272280701271 : Unit := ()
def PySem.W.Fast.tw6091819174899723988 : Unit := ()
def PySem.W.Fast.tw4547216960414901917 : Unit := ()
def PySem.W.Fast.tw12600797712686468746 : Unit := ()
def PySem.W.Fast.tw3769487543564702716 : Unit := ()
def PySem.W.Fast.tw15802397000542779535 : Unit := ()
def PySem.W.Fast.tw13142090587684865151 : Unit := ()
def PySem.W.Fast.tw2862823229703702379 : Unit := ()
def PySem.W.Fast.tw14159143059034926757 : Unit := ()
def PySem.W.Fast.tw13911847006510052878 : Unit := ()
def PySem.W.Fast.tw15680099589798713307 : Unit := ()
def PySem.W.Fast.tw10079830850781482677 : Unit := ()
def PySem.W.Fast.tw18049416820488382651 : Unit := ()
def PySem.W.Fast.tw7529415702538592784 : Unit := ()
def PySem.W.Fast.tw4795600864350687330 : Unit := ()
def PySem.W.Fast.tw1788594353556712833 : Unit := ()
def PySem.W.Fast.tw14794023321752649611 : Unit := ()
def PySem.W.Fast.tw17490166495297581429 : Unit := ()
def PySem.W.Fast.tw8690655951978263348 : Unit := ()
def PySem.W.Fast.tw17349125291230596339 : Unit := ()
def PySem.W.Fast.tw6279871188513318806 : Unit := ()
def PySem.W.Fast.tw85412272699844774 : Unit := ()
def PySem.W.Fast.tw18269774643190290628 : Unit := ()
def PySem.W.Fast.tw1758873868138918214 : Unit := ()
def PySem.W.Fast.tw2802342223147962392 : Unit := ()
def PySem.W.Fast.tw6741827103583055657 : Unit := ()
def PySem.W.Fast.tw14637929947504150811 : Unit := ()
def PySem.W.Fast.tw17183238330998138934 : Unit := ()
def PySem.W.Fast.tw13825215579460380551 : Unit := ()
def PySem.W.Fast.tw221884719742377238 : Unit := ()
def PySem.W.Fast.tw16489099190001890857 : Unit := ()
def PySem.W.Fast.tw4139642314603745332 : Unit := ()
def PySem.W.Fast.tw11431095333635418627 : Unit := ()
def PySem.W.Fast.tw3851215311088134200 : Unit := ()
def PySem.W.Fast.tw4470266108611866491 : Unit := ()
def PySem.W.Fast.tw13803748051535549819 : Unit := ()
def PySem.W.Fast.tw9616747100387146926 : Unit := ()
def PySem.W.Fast.tw14808976348083272879 : Unit := ()
def PySem.W.Fast.tw14996261284568723770 : Unit := ()
def PySem.W.Fast.tw7343827944759713842 : Unit := ()
def PySem.W.Fast.tw15689705041973080297 : Unit := ()
def PySem.W.Fast.tw6697493013034967381 : Unit := ()
def PySem.W.Fast.tw7382664988463079628 : Unit := ()
def PySem.W.Fast.tw3889346041682822208 : Unit := ()
def PySem.W.Fast.tw15187409827019299618 : Unit := ()
def PySem.W.Fast.tw9242094500003248322 : Unit := ()
def PySem.W.Fast.tw17535692322086670539 : Unit := ()
def PySem.W.Fast.tw7888716836081291795 : Unit := ()
def PySem.W.Fast.tw1969412313442802886 : Unit := ()
def PySem.W.Fast.tw4523212664865335341 : Unit := ()
def PySem.W.Fast.tw8653197233214631148 : Unit := ()
def PySem.W.Fast.tw368641965630539007 : Unit := ()
def PySem.W.Fast.tw1935678811903229945 : Unit := ()
def PySem.W.Fast.tw5018651849838013957 : Unit := ()
def PySem.W.Fast.tw9474510960917848248 : Unit := ()
def PySem.W.Fast.tw206427857477482125 : Unit := ()
def PySem.W.Fast.tw9934989223331212714 : Unit := ()
def PySem.W.Fast.tw2450282174662676874 : Unit := ()
def PySem.W.Fast.tw4300019664616250977 : Unit := ()
def PySem.W.Fast.tw17110199476224511053 : Unit := ()
def PySem.W.Fast.tw9115383496591903495 : Unit := ()
def PySem.W.Fast.tw10706368686327965523 : Unit := ()
def PySem.W.Fast.tw17725840983897368286 : Unit := ()
def PySem.W.Fast.tw4858027589991897344 : Unit := ()
def PySem.W.Fast.tw7349648575257283973 : Unit := ()
def PySem.W.Fast.tw8756820060964637503 : Unit := ()
def PySem.W.Fast.tw1337220874647836274 : Unit := ()
def PySem.W.Fast.tw5472340363594043078 : Unit := ()
def PySem.W.Fast.tw5925545266848799488 : Unit := ()
def PySem.W.Fast.tw2683552578307041435 : Unit := ()
def PySem.W.Fast.tw11718362651445734567 : Unit := ()
def PySem.W.Fast.tw6011891448357769523 : Unit := ()
def PySem.W.Fast.tw1698315419315787663 : Unit := ()
def PySem.W.Fast.tw3048802549886687215 : Unit := ()
def PySem.W.Fast.tw1738597112342523965 : Unit := ()
def PySem.W.Fast.tw2652041957716976861 : Unit := ()
def PySem.W.Fast.tw1127968867651714722 : Unit := ()
def PySem.W.Fast.tw15904995371269089834 : Unit := ()
def PySem.W.Fast.tw12526893241698844818 : Unit := ()
def PySem.W.Fast.tw14605659075070409613 : Unit := ()
def PySem.W.Fast.tw5010269349324877350 : Unit := ()
def PySem.W.Fast.tw14854368153534645121 : Unit := ()
def PySem.W.Fast.tw13738187152569955206 : Unit := ()
def PySem.W.Fast.tw14201793452304238603 : Unit := ()
def PySem.W.Fast.tw10160105828422635702 : Unit := ()
def PySem.W.Fast.tw2234708949683832467 : Unit := ()
def PySem.W.Fast.tw2993451401738075218 : Unit := ()
def PySem.W.Fast.tw9788702510366611460 : Unit := ()
def PySem.W.Fast.tw18251632236915518469 : Unit := ()
def PySem.W.Fast.tw13989810140306660407 : Unit := ()
set_option maxRecDepth 100000 in
set_option maxHeartbeats 0 in
theorem PySem.Challenge.cw_tokenwall_k03_nets_refused_holds : PySem.Challenge.rw_tokenwall_k03_nets_refused.Holds := by
  w_on; o_law; k_head; (case hw => w_witness2)
  k_fill
  refine L2.walk_ofM (l := PySem.Challenge.rw_tokenwall_k03_nets_refused) (n := 63) (k := 12) (x := "_law_script") (M := Tw.M_law) rfl (by decide) rfl ⟨rfl, by decide, by decide⟩ (fun w h Y => PySem.W.kIn_of Y) ?F (fun ns hl => Tw.law_ok)
  case F =>
    intro w mg fa h KX G hmg
    refine' Tw.all_mk KX G hmg ?z_ValueError ?z_bool ?z_int ?z_isinstance ?z_len ?z_list ?z_max ?z_range ?z_sum ?z_tuple ?z_zip ?y_MOST_PLACES ?y_MOST_MOVES ?y_MOST_TOKENS ?q_Endless ?q_NoHoard ?q_NoMove ?q_NoNet ?q_NoPlace ?q_NoText ?q_Stuck ?q_TokenError ?q_TooBig ?e_NoHoard ?e_NoMove ?e_NoNet ?e_NoPlace ?s_TokenError_TokenError ?s_NoNet_TokenError ?s_NoHoard_TokenError ?s_NoMove_TokenError ?s_NoPlace_TokenError ?s_Endless_TokenError ?s_TooBig_TokenError ?s_NoText_TokenError ?s_Stuck_TokenError ?cg ?ct ?u1_NoHoard ?u2_NoHoard ?u3_NoHoard ?u4_NoHoard ?u5_NoHoard ?u6_NoHoard ?u1_NoMove ?u2_NoMove ?u3_NoMove ?u4_NoMove ?u5_NoMove ?u6_NoMove ?u1_NoNet ?u2_NoNet ?u3_NoNet ?u4_NoNet ?u5_NoNet ?u6_NoNet ?u1_NoPlace ?u2_NoPlace ?u3_NoPlace ?u4_NoPlace ?u5_NoPlace ?u6_NoPlace ?jy_NoHoard_Endless ?jy_NoMove_Endless ?jy_NoNet_Endless ?jy_NoPlace_Endless ?jy_NoHoard_NoHoard ?jy_NoMove_NoHoard ?jy_NoNet_NoHoard ?jy_NoPlace_NoHoard ?jy_NoHoard_NoMove ?jy_NoMove_NoMove ?jy_NoNet_NoMove ?jy_NoPlace_NoMove ?jy_NoHoard_NoNet ?jy_NoMove_NoNet ?jy_NoNet_NoNet ?jy_NoPlace_NoNet ?jy_NoHoard_NoPlace ?jy_NoMove_NoPlace ?jy_NoNet_NoPlace ?jy_NoPlace_NoPlace ?jy_NoHoard_NoText ?jy_NoMove_NoText ?jy_NoNet_NoText ?jy_NoPlace_NoText ?jy_NoHoard_Stuck ?jy_NoMove_Stuck ?jy_NoNet_Stuck ?jy_NoPlace_Stuck ?jy_NoHoard_TooBig ?jy_NoMove_TooBig ?jy_NoNet_TooBig ?jy_NoPlace_TooBig ?j_TokenError_ValueError ?j_NoNet_ValueError ?j_NoHoard_ValueError ?j_NoMove_ValueError ?j_NoPlace_ValueError ?j_Endless_ValueError ?j_TooBig_ValueError ?j_NoText_ValueError ?j_Stuck_ValueError ?a_is_whole ?l_is_whole ?c_is_whole ?k_is_whole ?a_is_row ?l_is_row ?c_is_row ?k_is_row ?a_is_move ?l_is_move ?c_is_move ?k_is_move ?a_is_net ?l_is_net ?c_is_net ?k_is_net ?a_checked ?l_checked ?c_checked ?k_checked ?a_is_hoard ?l_is_hoard ?c_is_hoard ?k_is_hoard ?a_law_cell_at ?l_law_cell_at ?c_law_cell_at ?k_law_cell_at ?a_law_mixed ?l_law_mixed ?c_law_mixed ?k_law_mixed ?a_law_move ?l_law_move ?c_law_move ?k_law_move ?a_law_net ?l_law_net ?c_law_net ?k_law_net ?a_law_hoard ?l_law_hoard ?c_law_hoard ?k_law_hoard ?a_need_hoard ?l_need_hoard ?c_need_hoard ?k_need_hoard ?a_need_move ?l_need_move ?c_need_move ?k_need_move ?a_over ?l_over ?c_over ?k_over ?a_can ?l_can ?c_can ?k_can ?a_need_run ?l_need_run ?c_need_run ?k_need_run ?a_behind ?l_behind ?c_behind ?k_behind ?a_least_before ?l_least_before ?c_least_before ?k_least_before ?a_sill ?l_sill ?c_sill ?k_sill ?a_cover ?l_cover ?c_cover ?k_cover ?a_need_place ?l_need_place ?c_need_place ?k_need_place ?a_need_places ?l_need_places ?c_need_places ?k_need_places ?a_together ?l_together ?c_together ?k_together ?a_all_of ?l_all_of ?c_all_of ?k_all_of ?a_how_far ?l_how_far ?c_how_far ?k_how_far ?a_run_to ?l_run_to ?c_run_to ?k_run_to ?a_stuck_hoards ?l_stuck_hoards ?c_stuck_hoards ?k_stuck_hoards ?a_law_with_hoard ?l_law_with_hoard ?c_law_with_hoard ?k_law_with_hoard ?a_law_with_move ?l_law_with_move ?c_law_with_move ?k_law_with_move ?a_without_place ?l_without_place ?c_without_place ?k_without_place ?a_told_places ?l_told_places ?c_told_places ?k_told_places ?a_greatest_sink ?l_greatest_sink ?c_greatest_sink ?k_greatest_sink ?a_is_sink ?l_is_sink ?c_is_sink ?k_is_sink ?a_turned ?l_turned ?c_turned ?k_turned ?a_greatest_trap ?l_greatest_trap ?c_greatest_trap ?k_greatest_trap ?a_is_trap ?l_is_trap ?c_is_trap ?k_is_trap ?a_law_with_place ?l_law_with_place ?c_law_with_place ?k_law_with_place ?a_law_with_places ?l_law_with_places ?c_law_with_places ?k_law_with_places ?a_law_with_two ?l_law_with_two ?c_law_with_two ?k_law_with_two ?a_law_asked ?l_law_asked ?c_law_asked ?k_law_asked ?a_law_kind ?l_law_kind ?c_law_kind ?k_law_kind ?a_law_bad_hoard ?l_law_bad_hoard ?c_law_bad_hoard ?k_law_bad_hoard ?a_law ?l_law ?c_law ?k_law
    (case z_ValueError => k_is)
    (case z_bool => k_is)
    (case z_int => k_is)
    (case z_isinstance => k_is)
    (case z_len => k_is)
    (case z_list => k_is)
    (case z_max => k_is)
    (case z_range => k_is)
    (case z_sum => k_is)
    (case z_tuple => k_is)
    (case z_zip => k_is)
    (case y_MOST_PLACES => k_is)
    (case y_MOST_MOVES => k_is)
    (case y_MOST_TOKENS => k_is)
    (case q_Endless => k_is)
    (case q_NoHoard => k_is)
    (case q_NoMove => k_is)
    (case q_NoNet => k_is)
    (case q_NoPlace => k_is)
    (case q_NoText => k_is)
    (case q_Stuck => k_is)
    (case q_TokenError => k_is)
    (case q_TooBig => k_is)
    (case e_NoHoard => k_exc)
    (case e_NoMove => k_exc)
    (case e_NoNet => k_exc)
    (case e_NoPlace => k_exc)
    (case s_TokenError_TokenError => kts_exm)
    (case s_NoNet_TokenError => kts_exm)
    (case s_NoHoard_TokenError => kts_exm)
    (case s_NoMove_TokenError => kts_exm)
    (case s_NoPlace_TokenError => kts_exm)
    (case s_Endless_TokenError => kts_exm)
    (case s_TooBig_TokenError => kts_exm)
    (case s_NoText_TokenError => kts_exm)
    (case s_Stuck_TokenError => kts_exm)
    (case cg => k_is)
    (case ct => k_is)
    (case u1_NoHoard => k_is)
    (case u2_NoHoard => k_is)
    (case u3_NoHoard => k_is)
    (case u4_NoHoard => k_is)
    (case u5_NoHoard => k_is)
    (case u6_NoHoard => k_is)
    (case u1_NoMove => k_is)
    (case u2_NoMove => k_is)
    (case u3_NoMove => k_is)
    (case u4_NoMove => k_is)
    (case u5_NoMove => k_is)
    (case u6_NoMove => k_is)
    (case u1_NoNet => k_is)
    (case u2_NoNet => k_is)
    (case u3_NoNet => k_is)
    (case u4_NoNet => k_is)
    (case u5_NoNet => k_is)
    (case u6_NoNet => k_is)
    (case u1_NoPlace => k_is)
    (case u2_NoPlace => k_is)
    (case u3_NoPlace => k_is)
    (case u4_NoPlace => k_is)
    (case u5_NoPlace => k_is)
    (case u6_NoPlace => k_is)
    (case jy_NoHoard_Endless => kit_is)
    (case jy_NoMove_Endless => kit_is)
    (case jy_NoNet_Endless => kit_is)
    (case jy_NoPlace_Endless => kit_is)
    (case jy_NoHoard_NoHoard => kit_is)
    (case jy_NoMove_NoHoard => kit_is)
    (case jy_NoNet_NoHoard => kit_is)
    (case jy_NoPlace_NoHoard => kit_is)
    (case jy_NoHoard_NoMove => kit_is)
    (case jy_NoMove_NoMove => kit_is)
    (case jy_NoNet_NoMove => kit_is)
    (case jy_NoPlace_NoMove => kit_is)
    (case jy_NoHoard_NoNet => kit_is)
    (case jy_NoMove_NoNet => kit_is)
    (case jy_NoNet_NoNet => kit_is)
    (case jy_NoPlace_NoNet => kit_is)
    (case jy_NoHoard_NoPlace => kit_is)
    (case jy_NoMove_NoPlace => kit_is)
    (case jy_NoNet_NoPlace => kit_is)
    (case jy_NoPlace_NoPlace => kit_is)
    (case jy_NoHoard_NoText => kit_is)
    (case jy_NoMove_NoText => kit_is)
    (case jy_NoNet_NoText => kit_is)
    (case jy_NoPlace_NoText => kit_is)
    (case jy_NoHoard_Stuck => kit_is)
    (case jy_NoMove_Stuck => kit_is)
    (case jy_NoNet_Stuck => kit_is)
    (case jy_NoPlace_Stuck => kit_is)
    (case jy_NoHoard_TooBig => kit_is)
    (case jy_NoMove_TooBig => kit_is)
    (case jy_NoNet_TooBig => kit_is)
    (case jy_NoPlace_TooBig => kit_is)
    (case j_TokenError_ValueError => kit_is)
    (case j_NoNet_ValueError => kit_is)
    (case j_NoHoard_ValueError => kit_is)
    (case j_NoMove_ValueError => kit_is)
    (case j_NoPlace_ValueError => kit_is)
    (case j_Endless_ValueError => kit_is)
    (case j_TooBig_ValueError => kit_is)
    (case j_NoText_ValueError => kit_is)
    (case j_Stuck_ValueError => kit_is)
    (case a_is_whole => k_is)
    (case l_is_whole => k_is)
    (case c_is_whole => k_is)
    (case k_is_whole => k_is)
    (case a_is_row => k_is)
    (case l_is_row => k_is)
    (case c_is_row => k_is)
    (case k_is_row => k_is)
    (case a_is_move => k_is)
    (case l_is_move => k_is)
    (case c_is_move => k_is)
    (case k_is_move => k_is)
    (case a_is_net => k_is)
    (case l_is_net => k_is)
    (case c_is_net => k_is)
    (case k_is_net => k_is)
    (case a_checked => k_is)
    (case l_checked => k_is)
    (case c_checked => k_is)
    (case k_checked => k_is)
    (case a_is_hoard => k_is)
    (case l_is_hoard => k_is)
    (case c_is_hoard => k_is)
    (case k_is_hoard => k_is)
    (case a_law_cell_at => k_is)
    (case l_law_cell_at => k_is)
    (case c_law_cell_at => k_is)
    (case k_law_cell_at => k_is)
    (case a_law_mixed => k_is)
    (case l_law_mixed => k_is)
    (case c_law_mixed => k_is)
    (case k_law_mixed => k_is)
    (case a_law_move => k_is)
    (case l_law_move => k_is)
    (case c_law_move => k_is)
    (case k_law_move => k_is)
    (case a_law_net => k_is)
    (case l_law_net => k_is)
    (case c_law_net => k_is)
    (case k_law_net => k_is)
    (case a_law_hoard => k_is)
    (case l_law_hoard => k_is)
    (case c_law_hoard => k_is)
    (case k_law_hoard => k_is)
    (case a_need_hoard => k_is)
    (case l_need_hoard => k_is)
    (case c_need_hoard => k_is)
    (case k_need_hoard => k_is)
    (case a_need_move => k_is)
    (case l_need_move => k_is)
    (case c_need_move => k_is)
    (case k_need_move => k_is)
    (case a_over => k_is)
    (case l_over => k_is)
    (case c_over => k_is)
    (case k_over => k_is)
    (case a_can => k_is)
    (case l_can => k_is)
    (case c_can => k_is)
    (case k_can => k_is)
    (case a_need_run => k_is)
    (case l_need_run => k_is)
    (case c_need_run => k_is)
    (case k_need_run => k_is)
    (case a_behind => k_is)
    (case l_behind => k_is)
    (case c_behind => k_is)
    (case k_behind => k_is)
    (case a_least_before => k_is)
    (case l_least_before => k_is)
    (case c_least_before => k_is)
    (case k_least_before => k_is)
    (case a_sill => k_is)
    (case l_sill => k_is)
    (case c_sill => k_is)
    (case k_sill => k_is)
    (case a_cover => k_is)
    (case l_cover => k_is)
    (case c_cover => k_is)
    (case k_cover => k_is)
    (case a_need_place => k_is)
    (case l_need_place => k_is)
    (case c_need_place => k_is)
    (case k_need_place => k_is)
    (case a_need_places => k_is)
    (case l_need_places => k_is)
    (case c_need_places => k_is)
    (case k_need_places => k_is)
    (case a_together => k_is)
    (case l_together => k_is)
    (case c_together => k_is)
    (case k_together => k_is)
    (case a_all_of => k_is)
    (case l_all_of => k_is)
    (case c_all_of => k_is)
    (case k_all_of => k_is)
    (case a_how_far => k_is)
    (case l_how_far => k_is)
    (case c_how_far => k_is)
    (case k_how_far => k_is)
    (case a_run_to => k_is)
    (case l_run_to => k_is)
    (case c_run_to => k_is)
    (case k_run_to => k_is)
    (case a_stuck_hoards => k_is)
    (case l_stuck_hoards => k_is)
    (case c_stuck_hoards => k_is)
    (case k_stuck_hoards => k_is)
    (case a_law_with_hoard => k_is)
    (case l_law_with_hoard => k_is)
    (case c_law_with_hoard => k_is)
    (case k_law_with_hoard => k_is)
    (case a_law_with_move => k_is)
    (case l_law_with_move => k_is)
    (case c_law_with_move => k_is)
    (case k_law_with_move => k_is)
    (case a_without_place => k_is)
    (case l_without_place => k_is)
    (case c_without_place => k_is)
    (case k_without_place => k_is)
    (case a_told_places => k_is)
    (case l_told_places => k_is)
    (case c_told_places => k_is)
    (case k_told_places => k_is)
    (case a_greatest_sink => k_is)
    (case l_greatest_sink => k_is)
    (case c_greatest_sink => k_is)
    (case k_greatest_sink => k_is)
    (case a_is_sink => k_is)
    (case l_is_sink => k_is)
    (case c_is_sink => k_is)
    (case k_is_sink => k_is)
    (case a_turned => k_is)
    (case l_turned => k_is)
    (case c_turned => k_is)
    (case k_turned => k_is)
    (case a_greatest_trap => k_is)
    (case l_greatest_trap => k_is)
    (case c_greatest_trap => k_is)
    (case k_greatest_trap => k_is)
    (case a_is_trap => k_is)
    (case l_is_trap => k_is)
    (case c_is_trap => k_is)
    (case k_is_trap => k_is)
    (case a_law_with_place => k_is)
    (case l_law_with_place => k_is)
    (case c_law_with_place => k_is)
    (case k_law_with_place => k_is)
    (case a_law_with_places => k_is)
    (case l_law_with_places => k_is)
    (case c_law_with_places => k_is)
    (case k_law_with_places => k_is)
    (case a_law_with_two => k_is)
    (case l_law_with_two => k_is)
    (case c_law_with_two => k_is)
    (case k_law_with_two => k_is)
    (case a_law_asked => k_is)
    (case l_law_asked => k_is)
    (case c_law_asked => k_is)
    (case k_law_asked => k_is)
    (case a_law_kind => k_is)
    (case l_law_kind => k_is)
    (case c_law_kind => k_is)
    (case k_law_kind => k_is)
    (case a_law_bad_hoard => k_is)
    (case l_law_bad_hoard => k_is)
    (case c_law_bad_hoard => k_is)
    (case k_law_bad_hoard => k_is)
    (case a_law => k_is)
    (case l_law => k_is)
    (case c_law => k_is)
    (case k_law => k_is)
#print axioms PySem.Challenge.cw_tokenwall_k03_nets_refused_holds