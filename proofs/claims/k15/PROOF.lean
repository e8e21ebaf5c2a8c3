import PyProof.Rows.All
import Wide.All
import OpenK.AllK
import Wide.FinOn
import Lean
import PyProof.EqAt
import PyProof.EqKinds
import PyProof.TupleCall
import PyProof.NeData
import PyProof.WalkInts
import PyProof.ListRange
import KE.KIntText
import PyProof.DictWalks
import PyProof.DictItems
import KE.KDictList
import PyProof.Rows.SortKeyStr
import PySem.Challenge.RW_heedwise_k15_first_bad_row
set_option Elab.async false
set_option linter.all false
set_option maxRecDepth 100000
namespace L2
open PySem PySem.Spec PyProof.Rows
abbrev Key := Sum Int Str
def keyIs : Key → Value → Bool
  | .inl k, v => Value.isInt k v
  | .inr x, v => Value.isStrOf x v
def keyH (w : World) : Key → Int
  | .inl k => hashInt k
  | .inr x => hashStr w x
theorem keyIs_shape : ∀ {k : Key} {v : Value}, keyIs k v = true → (∃ i t, k = Sum.inl i ∧ v = Value.int i t) ∨ (∃ x t, k = Sum.inr x ∧ v = Value.str x t)
  | .inl i, v, h => by
    obtain ⟨t, e⟩ := Value.isInt_shape (k := i) (v := v) h
    exact .inl ⟨i, t, rfl, e⟩
  | .inr x, v, h => by
    obtain ⟨t, e⟩ := Value.isStrOf_shape (x := x) (v := v) h
    exact .inr ⟨x, t, rfl, e⟩
theorem key_ll (a b : Int) : decide ((Sum.inl a : Key) = Sum.inl b) = (a == b) := by
  by_cases e : a = b
  · subst e; simp
  · have h : ¬ (Sum.inl a : Key) = Sum.inl b := fun q => e (Sum.inl.inj q)
    rw [decide_eq_false h]
    exact (beq_eq_false_iff_ne.mpr e).symm
theorem key_rr (a b : Str) : decide ((Sum.inr a : Key) = Sum.inr b) = decide (a = b) := by
  by_cases e : a = b
  · subst e; simp
  · have h : ¬ (Sum.inr a : Key) = Sum.inr b := fun q => e (Sum.inr.inj q)
    rw [decide_eq_false h, decide_eq_false e]
theorem key_lr (a : Int) (b : Str) : decide ((Sum.inl a : Key) = Sum.inr b) = false := decide_eq_false (fun q => nomatch q)
theorem key_rl (a : Str) (b : Int) : decide ((Sum.inr a : Key) = Sum.inl b) = false := decide_eq_false (fun q => nomatch q)
def mixKind (prog : Program) (w : World) : PySem.KeyKind prog w Key where
  is := keyIs
  hash := keyH w
  inj := fun v a b ha hb => by
    rcases keyIs_shape ha with ⟨i, t, rfl, rfl⟩ | ⟨x, t, rfl, rfl⟩
    · rcases keyIs_shape hb with ⟨j, u, rfl, e⟩ | ⟨y, u, rfl, e⟩
      · injection e with e1 _; rw [e1]
      · exact nomatch e
    · rcases keyIs_shape hb with ⟨j, u, rfl, e⟩ | ⟨y, u, rfl, e⟩
      · exact nomatch e
      · injection e with e1 _; rw [e1]
  byValue := fun k v h => by
    rcases keyIs_shape h with ⟨i, t, rfl, rfl⟩ | ⟨x, t, rfl, rfl⟩ <;> rfl
  pyHash := fun hv h => by
    rcases keyIs_shape hv with ⟨i, t, rfl, rfl⟩ | ⟨x, t, rfl, rfl⟩
    · exact wpAny_pyHash_int h
    · exact wpAny_pyHash_str h
  eqBool := fun hu hv h => by
    rcases keyIs_shape hu with ⟨i, t, rfl, rfl⟩ | ⟨x, t, rfl, rfl⟩
    · rcases keyIs_shape hv with ⟨j, u, rfl, rfl⟩ | ⟨y, u, rfl, rfl⟩
      · rw [key_ll] at h; exact wpAny_eqBool_int h
      · rw [key_lr] at h; exact SeqAt.EqAt.int_str i t y u _ _ _ _ h
    · rcases keyIs_shape hv with ⟨j, u, rfl, rfl⟩ | ⟨y, u, rfl, rfl⟩
      · rw [key_rl] at h; exact SeqAt.EqAt.str_int x t j u _ _ _ _ h
      · rw [key_rr] at h; exact wpAny_eqBool_str h
  «strs» := fun k x t v h => by
    rcases keyIs_shape h with ⟨i, u, rfl, e⟩ | ⟨y, u, rfl, e⟩
    · exact nomatch e
    · injection e with e1 _
      subst e1
      cases v <;> rfl
end L2
namespace L2
open PySem PySem.Spec PyProof.Rows
inductive V where
  | non | bl (b : Bool) | int (i : Int) | str (x : Str) | byt (b : Array UInt8) | flt (b : UInt64) | ref (a : Addr) | ty (n : String)
  deriving DecidableEq
def RelV : V → Value → Prop
  | .non, u => u = Value.none
  | .bl b, u => u = Value.bool b
  | .int i, u => ∃ t, u = Value.int i t
  | .str x, u => ∃ t, u = Value.str x t
  | .byt b, u => ∃ t, u = Value.bytes b t
  | .flt b, u => ∃ t, u = Value.float b t
  | .ref a, u => u = Value.ref a
  | .ty n, u => u = Value.type n
abbrev Vals : List V → List Value → Prop := Paired RelV
theorem Vals.length {xs : List V} {us : List Value} (r : Vals xs us) : xs.length = us.length := Paired.length r
theorem Vals.get : ∀ {xs : List V} {us : List Value} {i : Nat} {x : V}, Vals xs us → xs[i]? = some x → ∃ u, us[i]? = some u ∧ RelV x u
  | _, _, _, _, .nil, e => by simp at e
  | _, _, 0, _, .cons r _, e => by simp at e; subst e; exact ⟨_, rfl, r⟩
  | _, _, i + 1, x, .cons _ t, e => by
    obtain ⟨u, h1, h2⟩ := Vals.get (i := i) (x := x) t (by simpa using e)
    exact ⟨u, by simpa using h1, h2⟩
theorem Vals.set {x : V} {u : Value} (r : RelV x u) : ∀ {xs : List V} {us : List Value} (i : Nat), Vals xs us → Vals (xs.set i x) (us.set i u)
  | _, _, _, .nil => .nil
  | _, _, 0, .cons _ t => .cons r t
  | _, _, i + 1, .cons q t => .cons q (Vals.set r i t)
theorem Vals.append : ∀ {xs ys : List V} {us ws : List Value}, Vals xs us → Vals ys ws → Vals (xs ++ ys) (us ++ ws)
  | _, _, _, _, .nil, s => s
  | _, _, _, _, .cons r t, s => .cons r (Vals.append t s)
theorem Vals.take : ∀ {xs : List V} {us : List Value} (n : Nat), Vals xs us → Vals (xs.take n) (us.take n)
  | _, _, 0, _ => .nil
  | _, _, _ + 1, .nil => .nil
  | _, _, n + 1, .cons r t => .cons r (Vals.take n t)
theorem Vals.drop : ∀ {xs : List V} {us : List Value} (n : Nat), Vals xs us → Vals (xs.drop n) (us.drop n)
  | _, _, 0, r => r
  | _, _, _ + 1, .nil => .nil
  | _, _, n + 1, .cons _ t => Vals.drop n t
def RelO : Option V → Option Value → Prop
  | some v, some u => RelV v u
  | none, none => True
  | _, _ => False
def KV {κ : Type} : List (κ × V) → List (κ × Value) → Prop := Paired fun (p : κ × V) (q : κ × Value) => p.1 = q.1 ∧ RelV p.2 q.2
def kV : Key → V
  | .inl i => .int i
  | .inr x => .str x
inductive HO where
  
  | lst (xs : List V)
  
  | tup (xs : List V)
  
  | dK (kvs : List (Key × V)) | dT (kvs : List (List Key × V))
  
  | set (S : Int → Bool) (n : Nat)
  
  | ins (C dx : Addr) (fs : List (Str × V))
  
  | own (x : Addr)
  
  | xd (fs : List (Str × V))
  
  | met (f x : Addr)
  
  | rng (lo hi : Int)
  
  | frz (o : Obj) (u : HO)
  
  | tbl (ps : Array Value)
  
  | ext (φ : Heap → Prop)
abbrev Hp := Addr → Option HO
def upd (H : Hp) (a : Addr) (o : HO) : Hp := fun b => if b = a then some o else H b
theorem upd_same {H : Hp} {a : Addr} {o : HO} : upd H a o a = some o := by unfold upd; rw [if_pos rfl]
theorem upd_ne {H : Hp} {a b : Addr} {o : HO} (h : b ≠ a) : upd H a o b = H b := by unfold upd; rw [if_neg h]
theorem upd_upd {H : Hp} {a : Addr} {o u : HO} : upd (upd H a o) a u = upd H a u := by
  funext b; unfold upd; split <;> rfl
theorem ne_of_none {H : Hp} {a b : Addr} {o : HO} (h : H a = some o) (h' : H b = none) : a ≠ b := by
  intro e; subst e; rw [h] at h'; cases h'
def TupN (h : Heap) (a : Addr) (items : Array Value) : Prop := ∃ o, h.get? a = some o ∧ o.dict = none ∧ o.cls = .type "tuple" ∧ ∃ n, o.data = .seq items n
theorem TupN.t {h : Heap} {a : Addr} {items : Array Value} (x : TupN h a items) : IsTup h a items := let ⟨o, e, _, r⟩ := x; ⟨o, e, r⟩
theorem TupN.new (h : Heap) (items : Array Value) : TupN (h.push { cls := .type "tuple", data := .seq items }) h.objs.size items := ⟨_, Heap.get?_push_size _ rfl, rfl, rfl, _, rfl⟩
section
variable (P : Program) (w : World)
def ObjOk (H : Hp) (h : Heap) (a : Addr) : HO → Prop
  | .lst xs => xs.length ≤ sizeLine ∧ ∃ (its : List Value) (n : Nat), Vals xs its ∧ h.get? a = some { cls := .type "list", data := .seq its.toArray n }
  | .tup xs => xs.length ≤ sizeLine ∧ ∃ its : List Value, Vals xs its ∧ TupN h a its.toArray
  | .dK kvs => kvs.length ≤ sizeLine ∧ (a == sysModules) = false ∧ ∃ vs, KV kvs vs ∧ h.DictOf (mixKind P w) a vs
  | .dT kvs => kvs.length ≤ sizeLine ∧ (a == sysModules) = false ∧ ∃ xs : List (List Key × Addr × Value),
      Paired (fun (p : List Key × V) (q : List Key × Addr × Value) => p.1 = q.1 ∧ H q.2.1 = some (.tup (p.1.map kV)) ∧ RelV p.2 q.2.2) kvs xs ∧
      ∃ o es ep, h.get? a = some o ∧ o.ExactDict ∧ o.data = .dict es ep ∧ es.toList = xs.map (entryOfKey (tupleKind (mixKind P w))) ∧ (xs.map (·.1)).Nodup
  | .set S n => h.SetOf (intKind P w) a S n
  | .ins C dx fs => H dx = some (.own a) ∧ fs.length ≤ 1000 ∧ dx ≠ a ∧ h.get? a = some (PySem.W.instObj C dx) ∧
      ∃ mA, h.Ns1 dx mA ∧ (∀ f, RelO (fs.lookup f) (mA f)) ∧ PySem.Within mA (fs.map (·.1))
  | .own _ => ∃ o, h.get? a = some o
  | .xd fs => ∃ mA, h.Ns1 a mA ∧ ∀ f, RelO (fs.lookup f) (mA f)
  | .rng lo hi => ∃ t u v, h.get? a = some { cls := .type "range", data := .fields #[.int lo t, .int hi u, .int 1 v] }
  | .frz o u => h.get? a = some o ∧ ObjOk H h a u
  | .tbl ps => h.get? a = some { cls := .none, data := .fields ps }
  | .met f x => h.get? a = some (PySem.W.methodObj (.ref f) (.ref x))
  | .ext φ => φ h ∧ (∃ o, h.get? a = some o) ∧ ∀ h1 h2 : Heap, φ h1 → (∀ o, h1.get? a = some o → h2.get? a = some o) → φ h2
def HOk (H : Hp) (h : Heap) : Prop := ∀ a o, H a = some o → ObjOk P w H h a o
end
section
variable {P : Program} {w : World} {H H' : Hp} {h h' : Heap} {a : Addr} {o : HO}
theorem ObjOk.lt (x : ObjOk P w H h a o) : a < h.objs.size := by
  cases o with
  | lst xs => obtain ⟨_, _, _, _, e⟩ := x; exact Heap.lt_size e
  | tup xs => obtain ⟨_, _, _, p⟩ := x; exact p.t.lt
  | dK kvs => obtain ⟨_, _, _, _, o, _, _, e, _⟩ := x; exact Heap.lt_size e
  | dT kvs => obtain ⟨_, _, _, _, o, _, _, e, _⟩ := x; exact Heap.lt_size e
  | set S n => obtain ⟨o, _, _, _, e, _⟩ := x; exact Heap.lt_size e
  | ins C dx fs => obtain ⟨_, _, _, e, _⟩ := x; exact Heap.lt_size e
  | own y => obtain ⟨_, e⟩ := x; exact Heap.lt_size e
  | xd fs => obtain ⟨_, ⟨_, _, _, e, _⟩, _⟩ := x; exact Heap.lt_size e
  | rng lo hi => obtain ⟨_, _, _, e⟩ := x; exact Heap.lt_size e
  | frz ob u => obtain ⟨e, _⟩ := x; exact Heap.lt_size e
  | tbl ps => exact Heap.lt_size (show h.get? a = some _ from x)
  | met f y => exact Heap.lt_size (show h.get? a = some _ from x)
  | ext φ => obtain ⟨_, ⟨_, e⟩, _⟩ := x; exact Heap.lt_size e
theorem Paired.mapP {α β : Type} {F G : α → β → Prop} : ∀ {l₁ : List α} {l₂ : List β}, Paired F l₁ l₂ → (∀ a b, F a b → G a b) → Paired G l₁ l₂
  | _, _, .nil, _ => .nil
  | _, _, .cons r t, f => .cons (f _ _ r) (Paired.mapP t f)
theorem ObjOk.stay (x : ObjOk P w H h a o) (k : ∀ b u, (b = a ∨ H b = some (.own a)) → h.get? b = some u → h'.get? b = some u)
    (ho : ∀ b, H b = some (.own a) → H' b = some (.own a)) (ht : ∀ b xs, H b = some (.tup xs) → H' b = some (.tup xs)) : ObjOk P w H' h' a o := by
  induction o with
  | lst xs => obtain ⟨z, its, n, r, e⟩ := x; exact ⟨z, its, n, r, k _ _ (.inl rfl) e⟩
  | tup xs => obtain ⟨z, its, r, ob, e, c⟩ := x; exact ⟨z, its, r, ob, k _ _ (.inl rfl) e, c⟩
  | dK kvs => obtain ⟨z, y, vs, r, ob, es, ep, e, c⟩ := x; exact ⟨z, y, vs, r, ob, es, ep, k _ _ (.inl rfl) e, c⟩
  | dT kvs =>
    obtain ⟨z, y, xs, r, ob, es, ep, e, c⟩ := x
    exact ⟨z, y, xs, Paired.mapP r fun p q z => ⟨z.1, ht _ _ z.2.1, z.2.2⟩, ob, es, ep, k _ _ (.inl rfl) e, c⟩
  | set S n => obtain ⟨ob, es, ep, t, e, c⟩ := x; exact ⟨ob, es, ep, t, k _ _ (.inl rfl) e, c⟩
  | ins C dx fs =>
    obtain ⟨d, z, ne, e, mA, ⟨od, es, ep, e2, c⟩, r⟩ := x
    exact ⟨ho _ d, z, ne, k _ _ (.inl rfl) e, mA, ⟨od, es, ep, k _ _ (.inr d) e2, c⟩, r⟩
  | own y => obtain ⟨ob, e⟩ := x; exact ⟨ob, k _ _ (.inl rfl) e⟩
  | xd fs => obtain ⟨mA, ⟨od, es, ep, e, c⟩, r⟩ := x; exact ⟨mA, ⟨od, es, ep, k _ _ (.inl rfl) e, c⟩, r⟩
  | rng lo hi => obtain ⟨t, u, v, e⟩ := x; exact ⟨t, u, v, k _ _ (.inl rfl) e⟩
  | frz ob u ih => obtain ⟨e, q⟩ := x; exact ⟨k _ _ (.inl rfl) e, ih q⟩
  | tbl ps =>
    have e : h.get? a = some { cls := .none, data := .fields ps } := x
    show h'.get? a = some { cls := .none, data := .fields ps }
    exact k a _ (.inl rfl) e
  | met f y =>
    have e : h.get? a = some (PySem.W.methodObj (.ref f) (.ref y)) := x
    show h'.get? a = some (PySem.W.methodObj (.ref f) (.ref y))
    exact k a _ (.inl rfl) e
  | ext φ => obtain ⟨p, ⟨o, e⟩, st⟩ := x; exact ⟨st _ _ p fun o q => k _ _ (.inl rfl) q, ⟨o, k _ _ (.inl rfl) e⟩, st⟩
theorem HOk.lt (x : HOk P w H h) (e : H a = some o) : a < h.objs.size := (x a o e).lt
theorem HOk.fresh (x : HOk P w H h) (e : h.objs.size ≤ a) : H a = none := by
  cases q : H a with
  | none => rfl
  | some u => exact absurd (Nat.lt_of_lt_of_le (x.lt q) e) (Nat.lt_irrefl _)
theorem HOk.kept (x : HOk P w H h) (k : ∀ b u, h.get? b = some u → h'.get? b = some u) : HOk P w H h' := fun a o e =>
  (x a o e).stay (fun b u _ q => k b u q) (fun _ q => q) fun _ _ q => q
theorem HOk.laid (x : HOk P w H h) (k : ∀ b u, h.get? b = some u → h'.get? b = some u) (hp : h.objs.size ≤ a) (new : ObjOk P w (upd H a o) h' a o) : HOk P w (upd H a o) h' := fun b u e => by
  have hn := x.fresh hp
  by_cases hb : b = a
  · subst hb; rw [upd_same] at e; cases e; exact new
  · rw [upd_ne hb] at e
    exact (x b u e).stay (fun c v _ q => k c v q) (fun c q => by rw [upd_ne (ne_of_none q hn)]; exact q) fun c xs q => by rw [upd_ne (ne_of_none q hn)]; exact q
end
def Rd (H : Hp) (a : Addr) (u : HO) : Prop := H a = some u ∨ ∃ o, H a = some (.frz o u)
theorem Rd.ok {P : Program} {w : World} {H : Hp} {h : Heap} {a : Addr} {u : HO} (r : Rd H a u) (x : HOk P w H h) : ObjOk P w H h a u := by
  rcases r with r | ⟨o, r⟩
  · exact x a u r
  · obtain ⟨_, q⟩ := x a _ r
    exact q
def Mut : Option HO → Prop
  | some (.lst _) => True
  | some (.dK _) => True
  | some (.dT _) => True
  | some (.set _ _) => True
  | some (.ins _ _ _) => True
  | some (.ext _) => True
  | _ => False
section
variable {P : Program} {w : World} {H : Hp} {h h' : Heap} {x e : Addr} {o' : HO}
theorem HOk.write (ok : HOk P w H h) (mu : Mut (H x)) (he : e = x ∨ H e = some (.own x)) (k : ∀ b u, b ≠ e → h.get? b = some u → h'.get? b = some u) (heo : ∃ u, h'.get? e = some u)
    (new : ObjOk P w (upd H x o') h' x o') : HOk P w (upd H x o') h' := fun b u q => by
  have nown : ∀ c y, H c = some (.own y) → c ≠ x := fun c y r z => by subst z; rw [r] at mu; exact mu
  have ntup : ∀ c xs, H c = some (.tup xs) → c ≠ x := fun c xs r z => by subst z; rw [r] at mu; exact mu
  by_cases hb : b = x
  · subst hb; rw [upd_same] at q; cases q; exact new
  · rw [upd_ne hb] at q
    by_cases hbe : b = e
    · have q' : H b = some (.own x) := by
        rcases he with z | z
        · exact absurd (hbe.trans z) hb
        · rw [hbe]; exact z
      rw [q] at q'; cases q'
      obtain ⟨v, hv⟩ := heo
      exact ⟨v, by rw [hbe]; exact hv⟩
    · refine (ok b u q).stay (fun c v hc r => k c v ?_ r) (fun c r => by rw [upd_ne (nown c b r)]; exact r) fun c xs r => by rw [upd_ne (ntup c xs r)]; exact r
      rcases hc with rfl | hc
      · exact hbe
      · rintro rfl
        rcases he with z | z
        · exact nown c b hc z
        · rw [hc] at z; cases z; exact hb rfl
end
structure Un (fs ex : List Addr) (H H' : Hp) (h h' : Heap) : Prop where
  keep : ∀ b o, h.get? b = some o → H b = none → b ∉ fs → b ∉ ex → h'.get? b = some o
  slot : ∀ b o, h.get? b = some o → H b = none → b ∈ fs → b ∉ ex → ∃ sl, h'.get? b = some { o with slots := sl }
  free : ∀ b o, h.get? b = some o → H b = none → b ∉ ex → H' b = none
  there : ∀ b o, h.get? b = some o → b ∉ ex → ∃ o', h'.get? b = some o'
  tups : ∀ b xs, H b = some (.tup xs) → H' b = some (.tup xs)
  frzs : ∀ b o u, H b = some (.frz o u) → H' b = some (.frz o u)
  tbls : ∀ b ps, H b = some (.tbl ps) → ∃ more, H' b = some (.tbl (ps ++ more))
section
variable {fs fs' ex ex' : List Addr} {H H1 H2 : Hp} {h h1 h2 h' : Heap} {a x e : Addr} {o : HO}
theorem Un.any (u : Un fs ex H H1 h h1) {b : Addr} {ob : Obj} (q : h.get? b = some ob) (n : H b = none) (hx : b ∉ ex) : ∃ sl, h1.get? b = some { ob with slots := sl } := by
  by_cases hb : b ∈ fs
  · exact u.slot b ob q n hb hx
  · exact ⟨ob.slots, u.keep b ob q n hb hx⟩
theorem Un.kept (k : ∀ b u, h.get? b = some u → h'.get? b = some u) : Un fs ex H H h h' :=
  ⟨fun b ob q _ _ _ => k b ob q, fun b ob q _ _ _ => ⟨ob.slots, k b ob q⟩, fun _ _ _ n _ => n, fun b ob q _ => ⟨ob, k b ob q⟩, fun _ _ q => q, fun _ _ _ q => q, fun _ ps q => ⟨#[], by rw [q]; simp⟩⟩
theorem Un.refl : Un fs ex H H h h := Un.kept fun _ _ q => q
theorem Un.laid (k : ∀ b u, h.get? b = some u → h'.get? b = some u) (hp : h.objs.size ≤ a) (hn : H a = none) : Un fs ex H (upd H a o) h h' where
  keep := fun b u q _ _ _ => k b u q
  slot := fun b u q _ _ _ => ⟨u.slots, k b u q⟩
  free := fun b u q n _ => by rw [upd_ne (Nat.ne_of_lt (Nat.lt_of_lt_of_le (Heap.lt_size q) hp))]; exact n
  there := fun b u q _ => ⟨u, k b u q⟩
  tups := fun b xs q => by rw [upd_ne (ne_of_none q hn)]; exact q
  frzs := fun b u xs q => by rw [upd_ne (ne_of_none q hn)]; exact q
  tbls := fun b ps q => ⟨#[], by rw [upd_ne (ne_of_none q hn), q]; simp⟩
theorem Un.write (mu : Mut (H x)) (he : e = x ∨ H e = some (.own x)) (k : ∀ b u, b ≠ e → h.get? b = some u → h'.get? b = some u) (heo : ∃ u, h'.get? e = some u) : Un fs ex H (upd H x o) h h' := by
  have hx : ∀ b, H b = none → b ≠ x := fun b n z => by subst z; rw [n] at mu; exact mu
  have hb : ∀ b, H b = none → b ≠ e := fun b n z => by
    subst z
    rcases he with r | r
    · exact hx b n r
    · rw [n] at r; cases r
  have hm : ∀ b u, H b = some u → ¬ Mut (some u) → b ≠ x := fun b u q nm z => by subst z; rw [q] at mu; exact nm mu
  refine ⟨fun b u q n _ _ => k b u (hb b n) q, fun b u q n _ _ => ⟨u.slots, k b u (hb b n) q⟩, fun b u q n _ => by rw [upd_ne (hx b n)]; exact n, fun b u q _ => ?_,
    fun b xs q => by rw [upd_ne (hm b _ q fun z => z)]; exact q, fun b u xs q => by rw [upd_ne (hm b _ q fun z => z)]; exact q, fun b ps q => ⟨#[], by rw [upd_ne (hm b _ q fun z => z), q]; simp⟩⟩
  by_cases hbe : b = e
  · subst hbe; exact heo
  · exact ⟨u, k b u hbe q⟩
end
def trk (h : Heap) (H : Hp) : List Addr := (List.range h.objs.size).filter fun a => (H a).isSome
def hidT (h : Heap) (H : Hp) : Heap := PySem.W.hideAll h (trk h H)
theorem hidT_size (h : Heap) (H : Hp) : (hidT h H).objs.size = h.objs.size := PySem.W.hideAll_size _ _
theorem hidT_get {h : Heap} {H : Hp} {b : Addr} {o : Obj} (e : h.get? b = some o) (n : H b = none) : (hidT h H).get? b = some o :=
  PySem.W.hideAll_get _ e fun hm => by
    have q : (H b).isSome = true := (List.mem_filter.mp hm).2
    rw [n] at q; simp at q
theorem of_hidT {h : Heap} {H : Hp} {b : Addr} {o : Obj} (e : (hidT h H).get? b = some o) : h.get? b = some o ∧ H b = none := by
  have e' : h.get? b = some o := PySem.W.of_hideAll (trk h H) e
  refine ⟨e', ?_⟩
  cases q : H b with
  | none => rfl
  | some x =>
    have hm : b ∈ trk h H := List.mem_filter.mpr ⟨List.mem_range.mpr (Heap.lt_size e'), by simp [q]⟩
    have z : (hidT h H).get? b = none := PySem.W.hideAll_none (trk h H) hm
    rw [z] at e; cases e
def allNews (g h : Heap) (L : Addr) : List (Addr × Obj) := (List.range h.objs.size).filterMap fun a => if a = L ∨ (g.get? a).isSome = true then none else (h.get? a).map fun o => (a, o)
def rest (g h : Heap) (L d : Addr) : List (Addr × Obj) := (allNews g h L).filter fun p => decide (p.1 ≠ d)
end L2
namespace L2
open PySem PySem.Spec PyProof.Rows
structure Mod (K : PySem.W.Frag) (mg : Str → Option Value) (base : Heap) : Prop where
  kin : K.In base
  glob : base.Ns mainGlobals mg
  blt : ∃ mb, base.Ns builtinsNs mb ∧ ∀ x : Str, x ≠ "__name__" → mb x = bootBuiltins x
  nolimit : base.NoLimit
structure Cx where
  prog : Program
  w : World
  K : PySem.W.Frag
  mg : Str → Option Value
  base : Heap
  A : Around
  N : List Str
  s₀ : Shared
  H₀ : Hp
  env : Env
  outer : List Env
  stack : List Env
  ex : List Addr
  fn : Str → Bool
  calm : Bool
  pn : List (Addr × Obj)
  xe : Value → Shared → Prop
def frs (l : List Env) : List Addr := l.filterMap (·.frame)
abbrev Cx.fs (X : Cx) : List Addr := frs X.outer
def Vis (sc : Scope) (x : Str) : Prop := sc.names.lookup x = some .local ∨ sc.names.lookup x = some .cell ∨ sc.names.lookup x = some .free
def Loc (sc : Scope) (x : Str) : Prop := sc.names.lookup x = some .local ∨ sc.names.lookup x = some .cell
def Look (env : Env) (h : Heap) (m : Str → Option Value) (x : Str) (u : Value) : Prop :=
  (env.kindOf x = some .local ∧ m x = some u) ∨ ((env.kindOf x = some .cell ∨ env.kindOf x = some .free) ∧ ∃ c, env.cells.lookup x = some c ∧ h.IsCell c (some u))
structure Cx.Ok (X : Cx) : Prop where
  mod : Mod X.K X.mg X.base
  kind : X.env.scope.kind = .function
  glob : X.env.globals = mainGlobals
  blt : X.env.builtins = builtinsNs
  above : X.s₀.heap.objs.size ≤ X.env.locals
  inj : ∀ x y c, X.env.cells.lookup x = some c → X.env.cells.lookup y = some c → x = y
  has : ∀ x, (X.env.kindOf x = some .cell ∨ X.env.kindOf x = some .free) → ∃ c, X.env.cells.lookup x = some c
  cab : ∀ x c, X.fn x = true → X.env.cells.lookup x = some c → X.s₀.heap.objs.size ≤ c
  hd : X.calm = true → X.A.handled = none
  frames : X.A.frames = some X.stack
  stk : X.stack = X.outer ∨ (X.stack = X.env :: X.outer ∧ X.env.frame = some X.env.locals)
  exf : ∀ b ∈ X.ex, b ≠ X.env.locals ∧ ∀ x c, X.env.cells.lookup x = some c → c ≠ b
  bs : ∀ b o, X.base.get? b = some o → X.s₀.heap.get? b = some o ∧ X.H₀ b = none
  bsz : X.base.objs.size ≤ X.s₀.heap.objs.size
  noex : ∀ b o, X.base.get? b = some o → b ∉ X.ex
  exfs : ∀ b ∈ X.ex, b ∉ X.fs
  funs : X.s₀.heap.FunFrames X.base X.outer
  frf : ∀ b ∈ X.fs, X.H₀ b = none
structure Inv (X : Cx) (pins : List (Addr × Obj)) (σ : List (Option V)) (H : Hp) (s : Shared) : Prop where
  ok : X.Ok
  os : s.os = X.s₀.os
  bare : AllBare s.gens
  base : Un X.fs X.ex X.H₀ H X.s₀.heap s.heap
  loc : ∃ m, s.heap.Ns X.env.locals m ∧ ∀ (i : Nat) (x : Str) (v : V), X.N[i]? = some x → σ[i]? = some (some v) → Vis X.env.scope x → ∃ u, RelV v u ∧ Look X.env s.heap m x u
  cell : ∀ x c, X.env.cells.lookup x = some c → ∃ v, s.heap.IsCell c v
  free : H X.env.locals = none
  freeC : ∀ x c, X.env.cells.lookup x = some c → H c = none
  pin : ∀ p ∈ X.pn ++ pins, s.heap.get? p.1 = some p.2 ∧ H p.1 = none ∧ p.1 ≠ X.env.locals ∧ p.1 ∉ X.fs ∧ ∀ v, p.2.data ≠ .cell v
  hok : HOk X.prog X.w H s.heap
  len : σ.length = X.N.length
section
variable {X : Cx} {pins : List (Addr × Obj)} {σ : List (Option V)} {H H' : Hp} {s : Shared} {h' : Heap}
theorem Cx.Ok.nofr (ok : X.Ok) {b : Addr} {o : Obj} (e : X.base.get? b = some o) : b ∉ X.fs := fun hb => by
  have := (ok.funs.mem hb).1
  rw [e] at this; cases this
theorem Inv.bs (I : Inv X pins σ H s) : ∀ b o, X.base.get? b = some o → s.heap.get? b = some o ∧ H b = none := fun b o e =>
  ⟨I.base.keep b o (I.ok.bs b o e).1 (I.ok.bs b o e).2 (I.ok.nofr e) (I.ok.noex b o e), I.base.free b o (I.ok.bs b o e).1 (I.ok.bs b o e).2 (I.ok.noex b o e)⟩
theorem Inv.bk (I : Inv X pins σ H s) : ∀ b o, X.base.get? b = some o → s.heap.get? b = some o := fun b o e => (I.bs b o e).1
theorem Inv.mod (I : Inv X pins σ H s) : Mod X.K X.mg X.base := I.ok.mod
theorem Inv.kIn (I : Inv X pins σ H s) : X.K.In s.heap := I.ok.mod.kin.keeps I.bk
theorem Inv.lt (I : Inv X pins σ H s) : X.env.locals < s.heap.objs.size := let ⟨_, hn, _⟩ := I.loc; hn.lt
theorem Inv.sz (I : Inv X pins σ H s) : X.s₀.heap.objs.size ≤ s.heap.objs.size := Nat.le_trans I.ok.above (Nat.le_of_lt I.lt)
theorem Inv.nofs (I : Inv X pins σ H s) {a : Addr} (h : s.heap.objs.size ≤ a) : a ∉ X.fs := fun hb => by
  obtain ⟨_, o, ho, _⟩ := I.ok.funs.mem hb
  exact absurd (Nat.lt_of_lt_of_le (Heap.lt_size ho) (Nat.le_trans I.sz h)) (Nat.lt_irrefl _)
theorem Inv.cne (I : Inv X pins σ H s) : ∀ x c, X.env.cells.lookup x = some c → c ≠ X.env.locals := fun x c e z => by
  obtain ⟨v, o, ho, hd⟩ := I.cell x c e
  obtain ⟨m, ⟨o', es, ep, ho', hd', _⟩, _⟩ := I.loc
  rw [z, ho'] at ho; cases ho; rw [hd'] at hd; cases hd
theorem Inv.funs (I : Inv X pins σ H s) : s.heap.FunFrames X.base X.outer := by
  have all : ∀ (l : List Env), (∀ b ∈ frs l, b ∈ X.fs) → X.s₀.heap.FunFrames X.base l → s.heap.FunFrames X.base l := by
    intro l
    induction l with
    | nil => intro _ _; trivial
    | cons env r ih =>
      intro hs hl
      obtain ⟨hk, ⟨L, o, hf, hn, ho, hd⟩, hr⟩ := hl
      have hL : L ∈ X.fs := hs L (by unfold frs; rw [List.filterMap_cons, hf]; exact List.mem_cons_self)
      obtain ⟨sl, e⟩ := I.base.slot L o ho (I.ok.frf L hL) hL fun z => I.ok.exfs L z hL
      exact ⟨hk, ⟨L, _, hf, hn, e, hd⟩, ih (fun b hb => hs b (by unfold frs; rw [List.filterMap_cons, hf]; exact List.mem_cons_of_mem _ hb)) hr⟩
  exact all X.outer (fun _ hb => hb) I.ok.funs
theorem Inv.stack (I : Inv X pins σ H s) : s.heap.FunFrames X.base X.stack := by
  rcases I.ok.stk with e | ⟨e, hf⟩
  · rw [e]; exact I.funs
  · rw [e]
    obtain ⟨m, hn, _⟩ := I.loc
    refine .cons (by rw [I.ok.kind]; decide) hf hn ?_ I.funs
    exact Heap.get?_none_of_le (Nat.le_trans I.ok.bsz I.ok.above)
theorem Inv.stkSub (I : Inv X pins σ H s) : ∀ b ∈ frs X.stack, b ∈ X.env.locals :: X.fs := fun b hb => by
  rcases I.ok.stk with e | ⟨e, hf⟩
  · rw [e] at hb; exact List.mem_cons_of_mem _ hb
  · rw [e] at hb
    unfold frs at hb
    rw [List.filterMap_cons, hf] at hb
    exact hb
theorem Inv.stkFree (I : Inv X pins σ H s) : ∀ b ∈ frs X.stack, H b = none := fun b hb => by
  rcases List.mem_cons.mp (I.stkSub b hb) with e | hb
  · rw [e]; exact I.free
  · obtain ⟨_, o, ho, _⟩ := I.ok.funs.mem hb
    exact I.base.free b o ho (I.ok.frf b hb) fun z => I.ok.exfs b z hb
theorem Inv.step {g' : Array GenState} {t' : Nat} {d' : Drawn} {ch : List Addr} (I : Inv X pins σ H s)
    (hch : ∀ b ∈ ch, (b ∈ X.ex ∨ X.s₀.heap.objs.size ≤ b) ∧ b ≠ X.env.locals ∧ (∀ x c, X.env.cells.lookup x = some c → c ≠ b) ∧ ∀ p ∈ X.pn ++ pins, p.1 ≠ b)
    (keep : ∀ b o, b ≠ X.env.locals → b ∉ X.fs → b ∉ ch → s.heap.get? b = some o → H b = none → h'.get? b = some o)
    (slot : ∀ b o, b ≠ X.env.locals → b ∈ X.fs → b ∉ ch → s.heap.get? b = some o → H b = none → ∃ sl, h'.get? b = some { o with slots := sl }) (free : ∀ b o, b ∉ ch → s.heap.get? b = some o → H b = none → H' b = none)
    (there : ∀ b o, b ∉ ch → s.heap.get? b = some o → ∃ o', h'.get? b = some o')
    (tups : ∀ b xs, H b = some (.tup xs) → H' b = some (.tup xs)) (frzs : ∀ b o u, H b = some (.frz o u) → H' b = some (.frz o u)) (tbls : ∀ b ps, H b = some (.tbl ps) → ∃ more, H' b = some (.tbl (ps ++ more)))
    (ns : ∀ m, s.heap.Ns X.env.locals m → h'.Ns X.env.locals m) (hok : HOk X.prog X.w H' h') (hg : AllBare g') :
    Inv X pins σ H' { s with heap := h', gens := g', drawn := d', toks := t' } := by
  have neL : ∀ b o, X.s₀.heap.get? b = some o → b ≠ X.env.locals := fun b o e => Nat.ne_of_lt (Nat.lt_of_lt_of_le (Heap.lt_size e) I.ok.above)
  have neC : ∀ b o, X.s₀.heap.get? b = some o → b ∉ X.ex → b ∉ ch := fun b o e hx hb => by
    rcases (hch b hb).1 with z | z
    · exact hx z
    · exact absurd (Nat.lt_of_lt_of_le (Heap.lt_size e) z) (Nat.lt_irrefl _)
  have cellK : ∀ x c, X.env.cells.lookup x = some c → ∀ v, s.heap.IsCell c v → h'.IsCell c v := fun x c e v ⟨o, ho, hd⟩ => by
    have nch : c ∉ ch := fun z => (hch c z).2.2.1 x c e rfl
    by_cases hc : c ∈ X.fs
    · obtain ⟨sl, q⟩ := slot c o (I.cne x c e) hc nch ho (I.freeC x c e)
      exact ⟨_, q, hd⟩
    · exact ⟨o, keep c o (I.cne x c e) hc nch ho (I.freeC x c e), hd⟩
  refine ⟨I.ok, I.os, hg, ⟨fun b o e n hb hx => ?_, fun b o e n hb hx => ?_, fun b o e n hx => ?_, fun b o e hx => ?_, fun b xs e => tups b xs (I.base.tups b xs e), fun b o xs e => frzs b o xs (I.base.frzs b o xs e), fun b ps e => ?_⟩, ?_, fun x c e => ?_, ?_, fun x c e => ?_, fun p hp => ?_, hok, I.len⟩
  · exact keep b o (neL b o e) hb (neC b o e hx) (I.base.keep b o e n hb hx) (I.base.free b o e n hx)
  · obtain ⟨sl, e1⟩ := I.base.slot b o e n hb hx
    obtain ⟨sl', e2⟩ := slot b _ (neL b o e) hb (neC b o e hx) e1 (I.base.free b o e n hx)
    exact ⟨sl', e2⟩
  · obtain ⟨o', e1⟩ := I.base.there b o e hx
    exact free b o' (neC b o e hx) e1 (I.base.free b o e n hx)
  · obtain ⟨o', e1⟩ := I.base.there b o e hx
    exact there b o' (neC b o e hx) e1
  · obtain ⟨m1, e1⟩ := I.base.tbls b ps e
    obtain ⟨m2, e2⟩ := tbls b _ e1
    exact ⟨m1 ++ m2, by rw [e2, Array.append_assoc]⟩
  · obtain ⟨m, hn, hl⟩ := I.loc
    refine ⟨m, ns m hn, fun i x v e1 e2 e3 => ?_⟩
    obtain ⟨u, r, l⟩ := hl i x v e1 e2 e3
    refine ⟨u, r, ?_⟩
    rcases l with l | ⟨k, c, e, z⟩
    · exact .inl l
    · exact .inr ⟨k, c, e, cellK x c e _ z⟩
  · obtain ⟨v, z⟩ := I.cell x c e
    exact ⟨v, cellK x c e v z⟩
  · obtain ⟨m, ⟨o, _, _, ho, _⟩, _⟩ := I.loc
    exact free _ o (fun z => (hch _ z).2.1 rfl) ho I.free
  · obtain ⟨v, o, ho, hd⟩ := I.cell x c e
    exact free c o (fun z => (hch c z).2.2.1 x c e rfl) ho (I.freeC x c e)
  · obtain ⟨e, n, ne, nf, d⟩ := I.pin p hp
    have nch : p.1 ∉ ch := fun z => (hch p.1 z).2.2.2 p hp rfl
    exact ⟨keep p.1 p.2 ne nf nch e n, free p.1 p.2 nch e n, ne, nf, d⟩
theorem Inv.un {t' : Nat} (I : Inv X pins σ H s) (u : Un X.fs [] H H' s.heap h') (hok : HOk X.prog X.w H' h') : Inv X pins σ H' { s with heap := h', toks := t' } := by
  obtain ⟨m, ⟨o, es, ep, ho, r⟩, _⟩ := id I.loc
  obtain ⟨sl, hL⟩ := u.any ho I.free (by simp)
  exact I.step (g' := s.gens) (d' := s.drawn) (ch := []) (fun _ z => nomatch z) (fun b o _ hb _ e n => u.keep b o e n hb (by simp)) (fun b o _ hb _ e n => u.slot b o e n hb (by simp)) (fun b o _ e n => u.free b o e n (by simp)) (fun b o _ e => u.there b o e (by simp)) u.tups u.frzs u.tbls (fun m' hm => by
    obtain ⟨o', es', ep', ho', r'⟩ := hm
    rw [ho] at ho'; cases ho'
    exact ⟨_, es', ep', hL, r'⟩) hok I.bare
theorem Inv.call {g' : Array GenState} {t' : Nat} {d' : Drawn} {ch : List Addr} (I : Inv X pins σ H s) (u : Un (frs X.stack) ch H H' s.heap h') (hok : HOk X.prog X.w H' h') (hg : AllBare g')
    (hch : ∀ b ∈ ch, (b ∈ X.ex ∨ X.s₀.heap.objs.size ≤ b) ∧ b ≠ X.env.locals ∧ (∀ x c, X.env.cells.lookup x = some c → c ≠ b) ∧ ∀ p ∈ X.pn ++ pins, p.1 ≠ b) :
    Inv X pins σ H' { s with heap := h', gens := g', drawn := d', toks := t' } := by
  obtain ⟨m, ⟨o, es, ep, ho, r⟩, _⟩ := id I.loc
  obtain ⟨sl, hL⟩ := u.any ho I.free fun z => (hch _ z).2.1 rfl
  exact I.step (ch := ch) hch (fun b o hL hb hc e n => u.keep b o e n (fun z => (List.mem_cons.mp (I.stkSub b z)).elim hL hb) hc) (fun b o _ _ hc e n => u.any e n hc) (fun b o hc e n => u.free b o e n hc) (fun b o hc e => u.there b o e hc) u.tups u.frzs u.tbls (fun m' hm => by
    obtain ⟨o', es', ep', ho', r'⟩ := hm
    rw [ho] at ho'; cases ho'
    exact ⟨_, es', ep', hL, r'⟩) hok hg
theorem Inv.turned {t' : Nat} {it : Addr} (I : Inv X pins σ H s) (k : ∀ b o, b ≠ it → s.heap.get? b = some o → h'.get? b = some o) (hn : H it = none) (hL : it ≠ X.env.locals)
    (h1 : it ∈ X.ex ∨ X.s₀.heap.objs.size ≤ it) (h2 : ∀ x c, X.env.cells.lookup x = some c → c ≠ it) (h3 : ∀ p ∈ X.pn ++ pins, p.1 ≠ it) : Inv X pins σ H { s with heap := h', toks := t' } := by
  have nit : ∀ b u, H b = some u → b ≠ it := fun b u e z => by rw [z, hn] at e; cases e
  refine I.step (g' := s.gens) (d' := s.drawn) (ch := [it]) (fun b hb => ?_) (fun b o _ _ hc e _ => k b o (fun z => hc (by simp [z])) e) (fun b o _ _ hc e _ => ⟨o.slots, k b o (fun z => hc (by simp [z])) e⟩) (fun _ _ _ _ n => n)
    (fun b o hc e => ⟨o, k b o (fun z => hc (by simp [z])) e⟩) (fun _ _ e => e) (fun _ _ _ e => e) (fun b ps e => ⟨#[], by rw [e]; simp⟩) (fun m hm => ?_) (fun b u e => ?_) I.bare
  · have e : b = it := by simpa using hb
    subst e
    exact ⟨h1, hL, h2, h3⟩
  · obtain ⟨o, es, ep, ho, r⟩ := hm
    exact ⟨o, es, ep, k _ o (Ne.symm hL) ho, r⟩
  · refine (I.hok b u e).stay (fun c v hc q => k c v ?_ q) (fun _ q => q) fun _ _ q => q
    rcases hc with z | z
    · rw [z]; exact nit b u e
    · exact nit c _ z
theorem Inv.tok (I : Inv X pins σ H s) (t : Nat) : Inv X pins σ H { s with toks := t } := I.un (h' := s.heap) (t' := t) Un.refl I.hok
theorem Inv.kept {t' : Nat} (I : Inv X pins σ H s) (k : ∀ b u, s.heap.get? b = some u → h'.get? b = some u) : Inv X pins σ H { s with heap := h', toks := t' } := I.un (Un.kept k) (I.hok.kept k)
theorem Inv.laid {a : Addr} {o : HO} {t' : Nat} (I : Inv X pins σ H s) (k : ∀ b u, s.heap.get? b = some u → h'.get? b = some u) (hp : s.heap.objs.size ≤ a) (new : ObjOk X.prog X.w (upd H a o) h' a o) :
    Inv X pins σ (upd H a o) { s with heap := h', toks := t' } := I.un (Un.laid k hp (I.hok.fresh hp)) (I.hok.laid k hp new)
theorem Inv.write {x e : Addr} {o : HO} {t' : Nat} (I : Inv X pins σ H s) (mu : Mut (H x)) (he : e = x ∨ H e = some (.own x)) (k : ∀ b u, b ≠ e → s.heap.get? b = some u → h'.get? b = some u) (heo : ∃ u, h'.get? e = some u)
    (new : ObjOk X.prog X.w (upd H x o) h' x o) : Inv X pins σ (upd H x o) { s with heap := h', toks := t' } := I.un (Un.write mu he k heo) (I.hok.write mu he k heo new)
theorem Inv.pins_of {pins' : List (Addr × Obj)} (I : Inv X pins σ H s) (h : ∀ p ∈ pins', s.heap.get? p.1 = some p.2 ∧ H p.1 = none ∧ p.1 ≠ X.env.locals ∧ p.1 ∉ X.fs ∧ ∀ v, p.2.data ≠ .cell v) : Inv X pins' σ H s :=
  ⟨I.ok, I.os, I.bare, I.base, I.loc, I.cell, I.free, I.freeC, fun p hp => (List.mem_append.mp hp).elim (fun z => I.pin p (List.mem_append_left _ z)) (h p), I.hok, I.len⟩
theorem nodup_ix {N : List Str} (hN : N.Nodup) {i j : Nat} {x : Str} (a : N[i]? = some x) (b : N[j]? = some x) : i = j := by
  obtain ⟨h1, e1⟩ := List.getElem?_eq_some_iff.mp a
  obtain ⟨h2, e2⟩ := List.getElem?_eq_some_iff.mp b
  exact (List.getElem_inj hN).mp (e1.trans e2.symm)
theorem store_ok2 {M : Model} {A : Around} {E : Value → Shared → Prop} {i : Nat} {x : Str} {v : V} {u : Value} {Q : Unit → Shared → Prop} (I : Inv X pins σ H s) (hN : X.N.Nodup) (hi : X.N[i]? = some x) (hx : Loc X.env.scope x) (r : RelV v u)
    (h : ∀ s', Inv X pins (σ.set i (some v)) H s' → (∃ a, Heap.SameBut a s.heap s'.heap ∧ (a = X.env.locals ∨ X.env.cells.lookup x = some a)) → Q () s') (hf : X.fn x = true ∨ X.env.scope.names.lookup x = some .local := by first | exact .inl rfl | exact .inr rfl | assumption) : wpAny M A (storeName X.env x u) Q E s := by
  obtain ⟨m, hn, hl⟩ := id I.loc
  have hcls : (X.env.scope.kind == .class || (X.env.scope.kind == .module && X.env.locals != X.env.globals)) = false := by rw [I.ok.kind]; rfl
  have hiσ : i < σ.length := by rw [I.len]; exact (List.getElem?_eq_some_iff.mp hi).1
  have cne := I.cne
  have tracked : ∀ {a : Addr} {h' : Heap}, (∃ o, s.heap.get? a = some o ∧ H a = none) → Heap.SameBut a s.heap h' → HOk X.prog X.w H h' := fun {a h'} ha hs b ob e => by
    obtain ⟨_, _, hfree⟩ := ha
    refine (I.hok b ob e).stay (fun c w' hc q => (hs.2 c ?_).trans q) (fun _ q => q) fun _ _ q => q
    rintro rfl
    rcases hc with rfl | hc
    · rw [hfree] at e; cases e
    · rw [hfree] at hc; cases hc
  rcases hx with hk | hk
  · refine wpAny_storeName_local hk hn (fun h' hn' hs => ?_) hcls
    obtain ⟨oL, _, _, hoL, _⟩ := id hn
    refine h _ ⟨I.ok, I.os, I.bare, ⟨fun b o e n hb hx => ?_, fun b o e n hb hx => ?_, I.base.free, fun b o e hx => ?_, I.base.tups, I.base.frzs, I.base.tbls⟩, ⟨_, hn', fun j y v' e1 e2 e3 => ?_⟩, fun y c e => ?_, I.free, I.freeC, fun p hp => ?_, tracked ⟨oL, hoL, I.free⟩ hs, by simpa using I.len⟩ ⟨_, hs, .inl rfl⟩
    · exact (hs.2 b (Nat.ne_of_lt (Nat.lt_of_lt_of_le (Heap.lt_size e) I.ok.above))).trans (I.base.keep b o e n hb hx)
    · obtain ⟨sl, e1⟩ := I.base.slot b o e n hb hx
      exact ⟨sl, (hs.2 b (Nat.ne_of_lt (Nat.lt_of_lt_of_le (Heap.lt_size e) I.ok.above))).trans e1⟩
    · obtain ⟨o', e1⟩ := I.base.there b o e hx
      exact ⟨o', (hs.2 b (Nat.ne_of_lt (Nat.lt_of_lt_of_le (Heap.lt_size e) I.ok.above))).trans e1⟩
    · by_cases hj : j = i
      · subst hj
        rw [hi] at e1; cases e1
        rw [List.getElem?_set_self hiσ] at e2
        cases e2
        exact ⟨u, r, .inl ⟨hk, by simp⟩⟩
      · rw [List.getElem?_set_ne (Ne.symm hj)] at e2
        obtain ⟨u', r', q⟩ := hl j y v' e1 e2 e3
        refine ⟨u', r', ?_⟩
        rcases q with ⟨k, e⟩ | ⟨k, c, e, z⟩
        · refine .inl ⟨k, ?_⟩
          have : y ≠ x := fun e => hj (nodup_ix hN e1 (e ▸ hi))
          simp [this, e]
        · exact .inr ⟨k, c, e, z.sameBut hs (cne y c e)⟩
    · obtain ⟨w', z⟩ := I.cell y c e
      exact ⟨w', z.sameBut hs (cne y c e)⟩
    · obtain ⟨e, n, ne, nf, d⟩ := I.pin p hp
      exact ⟨(hs.2 p.1 ne).trans e, n, ne, nf, d⟩
  · have hfn : X.fn x = true := by
      rcases hf with z | z
      · exact z
      · rw [z] at hk; cases hk
    obtain ⟨c, hc⟩ := I.ok.has x (.inl hk)
    obtain ⟨w', z⟩ := I.cell x c hc
    refine wpAny_storeName_cell I.ok.kind hk hc z (fun h' hc' hs => ?_)
    obtain ⟨oc, hoc, hocd⟩ := id z
    refine h { s with heap := h' } ⟨I.ok, I.os, I.bare, ⟨fun b o e n hb hx => ?_, fun b o e n hb hx => ?_, I.base.free, fun b o e hx => ?_, I.base.tups, I.base.frzs, I.base.tbls⟩, ⟨m, hn.sameBut hs (Ne.symm (cne x c hc)), fun j y v' e1 e2 e3 => ?_⟩, fun y c' e => ?_, I.free, I.freeC, fun p hp => ?_, tracked ⟨oc, hoc, I.freeC x c hc⟩ hs, by simpa using I.len⟩ ⟨c, hs, .inr hc⟩
    · exact (hs.2 b (Nat.ne_of_lt (Nat.lt_of_lt_of_le (Heap.lt_size e) (I.ok.cab x c hfn hc)))).trans (I.base.keep b o e n hb hx)
    · obtain ⟨sl, e1⟩ := I.base.slot b o e n hb hx
      exact ⟨sl, (hs.2 b (Nat.ne_of_lt (Nat.lt_of_lt_of_le (Heap.lt_size e) (I.ok.cab x c hfn hc)))).trans e1⟩
    · obtain ⟨o', e1⟩ := I.base.there b o e hx
      exact ⟨o', (hs.2 b (Nat.ne_of_lt (Nat.lt_of_lt_of_le (Heap.lt_size e) (I.ok.cab x c hfn hc)))).trans e1⟩
    · by_cases hj : j = i
      · subst hj
        rw [hi] at e1; cases e1
        rw [List.getElem?_set_self hiσ] at e2
        cases e2
        exact ⟨u, r, .inr ⟨.inl hk, c, hc, hc'⟩⟩
      · rw [List.getElem?_set_ne (Ne.symm hj)] at e2
        obtain ⟨u', r', q⟩ := hl j y v' e1 e2 e3
        refine ⟨u', r', ?_⟩
        rcases q with q | ⟨k, c', e, z'⟩
        · exact .inl q
        · refine .inr ⟨k, c', e, z'.sameBut hs ?_⟩
          rintro rfl
          exact hj (nodup_ix hN e1 (I.ok.inj _ _ _ e hc ▸ hi))
    · by_cases hcc : c' = c
      · subst hcc; exact ⟨_, hc'⟩
      · obtain ⟨w2, z2⟩ := I.cell y c' e
        exact ⟨w2, z2.sameBut hs hcc⟩
    · obtain ⟨e, n, ne, nf, d⟩ := I.pin p hp
      refine ⟨(hs.2 p.1 ?_).trans e, n, ne, nf, d⟩
      intro q
      rw [q, hoc] at e
      have q' : oc = p.2 := Option.some.inj e
      exact d w' (by rw [← q']; exact hocd)
theorem store_ok {M : Model} {A : Around} {E : Value → Shared → Prop} {i : Nat} {x : Str} {v : V} {u : Value} {Q : Unit → Shared → Prop} (I : Inv X pins σ H s) (hN : X.N.Nodup) (hi : X.N[i]? = some x) (hx : Loc X.env.scope x) (r : RelV v u)
    (h : ∀ s', Inv X pins (σ.set i (some v)) H s' → Q () s') (hf : X.fn x = true ∨ X.env.scope.names.lookup x = some .local := by first | exact .inl rfl | exact .inr rfl | assumption) : wpAny M A (storeName X.env x u) Q E s :=
  store_ok2 I hN hi hx r (fun s' I' _ => h s' I') hf
theorem Inv.call' {s' : Shared} {ch : List Addr} (I : Inv X pins σ H s) (ho : s'.os = s.os) (u : Un (frs X.stack) ch H H' s.heap s'.heap) (hok : HOk X.prog X.w H' s'.heap) (hg : AllBare s'.gens)
    (hch : ∀ b ∈ ch, (b ∈ X.ex ∨ X.s₀.heap.objs.size ≤ b) ∧ b ≠ X.env.locals ∧ (∀ x c, X.env.cells.lookup x = some c → c ≠ b) ∧ ∀ p ∈ X.pn ++ pins, p.1 ≠ b) : Inv X pins σ H' s' := by
  obtain ⟨h', g', d', t', o'⟩ := s'
  have e : o' = s.os := ho
  subst e
  exact I.call (g' := g') (t' := t') (d' := d') u hok hg hch
end
abbrev XK := Value → Option Addr → Hp → Prop
abbrev St := List (Option V)
abbrev VK := V → Hp → Prop
abbrev TE := St → Hp → VK → Prop
abbrev TT := St → Hp → (Bool → Hp → Prop) → Prop
abbrev TA := St → Hp → (List V → Hp → Prop) → Prop
structure Ends where
  nx : St → Hp → Prop
  rt : VK
  bk : St → Hp → Prop := fun _ _ => False
  ct : St → Hp → Prop := fun _ _ => False
abbrev TS := Ends → St → Hp → Prop
def EP (X : Cx) (pins : List (Addr × Obj)) (σ : St) (Q : VK) (u : Value) (s' : Shared) : Prop := ∃ v H', Inv X pins σ H' s' ∧ RelV v u ∧ Q v H'
def TP (X : Cx) (pins : List (Addr × Obj)) (σ : St) (Q : Bool → Hp → Prop) (b : Bool) (s' : Shared) : Prop := ∃ H', Inv X pins σ H' s' ∧ Q b H'
def AP (X : Cx) (pins : List (Addr × Obj)) (σ : St) (Q : List V → Hp → Prop) (us : List Value) (s' : Shared) : Prop := ∃ vs H', Inv X pins σ H' s' ∧ Vals vs us ∧ Q vs H'
def SP (X : Cx) (pins : List (Addr × Obj)) (D : Ends) (f : Flow) (s' : Shared) : Prop :=
  match f with
  | .next => ∃ σ' H', Inv X pins σ' H' s' ∧ D.nx σ' H'
  | .brk => ∃ σ' H', Inv X pins σ' H' s' ∧ D.bk σ' H'
  | .cont => ∃ σ' H', Inv X pins σ' H' s' ∧ D.ct σ' H'
  | .ret u => ∃ v σ' H', Inv X pins σ' H' s' ∧ RelV v u ∧ D.rt v H'
def PE (X : Cx) (e : Expr) (t : TE) : Prop :=
  ∀ (pins : List (Addr × Obj)) (s : Shared) (σ : St) (H : Hp) (Q : VK), Inv X pins σ H s → t σ H Q → wpAny (model X.prog X.w) X.A (eval e X.env) (EP X pins σ Q) X.xe s
def PT (X : Cx) (e : Expr) (t : TT) : Prop :=
  ∀ (pins : List (Addr × Obj)) (s : Shared) (σ : St) (H : Hp) (Q : Bool → Hp → Prop), Inv X pins σ H s → t σ H Q → wpAny (model X.prog X.w) X.A (isTrue e X.env (eval e X.env)) (TP X pins σ Q) X.xe s
def PW (X : Cx) (e : Expr) (t : TT) : Prop :=
  ∀ (whole : Sem Value) (pins : List (Addr × Obj)) (s : Shared) (σ : St) (H : Hp) (Q : Bool → Hp → Prop), Inv X pins σ H s → t σ H Q → wpAny (model X.prog X.w) X.A (isTrue e X.env whole) (TP X pins σ Q) X.xe s
theorem PW.pt {X : Cx} {e : Expr} {t : TT} (h : PW X e t) : PT X e t := h _
def PA (X : Cx) (es : List Expr) (t : TA) : Prop :=
  ∀ (pos : Pos) (pins : List (Addr × Obj)) (s : Shared) (σ : St) (H : Hp) (Q : List V → Hp → Prop), Inv X pins σ H s → t σ H Q → wpAny (model X.prog X.w) X.A (spliced (backTo pos (starEach es X.env))) (AP X pins σ Q) X.xe s
def PS (X : Cx) (st : Stmt) (t : TS) : Prop :=
  ∀ (pins : List (Addr × Obj)) (s : Shared) (σ : St) (H : Hp) (D : Ends), Inv X pins σ H s → t D σ H → wpAny (model X.prog X.w) X.A (exec st X.env) (SP X pins D) X.xe s
def PSs (X : Cx) (st : List Stmt) (t : TS) : Prop :=
  ∀ (pins : List (Addr × Obj)) (s : Shared) (σ : St) (H : Hp) (D : Ends), Inv X pins σ H s → t D σ H → wpAny (model X.prog X.w) X.A (execs st X.env) (SP X pins D) X.xe s
theorem thn {α : Type} {t : Sem α} {Q Q' : α → Shared → Prop} {M : Model} {A : Around} {E : Value → Shared → Prop} {s : Shared} (h : wpAny M A t Q E s) (hQ : ∀ a s, Q a s → Q' a s) : wpAny M A t Q' E s := wpAny_mono h hQ fun _ _ x => x
end L2
namespace L2
open PySem PySem.Spec PyProof.Rows
section
variable {X : Cx}
def tVar (i : Nat) : TE := fun σ H Q => ∃ v, σ[i]? = some (some v) ∧ Q v H
def tC (v : V) : TE := fun _ H Q => Q v H
theorem pe_var {i : Nat} {x : Str} {pos : Pos} (hN : X.N[i]? = some x) (hv : Vis X.env.scope x) (hd : (x == ("__debug__" : Str)) = false := by decide) (hcd : (x == ("__classdict__" : Str)) = false := by decide) : PE X (.Name x pos) (tVar i) := by
  intro pins s σ H Q I h
  obtain ⟨v, e, h⟩ := h
  obtain ⟨m, hn, hl⟩ := I.loc
  obtain ⟨u, r, l⟩ := hl i x v hN e hv
  have fin : EP X pins σ Q u s := ⟨v, H, I, r, h⟩
  rcases l with ⟨hk, hm⟩ | ⟨hk, c, hc, hcell⟩
  · exact wpAny_Name (wpAny_loadName_local I.ok.kind hk hn hm fin) hd
  · rcases hk with hk | hk
    · exact wpAny_Name (wpAny_loadName_cell I.ok.kind hk hc hcell fin) hd
    · exact wpAny_Name (wpAny_loadName_free I.ok.kind hk hc hcell fin hcd) hd
theorem pe_int {i j pos} : PE X (.Constant (.int i) j pos) (tC (.int i)) := fun _ _ _ H _ I h => wpAny_Constant_int ⟨.int i, H, I.tok _, ⟨_, rfl⟩, h⟩
theorem pe_bl {b j pos} : PE X (.Constant (.bool b) j pos) (tC (.bl b)) := fun _ _ _ H _ I h => Constant_bool ⟨.bl b, H, I, rfl, h⟩
theorem pe_non {j pos} : PE X (.Constant .none j pos) (tC .non) := fun _ _ _ H _ I h => Constant_none ⟨.non, H, I, rfl, h⟩
theorem pe_str {x j pos} : PE X (.Constant (.str x) j pos) (tC (.str x)) := fun _ _ _ H _ I h => Calls.Constant_str ⟨.str x, H, I.tok _, ⟨_, rfl⟩, h⟩
def Gl (X : Cx) (x : Str) : Prop := X.env.kindOf x = some .globalImplicit
theorem ld_glob {E : Value → Shared → Prop} {pins : List (Addr × Obj)} {s : Shared} {σ : St} {H : Hp} {x : Str} {u : Value} {pos : Pos} {Q : Value → Shared → Prop} (I : Inv X pins σ H s) (hg : Gl X x) (hm : X.mg x = some u) (h : Q u s)
    (hd : (x == ("__debug__" : Str)) = false := by decide) : wpAny (model X.prog X.w) X.A (eval (.Name x pos) X.env) Q E s :=
  Calls.Name_function_global I.ok.kind hg (Calls.loadGlobal_global (by rw [I.ok.glob]; exact I.mod.glob.keeps I.bk) hm h) hd
theorem ld_blt {E : Value → Shared → Prop} {pins : List (Addr × Obj)} {s : Shared} {σ : St} {H : Hp} {x : Str} {u : Value} {pos : Pos} {Q : Value → Shared → Prop} (I : Inv X pins σ H s) (hg : Gl X x) (hm : X.mg x = none) (hv : bootBuiltins x = some u) (h : Q u s)
    (hn : x ≠ "__name__" := by decide) (hd : (x == ("__debug__" : Str)) = false := by decide) : wpAny (model X.prog X.w) X.A (eval (.Name x pos) X.env) Q E s := by
  obtain ⟨mb, h1, h2⟩ := I.mod.blt
  exact Calls.Name_function_global I.ok.kind hg (Calls.loadGlobal_builtin (by rw [I.ok.glob]; exact I.mod.glob.keeps I.bk) hm (by rw [I.ok.blt]; exact h1.keeps I.bk) ((h2 x hn).trans hv) h) hd
theorem pe_glob {x : Str} {v : V} {u : Value} {pos : Pos} (hg : Gl X x) (hm : X.mg x = some u) (r : RelV v u) (hd : (x == ("__debug__" : Str)) = false := by decide) : PE X (.Name x pos) (tC v) :=
  fun _ _ _ H _ I h => ld_glob I hg hm ⟨v, H, I, r, h⟩ hd
theorem pe_bltn {x : Str} {v : V} {u : Value} {pos : Pos} (hg : Gl X x) (hm : X.mg x = none) (hv : bootBuiltins x = some u) (r : RelV v u) (hn : x ≠ "__name__" := by decide) (hd : (x == ("__debug__" : Str)) = false := by decide) : PE X (.Name x pos) (tC v) :=
  fun _ _ _ H _ I h => ld_blt I hg hm hv ⟨v, H, I, r, h⟩ hn hd
def t2I (ta tb : TE) (k : Int → Int → Hp → Prop) : St → Hp → Prop := fun σ H => ta σ H fun x H1 => tb σ H1 fun y H2 => ∃ i j, x = .int i ∧ y = .int j ∧ k i j H2
def tAdd (ta tb : TE) : TE := fun σ H Q => t2I ta tb (fun i j H2 => Q (.int (i + j)) H2) σ H
def tSub (ta tb : TE) : TE := fun σ H Q => t2I ta tb (fun i j H2 => Q (.int (i - j)) H2) σ H
def tMul (ta tb : TE) : TE := fun σ H Q => t2I ta tb (fun i j H2 => (-(2 ^ 64) < i ∧ i < 2 ^ 64) ∧ Q (.int (i * j)) H2) σ H
variable {a b : Expr} {ta tb : TE} {pos : Pos}
def PC (X : Cx) (op : CmpOp) (a b : Expr) (t : TE) : Prop :=
  ∀ (pins : List (Addr × Obj)) (s : Shared) (σ : St) (H : Hp) (Q : VK), Inv X pins σ H s → t σ H Q →
    wpAny (model X.prog X.w) X.A (eval a X.env) (fun v s₁ => wpAny (model X.prog X.w) X.A (eval b X.env) (fun u s₂ => wpAny (model X.prog X.w) X.A (compareOp op v u) (EP X pins σ Q) X.xe s₂) X.xe s₁) X.xe s
def tCmp (p : Int → Int → Bool) (ta tb : TE) : TE := fun σ H Q => t2I ta tb (fun i j H2 => Q (.bl (p i j)) H2) σ H
abbrev tLt : TE → TE → TE := tCmp fun i j => decide (i < j)
abbrev tLe : TE → TE → TE := tCmp fun i j => decide (i ≤ j)
abbrev tGt : TE → TE → TE := tCmp fun i j => decide (j < i)
abbrev tGe : TE → TE → TE := tCmp fun i j => decide (j ≤ i)
abbrev tEqI : TE → TE → TE := tCmp fun i j => decide (i = j)
abbrev tNeI : TE → TE → TE := tCmp fun i j => !decide (i = j)
def tIsN (ta : TE) : TE := fun σ H Q => ta σ H fun x H1 => Q (.bl (decide (x = .non))) H1
def tNotN (ta : TE) : TE := fun σ H Q => ta σ H fun x H1 => Q (.bl (!decide (x = .non))) H1
def tB (t : TE) : TT := fun σ H Q => t σ H fun x H1 => ∃ c, x = .bl c ∧ Q c H1
variable {tA tB' : TT} {rest : List Expr}
def tAnd (t u : TT) : TT := fun σ H Q => t σ H fun c H1 => if c = true then u σ H1 Q else Q false H1
def tOr (t u : TT) : TT := fun σ H Q => t σ H fun c H1 => if c = true then Q true H1 else u σ H1 Q
def tNot (t : TT) : TT := fun σ H Q => t σ H fun c H1 => Q (!c) H1
theorem pw_and1 (ha : PT X a tA) : PW X (.BoolOp .And [a] pos) tA := by
  intro wh pins s σ H Q I h
  refine isTrue_and (thn (ha pins s σ H Q I h) fun c s1 e => ?_)
  cases c with
  | true => exact isTrue_and_nil e
  | false => exact e
theorem pw_or1 (ha : PT X a tA) : PW X (.BoolOp .Or [a] pos) tA := by
  intro wh pins s σ H Q I h
  refine isTrue_or (thn (ha pins s σ H Q I h) fun c s1 e => ?_)
  cases c with
  | false => exact isTrue_or_nil e
  | true => exact e
theorem pt_not (ha : PT X a tA) : PT X (.UnaryOp .Not a pos) (tNot tA) := by
  intro pins s σ H Q I h
  exact isTrue_not (ha pins s σ H (fun c H1 => Q (!c) H1) I h)
def tAndV (ta tb : TE) : TE := fun σ H Q => ta σ H fun x H1 => ∃ c, x = .bl c ∧ if c = true then tb σ H1 Q else Q (.bl false) H1
def tOrV (ta tb : TE) : TE := fun σ H Q => ta σ H fun x H1 => ∃ c, x = .bl c ∧ if c = true then Q (.bl true) H1 else tb σ H1 Q
def tNotV (ta : TE) : TE := fun σ H Q => ta σ H fun x H1 => ∃ c, x = .bl c ∧ Q (.bl (!c)) H1
theorem pe_one {op} {t : TE} (h : PE X a t) : PE X (.BoolOp op [a] pos) t := fun pins s σ H Q I hw => BoolOp_one (h pins s σ H Q I hw)
theorem pe_not (ha : PE X a ta) : PE X (.UnaryOp .Not a pos) (tNotV ta) := by
  intro pins s σ H Q I h
  refine UnaryOp_ (thn (ha pins s σ H _ I h) fun v s1 ⟨x, H1, I1, r1, q1⟩ => ?_)
  obtain ⟨c, rfl, q1⟩ := q1
  cases r1
  exact not_of (wpAny_truthy_bool ⟨.bl (!c), H1, I1, rfl, q1⟩)
def tIf (t : TT) (ta tb : TE) : TE := fun σ H Q => t σ H fun c H1 => if c = true then ta σ H1 Q else tb σ H1 Q
end
end L2
namespace L2
open PySem PySem.Spec PyProof.Rows
def SqL (K : PySem.W.Frag) (H : Hp) (a : Addr) (xs : List V) : Prop :=
  Rd H a (.lst xs) ∨
    ∃ (o : Obj) (its : Array Value) (n : Nat), K.lookup a = some o ∧ o.cls = .type "list" ∧ o.dict = none ∧ o.data = .seq its n ∧ its.size ≤ sizeLine ∧ Vals xs its.toList
def SqT (K : PySem.W.Frag) (H : Hp) (a : Addr) (xs : List V) : Prop :=
  Rd H a (.tup xs) ∨
    ∃ (o : Obj) (its : Array Value) (n : Nat), K.lookup a = some o ∧ o.cls = .type "tuple" ∧ o.dict = none ∧ o.data = .seq its n ∧ its.size ≤ sizeLine ∧ Vals xs its.toList
def absV : Value → Option V
  | .none => some .non
  | .bool b => some (.bl b)
  | .int i _ => some (.int i)
  | .str x _ => some (.str x)
  | .bytes b _ => some (.byt b)
  | .float b _ => some (.flt b)
  | .ref a => some (.ref a)
  | .type n => some (.ty n)
  | _ => none
theorem RelV.abs {x : V} {u : Value} (r : RelV x u) : absV u = some x := by
  cases x with
  | non => cases r; rfl
  | bl _ => cases r; rfl
  | int _ => obtain ⟨t, rfl⟩ := r; rfl
  | str _ => obtain ⟨t, rfl⟩ := r; rfl
  | byt _ => obtain ⟨t, rfl⟩ := r; rfl
  | flt _ => obtain ⟨t, rfl⟩ := r; rfl
  | ref _ => cases r; rfl
  | ty _ => cases r; rfl
theorem RelV.inj {x y : V} {u : Value} (r : RelV x u) (q : RelV y u) : x = y := Option.some.inj (r.abs.symm.trans q.abs)
theorem Vals.inj : ∀ {xs ys : List V} {us : List Value}, Vals xs us → Vals ys us → xs = ys
  | _, _, _, .nil, .nil => rfl
  | _, _, _, .cons r t, .cons r' t' => by rw [r.inj r', Vals.inj t t']
section
variable {X : Cx} {pins : List (Addr × Obj)} {σ : St} {H : Hp} {s : Shared} {a : Addr} {xs ys : List V}
theorem SqL.of {K : PySem.W.Frag} (h : H a = some (.lst xs)) : SqL K H a xs := .inl (.inl h)
theorem SqT.of {K : PySem.W.Frag} (h : H a = some (.tup xs)) : SqT K H a xs := .inl (.inl h)
theorem Inv.list (I : Inv X pins σ H s) (h : SqL X.K H a xs) : ∃ its : List Value, Vals xs its ∧ PlainL s.heap a its.toArray ∧ xs.length ≤ sizeLine := by
  rcases h with h | ⟨o, its, n, hk, hc, hd, hs, hz, r⟩
  · obtain ⟨z, its, n, r, e⟩ := h.ok I.hok
    exact ⟨its, r, ⟨_, n, e, rfl, rfl, rfl⟩, z⟩
  · refine ⟨its.toList, r, ⟨o, n, I.kIn a o hk, hc, hd, by simpa using hs⟩, ?_⟩
    have e := r.length
    simp only [Array.length_toList] at e
    omega
theorem Inv.tuple (I : Inv X pins σ H s) (h : SqT X.K H a xs) : ∃ its : List Value, Vals xs its ∧ IsTup s.heap a its.toArray ∧ xs.length ≤ sizeLine := by
  rcases h with h | ⟨o, its, n, hk, hc, _, hs, hz, r⟩
  · obtain ⟨z, its, r, p⟩ := h.ok I.hok
    exact ⟨its, r, p.t, z⟩
  · refine ⟨its.toList, r, ⟨o, I.kIn a o hk, hc, n, by simpa using hs⟩, ?_⟩
    have e := r.length
    simp only [Array.length_toList] at e
    omega
theorem Inv.tupN (I : Inv X pins σ H s) (h : SqT X.K H a xs) : ∃ its : List Value, Vals xs its ∧ TupN s.heap a its.toArray ∧ xs.length ≤ sizeLine := by
  rcases h with h | ⟨o, its, n, hk, hc, hd, hs, hz, r⟩
  · obtain ⟨z, its, r, p⟩ := h.ok I.hok
    exact ⟨its, r, p, z⟩
  · refine ⟨its.toList, r, ⟨o, I.kIn a o hk, hd, hc, n, by simpa using hs⟩, ?_⟩
    have e := r.length
    simp only [Array.length_toList] at e
    omega
theorem Inv.list_inj (I : Inv X pins σ H s) (h : SqL X.K H a xs) (h' : SqL X.K H a ys) : xs = ys := by
  obtain ⟨its, r, ⟨o, n, e, _, _, d⟩, _⟩ := I.list h
  obtain ⟨its', r', ⟨o', n', e', _, _, d'⟩, _⟩ := I.list h'
  rw [e] at e'; cases e'
  rw [d] at d'
  injection d' with d1 _
  have : its = its' := by simpa using congrArg Array.toList d1
  subst this
  exact r.inj r'
theorem Inv.tuple_inj (I : Inv X pins σ H s) (h : SqT X.K H a xs) (h' : SqT X.K H a ys) : xs = ys := by
  obtain ⟨its, r, ⟨o, e, _, n, d⟩, _⟩ := I.tuple h
  obtain ⟨its', r', ⟨o', e', _, n', d'⟩, _⟩ := I.tuple h'
  rw [e] at e'; cases e'
  rw [d] at d'
  injection d' with d1 _
  have : its = its' := by simpa using congrArg Array.toList d1
  subst this
  exact r.inj r'
end
abbrev Cx.wish (X : Cx) (E : Value → Shared → Prop) : Cx := { X with xe := E }
abbrev Cx.nox (X : Cx) : Cx := X.wish fun _ _ => False
theorem Cx.Ok.wish {X : Cx} (ok : X.Ok) (E : Value → Shared → Prop) : (X.wish E).Ok :=
  ⟨ok.mod, ok.kind, ok.glob, ok.blt, ok.above, ok.inj, ok.has, ok.cab, ok.hd, ok.frames, ok.stk, ok.exf, ok.bs, ok.bsz, ok.noex, ok.exfs, ok.funs, ok.frf⟩
theorem Cx.Ok.unwish {X : Cx} {E : Value → Shared → Prop} (ok : (X.wish E).Ok) : X.Ok :=
  ⟨ok.mod, ok.kind, ok.glob, ok.blt, ok.above, ok.inj, ok.has, ok.cab, ok.hd, ok.frames, ok.stk, ok.exf, ok.bs, ok.bsz, ok.noex, ok.exfs, ok.funs, ok.frf⟩
section
variable {X : Cx} {pins : List (Addr × Obj)} {σ : St} {H : Hp} {s : Shared} {E : Value → Shared → Prop}
theorem Inv.wish (I : Inv X pins σ H s) (E : Value → Shared → Prop) : Inv (X.wish E) pins σ H s := ⟨I.ok.wish E, I.os, I.bare, I.base, I.loc, I.cell, I.free, I.freeC, I.pin, I.hok, I.len⟩
theorem Inv.unwish (I : Inv (X.wish E) pins σ H s) : Inv X pins σ H s := ⟨I.ok.unwish, I.os, I.bare, I.base, I.loc, I.cell, I.free, I.freeC, I.pin, I.hok, I.len⟩
theorem SP.unwish {D : Ends} {f : Flow} {s' : Shared} (h : SP (X.wish E) pins D f s') : SP X pins D f s' := by
  cases f with
  | next => obtain ⟨σ', H', I, q⟩ := h; exact ⟨σ', H', I.unwish, q⟩
  | brk => obtain ⟨σ', H', I, q⟩ := h; exact ⟨σ', H', I.unwish, q⟩
  | cont => obtain ⟨σ', H', I, q⟩ := h; exact ⟨σ', H', I.unwish, q⟩
  | ret u => obtain ⟨v, σ', H', I, r, q⟩ := h; exact ⟨v, σ', H', I.unwish, r, q⟩
theorem PSs.nox {st : List Stmt} {t : TS} (h : PSs X.nox st t) : PSs X st t := fun pins s σ H D I hw =>
  wpAny_mono (h pins s σ H D (I.wish _) hw) (fun _ _ q => q.unwish) fun _ _ z => False.elim z
end
section
variable {X : Cx} {st : Stmt} {rest : List Stmt} {t u : TS} {e : Expr} {te : TE} {pos : Pos}
def tNext : TS := fun D σ H => D.nx σ H
def tSeq (t u : TS) : TS := fun D σ H => t { D with nx := u D } σ H
theorem pss_nil : PSs X [] tNext := fun _ _ σ H _ I h => wpAny_execs_nil ⟨σ, H, I, h⟩
theorem pss_cons (h1 : PS X st t) (h2 : PSs X rest u) : PSs X (st :: rest) (tSeq t u) := by
  intro pins s σ H D I h
  refine wpAny_execs_cons (thn (h1 pins s σ H { D with nx := u D } I h) fun f s1 q => ?_)
  cases f with
  | next =>
    obtain ⟨σ', H', I', q⟩ := q
    exact h2 pins s1 σ' H' D I' q
  | ret v => exact q
  | brk => exact q
  | cont => exact q
def tBreak : TS := fun D σ H => D.bk σ H
def tCont : TS := fun D σ H => D.ct σ H
theorem Inv.quiet {pins : List (Addr × Obj)} {σ : St} {H : Hp} {s : Shared} (I : Inv X pins σ H s) : interactive X.env = false := by simp [interactive, I.ok.kind]
def tDrop (te : TE) : TS := fun D σ H => te σ H fun _ H1 => D.nx σ H1
theorem ps_expr (he : PE X e te) (hs : swapsWith e none pos.line X.env = pure false := by rfl) : PS X (.Expr e pos) (tDrop te) := by
  intro pins s σ H D I h
  exact wpAny_Expr_any (thn (he pins s σ H _ I h) fun v s1 ⟨x, H1, I1, r1, q1⟩ => ⟨σ, H1, I1, q1⟩) I.quiet hs
def tRet (te : TE) : TS := fun D σ H => te σ H D.rt
theorem ps_ret (he : PE X e te) : PS X (.Return (some e) pos) (tRet te) := by
  intro pins s σ H D I h
  exact wpAny_Return_some (thn (he pins s σ H _ I h) fun v s1 ⟨x, H1, I1, r1, q1⟩ => ⟨x, σ, H1, I1, r1, q1⟩)
def tRetN : TS := fun D _ H => D.rt .non H
def tIfS (c : TT) (t u : TS) : TS := fun D σ H => c σ H fun b H1 => if b = true then t D σ H1 else u D σ H1
theorem ps_if {c : Expr} {a b : List Stmt} {tc : TT} (hc : PT X c tc) (ha : PSs X a t) (hb : PSs X b u) : PS X (.If c a b pos) (tIfS tc t u) := by
  intro pins s σ H D I h
  refine wpAny_If (thn (hc pins s σ H _ I h) fun d s1 ⟨H1, I1, q1⟩ => ?_)
  cases d with
  | true => exact ha pins s1 σ H1 D I1 q1
  | false => exact hb pins s1 σ H1 D I1 q1
def tNever : TS := fun _ _ _ => False
end
abbrev TG := V → St → Hp → (St → Hp → Prop) → Prop
abbrev TGs := List V → St → Hp → (St → Hp → Prop) → Prop
def PG (X : Cx) (target : Expr) (t : TG) : Prop :=
  ∀ (pins : List (Addr × Obj)) (s : Shared) (σ : St) (H : Hp) (v : V) (u : Value) (Q : St → Hp → Prop), Inv X pins σ H s → RelV v u → t v σ H Q →
    wpAny (model X.prog X.w) X.A (assign target X.env u) (fun _ s' => ∃ σ' H', Inv X pins σ' H' s' ∧ Q σ' H') X.xe s
def PGs (X : Cx) (ts : List Expr) (t : TGs) : Prop :=
  ∀ (pins : List (Addr × Obj)) (s : Shared) (σ : St) (H : Hp) (vs : List V) (us : List Value) (Q : St → Hp → Prop), Inv X pins σ H s → Vals vs us → t vs σ H Q →
    wpAny (model X.prog X.w) X.A (assignInOrder ((assignEach ts X.env).map (·.2)) us) (fun _ s' => ∃ σ' H', Inv X pins σ' H' s' ∧ Q σ' H') X.xe s
abbrev TSet := V → V → V → Hp → (Hp → Prop) → Prop
def PSet (X : Cx) (t : TSet) : Prop :=
  ∀ (pins : List (Addr × Obj)) (s : Shared) (σ : St) (H : Hp) (o i v : V) (ov iv u : Value) (Q : Hp → Prop), Inv X pins σ H s → RelV o ov → RelV i iv → RelV v u → t o i v H Q →
    wpAny (model X.prog X.w) X.A (setItem ov iv u) (fun _ s' => ∃ H', Inv X pins σ H' s' ∧ Q H') X.xe s
abbrev TIp := V → V → Hp → VK → Prop
def PIp (X : Cx) (op : Operator) (t : TIp) : Prop :=
  ∀ (pins : List (Addr × Obj)) (s : Shared) (σ : St) (H : Hp) (x y : V) (v u : Value) (Q : VK), Inv X pins σ H s → RelV x v → RelV y u → t x y H Q →
    wpAny (model X.prog X.w) X.A (inplaceOp op v u) (EP X pins σ Q) X.xe s
section
variable {X : Cx} {pos : Pos}
def gName (i : Nat) : TG := fun v σ H Q => Q (σ.set i (some v)) H
theorem pg_name {i : Nat} {x : Str} (hN : X.N.Nodup) (hi : X.N[i]? = some x) (hx : Loc X.env.scope x) (hf : X.fn x = true ∨ X.env.scope.names.lookup x = some .local := by first | exact .inl rfl | exact .inr rfl | assumption) : PG X (.Name x pos) (gName i) := by
  intro pins s σ H v u Q I r h
  exact wpAny_assign_Name (store_ok I hN hi hx r (fun s' I' => ⟨_, H, I', h⟩) hf)
def gNil : TGs := fun vs σ H Q => vs = [] ∧ Q σ H
def gCons (t : TG) (u : TGs) : TGs := fun vs σ H Q => ∃ v r, vs = v :: r ∧ t v σ H fun σ' H' => u r σ' H' Q
theorem pgs_nil : PGs X [] gNil := by
  intro pins s σ H vs us Q I r h
  obtain ⟨e, h⟩ := h
  subst e
  cases r
  exact assignInOrder_nil ⟨σ, H, I, h⟩
theorem pgs_cons {e : Expr} {es : List Expr} {t : TG} {u : TGs} (h1 : PG X e t) (h2 : PGs X es u)
    (hs : (assignEach (e :: es) X.env).map (·.2) = assign e X.env :: (assignEach es X.env).map (·.2) := by rfl) : PGs X (e :: es) (gCons t u) := by
  intro pins s σ H vs us Q I r h
  obtain ⟨v, vr, e1, h⟩ := h
  subst e1
  cases r with
  | cons r rr =>
    rw [hs]
    refine assignInOrder_cons (thn (h1 pins s σ H _ _ _ I r h) fun _ s1 ⟨σ1, H1, I1, q1⟩ => ?_)
    exact h2 pins s1 σ1 H1 _ _ Q I1 rr q1
def gTup (K : PySem.W.Frag) (n : Nat) (t : TGs) : TG := fun v σ H Q => ∃ a xs, v = .ref a ∧ SqT K H a xs ∧ xs.length = n ∧ t xs σ H Q
theorem pg_tup {es : List Expr} {k : Nat} {t : TGs} {n : Nat} (hc : X.calm = true) (h : PGs X es t)
    (hn : (assignEach es X.env).length = n := by rfl) (hst : (assignEach es X.env).findIdx? (·.1) = none := by rfl) : PG X (.Tuple es k pos) (gTup X.K n t) := by
  intro pins s σ H v u Q I r hw
  obtain ⟨a, xs, e1, hq, hl, hw⟩ := hw
  subst e1
  cases r
  obtain ⟨its, rv, ht, hz⟩ := I.tuple hq
  refine assign_Tuple_tuple (I.ok.hd hc) ht (by simp [hn, ← hl, rv.length]) hst fun h' hx => ?_
  have I1 : Inv X pins σ H { s with heap := h' } := I.kept (t' := s.toks) fun b o e => hx b o (Nat.ne_of_lt (Heap.lt_size e)) e
  exact h pins _ σ H xs _ Q I1 (by simpa using rv) hw
def gSub (to ti : TE) (t : TSet) : TG := fun v σ H Q => to σ H fun o H1 => ti σ H1 fun i H2 => t o i v H2 fun H3 => Q σ H3
theorem pg_sub {o i : Expr} {to ti : TE} {t : TSet} (ho : PE X o to) (hi : PE X i ti) (hs : PSet X t)
    (ha : ∀ v, assign (.Subscript o i pos) X.env v = (do
      let ov ← holding [v] (eval o X.env)
      let iv ← holding [v, ov] (eval i X.env)
      standAt pos
      holding [v, ov, iv] (setItem ov iv v)
      release [v, ov, iv] []) := by intro _; rfl) : PG X (.Subscript o i pos) (gSub to ti t) := by
  intro pins s σ H v u Q I r h
  rw [ha]
  refine wpAny_bind (wpAny_holding (thn (ho pins s σ H _ I h) fun ov s1 ⟨x, H1, I1, r1, q1⟩ => ?_))
  refine wpAny_bind (wpAny_holding (thn (hi pins s1 σ H1 _ I1 q1) fun iv s2 ⟨y, H2, I2, r2, q2⟩ => ?_))
  refine wpAny_bind (wpAny_standAt (wpAny_bind (wpAny_holding (thn (hs pins s2 σ H2 x y v ov iv u _ I2 r1 r2 r q2) fun _ s3 ⟨H3, I3, q3⟩ => ?_))))
  exact wpAny_release ⟨σ, H3, I3, q3⟩
def tAsg (te : TE) (g : TG) : TS := fun D σ H => te σ H fun x H1 => g x σ H1 D.nx
theorem ps_asg {tg e : Expr} {te : TE} {g : TG} (he : PE X e te) (hg : PG X tg g) (hs : swapsWithSole [tg] e pos.line X.env = pure false := by rfl) (hw : swappedStores [tg] e X.env = pure none := by rfl)
    (h1 : (assignEach [tg] X.env).map (·.2) = [assign tg X.env] := by rfl) : PS X (.Assign [tg] e pos) (tAsg te g) := by
  intro pins s σ H D I h
  refine wpAny_Assign_stores (thn (he pins s σ H _ I h) fun v s1 ⟨x, H1, I1, r1, q1⟩ => ?_) hs hw
  rw [h1]
  exact thn (hg pins s1 σ H1 x v _ I1 r1 q1) fun _ s2 q => q
theorem ps_set {i : Nat} {x : Str} {e : Expr} {te : TE} {pos' : Pos} (hN : X.N.Nodup) (hi : X.N[i]? = some x) (hx : Loc X.env.scope x) (he : PE X e te) (hs : swapsWith e (some (.Name x pos')) pos.line X.env = pure false := by rfl) (hf : X.fn x = true ∨ X.env.scope.names.lookup x = some .local := by first | exact .inl rfl | exact .inr rfl | assumption) :
    PS X (.Assign [.Name x pos'] e pos) (tAsg te (gName i)) := by
  intro pins s σ H D I h
  refine wpAny_Assign_Name (thn (he pins s σ H _ I h) fun v s1 ⟨y, H1, I1, r1, q1⟩ => ?_) hs
  exact store_ok I1 hN hi hx r1 (fun s2 I2 => ⟨_, H1, I2, q1⟩) hf
def tPar (i j : Nat) (ta : TA) : TS := fun D σ H => ta σ H fun vs H1 => ∃ v w, vs = [v, w] ∧ D.nx ((σ.set i (some v)).set j (some w)) H1
def tAug (i : Nat) (te : TE) (ti : TIp) : TS := fun D σ H => ∃ x, σ[i]? = some (some x) ∧ te σ H fun y H1 => ti x y H1 fun z H2 => D.nx (σ.set i (some z)) H2
def tAugS (to ti te : TE) (tget : V → V → Hp → VK → Prop) (tip : TIp) (tset : TSet) : TS := fun D σ H => to σ H fun o H1 => ti σ H1 fun i H2 => tget o i H2 fun x H3 => te σ H3 fun y H4 => tip x y H4 fun z H5 => tset o i z H5 fun H6 => D.nx σ H6
def PGet (X : Cx) (t : V → V → Hp → VK → Prop) : Prop :=
  ∀ (pins : List (Addr × Obj)) (s : Shared) (σ : St) (H : Hp) (o i : V) (ov iv : Value) (Q : VK), Inv X pins σ H s → RelV o ov → RelV i iv → t o i H Q →
    wpAny (model X.prog X.w) X.A (getItem ov iv) (EP X pins σ Q) X.xe s
def ipI (f : Int → Int → Int) : TIp := fun x y H Q => ∃ i j, x = .int i ∧ y = .int j ∧ Q (.int (f i j)) H
end
section
variable {X : Cx} {pos : Pos}
def tWhile (c : TT) (tb : TS) : TS := fun D σ H => ∃ W : Nat → St → Hp → Prop, (∃ m, W m σ H) ∧ ∀ m σ H, W m σ H →
  c σ H fun b H1 => if b = true then ∃ N : St → Hp → Prop, (∀ σ' H', N σ' H' → ∃ m', m' < m ∧ W m' σ' H') ∧ tb { D with nx := N, ct := N, bk := D.nx } σ H1 else D.nx σ H1
end
structure It where
  go : Nat → Hp → Prop
  yld : Nat → Hp → V → Hp → Prop
  stop : Nat → Hp → Prop
def FpOk (X : Cx) (pins : List (Addr × Obj)) (H : Hp) (b : Addr) : Prop :=
  H b = none ∧ b ≠ X.env.locals ∧ b ∉ X.fs ∧ (b ∈ X.ex ∨ X.s₀.heap.objs.size ≤ b) ∧ (∀ x c, X.env.cells.lookup x = some c → c ≠ b) ∧ ∀ p ∈ X.pn ++ pins, p.1 ≠ b
theorem Inv.fpOk {X : Cx} {pins : List (Addr × Obj)} {σ : St} {H H' : Hp} {s : Shared} {b : Addr} (I : Inv X pins σ H s) (hb : s.heap.objs.size ≤ b) (hn : H' b = none) : FpOk X pins H' b := by
  refine ⟨hn, Nat.ne_of_gt (Nat.lt_of_lt_of_le I.lt hb), I.nofs hb, .inr (Nat.le_trans I.sz hb), fun x c e z => ?_, fun p hp z => ?_⟩
  · obtain ⟨v, q⟩ := I.cell x c e
    exact absurd (Nat.lt_of_lt_of_le q.lt (by rw [z]; exact hb)) (Nat.lt_irrefl _)
  · exact absurd (Nat.lt_of_lt_of_le (Heap.lt_size (I.pin p hp).1) (by rw [z]; exact hb)) (Nat.lt_irrefl _)
structure Turn (P : Program) (w : World) (K : PySem.W.Frag) (tg : Expr) (J : It) (fp : List Addr) (it : Addr) (tn : Nat → Heap → Prop) : Prop where
  mem : it ∈ fp
  obj : ∀ i h, tn i h → ∀ b ∈ fp, ∃ o, h.get? b = some o ∧ ∀ v, o.data ≠ .cell v
  keep : ∀ i h h', tn i h → (∀ b ∈ fp, ∀ o, h.get? b = some o → h'.get? b = some o) → tn i h'
  item : ∀ (X : Cx), X.prog = P → X.w = w → X.K = K → X.calm = true → ∀ (i : Nat) (pins : List (Addr × Obj)) (s : Shared) (σ : St) (H : Hp) (E : Value → Shared → Prop), Inv X pins σ H s → (∀ b ∈ fp, FpOk X pins H b) → tn i s.heap → J.go i H →
    wpAny (model P w) X.A (pyNext (.ref it)) (fun r s1 => ∃ u, r = some u ∧
      wpAny (model P w) X.A (letOwnedTupleGo tg (.ref it) u) (fun _ s2 => ∃ x H', Inv X pins σ H' s2 ∧ RelV x u ∧ J.yld i H x H' ∧ tn (i + 1) s2.heap ∧ ∀ b ∈ fp, H' b = none) E s1) E s
  done : ∀ (X : Cx), X.prog = P → X.w = w → X.K = K → X.calm = true → ∀ (i : Nat) (pins : List (Addr × Obj)) (s : Shared) (σ : St) (H : Hp) (E : Value → Shared → Prop), Inv X pins σ H s → (∀ b ∈ fp, FpOk X pins H b) → tn i s.heap → J.stop i H →
    wpAny (model P w) X.A (pyNext (.ref it)) (fun r s1 => r = none ∧ Inv X pins σ H s1) E s
  self : ∀ (A : Around) (i : Nat) (s : Shared) (Q : Value → Shared → Prop) (E : Value → Shared → Prop), tn i s.heap → Q (.ref it) s → wpAny (model P w) A (pyIter (.ref it)) Q E s
abbrev TI := St → Hp → (It → Hp → Prop) → Prop
def PIE (X : Cx) (pins : List (Addr × Obj)) (σ : St) (tg : Expr) (R : It → Hp → Prop) (itv : Value) (s2 : Shared) : Prop :=
  ∃ (it : Addr) (fp : List Addr) (tn : Nat → Heap → Prop) (J : It) (H' : Hp), itv = .ref it ∧ Inv X pins σ H' s2 ∧ Turn X.prog X.w X.K tg J fp it tn ∧ tn 0 s2.heap ∧ (∀ b ∈ fp, FpOk X pins H' b) ∧ R J H'
def PI (X : Cx) (tg iter : Expr) (wi : TI) : Prop :=
  ∀ (pins : List (Addr × Obj)) (s : Shared) (σ : St) (H : Hp) (R : It → Hp → Prop), Inv X pins σ H s → wi σ H R →
    wpAny (model X.prog X.w) X.A (eval iter X.env) (fun v s1 => wpAny (model X.prog X.w) X.A (pyIter v) (PIE X pins σ tg R) X.xe s1) X.xe s
theorem go_of {M : Model} {A : Around} {E : Value → Shared → Prop} {s : Shared} {tg : Expr} {it : Addr} {u : Value} {o : Obj} {n : String} {vs : Array Value} {Q : Unit → Shared → Prop} (ho : s.heap.get? it = some o) (hc : o.cls = .type n) (hd : o.data = .fields vs)
    (hn : ["enumerate", "zip", "dict_itemiterator", "dict_reverseitemiterator", "odict_iterator", "itertools.zip_longest", "itertools.pairwise"].contains n = false) (hQ : Q () s) : wpAny M A (letOwnedTupleGo tg (.ref it) u) Q E s := by
  unfold letOwnedTupleGo
  cases tg <;> first
    | exact wpAny_pure hQ
    | (cases u <;> first
        | exact wpAny_pure hQ
        | (refine wpAny_bind (wpAny_load ho ?_)
           rw [hc, hd]
           show wpAny M A (if (["enumerate", "zip", "dict_itemiterator", "dict_reverseitemiterator", "odict_iterator", "itertools.zip_longest", "itertools.pairwise"].contains n && vs[0]? == some (rawInt _)) = true then _ else _) Q E s
           rw [if_neg (by intro h; rw [hn, Bool.false_and] at h; cases h)]
           exact wpAny_pure hQ))
def Itl (K : PySem.W.Frag) (a : Addr) : It :=
  ⟨fun i H => ∃ xs x, SqL K H a xs ∧ xs[i]? = some x, fun i H x H' => H' = H ∧ ∀ xs, SqL K H a xs → xs[i]? = some x, fun i H => ∃ xs, SqL K H a xs ∧ xs.length ≤ i⟩
def Itt (K : PySem.W.Frag) (a : Addr) : It :=
  ⟨fun i H => ∃ xs x, SqT K H a xs ∧ xs[i]? = some x, fun i H x H' => H' = H ∧ ∀ xs, SqT K H a xs → xs[i]? = some x, fun i H => ∃ xs, SqT K H a xs ∧ xs.length ≤ i⟩
def Itr (lo : Int) (n : Nat) : It := ⟨fun i _ => i < n, fun i H x H' => H' = H ∧ x = .int (lo + i), fun i _ => n ≤ i⟩
theorem turn_list {P : Program} {w : World} {K : PySem.W.Frag} {tg : Expr} (a it : Addr) : Turn P w K tg (Itl K a) [it] it (fun i h => h.IsListIter it a i) where
  mem := by simp
  obj := fun i h st b hb => by
    have e : b = it := by simpa using hb
    subst e
    obtain ⟨o, e, c, d⟩ := st
    exact ⟨o, e, fun v z => by rw [d] at z; cases z⟩
  keep := fun i h h' st k => st.at fun o e => k it (by simp) o e
  item := by
    intro X hP hw hK hc i pins s σ H E I hf st hg
    subst hP hw hK
    obtain ⟨xs, x, hq, hx⟩ := hg
    obtain ⟨its, rv, p, hz⟩ := I.list hq
    obtain ⟨u, hu, ru⟩ := rv.get hx
    obtain ⟨f0, f1, f2, f3, f4, f5⟩ := hf it (by simp)
    refine wpAny_pyNext_list_item st p.isList (x := u) (by simpa using hu) fun h' st' sb => ?_
    have I1 : Inv X pins σ H { s with heap := h' } := I.turned (t' := s.toks) (fun b o hb e => (sb.2 b hb).trans e) f0 f1 f3 f4 f5
    obtain ⟨o, e, c, d⟩ := id st'
    exact ⟨u, rfl, go_of (s := { s with heap := h' }) e c d (by decide) ⟨x, H, I1, ru, ⟨rfl, fun ys hy => by rw [I.list_inj hy hq]; exact hx⟩, st', fun b hb => (hf b hb).1⟩⟩
  done := by
    intro X hP hw hK hc i pins s σ H E I hf st hg
    subst hP hw hK
    obtain ⟨xs, hq, hx⟩ := hg
    obtain ⟨its, rv, p, hz⟩ := I.list hq
    obtain ⟨f0, f1, f2, f3, f4, f5⟩ := hf it (by simp)
    have hl := rv.length
    exact wpAny_pyNext_list_end (I.ok.hd hc) st p.isList (by simp; omega) fun h' eb => ⟨rfl, I.turned (t' := s.toks) (fun b o hb e => eb b o hb e) f0 f1 f3 f4 f5⟩
  self := fun _ _ _ _ _ st h => wpAny_pyIter_listiter st h
theorem turn_tuple {P : Program} {w : World} {K : PySem.W.Frag} {tg : Expr} (a it : Addr) : Turn P w K tg (Itt K a) [it] it (fun i h => h.IsTupleIter it a i) where
  mem := by simp
  obj := fun i h st b hb => by
    have e : b = it := by simpa using hb
    subst e
    obtain ⟨o, e, c, d⟩ := st
    exact ⟨o, e, fun v z => by rw [d] at z; cases z⟩
  keep := fun i h h' st k => st.at fun o e => k it (by simp) o e
  item := by
    intro X hP hw hK hc i pins s σ H E I hf st hg
    subst hP hw hK
    obtain ⟨xs, x, hq, hx⟩ := hg
    obtain ⟨its, rv, p, hz⟩ := I.tuple hq
    obtain ⟨u, hu, ru⟩ := rv.get hx
    obtain ⟨f0, f1, f2, f3, f4, f5⟩ := hf it (by simp)
    refine wpAny_pyNext_tuple_item st (show s.heap.IsTuple a its.toArray from p) (x := u) (by simpa using hu) fun h' st' sb => ?_
    have I1 : Inv X pins σ H { s with heap := h' } := I.turned (t' := s.toks) (fun b o hb e => (sb.2 b hb).trans e) f0 f1 f3 f4 f5
    obtain ⟨o, e, c, d⟩ := id st'
    exact ⟨u, rfl, go_of (s := { s with heap := h' }) e c d (by decide) ⟨x, H, I1, ru, ⟨rfl, fun ys hy => by rw [I.tuple_inj hy hq]; exact hx⟩, st', fun b hb => (hf b hb).1⟩⟩
  done := by
    intro X hP hw hK hc i pins s σ H E I hf st hg
    subst hP hw hK
    obtain ⟨xs, hq, hx⟩ := hg
    obtain ⟨its, rv, p, hz⟩ := I.tuple hq
    obtain ⟨f0, f1, f2, f3, f4, f5⟩ := hf it (by simp)
    have hl := rv.length
    exact wpAny_pyNext_tuple_end (I.ok.hd hc) st (show s.heap.IsTuple a its.toArray from p) (by simp; omega) fun h' eb => ⟨rfl, I.turned (t' := s.toks) (fun b o hb e => eb b o hb e) f0 f1 f3 f4 f5⟩
  self := fun _ _ _ _ _ st h => wpAny_pyIter_tupleiter st h
theorem turn_range {P : Program} {w : World} {K : PySem.W.Frag} {tg : Expr} (it : Addr) (lo : Int) (n : Nat) : Turn P w K tg (Itr lo n) [it] it (fun i h => IsRangeIter h it (lo + (i : Nat) * 1) ((n : Int) - (i : Nat)) 1) where
  mem := by simp
  obj := fun i h st b hb => by
    have e : b = it := by simpa using hb
    subst e
    exact ⟨_, st, fun v z => by
      have z' : Data.fields _ = Data.cell v := z
      cases z'⟩
  keep := fun i h h' st k => k it (by simp) _ st
  item := by
    intro X hP hw hK hc i pins s σ H E I hf st hg
    subst hP hw hK
    obtain ⟨f0, f1, f2, f3, f4, f5⟩ := hf it (by simp)
    have W := Walks.range (prog := X.prog) (w := X.w) (I.ok.hd hc) it lo 1 n
    refine W.item i s _ _ hg st fun v h' tk hv st' kk => ?_
    obtain ⟨t, rfl⟩ := hv
    have I1 : Inv X pins σ H { s with heap := h', toks := tk } := I.turned (fun b o hb e => kk b o (by simpa using hb) e) f0 f1 f3 f4 f5
    refine ⟨_, rfl, go_of (s := { s with heap := h', toks := tk }) (n := "range_iterator") st' rfl rfl (by decide) ⟨.int (lo + i), H, I1, ⟨t, ?_⟩, ⟨rfl, rfl⟩, st', fun b hb => (hf b hb).1⟩⟩
    rw [Int.mul_one]
  done := by
    intro X hP hw hK hc i pins s σ H E I hf st hg
    subst hP hw hK
    obtain ⟨f0, f1, f2, f3, f4, f5⟩ := hf it (by simp)
    exact wpAny_pyNext_range_end (I.ok.hd hc) st (by have : n ≤ i := hg; omega) fun h' eb => ⟨rfl, I.turned (t' := s.toks) (fun b o hb e => eb b o hb e) f0 f1 f3 f4 f5⟩
  self := fun _ _ _ _ _ st h => wpAny_pyIter_rangeiter st h
end L2
namespace L2
open PySem PySem.Spec PyProof.Rows
section
variable {X : Cx} {tg : Expr}
def iList (K : PySem.W.Frag) (tl : TE) : TI := fun σ H R => tl σ H fun x H1 => ∃ a, x = .ref a ∧ (∃ xs, SqL K H1 a xs) ∧ R (Itl K a) H1
def iTup (K : PySem.W.Frag) (tl : TE) : TI := fun σ H R => tl σ H fun x H1 => ∃ a, x = .ref a ∧ (∃ xs, SqT K H1 a xs) ∧ R (Itt K a) H1
theorem pi_list {l : Expr} {tl : TE} (hl : PE X l tl) : PI X tg l (iList X.K tl) := by
  intro pins s σ H R I h
  refine thn (hl pins s σ H _ I h) fun v s1 ⟨x, H1, I1, r1, q1⟩ => ?_
  obtain ⟨a, e, ⟨xs, hq⟩, q⟩ := q1
  subst e
  cases r1
  obtain ⟨its, rv, p, hz⟩ := I1.list hq
  refine wpAny_pyIter_list p.isList ?_
  refine ⟨s1.heap.objs.size, [s1.heap.objs.size], _, _, H1, rfl, I1.kept (t' := s1.toks) fun b o e => Heap.get?_push_of_some _ e, turn_list a _, ⟨_, Heap.get?_push_size _ rfl, rfl, rfl⟩, fun b hb => ?_, q⟩
  have e : b = s1.heap.objs.size := by simpa using hb
  subst e
  exact I1.fpOk (Nat.le_refl _) (I1.hok.fresh (Nat.le_refl _))
theorem pi_tup {l : Expr} {tl : TE} (hl : PE X l tl) : PI X tg l (iTup X.K tl) := by
  intro pins s σ H R I h
  refine thn (hl pins s σ H _ I h) fun v s1 ⟨x, H1, I1, r1, q1⟩ => ?_
  obtain ⟨a, e, ⟨xs, hq⟩, q⟩ := q1
  subst e
  cases r1
  obtain ⟨its, rv, p, hz⟩ := I1.tuple hq
  refine wpAny_pyIter_tuple (show s1.heap.IsTuple a its.toArray from p) ?_
  refine ⟨s1.heap.objs.size, [s1.heap.objs.size], _, _, H1, rfl, I1.kept (t' := s1.toks) fun b o e => Heap.get?_push_of_some _ e, turn_tuple a _, ⟨_, Heap.get?_push_size _ rfl, rfl, rfl⟩, fun b hb => ?_, q⟩
  have e : b = s1.heap.objs.size := by simpa using hb
  subst e
  exact I1.fpOk (Nat.le_refl _) (I1.hok.fresh (Nat.le_refl _))
theorem range_it {pins : List (Addr × Obj)} {σ : St} {H : Hp} {s : Shared} {R : It → Hp → Prop} {E : Value → Shared → Prop} {lo hi : Int} {t u v : Tok} {tk : Nat} (I : Inv X pins σ H s) (h1 : -(2 ^ 62) ≤ lo) (h2 : lo < 2 ^ 62) (h3 : -(2 ^ 62) ≤ hi) (h4 : hi < 2 ^ 62)
    (q : R (Itr lo (hi - lo).toNat) H) : wpAny (model X.prog X.w) X.A (pyIter (.ref s.heap.objs.size)) (PIE X pins σ tg R) E { s with heap := s.heap.push { cls := .type "range", data := .fields #[.int lo t, .int hi u, .int 1 v] }, toks := tk } := by
  refine wpAny_pyIter_range (IsRange.new ..) (small_one h1 h2 h3 h4) ?_
  have I1 : Inv X pins σ H { s with heap := s.heap.push { cls := .type "range", data := .fields #[.int lo t, .int hi u, .int 1 v] }, toks := tk } := I.kept fun b o e => Heap.get?_push_of_some _ e
  refine ⟨(s.heap.push { cls := .type "range", data := .fields #[.int lo t, .int hi u, .int 1 v] }).objs.size, [(s.heap.push { cls := .type "range", data := .fields #[.int lo t, .int hi u, .int 1 v] }).objs.size], _, _, H, rfl,
    I1.kept (t' := tk) fun b o e => Heap.get?_push_of_some _ e, turn_range _ lo (hi - lo).toNat, ?_, fun b hb => ?_, q⟩
  · have e1 : lo + ((0 : Nat) : Int) * 1 = lo := by simp
    have e2 : (((hi - lo).toNat : Nat) : Int) - ((0 : Nat) : Int) = Builtin.Range.rangeSize lo hi 1 := by rw [rangeSize_one]; split <;> omega
    show IsRangeIter _ _ (lo + ((0 : Nat) : Int) * 1) ((((hi - lo).toNat : Nat) : Int) - ((0 : Nat) : Int)) 1
    rw [e1, e2]
    exact Heap.get?_push_size _ rfl
  · have e : b = (s.heap.push { cls := .type "range", data := .fields #[.int lo t, .int hi u, .int 1 v] }).objs.size := by simpa using hb
    subst e
    exact I1.fpOk (Nat.le_refl _) (I1.hok.fresh (Nat.le_refl _))
def iRng1 (ta : TA) : TI := fun σ H R => ta σ H fun vs H1 => ∃ j : Int, vs = [.int j] ∧ -(2 ^ 62) ≤ j ∧ j < 2 ^ 62 ∧ R (Itr 0 j.toNat) H1
def iRng2 (ta : TA) : TI := fun σ H R => ta σ H fun vs H1 => ∃ i j : Int, vs = [.int i, .int j] ∧ (-(2 ^ 62) ≤ i ∧ i < 2 ^ 62 ∧ -(2 ^ 62) ≤ j ∧ j < 2 ^ 62) ∧ R (Itr i (j - i).toNat) H1
theorem pi_range1 {a : Expr} {ta : TA} {p pos : Pos} (hg : Gl X "range") (hm : X.mg "range" = none) (ha : PA X [a] ta) (hs : starEach [a] X.env = [(false, eval a X.env)] := by rfl) : PI X tg (.Call (.Name "range" p) [a] [] pos) (iRng1 ta) := by
  intro pins s σ H R I h
  refine Call_ (ld_blt I hg hm boot_range (PyProof.Rows.callWith_type1 (thn (ha pos pins s σ H _ I h) fun us s1 ⟨vs, H1, I1, r1, q1⟩ => ?_) hs rfl))
  obtain ⟨j, e, q1, q2, q⟩ := q1
  subst e
  cases r1 with
  | cons r rr =>
    cases rr
    obtain ⟨t, rfl⟩ := r
    exact call_range_1 (range_it I1 (by omega) (by omega) q1 q2 (by simpa using q))
def tFor (wi : TI) (g : TG) (tb : TS) : TS := fun D σ H => wi σ H fun J H1 => ∃ W : Nat → Nat → St → Hp → Prop, (∃ m, W 0 m σ H1) ∧ ∀ i m σ H, W i m σ H →
  (J.stop i H ∧ D.nx σ H) ∨ (J.go i H ∧ ∃ N : St → Hp → Prop, (∀ σ' H', N σ' H' → ∃ m', m' < m ∧ W (i + 1) m' σ' H') ∧ ∀ x H', J.yld i H x H' → g x σ H' fun σ2 H2 => tb { D with nx := N, ct := N, bk := D.nx } σ2 H2)
def pinsAt (fp : List Addr) (h : Heap) : List (Addr × Obj) := fp.filterMap fun b => (h.get? b).map fun o => (b, o)
theorem mem_pinsAt {fp : List Addr} {h : Heap} {b : Addr} {o : Obj} (hb : b ∈ fp) (e : h.get? b = some o) : (b, o) ∈ pinsAt fp h := List.mem_filterMap.mpr ⟨b, hb, by rw [e]; rfl⟩
theorem of_pinsAt {fp : List Addr} {h : Heap} {p : Addr × Obj} (hp : p ∈ pinsAt fp h) : p.1 ∈ fp ∧ h.get? p.1 = some p.2 := by
  obtain ⟨b, hb, e⟩ := List.mem_filterMap.mp hp
  cases q : h.get? b with
  | none => rw [q] at e; cases e
  | some o =>
    rw [q] at e
    have e' : (b, o) = p := Option.some.inj e
    subst e'
    exact ⟨hb, q⟩
theorem Inv.pinned {pins : List (Addr × Obj)} {σ : St} {H : Hp} {s : Shared} {fp : List Addr} (I : Inv X pins σ H s) (hf : ∀ b ∈ fp, FpOk X pins H b) (ho : ∀ b ∈ fp, ∃ o, s.heap.get? b = some o ∧ ∀ v, o.data ≠ .cell v) : Inv X (pins ++ pinsAt fp s.heap) σ H s :=
  I.pins_of fun p hp => (List.mem_append.mp hp).elim (fun z => I.pin p (List.mem_append_right _ z)) fun z => by
    obtain ⟨hb, e⟩ := of_pinsAt z
    obtain ⟨f0, f1, f2, _⟩ := hf p.1 hb
    obtain ⟨o, e', d⟩ := ho p.1 hb
    rw [e] at e'; cases e'
    exact ⟨e, f0, f1, f2, d⟩
theorem Inv.unpinned {pins pl : List (Addr × Obj)} {σ : St} {H : Hp} {s : Shared} (I : Inv X (pins ++ pl) σ H s) : Inv X pins σ H s := I.pins_of fun p hp => I.pin p (List.mem_append_right _ (List.mem_append_left _ hp))
theorem ps_for {iter : Expr} {body : List Stmt} {wi : TI} {g : TG} {tb : TS} {pos : Pos} (hp : PassesOwn (model X.prog X.w) X.A X.env X.xe) (hc : X.calm = true) (hi : PI X tg iter wi) (hg : PG X tg g) (hb : PSs X body tb)
    (hs : ∀ x, foldedSetIterable iter X.env x = pure x := by intro _; rfl) : PS X (.For tg iter body [] pos) (tFor wi g tb) := by
  intro pins s σ H D I h
  refine wpAny_For (thn (hi pins s σ H _ I h) fun v s1 h1 => thn h1 fun itv s2 h2 => ?_) hs
  obtain ⟨it, fp, tn, J, H2, e, I2, T, st2, f2, W, ⟨m0, w0⟩, turn⟩ := h2
  subst e
  -- what stays true of the iterator's objects through the loop
  have stat : ∀ {H' : Hp}, (∀ b ∈ fp, H' b = none) → ∀ b ∈ fp, FpOk X pins H' b := fun hn b hb => ⟨hn b hb, (f2 b hb).2⟩
  refine codeAny_forLoop_any (fun n s' => ∃ i σ' H', Inv X pins σ' H' s' ∧ tn i s'.heap ∧ (∀ b ∈ fp, H' b = none) ∧ W i n σ' H') ?_ m0 ⟨0, σ, H2, I2, st2, fun b hb => (f2 b hb).1, w0⟩
  rintro n s3 ⟨i, σ3, H3, I3, st3, fr3, w3⟩
  rcases turn i n σ3 H3 w3 with ⟨stop, qn⟩ | ⟨go, N, hN, step⟩
  · refine wpAny_passesOwn hp (thn (T.done X rfl rfl rfl hc i pins s3 σ3 H3 X.xe I3 (stat fr3) st3 stop) fun r s4 ⟨hr, I4⟩ => ?_)
    subst hr
    exact wpAny_execs_nil ⟨σ3, H3, I4, qn⟩
  · refine wpAny_passesOwn hp (thn (T.item X rfl rfl rfl hc i pins s3 σ3 H3 X.xe I3 (stat fr3) st3 go) fun r s4 ⟨u, hr, h4⟩ => ?_)
    subst hr
    refine wpAny_passesOwn hp (thn h4 fun _ s5 ⟨x, H5, I5, r5, y5, st5, fr5⟩ => ?_)
    have I5' := I5.pinned (stat fr5) (T.obj _ _ st5)
    refine wpAny_passesOwn hp (thn (hg _ s5 σ3 H5 x u _ I5' r5 (step x H5 y5)) fun _ s6 ⟨σ6, H6, I6, q6⟩ => ?_)
    refine wpAny_passesOwn hp (thn (hb _ s6 σ6 H6 _ I6 q6) fun f s7 q7 => ?_)
    have again : ∀ {σ7 : St} {H7 : Hp}, Inv X (pins ++ pinsAt fp s5.heap) σ7 H7 s7 → N σ7 H7 → ∃ m, m < n ∧ ∃ i σ' H', Inv X pins σ' H' s7 ∧ tn i s7.heap ∧ (∀ b ∈ fp, H' b = none) ∧ W i m σ' H' := fun {σ7 H7} I7 n7 => by
      obtain ⟨m', hm, w7⟩ := hN σ7 H7 n7
      refine ⟨m', hm, i + 1, σ7, H7, I7.unpinned, T.keep _ _ _ st5 fun b hb o e => (I7.pin (b, o) (List.mem_append_right _ (List.mem_append_right _ (mem_pinsAt hb e)))).1, fun b hb => ?_, w7⟩
      obtain ⟨o, e, d⟩ := T.obj _ _ st5 b hb
      exact (I7.pin (b, o) (List.mem_append_right _ (List.mem_append_right _ (mem_pinsAt hb e)))).2.1
    cases f with
    | next => obtain ⟨σ7, H7, I7, n7⟩ := q7; exact again I7 n7
    | cont => obtain ⟨σ7, H7, I7, n7⟩ := q7; exact again I7 n7
    | brk => obtain ⟨σ7, H7, I7, q7⟩ := q7; exact ⟨σ7, H7, I7.unpinned, q7⟩
    | ret v => obtain ⟨x7, σ7, H7, I7, r7, q7⟩ := q7; exact ⟨x7, σ7, H7, I7.unpinned, r7, q7⟩
end
end L2
namespace L2
open PySem PySem.Spec PyProof.Rows
abbrev R2 := V → V → Hp → VK → Prop
def OpR (X : Cx) (f : Value → Value → Sem Value) (r : R2) : Prop :=
  ∀ (pins : List (Addr × Obj)) (s : Shared) (σ : St) (H : Hp) (x y : V) (v u : Value) (Q : VK), Inv X pins σ H s → RelV x v → RelV y u → r x y H Q →
    wpAny (model X.prog X.w) X.A (f v u) (EP X pins σ Q) X.xe s
def UnR (X : Cx) (f : Value → Sem Value) (r : V → Hp → VK → Prop) : Prop :=
  ∀ (pins : List (Addr × Obj)) (s : Shared) (σ : St) (H : Hp) (x : V) (v : Value) (Q : VK), Inv X pins σ H s → RelV x v → r x H Q →
    wpAny (model X.prog X.w) X.A (f v) (EP X pins σ Q) X.xe s
def CallR (X : Cx) (f : Value) (r : List V → Hp → VK → Prop) : Prop :=
  ∀ (pins : List (Addr × Obj)) (s : Shared) (σ : St) (H : Hp) (xs : List V) (us : List Value) (Q : VK), Inv X pins σ H s → Vals xs us → r xs H Q →
    wpAny (model X.prog X.w) X.A (call f us) (EP X pins σ Q) X.xe s
def TruR (X : Cx) (r : V → Hp → (Bool → Hp → Prop) → Prop) : Prop :=
  ∀ (pins : List (Addr × Obj)) (s : Shared) (σ : St) (H : Hp) (x : V) (v : Value) (Q : Bool → Hp → Prop), Inv X pins σ H s → RelV x v → r x H Q →
    wpAny (model X.prog X.w) X.A (truthy v) (TP X pins σ Q) X.xe s
def tOp (r : R2) (ta tb : TE) : TE := fun σ H Q => ta σ H fun x H1 => tb σ H1 fun y H2 => r x y H2 Q
def tUn (r : V → Hp → VK → Prop) (ta : TE) : TE := fun σ H Q => ta σ H fun x H1 => r x H1 Q
def rI (C : Int → Int → Prop) (g : Int → Int → V) : R2 := fun x y H Q => ∃ i j, x = .int i ∧ y = .int j ∧ C i j ∧ Q (g i j) H
def rI0 (g : Int → Int → V) : R2 := fun x y H Q => ∃ i j, x = .int i ∧ y = .int j ∧ Q (g i j) H
def rU (g : Int → V) : V → Hp → VK → Prop := fun x H Q => ∃ i, x = .int i ∧ Q (g i) H
section
variable {X : Cx} {a b c : Expr} {ta tb tc : TE} {pos : Pos}
theorem binT (ha : PE X a ta) (hb : PE X b tb) {pins : List (Addr × Obj)} {s : Shared} {σ : St} {H : Hp} {R : V → V → Hp → Prop} (I : Inv X pins σ H s)
    (h : ta σ H fun x H1 => tb σ H1 fun y H2 => R x y H2) {Q : Value → Shared → Prop} {f : Value → Value → Sem Value}
    (hf : ∀ v u s2 x y H2, Inv X pins σ H2 s2 → RelV x v → RelV y u → R x y H2 → wpAny (model X.prog X.w) X.A (f v u) Q X.xe s2) :
    wpAny (model X.prog X.w) X.A (eval a X.env) (fun v s₁ => wpAny (model X.prog X.w) X.A (eval b X.env) (fun u s₂ => wpAny (model X.prog X.w) X.A (f v u) Q X.xe s₂) X.xe s₁) X.xe s := by
  refine thn (ha pins s σ H _ I h) fun v s1 ⟨x, H1, I1, r1, q1⟩ => ?_
  refine thn (hb pins s1 σ H1 _ I1 q1) fun u s2 ⟨y, H2, I2, r2, q2⟩ => ?_
  exact hf v u s2 x y H2 I2 r1 r2 q2
theorem pe_un {op : UnaryOp} {r : V → Hp → VK → Prop} (ho : UnR X (unaryOp op) r) (ha : PE X a ta) : PE X (.UnaryOp op a pos) (tUn r ta) := by
  intro pins s σ H Q I h
  exact UnaryOp_ (thn (ha pins s σ H _ I h) fun v s1 ⟨x, H1, I1, r1, q1⟩ => ho pins s1 σ H1 x v Q I1 r1 q1)
theorem opI {f : Value → Value → Sem Value} {C : Int → Int → Prop} {g : Int → Int → Int}
    (rule : ∀ (i j : Int) (t u : Tok) (s : Shared) (Q : Value → Shared → Prop) (E : Value → Shared → Prop), C i j → Q (.int (g i j) s.toks) { s with toks := s.toks + 1 } → wpAny (model X.prog X.w) X.A (f (.int i t) (.int j u)) Q E s) :
    OpR X f (rI C fun i j => .int (g i j)) := by
  intro pins s σ H x y v u Q I rx ry h
  obtain ⟨i, j, rfl, rfl, hc, q⟩ := h
  obtain ⟨t, rfl⟩ := rx
  obtain ⟨t', rfl⟩ := ry
  exact rule i j t t' s _ _ hc ⟨.int (g i j), H, I.tok _, ⟨_, rfl⟩, q⟩
theorem opI0 {f : Value → Value → Sem Value} {g : Int → Int → Int}
    (rule : ∀ (i j : Int) (t u : Tok) (s : Shared) (Q : Value → Shared → Prop) (E : Value → Shared → Prop), Q (.int (g i j) s.toks) { s with toks := s.toks + 1 } → wpAny (model X.prog X.w) X.A (f (.int i t) (.int j u)) Q E s) :
    OpR X f (rI0 fun i j => .int (g i j)) := by
  intro pins s σ H x y v u Q I rx ry h
  obtain ⟨i, j, rfl, rfl, q⟩ := h
  obtain ⟨t, rfl⟩ := rx
  obtain ⟨t', rfl⟩ := ry
  exact rule i j t t' s _ _ ⟨.int (g i j), H, I.tok _, ⟨_, rfl⟩, q⟩
theorem opB0 {f : Value → Value → Sem Value} {g : Int → Int → Bool}
    (rule : ∀ (i j : Int) (t u : Tok) (s : Shared) (Q : Value → Shared → Prop) (E : Value → Shared → Prop), Q (.bool (g i j)) s → wpAny (model X.prog X.w) X.A (f (.int i t) (.int j u)) Q E s) :
    OpR X f (rI0 fun i j => .bl (g i j)) := by
  intro pins s σ H x y v u Q I rx ry h
  obtain ⟨i, j, rfl, rfl, q⟩ := h
  obtain ⟨t, rfl⟩ := rx
  obtain ⟨t', rfl⟩ := ry
  exact rule i j t t' s _ _ ⟨.bl (g i j), H, I, rfl, q⟩
def CDiv (i j : Int) : Prop := 0 < j ∧ j < 1073741824
def CDivN (i j : Int) : Prop := j ≠ 0 ∧ j.natAbs < 1073741824
def CPow (i j : Int) : Prop := 0 ≤ j ∧ j ≤ 1000000 ∧ i.natAbs < 2 ^ 64
def CMul (i j : Int) : Prop := (-(2 ^ 64) < i ∧ i < 2 ^ 64) ∨ (-(2 ^ 64) < j ∧ j < 2 ^ 64)
theorem op_add : OpR X (binaryOp .Add) (rI0 fun i j => .int (i + j)) := opI0 fun _ _ _ _ _ _ _ q => add_int q
theorem op_fdiv : OpR X (binaryOp .FloorDiv) (rI CDiv fun i j => .int (i / j)) := opI fun i j _ _ _ _ _ hc q => by
  have h1 : (0 : Int) < j := hc.1
  have h2 : j < 1073741824 := hc.2
  exact floordiv_int (by omega) (by rw [Int.fdiv_eq_ediv_of_nonneg i (by omega)]; exact q) (.inl (PyProof.noPylong_small (by omega)))
theorem op_mod : OpR X (binaryOp .Mod) (rI (fun _ j => 0 < j) fun i j => .int (i % j)) := opI fun i j _ _ _ _ _ hc q => by
  have h1 : (0 : Int) < j := hc
  exact mod_int' (by omega) (by rw [Int.fmod_eq_emod_of_nonneg i (by omega)]; exact q)
theorem unI {f : Value → Sem Value} {g : Int → Int}
    (rule : ∀ (i : Int) (t : Tok) (s : Shared) (Q : Value → Shared → Prop) (E : Value → Shared → Prop), Q (.int (g i) s.toks) { s with toks := s.toks + 1 } → wpAny (model X.prog X.w) X.A (f (.int i t)) Q E s) :
    UnR X f (rU fun i => .int (g i)) := by
  intro pins s σ H x v Q I rx h
  obtain ⟨i, rfl, q⟩ := h
  obtain ⟨t, rfl⟩ := rx
  exact rule i t s _ _ ⟨.int (g i), H, I.tok _, ⟨_, rfl⟩, q⟩
theorem un_neg : UnR X (unaryOp .USub) (rU fun i => .int (-i)) := unI fun _ _ _ _ _ q => neg_int q
end
def scal : V → V → Bool
  | .non, .non => true | .non, .int _ => true | .int _, .non => true | .non, .bl _ => true | .bl _, .non => true | .non, .str _ => true | .str _, .non => true
  | .int _, .int _ => true | .bl _, .bl _ => true | .str _, .str _ => true | .byt _, .byt _ => true
  | .int _, .str _ => true | .str _, .int _ => true | .bl _, .str _ => true | .str _, .bl _ => true
  | _, _ => false
def rEq : R2 := fun x y H Q => scal x y = true ∧ Q (.bl (decide (x = y))) H
def rNe : R2 := fun x y H Q => scal x y = true ∧ Q (.bl (!decide (x = y))) H
theorem dec_int {i j : Int} : decide (V.int i = V.int j) = (i == j) := by
  rw [Bool.eq_iff_iff]
  simp
theorem dec_bl {i j : Bool} : decide (V.bl i = V.bl j) = (i == j) := by
  rw [Bool.eq_iff_iff]
  simp
theorem dec_str {i j : Str} : decide (V.str i = V.str j) = (i == j) := by
  rw [Bool.eq_iff_iff]
  simp
theorem dec_byt {i j : Array UInt8} : decide (V.byt i = V.byt j) = (i.toList == j.toList) := by
  rw [Bool.eq_iff_iff]
  cases i
  cases j
  simp
section
variable {X : Cx} {a b c : Expr} {ta tb tc : TE} {pos : Pos}
theorem fin_bl {pins : List (Addr × Obj)} {σ : St} {H : Hp} {s : Shared} {Q : VK} {k k' : Bool} (I : Inv X pins σ H s) (q : Q (.bl k) H) (e : k = k') : EP X pins σ Q (.bool k') s := by
  subst e
  exact ⟨.bl k, H, I, rfl, q⟩
theorem op_eq : OpR X (compareOp .Eq) rEq := by
  intro pins s σ H x y v u Q I rx ry h
  obtain ⟨hs, q⟩ := h
  cases x with
  | non =>
    cases rx
    cases y with
    | non => cases ry; exact PySem.EqNone.eq_none_none (fin_bl I q (by simp))
    | bl j => cases ry; exact PySem.EqNone.eq_none_bool (fin_bl I q (by simp))
    | int j => obtain ⟨t', rfl⟩ := ry; exact PySem.EqNone.eq_none_int (fin_bl I q (by simp))
    | str j => obtain ⟨t', rfl⟩ := ry; exact PySem.EqNone.eq_none_str (fin_bl I q (by simp))
    | _ => exact absurd (show false = true from hs) Bool.false_ne_true
  | bl i =>
    cases rx
    cases y with
    | non => cases ry; exact PySem.EqNone.eq_bool_none (fin_bl I q (by simp))
    | bl j => cases ry; exact eq_bool (fin_bl I q dec_bl)
    | str j => obtain ⟨t', rfl⟩ := ry; exact PySem.EqMixed.eq_bool_str (fin_bl I q (by simp))
    | _ => exact absurd (show false = true from hs) Bool.false_ne_true
  | int i =>
    obtain ⟨t, rfl⟩ := rx
    cases y with
    | non => cases ry; exact PySem.EqNone.eq_int_none (fin_bl I q (by simp))
    | int j => obtain ⟨t', rfl⟩ := ry; exact eq_int (fin_bl I q dec_int)
    | str j => obtain ⟨t', rfl⟩ := ry; exact PySem.EqMixed.eq_int_str (fin_bl I q (by simp))
    | _ => exact absurd (show false = true from hs) Bool.false_ne_true
  | str i =>
    obtain ⟨t, rfl⟩ := rx
    cases y with
    | non => cases ry; exact PySem.EqNone.eq_str_none (fin_bl I q (by simp))
    | bl j => cases ry; exact PySem.EqMixed.eq_str_bool (fin_bl I q (by simp))
    | int j => obtain ⟨t', rfl⟩ := ry; exact PySem.EqMixed.eq_str_int (fin_bl I q (by simp))
    | str j => obtain ⟨t', rfl⟩ := ry; exact eq_str (fin_bl I q dec_str)
    | _ => exact absurd (show false = true from hs) Bool.false_ne_true
  | byt i =>
    obtain ⟨t, rfl⟩ := rx
    cases y with
    | byt j => obtain ⟨t', rfl⟩ := ry; exact PySem.W.eq_bytes (fin_bl I q dec_byt)
    | _ => exact absurd (show false = true from hs) Bool.false_ne_true
  | _ => cases y <;> exact absurd (show false = true from hs) Bool.false_ne_true
theorem op_ne : OpR X (compareOp .NotEq) rNe := by
  intro pins s σ H x y v u Q I rx ry h
  obtain ⟨hs, q⟩ := h
  cases x with
  | non =>
    cases rx
    cases y with
    | non => cases ry; exact PySem.EqNone.ne_none_none (fin_bl I q (by simp))
    | bl j => cases ry; exact PySem.EqNone.ne_none_bool (fin_bl I q (by simp))
    | int j => obtain ⟨t', rfl⟩ := ry; exact PySem.EqNone.ne_none_int (fin_bl I q (by simp))
    | str j => obtain ⟨t', rfl⟩ := ry; exact PySem.EqNone.ne_none_str (fin_bl I q (by simp))
    | _ => exact absurd (show false = true from hs) Bool.false_ne_true
  | bl i =>
    cases rx
    cases y with
    | non => cases ry; exact PySem.EqNone.ne_bool_none (fin_bl I q (by simp))
    | bl j => cases ry; exact ne_bool (fin_bl I q (congrArg not dec_bl))
    | str j => obtain ⟨t', rfl⟩ := ry; exact PySem.EqMixed.ne_bool_str (fin_bl I q (by simp))
    | _ => exact absurd (show false = true from hs) Bool.false_ne_true
  | int i =>
    obtain ⟨t, rfl⟩ := rx
    cases y with
    | non => cases ry; exact PySem.EqNone.ne_int_none (fin_bl I q (by simp))
    | int j => obtain ⟨t', rfl⟩ := ry; exact ne_int (fin_bl I q (congrArg not dec_int))
    | str j => obtain ⟨t', rfl⟩ := ry; exact PySem.EqMixed.ne_int_str (fin_bl I q (by simp))
    | _ => exact absurd (show false = true from hs) Bool.false_ne_true
  | str i =>
    obtain ⟨t, rfl⟩ := rx
    cases y with
    | non => cases ry; exact PySem.EqNone.ne_str_none (fin_bl I q (by simp))
    | bl j => cases ry; exact PySem.EqMixed.ne_str_bool (fin_bl I q (by simp))
    | int j => obtain ⟨t', rfl⟩ := ry; exact PySem.EqMixed.ne_str_int (fin_bl I q (by simp))
    | str j => obtain ⟨t', rfl⟩ := ry; exact ne_str (fin_bl I q (congrArg not dec_str))
    | _ => exact absurd (show false = true from hs) Bool.false_ne_true
  | byt i =>
    obtain ⟨t, rfl⟩ := rx
    cases y with
    | byt j => obtain ⟨t', rfl⟩ := ry; exact PySem.W.ne_bytes (fin_bl I q (congrArg not dec_byt))
    | _ => exact absurd (show false = true from hs) Bool.false_ne_true
  | _ => cases y <;> exact absurd (show false = true from hs) Bool.false_ne_true
theorem op_lt : OpR X (compareOp .Lt) (rI0 fun i j => .bl (decide (i < j))) := opB0 fun _ _ _ _ _ _ _ q => lt_int q
theorem op_le : OpR X (compareOp .LtE) (rI0 fun i j => .bl (decide (i ≤ j))) := opB0 fun _ _ _ _ _ _ _ q => le_int q
theorem op_gt : OpR X (compareOp .Gt) (rI0 fun i j => .bl (decide (j < i))) := opB0 fun _ _ _ _ _ _ _ q => gt_int q
theorem op_in_str : OpR X (compareOp .In) (fun x y H Q => ∃ i j, x = .str i ∧ y = .str j ∧ Q (.bl (!(Builtin.Str.occurrences j i 0 j.length 1).isEmpty)) H) := by
  intro pins s σ H x y v u Q I rx ry h
  obtain ⟨i, j, rfl, rfl, q⟩ := h
  obtain ⟨t, rfl⟩ := rx
  obtain ⟨t', rfl⟩ := ry
  exact in_str (fin_bl I q rfl)
theorem op_notN : OpR X (compareOp .IsNot) (fun x y H Q => y = .non ∧ Q (.bl (!decide (x = .non))) H) := by
  intro pins s σ H x y v u Q I rx ry h
  obtain ⟨rfl, q⟩ := h
  cases ry
  refine isnot_none_gen (fin_bl I q ?_)
  cases x <;> first
    | (cases rx; rfl)
    | (obtain ⟨t, rfl⟩ := rx; rfl)
def isObj : HO → Bool
  | .lst _ => true
  | .ins _ _ _ => true
  | _ => false
theorem nomark (b : Expr) {op : CmpOp} (h : op ≠ .In := by decide) (h2 : op ≠ .NotIn := by decide) : behindInMarks op b = false := by
  have e1 : (op == CmpOp.In) = false := by cases op <;> first | rfl | exact absurd rfl h
  have e2 : (op == CmpOp.NotIn) = false := by cases op <;> first | rfl | exact absurd rfl h2
  cases b <;> simp [behindInMarks, e1, e2]
def tTest (t : TE) : TT := fun σ H Q => t σ H fun x H' => ∃ k, x = .bl k ∧ Q k H'
def tChain (r r' : R2) (ta tb tc : TE) : TE := fun σ H Q => ta σ H fun x H1 => tb σ H1 fun y H2 => r x y H2 fun z H3 => ∃ k, z = .bl k ∧
  (if k = true then tc σ H3 fun w' H4 => r' y w' H4 Q else Q (.bl false) H3)
def TruV (K : PySem.W.Frag) (x : V) (H : Hp) (k : Bool) : Prop :=
  match x with
  | .non => k = false
  | .bl b => k = b
  | .int i => k = (i != 0)
  | .str y => y.length ≤ sizeLine ∧ k = ((y.length : Int) != 0)
  | .byt y => y.size ≤ sizeLine ∧ k = ((y.size : Int) != 0)
  | .ref p => (∃ xs, SqL K H p xs ∧ k = !xs.isEmpty) ∨ (∃ xs, SqT K H p xs ∧ k = !xs.isEmpty) ∨ ∃ kvs, H p = some (.dK kvs) ∧ k = !kvs.isEmpty
  | _ => False
theorem isEmpty_kv {κ : Type} {kvs : List (κ × V)} {vs : List (κ × Value)} (r : KV kvs vs) : (!vs.isEmpty) = !kvs.isEmpty := by
  cases r <;> rfl
theorem isEmpty_of {xs : List V} {its : List Value} (r : Vals xs its) : (!its.toArray.isEmpty) = !xs.isEmpty := by
  cases r <;> simp
theorem line63 : (sizeLine : Nat) < 2 ^ 63 := by rw [sizeLine_eq]; decide
theorem tru_ok : TruR X (fun x H Q => ∃ k, TruV X.K x H k ∧ Q k H) := by
  intro pins s σ H x v Q I rx h
  obtain ⟨k, e, q⟩ := h
  have hl := line63
  have hs : sizeLine = 16777216 := sizeLine_eq
  cases x with
  | non =>
    cases rx
    have e' : k = false := e
    subst e'
    exact truthy_none ⟨H, I, q⟩
  | bl b =>
    cases rx
    have e' : k = b := e
    subst e'
    exact wpAny_truthy_bool ⟨H, I, q⟩
  | int i =>
    obtain ⟨t, rfl⟩ := rx
    have e' : k = (i != 0) := e
    subst e'
    exact PySem.P.truthy_int ⟨H, I, q⟩
  | str y =>
    obtain ⟨t, rfl⟩ := rx
    obtain ⟨hy, e'⟩ : y.length ≤ sizeLine ∧ k = ((y.length : Int) != 0) := e
    subst e'
    exact PySem.P.truthy_str (by omega) ⟨H, I.tok _, q⟩
  | byt y =>
    obtain ⟨t, rfl⟩ := rx
    obtain ⟨hy, e'⟩ : y.size ≤ sizeLine ∧ k = ((y.size : Int) != 0) := e
    subst e'
    exact PySem.W.truthy_bytes (by omega) ⟨H, I.tok _, q⟩
  | ref p =>
    cases rx
    have e' : (∃ xs, SqL X.K H p xs ∧ k = !xs.isEmpty) ∨ (∃ xs, SqT X.K H p xs ∧ k = !xs.isEmpty) ∨ ∃ kvs, H p = some (.dK kvs) ∧ k = !kvs.isEmpty := e
    rcases e' with ⟨xs, hx, e'⟩ | ⟨xs, hx, e'⟩ | ⟨kvs, hx, e'⟩
    · subst e'
      obtain ⟨its, r, pl, hz⟩ := I.list hx
      have hlen := r.length
      exact wpAny_truthy_list pl.isList (by simp only [List.size_toArray]; omega) ⟨H, I.tok _, by rw [isEmpty_of r]; exact q⟩
    · subst e'
      obtain ⟨its, r, pl, hz⟩ := I.tuple hx
      have hlen := r.length
      exact truthy_tuple pl (by simp only [List.size_toArray]; omega) ⟨H, I.tok _, by rw [isEmpty_of r]; exact q⟩
    · subst e'
      obtain ⟨hz, hS, vs, r, m⟩ : kvs.length ≤ sizeLine ∧ (p == sysModules) = false ∧ ∃ vs, KV kvs vs ∧ s.heap.DictOf (mixKind X.prog X.w) p vs := I.hok p _ hx
      have hlen : kvs.length = vs.length := Paired.length r
      exact wpAny_truthy_dict hS m (by omega) ⟨H, I.tok _, by rw [isEmpty_kv r]; exact q⟩
  | _ => exact (show False from e).elim
theorem pt_truth (ha : PE X a ta) (he : ∀ whole, isTrue a X.env whole = (do let v ← whole; standAt a.pos; holding [v] (truthy v))) :
    PT X a (fun σ H Q => ta σ H fun x H' => ∃ k, TruV X.K x H' k ∧ Q k H') := by
  intro pins s σ H Q I h
  exact isTrue_plain (thn (ha pins s σ H _ I h) fun v s1 ⟨x, H1, I1, r1, q1⟩ => tru_ok pins s1 σ H1 x v Q I1 r1 q1) (he _)
theorem op_add_str : OpR X (binaryOp .Add) (fun x y H Q => ∃ i j, x = .str i ∧ y = .str j ∧ i.length + j.length ≤ sizeLine ∧ Q (.str (i ++ j)) H) := by
  intro pins s σ H x y v u Q I rx ry h
  obtain ⟨i, j, rfl, rfl, hz, q⟩ := h
  obtain ⟨t, rfl⟩ := rx
  obtain ⟨t', rfl⟩ := ry
  exact add_str (fun t' tk => ⟨.str (i ++ j), H, I.tok _, ⟨_, rfl⟩, q⟩) hz
def PlainIxT (b : Expr) : Prop := ∀ o i, subscripted b false o i = operate [o, i] (getItem o i)
theorem pe_item_str (ha : PE X a ta) (hb : PE X b tb) (hs : PlainIxT b) :
    PE X (.Subscript a b pos) (tOp (fun x y H Q => ∃ z i c, x = .str z ∧ y = .int i ∧ 0 ≤ i ∧ i < 2 ^ 63 ∧ i < z.length ∧ z.cps[i.toNat]? = some c ∧ Q (.str ⟨#[c]⟩) H) ta tb) := by
  intro pins s σ H Q I h
  refine Subscript_ (binT ha hb I h fun v u s2 x y H2 I2 rx ry q => ?_)
  obtain ⟨z, i, c, rfl, rfl, h0, h63, h1, hc, q⟩ := q
  obtain ⟨t, rfl⟩ := rx
  obtain ⟨t', rfl⟩ := ry
  have e : seqIndex? i z.length = some i.toNat := PySem.StrLaws.seqIndex_nonneg h0 h1
  exact tail_any (typeIs_str s2 z t) slot_str_getitem.lookup (getItem_str (c := c) (by
    have e1 : decide (i < -(2 ^ 63 : Int)) = false := decide_eq_false (by omega)
    have e2 : decide (i ≥ 2 ^ 63) = false := decide_eq_false (by omega)
    rw [e1, e2] <;> rfl) (by rw [e]; exact hc) ⟨.str ⟨#[c]⟩, H2, I2.tok _, ⟨_, rfl⟩, q⟩) (hs _ _)
theorem vals1 {x : V} {us : List Value} (r : Vals [x] us) : ∃ u, us = [u] ∧ RelV x u := by
  cases r with
  | cons r1 r2 => cases r2; exact ⟨_, rfl, r1⟩
theorem vals2 {x y : V} {us : List Value} (r : Vals [x, y] us) : ∃ u w', us = [u, w'] ∧ RelV x u ∧ RelV y w' := by
  cases r with
  | cons r1 r2 =>
    cases r2 with
    | cons r3 r4 => cases r4; exact ⟨_, _, rfl, r1, r3⟩
theorem call_min2 (hc : X.calm = true) : CallR X (.builtin "min") (fun xs H Q => ∃ i j, xs = [.int i, .int j] ∧ Q (.int (if j < i then j else i)) H) := by
  intro pins s σ H xs us Q I r h
  obtain ⟨i, j, rfl, q⟩ := h
  obtain ⟨u, w', rfl, ⟨t, rfl⟩, ⟨t', rfl⟩⟩ := vals2 r
  refine min_two_ints (I.ok.hd hc) fun h' tk k => ⟨_, H, I.kept k, ?_, q⟩
  by_cases hj : j < i
  · rw [if_pos hj, if_pos hj]; exact ⟨_, rfl⟩
  · rw [if_neg hj, if_neg hj]; exact ⟨_, rfl⟩
theorem call_int1 : CallR X (.type "int") (fun xs H Q => (∃ i, xs = [.int i] ∧ Q (.int i) H) ∨ ∃ k, xs = [.bl k] ∧ Q (.int (if k then 1 else 0)) H) := by
  intro pins s σ H xs us Q I r h
  rcases h with ⟨i, rfl, q⟩ | ⟨k, rfl, q⟩
  · obtain ⟨u, rfl, t, rfl⟩ := vals1 r
    exact call_int_int ⟨.int i, H, I, ⟨_, rfl⟩, q⟩
  · obtain ⟨u, rfl, r1⟩ := vals1 r
    cases r1
    exact call_int_bool ⟨.int (if k then 1 else 0), H, I.tok _, ⟨_, rfl⟩, q⟩
def LenV (K : PySem.W.Frag) (x : V) (H : Hp) (n : Nat) : Prop :=
  match x with
  | .str y => y.length ≤ sizeLine ∧ n = y.length
  | .byt y => y.size ≤ sizeLine ∧ n = y.size
  | .ref p => (∃ xs, SqL K H p xs ∧ n = xs.length) ∨ ∃ xs, SqT K H p xs ∧ n = xs.length
  | _ => False
end
end L2
namespace L2
open PySem PySem.Spec PyProof.Rows
structure ObjM (h : Heap) (x dx C : Addr) (mA : Str → Option Value) : Prop where
  obj : h.get? x = some (PySem.W.instObj C dx)
  ns : h.Ns1 dx mA
  ne : dx ≠ x
theorem lookIn_ns {h : Heap} {dx : Addr} {mA : Str → Option Value} (n : h.Ns1 dx mA) : ∃ od, h.get? dx = some od ∧ ∀ name, PySem.W.lookIn name od = some (mA name) := by
  obtain ⟨o, es, ep, ho, hd, hk, _, hm⟩ := n
  refine ⟨o, ho, fun name => ?_⟩
  have e := hm name
  unfold nsFind findBy at e
  rw [← Array.find?_toList] at e
  unfold PySem.W.lookIn
  rw [hd]
  dsimp only
  split
  · rename_i y q
    rw [q] at e
    exact congrArg some e
  · rename_i q
    rw [q] at e
    have a : es.toList.any (·.refKey) = false := by
      rw [List.any_eq_false]
      intro y hy
      obtain ⟨z, t, hkey⟩ := hk y (Array.mem_toList_iff.mp hy)
      simp [DictEntry.refKey, hkey]
    have a' : ¬ es.toList.any (·.refKey) = true := by rw [a]; exact Bool.false_ne_true
    rw [if_neg a']
    exact congrArg some e
section
variable {prog : Program} {w : World} {A : Around} {E : Value → Shared → Prop} {s : Shared} {K : PySem.W.Frag} {x dx C f : Addr} {mA : Str → Option Value} {name : Str} {v : Value}
end
def putF (f : Str) (v : V) : List (Str × V) → List (Str × V)
  | [] => [(f, v)]
  | (g, x) :: r => if g = f then (g, v) :: r else (g, x) :: putF f v r
theorem RelO.some_of {v : V} {o : Option Value} (r : RelO (some v) o) : ∃ u, o = some u ∧ RelV v u := by
  cases o with
  | none => exact (show False from r).elim
  | some u => exact ⟨u, rfl, r⟩
theorem handed_of {v : V} {u : Value} (r : RelV v u) : PySem.W.handedIn u = true := by
  cases v with
  | non => cases (show u = Value.none from r); rfl
  | bl b => cases (show u = Value.bool b from r); rfl
  | int i => obtain ⟨t, e⟩ := (show ∃ t, u = Value.int i t from r); cases e; rfl
  | str x => obtain ⟨t, e⟩ := (show ∃ t, u = Value.str x t from r); cases e; rfl
  | byt b => obtain ⟨t, e⟩ := (show ∃ t, u = Value.bytes b t from r); cases e; rfl
  | flt b => obtain ⟨t, e⟩ := (show ∃ t, u = Value.float b t from r); cases e; rfl
  | ref a => cases (show u = Value.ref a from r); rfl
  | ty n => cases (show u = Value.type n from r); rfl
section
variable {P : Program} {w : World} {H H' : Hp} {h h' : Heap} {a C dx : Addr} {fs fs' : List (Str × V)}
end
structure Cls (K : PySem.W.Frag) (C : Addr) : Prop where
  pg : PySem.W.plainGet K C Str.empty = true
  hd : PySem.W.hasDictIn K C = true
  po : PySem.W.plainOver K C = true
  sa : PySem.W.findIn K (.ref C) "__setattr__" = some (some (.builtin "object.__setattr__"))
def NoAttr (K : PySem.W.Frag) (C : Addr) (f : Str) : Prop := PySem.W.findIn K (.ref C) f = some none
structure Con (K : PySem.W.Frag) (C : Addr) (f : Str) (v : V) (u : Value) : Prop where
  at_ : PySem.W.findIn K (.ref C) f = some (some u)
  rel : RelV v u
  get : PySem.W.specialIn K u "__get__" = some none
  cp : PySem.W.copiedNames.contains f = false
structure Meth (K : PySem.W.Frag) (C : Addr) (m : Str) (f : Addr) : Prop where
  at_ : PySem.W.findIn K (.ref C) m = some (some (.ref f))
  fn : PySem.W.isFn K (.ref f) = true
  kp : PySem.W.keepIn K (.ref f) = true
section
variable {X : Cx} {pins : List (Addr × Obj)} {σ : St} {H : Hp} {s : Shared} {a C dx : Addr} {fs : List (Str × V)} {f : Str} {v : V} {A : Around} {E : Value → Shared → Prop}
theorem attr_of {prog : Program} {w : World} {env : Env} {e : Expr} {f : Str} {pos : Pos} {s : Shared} {Q : Value → Shared → Prop} (hb : attributeBase e f env (eval e env) = eval e env)
    (h : wpAny (model prog w) A (eval e env) (fun o s₁ => wpAny (model prog w) A (getAttr o f true) Q E s₁) E s) : wpAny (model prog w) A (eval (.Attribute e f pos) env) Q E s :=
  Attribute_any_ h (by rw [arm_eval_Attribute, hb])
end
def tFld (K : PySem.W.Frag) (ta : TE) (f : Str) : TE := fun σ H Q => ta σ H fun x H1 => ∃ a C dx fs v, x = .ref a ∧ H1 a = some (.ins C dx fs) ∧ Cls K C ∧ NoAttr K C f ∧ fs.lookup f = some v ∧ Q v H1
def tCon (K : PySem.W.Frag) (ta : TE) (f : Str) : TE := fun σ H Q => ta σ H fun x H1 => ∃ a C dx fs v u, x = .ref a ∧ H1 a = some (.ins C dx fs) ∧ Cls K C ∧ Con K C f v u ∧ fs.lookup f = none ∧ Q v H1
def sFld (K : PySem.W.Frag) (ta tv : TE) (f : Str) : TS := fun D σ H => tv σ H fun y H1 => ta σ H1 fun x H2 => ∃ a C dx fs, x = .ref a ∧ H2 a = some (.ins C dx fs) ∧ Cls K C ∧ NoAttr K C f ∧ fs.length < 1000 ∧
  D.nx σ (upd H2 a (.ins C dx (putF f y fs)))
def InOp (X : Cx) (op : Operator) (rd : V → V → Hp → VK → Prop) : Prop :=
  ∀ (pins : List (Addr × Obj)) (s : Shared) (σ : St) (H : Hp) (x y : V) (u v : Value) (Q : VK), Inv X pins σ H s → RelV x u → RelV y v → rd x y H Q → wpAny (model X.prog X.w) X.A (inplaceOp op u v) (EP X pins σ Q) X.xe s
def sFldAug (K : PySem.W.Frag) (ta tv : TE) (rd : V → V → Hp → VK → Prop) (f : Str) : TS := fun D σ H => ta σ H fun x H1 => ∃ a C dx fs v, x = .ref a ∧ H1 a = some (.ins C dx fs) ∧ Cls K C ∧ NoAttr K C f ∧ fs.lookup f = some v ∧
  tv σ H1 fun y H2 => rd v y H2 fun z H3 => ∃ dx' fs', H3 a = some (.ins C dx' fs') ∧ fs'.length < 1000 ∧ D.nx σ (upd H3 a (.ins C dx' (putF f z fs')))
section
variable {X : Cx} {o e value : Expr} {f : Str} {pos pos' tpos : Pos} {ta tv : TE}
def rAdd : V → V → Hp → VK → Prop := fun x y H Q => ∃ i j, x = .int i ∧ y = .int j ∧ Q (.int (i + j)) H
def rSub : V → V → Hp → VK → Prop := fun x y H Q => ∃ i j, x = .int i ∧ y = .int j ∧ Q (.int (i - j)) H
end
section
variable {X : Cx} {pins : List (Addr × Obj)} {σ : St} {H : Hp} {s : Shared} {A : Around} {E : Value → Shared → Prop} {Q : Value → Shared → Prop} {c : Value} {b : Bool}
inductive TyOf (K : PySem.W.Frag) (H : Hp) : V → Value → Prop where
  | non : TyOf K H .non (.type "NoneType")
  | bl (x : Bool) : TyOf K H (.bl x) (.type "bool")
  | int (i : Int) : TyOf K H (.int i) (.type "int")
  | str (x : Str) : TyOf K H (.str x) (.type "str")
  | flt (x : UInt64) : TyOf K H (.flt x) (.type "float")
  | lst {a : Addr} {xs : List V} (e : H a = some (.lst xs)) : TyOf K H (.ref a) (.type "list")
  | frz {a : Addr} {o : Obj} {xs : List V} (e : H a = some (.frz o (.lst xs))) : TyOf K H (.ref a) (.type "list")
  | tup {a : Addr} {xs : List V} (e : H a = some (.tup xs)) : TyOf K H (.ref a) (.type "tuple")
  | dK {a : Addr} {kvs : List (Key × V)} (e : H a = some (.dK kvs)) : TyOf K H (.ref a) (.type "dict")
  | dT {a : Addr} {kvs : List (List Key × V)} (e : H a = some (.dT kvs)) : TyOf K H (.ref a) (.type "dict")
  | ins {a C dx : Addr} {fs : List (Str × V)} (e : H a = some (.ins C dx fs)) (cl : Cls K C) (ha : PySem.W.findIn K (.ref C) "__class__" = some (some (.builtin "object.__class__")))
      (hn : PySem.W.specialIn K (.builtin "object.__class__") "__get__" = some (some (.builtin "getset_descriptor.__get__"))) (htk : PySem.W.takesIn K (.builtin "object.__class__") = some true)
      (hm : PySem.W.mroIn K C (.type "object") = some true) : TyOf K H (.ref a) (.ref C)
end
end L2
namespace L2
open PySem PySem.Spec PyProof.Rows
structure Room (k : Nat) (A : Around) : Prop where
  hd : A.handled = none
  dp : A.depth + 3 * k + 5 < recursionLimit
  un : A.units + 16 * k + 200 < cLine
theorem Room.mono {j k : Nat} {A : Around} (r : Room k A) (h : j ≤ k) : Room j A := ⟨r.hd, by have := r.dp; omega, by have := r.un; omega⟩
theorem Room.deeper {k : Nat} {A : Around} (r : Room (k + 1) A) (env : Env) : Room k (A.deeper env) :=
  ⟨r.hd, by have := r.dp; show A.depth + 1 + 3 * k + 5 < _; omega, by have := r.un; show A.units + 3 + 16 * k + 200 < _; omega⟩
theorem make_depth {A : Around} {C : Addr} {us : List Value} {kw : List (Str × Value)} : (A.under (.builtin "type.__call__" ⟨.ref C :: us, kw⟩)).depth = A.depth + 1 := by
  first | rfl | simp [Around.under, Code.weight, Code.isCreation, Code.isGuard, Code.isCaller, Code.frames, Code.isFrame, guardIds]
theorem make_units {A : Around} {C : Addr} {us : List Value} {kw : List (Str × Value)} : (A.under (.builtin "type.__call__" ⟨.ref C :: us, kw⟩)).units = A.units + 1 := by
  first | rfl | simp [Around.under, Code.cUnits, Code.frames, Code.isFrame]
theorem Room.make {k : Nat} {A : Around} (r : Room (k + 1) A) (C : Addr) (us : List Value) (kw : List (Str × Value)) : Room k (A.under (.builtin "type.__call__" ⟨.ref C :: us, kw⟩)) :=
  ⟨r.hd, by have := r.dp; rw [make_depth]; omega, by have := r.un; rw [make_units]; omega⟩
theorem Room.depth {k : Nat} {A : Around} (r : Room k A) : A.depth < recursionLimit := by have := r.dp; omega
theorem Room.units {k : Nat} {A : Around} (r : Room k A) : A.units + 64 < cLine := by have := r.un; omega
def tNil : TA := fun _ H Q => Q [] H
def tCons (ta : TE) (tr : TA) : TA := fun σ H Q => ta σ H fun x H1 => tr σ H1 fun xs H2 => Q (x :: xs) H2
section
variable {X : Cx} {e : Expr} {es : List Expr} {te : TE} {t : TA} {pos : Pos}
theorem pa_nil : PA X [] tNil := fun _ _ _ _ H Q I h => Calls.spliced_nil ⟨[], H, I, .nil, h⟩
theorem pa_cons (ha : PE X e te) (hr : PA X es t) (hs : starEach (e :: es) X.env = (false, eval e X.env) :: starEach es X.env := by rfl) : PA X (e :: es) (tCons te t) := by
  intro pos pins s σ H Q I h
  rw [hs]
  show wpAny _ _ (spliced ((false, eval e X.env) :: backTo pos (starEach es X.env))) _ _ s
  refine Calls.spliced_cons (thn (ha pins s σ H _ I h) fun u s1 ⟨x, H1, I1, r1, q1⟩ => ?_)
  exact thn (hr pos pins s1 σ H1 _ I1 q1) fun us s2 ⟨xs, H2, I2, r2, q2⟩ => ⟨x :: xs, H2, I2, .cons r1 r2, q2⟩
def tTup (t : TA) : TE := fun σ H Q => t σ H fun xs H1 => xs.length ≤ sizeLine ∧ ∀ p, H1 p = none → Q (.ref p) (upd H1 p (.tup xs))
def tLst (t : TA) : TE := fun σ H Q => t σ H fun xs H1 => xs.length ≤ sizeLine ∧ ∀ p, H1 p = none → Q (.ref p) (upd H1 p (.lst xs))
theorem pe_tup {x1} (h : PA X es t) : PE X (.Tuple es x1 pos) (tTup t) := by
  intro pins s σ H Q I hq
  refine wpAny_Tuple_spliced (thn (h pos pins s σ H _ I hq) fun us s1 ⟨xs, H1, I1, r, z, q⟩ => ⟨by rw [← r.length]; exact z, ?_⟩)
  have hf : H1 s1.heap.objs.size = none := I1.hok.fresh (Nat.le_refl _)
  refine ⟨.ref s1.heap.objs.size, upd H1 s1.heap.objs.size (.tup xs), I1.laid (t' := s1.toks) (fun b u e => Heap.get?_push_of_some _ e) (Nat.le_refl _) ?_, rfl, q _ hf⟩
  exact ⟨z, us, r, TupN.new _ _⟩
theorem pe_lst (h : PA X es t) : PE X (.List es pos) (tLst t) := by
  intro pins s σ H Q I hq
  refine wpAny_List_spliced (thn (h pos pins s σ H _ I hq) fun us s1 ⟨xs, H1, I1, r, z, q⟩ => ⟨by rw [← r.length]; exact z, ?_⟩)
  have hf : H1 s1.heap.objs.size = none := I1.hok.fresh (Nat.le_refl _)
  refine ⟨.ref s1.heap.objs.size, upd H1 s1.heap.objs.size (.lst xs), I1.laid (t' := s1.toks) (fun b u e => Heap.get?_push_of_some _ e) (Nat.le_refl _) ?_, rfl, q _ hf⟩
  exact ⟨z, us, 0, r, Heap.get?_push_size _ rfl⟩
end
abbrev Sp := List V → Hp → VK → XK → Prop
abbrev CXT := List Env → Hp → Shared → XK → Value → Shared → Prop
structure Env0 (P : Program) (w : World) (K : PySem.W.Frag) (mg : Str → Option Value) (base : Heap) (A : Around) (outer : List Env) (s : Shared) (H : Hp) : Prop where
  frames : A.frames = some outer
  mod : Mod K mg base
  bs : ∀ b o, base.get? b = some o → s.heap.get? b = some o ∧ H b = none
  bsz : base.objs.size ≤ s.heap.objs.size
  funs : s.heap.FunFrames base outer
  frf : ∀ b ∈ frs outer, H b = none
  hok : HOk P w H s.heap
  bare : AllBare s.gens
def CE (outer : List Env) (P : Program) (w : World) (H : Hp) (s : Shared) (Q : VK) (u : Value) (s' : Shared) : Prop :=
  ∃ v H', s'.os = s.os ∧ AllBare s'.gens ∧ Un (frs outer) [] H H' s.heap s'.heap ∧ HOk P w H' s'.heap ∧ RelV v u ∧ Q v H'
def CR (CX : CXT) (outer : List Env) (P : Program) (w : World) (H : Hp) (s : Shared) (Q : VK) (E : XK) (r : Result) (s' : Shared) : Prop :=
  match r with
  | .ok (.ret u) => CE outer P w H s Q u s'
  | .ok _ => False
  | .error e => CX outer H s E e s'
structure FnOk (P : Program) (w : World) (K : PySem.W.Frag) (mg : Str → Option Value) (base : Heap) (CX : CXT) (k : Nat) (f : Addr) (fd : FuncData) (ps : List Str) (sp : Sp) : Prop where
  len : ∀ vs H Q E, sp vs H Q E → vs.length = ps.length
  run : ∀ (A : Around) (outer : List Env) (s : Shared) (H : Hp) (args : Args) (us : List Value) (vs : List V) (Q : VK) (E : XK), Room k A → Env0 P w K mg base A outer s H → BindsTo s fd args (ps.zip us) → Vals vs us → sp vs H Q E →
    codeAny (model P w) A (.call (.ref f) args) (CR CX outer P w H s Q E) s
theorem Env0.make {P : Program} {w : World} {K : PySem.W.Frag} {mg : Str → Option Value} {base : Heap} {A : Around} {outer : List Env} {s : Shared} {H : Hp} (e : Env0 P w K mg base A outer s H) (C : Addr) (us : List Value) (kw : List (Str × Value)) :
    Env0 P w K mg base (A.under (.builtin "type.__call__" ⟨.ref C :: us, kw⟩)) outer s H := ⟨by first | exact e.frames | (simpa [Around.under, Code.envs, Code.isFrame, pushEnvs] using e.frames), e.mod, e.bs, e.bsz, e.funs, e.frf, e.hok, e.bare⟩
section
variable {X : Cx} {pins : List (Addr × Obj)} {σ : St} {H : Hp} {s s' : Shared}
theorem Inv.env0 (I : Inv X pins σ H s) : Env0 X.prog X.w X.K X.mg X.base X.A X.stack s H :=
  ⟨I.ok.frames, I.ok.mod, I.bs, Nat.le_trans I.ok.bsz I.sz, I.stack, I.stkFree, I.hok, I.bare⟩
theorem Inv.after {Q : VK} {u : Value} (I : Inv X pins σ H s) (h : CE X.stack X.prog X.w H s Q u s') : EP X pins σ Q u s' := by
  obtain ⟨v, H', os, bare, un, hok, r, q⟩ := h
  obtain ⟨hh, g, d, t, os'⟩ := s'
  obtain rfl : os' = s.os := os
  exact ⟨v, H', I.call (h' := hh) (g' := g) (d' := d) (t' := t) (ch := []) un hok bare (fun b z => absurd z (by simp)), r, q⟩
end
def tCall (sp : Sp) (dvs : List V) (E : XK) (t : TA) : TE := fun σ H Q => t σ H fun vs H1 => sp (vs ++ dvs) H1 Q E
def tMeth (C : Addr) (m : Str) (sp : Sp) (dvs : List V) (E : XK) (ta : TE) (t : TA) : TE := fun σ H Q => ta σ H fun x H1 => ∃ a dx fs, x = .ref a ∧ H1 a = some (.ins C dx fs) ∧ fs.lookup m = none ∧
  t σ H1 fun vs H2 => sp (x :: (vs ++ dvs)) H2 Q E
def tMake (C : Addr) (sp : Sp) (dvs : List V) (E : XK) (t : TA) : TE := fun σ H Q => t σ H fun vs H1 => ∀ x dx, H1 x = none → H1 dx = none → dx ≠ x →
  sp (.ref x :: (vs ++ dvs)) (upd (upd H1 dx (.own x)) x (.ins C dx [])) (fun v H2 => v = .non ∧ Q (.ref x) H2) E
def Binds (K : PySem.W.Frag) (fd : FuncData) (ps : List Str) (ds : List Value) : Prop :=
  ∀ (s : Shared) (us : List Value), K.In s.heap → (us ++ ds).length = ps.length → BindsTo s fd ⟨us, []⟩ (ps.zip (us ++ ds))
theorem Binds.all {K : PySem.W.Frag} {fd : FuncData} {ps : List Str} (h : ∀ us : List Value, us.length = ps.length → bindArgs fd ⟨us, []⟩ = pure (ps.zip us)) : Binds K fd ps [] := fun s us _ hl => by
  rw [List.append_nil] at hl ⊢
  exact .of_eq (h us hl)
def Passes (CX : CXT) (X : Cx) (E : XK) : Prop := ∀ (pins : List (Addr × Obj)) (σ : St) (H : Hp) (s : Shared) (e : Value) (s' : Shared), Inv X pins σ H s → CX X.stack H s E e s' → X.xe e s'
section
variable {X : Cx} {CX : CXT} {k : Nat} {f C : Addr} {fd : FuncData} {ps : List Str} {sp : Sp} {dvs : List V} {ds : List Value} {E : XK} {x m : Str} {p pos apos : Pos} {e o : Expr} {es : List Expr} {ta : TE} {t : TA}
theorem run_fn {pins : List (Addr × Obj)} {σ : St} {H : Hp} {s : Shared} {Q : VK} {us : List Value} {vs : List V} (F : FnOk X.prog X.w X.K X.mg X.base CX k f fd ps sp) (hr : Room k X.A) (hb : Binds X.K fd ps ds) (hd : Vals dvs ds) (hx : Passes CX X E)
    (I : Inv X pins σ H s) (r : Vals vs us) (h : sp (vs ++ dvs) H Q E) : wpAny (model X.prog X.w) X.A (call (.ref f) us) (EP X pins σ Q) X.xe s := by
  have r2 : Vals (vs ++ dvs) (us ++ ds) := r.append hd
  have hl : (us ++ ds).length = ps.length := by rw [← r2.length]; exact F.len _ _ _ _ h
  refine wpAny_call (codeAny_mono (F.run X.A X.stack s H ⟨us, []⟩ (us ++ ds) (vs ++ dvs) Q E hr I.env0 (hb s us I.kIn hl) r2 h) fun r s' hq => ?_)
  cases r with
  | error e => exact hx pins σ H s e s' I hq
  | ok fl =>
    cases fl with
    | ret u => exact I.after hq
    | next => exact False.elim hq
    | brk => exact False.elim hq
    | cont => exact False.elim hq
theorem pe_call (F : FnOk X.prog X.w X.K X.mg X.base CX k f fd ps sp) (hr : Room k X.A) (hg : Gl X x) (hm : X.mg x = some (.ref f)) (hk : PySem.W.keepIn X.K (.ref f) = true) (hb : Binds X.K fd ps ds) (hd : Vals dvs ds) (hx : Passes CX X E)
    (ha : PA X (e :: es) t) (hdb : (x == ("__debug__" : Str)) = false := by decide) (he : starEach (e :: es) X.env = (false, eval e X.env) :: starEach es X.env := by rfl) (hpl : (backTo pos (starEach es X.env)).any (·.1) = false := by rfl) :
    PE X (.Call (.Name x p) (e :: es) [] pos) (tCall sp dvs E t) := by
  intro pins s σ H Q I h
  refine wpAny_Call_Name_kw (ld_glob I hg hm ?_ hdb)
  refine PySem.W.callWith_K (h₀ := X.base) I.ok.mod.kin hk (thn (ha pos pins s σ H _ I h) fun us s1 ⟨vs, H1, I1, r, q⟩ => ⟨I1.kIn, ?_⟩) he hpl
  exact run_fn F hr hb hd hx I1 r q
structure Mk (K : PySem.W.Frag) (C f : Addr) : Prop where
  makes : PySem.W.makesIn K C = true
  init : PySem.W.findIn K (.ref C) "__init__" = some (some (.ref f))
  fn : PySem.W.isFn K (.ref f) = true
  kp : PySem.W.keepIn K (.ref C) = true
end
def PK (X : Cx) (kws : List Keyword) (t : TA) : Prop :=
  ∀ (pos : Pos) (pins : List (Addr × Obj)) (s : Shared) (σ : St) (H : Hp) (Q : List V → Hp → Prop), Inv X pins σ H s → t σ H Q → wpAny (model X.prog X.w) X.A (evalAll ((backToKw pos (keywordEach kws X.env)).map (·.2))) (AP X pins σ Q) X.xe s
section
variable {X : Cx} {CX : CXT} {k : Nat} {f C : Addr} {fd : FuncData} {ps ks : List Str} {sp : Sp} {E : XK} {x m : Str} {p pos apos kpos : Pos} {e o : Expr} {es : List Expr} {kws : List Keyword} {te ta : TE} {t tk : TA} {nm : Option Str}
structure KBinds (K : PySem.W.Frag) (fd : FuncData) (ps ks : List Str) (g : List Value → List Value → List Value) (gV : List V → List V → List V) : Prop where
  to : ∀ (s : Shared) (us ws : List Value), K.In s.heap → (g us ws).length = ps.length → BindsTo s fd ⟨us, ks.zip ws⟩ (ps.zip (g us ws))
  rel : ∀ {vs : List V} {us : List Value} {zs : List V} {ws : List Value}, Vals vs us → Vals zs ws → Vals (gV vs zs) (g us ws)
def tCallK (sp : Sp) (gV : List V → List V → List V) (E : XK) (t tk : TA) : TE := fun σ H Q => t σ H fun vs H1 => tk σ H1 fun zs H2 => sp (gV vs zs) H2 Q E
variable {g : List Value → List Value → List Value} {gV : List V → List V → List V}
end
structure FnScope (N P : List Str) (sc : Scope) : Prop where
  kind : sc.kind = .function
  co : sc.isCoroutine = false
  gen : sc.isGenerator = false
  nd : N.Nodup
  pre : N.take P.length = P
  par : ∀ x ∈ P, sc.names.lookup x = some .local ∨ sc.names.lookup x = some .cell
  nofree : ∀ y ∈ sc.names, y.2 ≠ .free
theorem bindL_out {kindOf : Str → Option NameKind} {x : Str} : ∀ {binds : List (Str × Value)} {m : Str → Option Value}, (∀ v, (x, v) ∉ binds) → bindL kindOf binds m x = m x
  | [], _, _ => rfl
  | (n, v) :: r, m, h => by
    unfold bindL
    rw [bindL_out fun w hw => h w (List.mem_cons_of_mem _ hw)]
    split
    · have : x ≠ n := by rintro rfl; exact h v List.mem_cons_self
      simp [this]
    · rfl
theorem bindC_out {kindOf : Str → Option NameKind} {x : Str} : ∀ {binds : List (Str × Value)} {m : Str → Option Value}, (∀ v, (x, v) ∉ binds) → bindC kindOf binds m x = m x
  | [], _, _ => rfl
  | (n, v) :: r, m, h => by
    unfold bindC
    rw [bindC_out fun w hw => h w (List.mem_cons_of_mem _ hw)]
    split
    · rfl
    · have : x ≠ n := by rintro rfl; exact h v List.mem_cons_self
      simp [this]
theorem bindL_get {kindOf : Str → Option NameKind} {x : Str} {v : Value} : ∀ {P : List Str} {vs : List Value} {i : Nat} {m : Str → Option Value}, P.Nodup → P[i]? = some x → vs[i]? = some v → kindOf x = some .local →
    bindL kindOf (P.zip vs) m x = some v
  | [], _, _, _, _, h, _, _ => by simp at h
  | _ :: _, [], _, _, _, _, h, _ => by simp at h
  | p :: P, w :: vs, 0, m, nd, h1, h2, hk => by
    simp at h1 h2; subst h1; subst h2
    show bindL kindOf ((p, w) :: P.zip vs) m p = _
    unfold bindL
    rw [bindL_out fun v hv => (List.nodup_cons.mp nd).1 (List.of_mem_zip hv).1, if_pos hk]
    simp
  | p :: P, w :: vs, i + 1, m, nd, h1, h2, hk => by
    show bindL kindOf ((p, w) :: P.zip vs) m x = _
    unfold bindL
    exact bindL_get (i := i) (List.nodup_cons.mp nd).2 (by simpa using h1) (by simpa using h2) hk
theorem bindC_get {kindOf : Str → Option NameKind} {x : Str} {v : Value} : ∀ {P : List Str} {vs : List Value} {i : Nat} {m : Str → Option Value}, P.Nodup → P[i]? = some x → vs[i]? = some v → kindOf x ≠ some .local →
    bindC kindOf (P.zip vs) m x = some v
  | [], _, _, _, _, h, _, _ => by simp at h
  | _ :: _, [], _, _, _, _, h, _ => by simp at h
  | p :: P, w :: vs, 0, m, nd, h1, h2, hk => by
    simp at h1 h2; subst h1; subst h2
    show bindC kindOf ((p, w) :: P.zip vs) m p = _
    unfold bindC
    rw [bindC_out fun v hv => (List.nodup_cons.mp nd).1 (List.of_mem_zip hv).1, if_neg hk]
    simp
  | p :: P, w :: vs, i + 1, m, nd, h1, h2, hk => by
    show bindC kindOf ((p, w) :: P.zip vs) m x = _
    unfold bindC
    exact bindC_get (i := i) (List.nodup_cons.mp nd).2 (by simpa using h1) (by simpa using h2) hk
def start (N : List Str) (vs : List V) : St := vs.map some ++ List.replicate (N.length - vs.length) none
def cxOf (CX : CXT) (P : Program) (w : World) (K : PySem.W.Frag) (mg : Str → Option Value) (base : Heap) (N : List Str) (qual : Str) (scope : Scope) (f : Addr) (cd : Value) (A : Around) (outer : List Env) (s : Shared) (H : Hp) (E : XK) : Cx where
  prog := P
  w := w
  K := K
  mg := mg
  base := base
  A := A.deeper (envOfC qual scope s.heap.objs.size f cd)
  N := N
  s₀ := s
  H₀ := H
  env := envOfC qual scope s.heap.objs.size f cd
  outer := outer
  stack := envOfC qual scope s.heap.objs.size f cd :: outer
  ex := []
  calm := true
  fn := fun _ => true
  pn := []
  xe := fun e s' => wpAny (model P w) (A.deeper (envOfC qual scope s.heap.objs.size f cd)) (leaving (envOfC qual scope s.heap.objs.size f cd) e) (fun _ s'' => CX outer H s E e s'') (fun e' s'' => CX outer H s E e' s'') s'
theorem cell_has {sc : Scope} {n : Nat} {x : Str} (h : sc.names.lookup x = some .cell) : ∃ c, (cellsFrom n sc.names []).lookup x = some c := by
  have q := PySem.W.cellsFrom_some sc.names n [] (.inl h)
  exact Option.isSome_iff_exists.mp q
theorem inv_start {CX : CXT} {P : Program} {w : World} {K : PySem.W.Frag} {mg : Str → Option Value} {base : Heap} {N ps : List Str} {qual : Str} {scope : Scope} {f : Addr} {cd : Value} {A : Around} {outer : List Env} {s s1 : Shared} {H : Hp} {E : XK} {us : List Value} {vs : List V}
    (S : FnScope N ps scope) (hd : A.handled = none) (e0 : Env0 P w K mg base A outer s H) (hl : vs.length = ps.length) (r : Vals vs us)
    (x : InCallC s s.heap.objs.size (bindL (envOfC qual scope s.heap.objs.size f cd).kindOf (ps.zip us) fun _ => none) (cellsFrom (s.heap.objs.size + 1) scope.names []) (bindC (envOfC qual scope s.heap.objs.size f cd).kindOf (ps.zip us) fun _ => none) s1) :
    Inv (cxOf CX P w K mg base N qual scope f cd A outer s H E) [] (start N vs) H s1 := by
  have hpl : ps.length ≤ N.length := by have := congrArg List.length S.pre; rw [List.length_take] at this; omega
  obtain ⟨h1, tk, rfl, hk⟩ := x.done
  have noA : ∀ b : Addr, b ∉ (cxOf CX P w K mg base N qual scope f cd A outer s H E).ex := fun b z => absurd (show b ∈ ([] : List Addr) from z) (by simp)
  refine ⟨⟨e0.mod, S.kind, rfl, rfl, Nat.le_refl _, fun y z c h1 h2 => ?_, fun y hy => ?_, fun y c _ h => ?_, fun _ => hd, Around.frames_deeper e0.frames, .inr ⟨rfl, rfl⟩, fun b z => absurd z (noA b), e0.bs, e0.bsz, fun b _ _ => noA b, fun b z => absurd z (noA b), e0.funs, e0.frf⟩,
    rfl, e0.bare, Un.kept hk, ⟨_, x.toInCall.ns, fun i y v h1 h2 h3 => ?_⟩, fun y c h => ⟨_, x.cell y c h⟩, e0.hok.fresh (Nat.le_refl _), fun y c h => ?_, fun p hp => absurd (show p ∈ ([] : List (Addr × Obj)) from hp) (by simp), e0.hok.kept hk, ?_⟩
  · exact name_of_addr x.apart (PySem.mem_of_lookup h1) (PySem.mem_of_lookup h2)
  · have hy : scope.names.lookup y = some .cell ∨ scope.names.lookup y = some .free := hy
    rcases hy with hy | hy
    · exact cell_has hy
    · exact absurd rfl (S.nofree _ (PySem.mem_of_lookup hy))
  · exact Nat.le_of_lt (x.above y c (PySem.mem_of_lookup h))
  · have hi : i < vs.length := by
      unfold start at h2
      by_cases hi : i < vs.length
      · exact hi
      · rw [List.getElem?_append_right (by simpa using hi)] at h2
        rw [List.getElem?_replicate] at h2
        split at h2 <;> cases h2
    have ha : vs[i]? = some v := by
      unfold start at h2
      rw [List.getElem?_append_left (by simpa using hi), List.getElem?_map] at h2
      cases e : vs[i]? with
      | none => rw [e] at h2; cases h2
      | some a => rw [e] at h2; cases h2; rfl
    obtain ⟨u, hu, rv⟩ := r.get ha
    have hp : ps[i]? = some y := by
      rw [← S.pre, List.getElem?_take_of_lt (by omega)]; exact h1
    have ndP : ps.Nodup := by rw [← S.pre]; exact S.nd.sublist (List.take_sublist _ _)
    refine ⟨u, rv, ?_⟩
    rcases S.par y (List.mem_of_getElem? hp) with k | k
    · exact .inl ⟨k, bindL_get ndP hp hu k⟩
    · obtain ⟨c, e⟩ := cell_has (n := s.heap.objs.size + 1) k
      refine .inr ⟨.inl k, c, e, ?_⟩
      have q := x.cell y c e
      rw [bindC_get ndP hp hu (by show scope.names.lookup y ≠ _; rw [k]; decide)] at q
      exact q
  · exact e0.hok.fresh (Nat.le_of_lt (x.above y c (PySem.mem_of_lookup h)))
  · unfold start
    show _ = N.length
    rw [List.length_append, List.length_map, List.length_replicate]
    omega
theorem fn_of {CX : CXT} {P : Program} {w : World} {K : PySem.W.Frag} {mg : Str → Option Value} {base : Heap} {k : Nat} {f : Addr} {name qual : Str} {params : Arguments} {body : List Stmt} {scope : Scope} {dV kV doc pm cdv ct oc : Value} {an od : Option Addr}
    {osl : Array (Option Value)} {N ps : List Str} {sp : Sp} (lk : K.lookup f = some ⟨oc, od, .func (PySem.W.fnOf name qual params body scope dV kV doc pm an cdv ct), osl⟩) (hcd : PySem.W.codeIn K cdv qual = true) (S : FnScope N ps scope)
    (len : ∀ vs H Q E, sp vs H Q E → vs.length = ps.length)
    (hbody : ∀ (A : Around) (outer : List Env) (s : Shared) (H : Hp) (vs : List V) (Q : VK) (E : XK), Room k (A.deeper (envOfC qual scope s.heap.objs.size f cdv)) → sp vs H Q E →
      ∃ t, PSs (cxOf CX P w K mg base N qual scope f cdv A outer s H E) body t ∧ t { nx := fun _ H' => Q .non H', rt := Q } (start N vs) H) :
    FnOk P w K mg base CX (k + 1) f (PySem.W.fnOf name qual params body scope dV kV doc pm an cdv ct) ps sp := by
  refine ⟨len, fun A outer s H args us vs Q E hr e0 hb r hsp => ?_⟩
  have hl := len _ _ _ _ hsp
  have KX : K.In s.heap := e0.mod.kin.keeps fun b o e => (e0.bs b o e).1
  have lim : s.heap.NoLimit := e0.mod.nolimit.keeps fun b o e => (e0.bs b o e).1
  have hkind : ∀ y ∈ ps.zip us, scope.names.lookup y.1 = some .local ∨ (scope.names.lookup y.1 = some .cell ∧ ((cellsFrom (s.heap.objs.size + 1) scope.names []).lookup y.1).isSome = true) := fun ⟨n, v⟩ hy => by
    rcases S.par n (List.of_mem_zip hy).1 with q | q
    · exact .inl q
    · exact .inr ⟨q, PySem.W.cellsFrom_some _ _ _ (.inl q)⟩
  refine codeAny_call_function hr.depth (KX _ _ lk) rfl S.co S.gen rfl (PySem.W.codeRec_of KX hcd) (hb _ _ _ _ ?_)
  refine wpAny_newFunctionEnv_cells S.kind hkind fun env he s1 x => ?_
  subst he
  refine ⟨lim.keeps x.toInCall.keep, codeAny_func ?_⟩
  obtain ⟨t, ht, hq⟩ := hbody A outer s H vs Q E (hr.deeper _) hsp
  have I : Inv (cxOf CX P w K mg base N qual scope f cdv A outer s H E) [] (start N vs) H s1 := inv_start S hr.hd e0 hl r x
  refine wpAny_mono (ht [] s1 (start N vs) H _ I hq) (fun fl s' hs => ?_) fun e s' hs => hs
  have fin : ∀ {σ' : St} {H' : Hp} {v : V} {u : Value}, Inv (cxOf CX P w K mg base N qual scope f cdv A outer s H E) [] σ' H' s' → RelV v u → Q v H' → CE outer P w H s Q u s' :=
    fun {σ' H' v u} J rv q => ⟨v, H', J.os, J.bare, J.base, J.hok, rv, q⟩
  cases fl with
  | ret u =>
    obtain ⟨v, σ', H', J, rv, q⟩ := hs
    exact fin J rv q
  | next =>
    obtain ⟨σ', H', J, q⟩ := hs
    exact fin (v := V.non) (u := Value.none) J rfl q
  | brk =>
    obtain ⟨_, _, _, q⟩ := hs
    exact False.elim q
  | cont =>
    obtain ⟨_, _, _, q⟩ := hs
    exact False.elim q
end L2
namespace L2
open PySem PySem.Spec PyProof.Rows
section
variable {X : Cx} {x : Str} {p pos : Pos} {e : Expr} {es : List Expr} {t : TA} {id T : String} {r : List V → Hp → VK → Prop}
def tCB (r : List V → Hp → VK → Prop) (t : TA) : TE := fun σ H Q => t σ H fun vs H1 => r vs H1 Q
theorem pe_callB (hc : CallR X (.builtin id) r) (hg : Gl X x) (hm : X.mg x = none) (hv : bootBuiltins x = some (.builtin id)) (ha : PA X (e :: es) t) (hn : x ≠ "__name__" := by decide) (hdb : (x == ("__debug__" : Str)) = false := by decide)
    (he : starEach (e :: es) X.env = (false, eval e X.env) :: starEach es X.env := by rfl) (hpl : (backTo pos (starEach es X.env)).any (·.1) = false := by rfl) : PE X (.Call (.Name x p) (e :: es) [] pos) (tCB r t) := by
  intro pins s σ H Q I h
  refine wpAny_Call_Name_kw (ld_blt I hg hm hv ?_ hn hdb)
  exact PyProof.Rows.callWith_builtin1 (thn (ha pos pins s σ H _ I h) fun us s1 ⟨vs, H1, I1, r1, q1⟩ => hc pins s1 σ H1 vs us Q I1 r1 q1) he hpl
theorem pe_callTy (hc : CallR X (.type T) r) (hg : Gl X x) (hm : X.mg x = none) (hv : bootBuiltins x = some (.type T)) (ha : PA X (e :: es) t) (hn : x ≠ "__name__" := by decide) (hdb : (x == ("__debug__" : Str)) = false := by decide)
    (he : starEach (e :: es) X.env = (false, eval e X.env) :: starEach es X.env := by rfl) (hpl : (backTo pos (starEach es X.env)).any (·.1) = false := by rfl) : PE X (.Call (.Name x p) (e :: es) [] pos) (tCB r t) := by
  intro pins s σ H Q I h
  refine wpAny_Call_Name_kw (ld_blt I hg hm hv ?_ hn hdb)
  exact PyProof.Rows.callWith_type1 (thn (ha pos pins s σ H _ I h) fun us s1 ⟨vs, H1, I1, r1, q1⟩ => hc pins s1 σ H1 vs us Q I1 r1 q1) he hpl
end
end L2
namespace HT
open PySem PyProof.Rows
def lexLt : List Int → List Int → Bool
  | [], [] => false
  | [], _ :: _ => true
  | _ :: _, [] => false
  | x :: xs, y :: ys => if x = y then lexLt xs ys else decide (x < y)
section
open PySem.SeqAt
open PySem.AutoSeq1 (wpAny_loadPart')
open PySem.MeetsSeq PySem.MeetsSeq2 PySem.MeetsSeq3
end
section
variable {prog : Program} {w : World} {A : Around} {E : Value → Shared → Prop} {s : Shared}
def sIx (n d : Nat) : Option Int → Nat
  | none => d
  | some v => if v < 0 then (v + (n : Int)).toNat else min v.toNat n
theorem sIx_none (n d : Nat) : sIx n d none = d := rfl
theorem sIx_nat (n d k : Nat) : sIx n d (some (k : Int)) = min k n := by
  show (if (k : Int) < 0 then ((k : Int) + (n : Int)).toNat else min (k : Int).toNat n) = min k n
  rw [if_neg (by omega), Int.toNat_natCast]
end
end HT
namespace L2
open PySem PySem.Spec PyProof.Rows
abbrev TO := St → Hp → (Option Int → Hp → Prop) → Prop
def PO (X : Cx) (e : Option Expr) (t : TO) : Prop :=
  ∀ (pins : List (Addr × Obj)) (s : Shared) (σ : St) (H : Hp) (Q : Option Int → Hp → Prop), Inv X pins σ H s → t σ H Q →
    wpAny (model X.prog X.w) X.A (evalPart e X.env) (fun u s' => ∃ o H', Inv X pins σ H' s' ∧ IsPart u o ∧ Q o H') X.xe s
def tNoPart : TO := fun _ H Q => Q none H
def tPart (t : TE) : TO := fun σ H Q => t σ H fun x H1 => ∃ i, x = .int i ∧ Q (some i) H1
section
variable {X : Cx} {e : Expr} {te : TE} {lo hi : Option Expr} {tl th : TO} {pos p2 : Pos}
theorem po_none : PO X none tNoPart := by
  intro pins s σ H Q I h
  rw [evalPart_none]
  exact wpAny_pure ⟨none, H, I, .none, h⟩
theorem po_some (h : PE X e te) : PO X (some e) (tPart te) := by
  intro pins s σ H Q I hw
  rw [evalPart_some]
  refine thn (h pins s σ H _ I hw) fun u s1 ⟨x, H1, I1, r1, q1⟩ => ?_
  obtain ⟨i, rfl, q⟩ := q1
  obtain ⟨t, rfl⟩ := r1
  exact ⟨some i, H1, I1, .int i t, q⟩
def SlR (X : Cx) (r : V → Option Int → Option Int → Hp → VK → Prop) : Prop :=
  ∀ (pins : List (Addr × Obj)) (s : Shared) (σ : St) (H : Hp) (x : V) (v vl vu : Value) (lo hi : Option Int) (sl : Addr) (Q : VK), Inv X pins σ H s → RelV x v → s.heap.IsSliceOf sl vl vu .none → IsPart vl lo → IsPart vu hi → r x lo hi H Q →
    ∃ T id, typeLookup (.type T) "__getitem__" = pure (some (.builtin id)) ∧ s.TypeIs v T ∧ wpAny (model X.prog X.w) X.A (getItem v (.ref sl)) (EP X pins σ Q) X.xe s
def tSl (r : V → Option Int → Option Int → Hp → VK → Prop) (te : TE) (tl th : TO) : TE := fun σ H Q => te σ H fun x H1 => tl σ H1 fun l H2 => th σ H2 fun u H3 => r x l u H3 Q
theorem pe_slice {r : V → Option Int → Option Int → Hp → VK → Prop} (hr : SlR X r) (he : PE X e te) (hl : PO X lo tl) (hu : PO X hi th) : PE X (.Subscript e (.Slice lo hi none p2) pos) (tSl r te tl th) := by
  intro pins s σ H Q I h
  refine Subscript_ (thn (he pins s σ H _ I h) fun v s1 ⟨x, H1, I1, r1, q1⟩ => ?_)
  refine wpAny_Slice (thn (hl pins s1 σ H1 _ I1 q1) fun vl s2 ⟨l, H2, I2, pl, q2⟩ => thn (hu pins s2 σ H2 _ I2 q2) fun vu s3 ⟨u, H3, I3, pu, q3⟩ => ?_)
  rw [evalPart_none]
  refine wpAny_pure ?_
  have I4 : Inv X pins σ H3 { s3 with heap := s3.heap.push { cls := .type "slice", data := .fields #[vl, vu, .none] } } := I3.kept (t' := s3.toks) fun b ob q => Heap.get?_push_of_some _ q
  obtain ⟨T, id, hT, ht, hg⟩ := hr pins { s3 with heap := s3.heap.push { cls := .type "slice", data := .fields #[vl, vu, .none] } } σ H3 x v vl vu l u s3.heap.objs.size Q I4 r1 (Heap.IsSliceOf.new ..) pl pu q3
  show wpAny (model X.prog X.w) X.A (subscriptTail e (.Slice lo hi none p2) v (.ref s3.heap.objs.size)) (EP X pins σ Q) X.xe { s3 with heap := s3.heap.push { cls := .type "slice", data := .fields #[vl, vu, .none] } }
  exact tail_any (ops := [.ref s3.heap.objs.size, v]) ht hT hg (by with_unfolding_all rfl)
def cutV (xs : List V) (lo hi : Option Int) : List V := (xs.drop (HT.sIx xs.length 0 lo)).take (HT.sIx xs.length xs.length hi - HT.sIx xs.length 0 lo)
theorem cutV_length (xs : List V) (lo hi : Option Int) : (cutV xs lo hi).length ≤ xs.length := by
  unfold cutV
  rw [List.length_take, List.length_drop]
  omega
def rSlT (K : PySem.W.Frag) : V → Option Int → Option Int → Hp → VK → Prop := fun x lo hi H Q => ∃ a xs, x = .ref a ∧ SqT K H a xs ∧
  ¬ (HT.sIx xs.length 0 lo = 0 ∧ HT.sIx xs.length xs.length hi = xs.length) ∧ ∀ p, H p = none → Q (.ref p) (upd H p (.tup (cutV xs lo hi)))
def rLtT (K : PySem.W.Frag) : R2 := fun x y H Q => ∃ a b ns ms, x = .ref a ∧ y = .ref b ∧ SqT K H a (ns.map V.int) ∧ SqT K H b (ms.map V.int) ∧ Q (.bl (HT.lexLt ns ms)) H
def rCatT (K : PySem.W.Frag) : R2 := fun x y H Q => ∃ a b xs ys, x = .ref a ∧ y = .ref b ∧ SqT K H a xs ∧ SqT K H b ys ∧ xs ≠ [] ∧ xs.length + ys.length ≤ sizeLine ∧
  (ys = [] → Q (.ref a) H) ∧ (ys ≠ [] → ∀ p, H p = none → Q (.ref p) (upd H p (.tup (xs ++ ys))))
end
end L2
namespace L2
open PySem PySem.Spec PyProof.Rows
def ixN (n : Nat) (i : Int) : Option Nat := if 0 ≤ i then (if i < n then some i.toNat else none) else if -(n : Int) ≤ i then some (i + n).toNat else none
def atI {α : Type} (xs : List α) (i : Int) : Option α := (ixN xs.length i).bind fun j => xs[j]?
theorem ixN_seq {n : Nat} {i : Int} {j : Nat} (h : ixN n i = some j) : seqIndex? i n = some j ∧ j < n ∧ -(n : Int) ≤ i ∧ i < n := by
  unfold ixN at h
  by_cases h0 : 0 ≤ i
  · rw [if_pos h0] at h
    by_cases h1 : i < n
    · rw [if_pos h1] at h
      have e : i.toNat = j := Option.some.inj h
      exact ⟨by rw [seqIndex_of h0 h1, e], by omega, by omega, h1⟩
    · rw [if_neg h1] at h; cases h
  · rw [if_neg h0] at h
    by_cases h1 : -(n : Int) ≤ i
    · rw [if_pos h1] at h
      have e : (i + n).toNat = j := Option.some.inj h
      exact ⟨by rw [seqIndex_neg (by omega) h1, e], by omega, h1, by omega⟩
    · rw [if_neg h1] at h; cases h
theorem atI_get {α : Type} {xs : List α} {i : Int} {v : α} (h : atI xs i = some v) : ∃ j, seqIndex? i xs.length = some j ∧ xs[j]? = some v ∧ j < xs.length ∧ -(xs.length : Int) ≤ i ∧ i < xs.length := by
  unfold atI at h
  cases e : ixN xs.length i with
  | none => rw [e] at h; cases h
  | some j =>
    rw [e] at h
    obtain ⟨h1, h2, h3, h4⟩ := ixN_seq e
    exact ⟨j, h1, h, h2, h3, h4⟩
theorem atI_nat {α : Type} {xs : List α} {j : Nat} {v : α} (h : xs[j]? = some v) : atI xs (j : Int) = some v := by
  have hj : j < xs.length := (List.getElem?_eq_some_iff.mp h).1
  have e : ixN xs.length (j : Int) = some j := by
    unfold ixN
    rw [if_pos (by omega), if_pos (by omega)]; simp
  unfold atI; rw [e]; exact h
theorem atI_last {α : Type} (xs : List α) (v : α) : atI (xs ++ [v]) (-1) = some v := by
  have hl : (xs ++ [v]).length = xs.length + 1 := by simp
  have e : ixN (xs ++ [v]).length (-1) = some xs.length := by
    unfold ixN
    rw [hl, if_neg (by decide), if_pos (by omega)]
    congr 1
    omega
  unfold atI
  rw [e]
  show (xs ++ [v])[xs.length]? = some v
  simp
def PlainIx (b : Expr) : Prop := ∀ o i, subscripted b false o i = operate [o, i] (getItem o i)
def IxR (X : Cx) (r : R2) : Prop :=
  ∀ (value slice : Expr) (pins : List (Addr × Obj)) (s : Shared) (σ : St) (H : Hp) (x y : V) (v u : Value) (Q : VK), Inv X pins σ H s → RelV x v → RelV y u → r x y H Q →
    subscripted slice false v u = operate [v, u] (getItem v u) → wpAny (model X.prog X.w) X.A (subscriptTail value slice v u) (EP X pins σ Q) X.xe s
def MtR (X : Cx) (id : String) (r : V → List V → Hp → VK → Prop) : Prop :=
  ∀ (pins : List (Addr × Obj)) (s : Shared) (σ : St) (H : Hp) (x : V) (xs : List V) (v : Value) (us : List Value) (Q : VK), Inv X pins σ H s → RelV x v → Vals xs us → r x xs H Q →
    wpAny (model X.prog X.w) X.A (call (.builtin id) (v :: us)) (EP X pins σ Q) X.xe s
section
variable {X : Cx} {a b : Expr} {ta tb : TE} {pos : Pos}
def rIxL (K : PySem.W.Frag) : R2 := fun x y H Q => ∃ p xs i v, x = .ref p ∧ y = .int i ∧ SqL K H p xs ∧ atI xs i = some v ∧ Q v H
def rIxT (K : PySem.W.Frag) : R2 := fun x y H Q => ∃ p xs i v, x = .ref p ∧ y = .int i ∧ SqT K H p xs ∧ atI xs i = some v ∧ Q v H
def rIxS : R2 := fun x y H Q => ∃ z i c, x = .str z ∧ y = .int i ∧ z.length ≤ sizeLine ∧ atI z.cps.toList i = some c ∧ Q (.str ⟨#[c]⟩) H
theorem ix_list : IxR X (rIxL X.K) := by
  intro value slice pins s σ H x y v u Q I rx ry h hs
  obtain ⟨p, xs, i, z, rfl, rfl, hq, he, q⟩ := h
  cases rx
  obtain ⟨t, rfl⟩ := ry
  obtain ⟨its, r, pl, hz⟩ := I.list hq
  obtain ⟨j, h1, h2, h3, h4, h5⟩ := atI_get he
  obtain ⟨w, ew, rw'⟩ := r.get h2
  have hl := r.length
  have hn := line63
  have fin : EP X pins σ Q w s := ⟨z, H, I, rw', q⟩
  by_cases h0 : 0 ≤ i
  · have hj : i.toNat = j := by
      rw [seqIndex_of h0 h5] at h1
      exact Option.some.inj h1
    exact item_listR pl.isList h0 (by omega) (by rw [hj]; simpa using ew) fin hs
  · have hj : (i + (its.toArray.size : Int)).toNat = j := by
      rw [seqIndex_neg (by omega) h4] at h1
      rw [List.size_toArray, ← hl]
      exact Option.some.inj h1
    exact subscriptTail_builtinR (x := w) pl.isList.typeIs slot_list_getitem.lookup
      (wpAny_getItem_list_neg (Q := fun r s' => r = w ∧ EP X pins σ Q r s') pl.isList (by omega) (by rw [List.size_toArray] <;> omega) (by omega) (by rw [hj]; simpa using ew) ⟨rfl, fin⟩) hs
theorem ix_tup : IxR X (rIxT X.K) := by
  intro value slice pins s σ H x y v u Q I rx ry h hs
  obtain ⟨p, xs, i, z, rfl, rfl, hq, he, q⟩ := h
  cases rx
  obtain ⟨t, rfl⟩ := ry
  obtain ⟨its, r, pl, hz⟩ := I.tuple hq
  obtain ⟨j, h1, h2, h3, h4, h5⟩ := atI_get he
  obtain ⟨w, ew, rw'⟩ := r.get h2
  have hl := r.length
  have hn := line63
  have fin : EP X pins σ Q w s := ⟨z, H, I, rw', q⟩
  exact subscriptTail_builtinR (x := w) pl.typeIs slot_tuple_getitem.lookup
    (getItem_tuple (j := j) (Q := fun r s' => r = w ∧ EP X pins σ Q r s') pl (by omega) (by omega) (by rw [List.size_toArray, ← hl]; exact h1) (by simpa using ew) ⟨rfl, fin⟩) hs
def rIx (K : PySem.W.Frag) : R2 := fun x y H Q => rIxL K x y H Q ∨ rIxT K x y H Q ∨ rIxS x y H Q
theorem mapSeq_set (its : List Value) (n j : Nat) (u : Value) : Obj.mapSeq (·.setIfInBounds j u) { cls := .type "list", data := .seq its.toArray n } = { cls := .type "list", data := .seq (its.set j u).toArray n } := by
  simp [Obj.mapSeq]
theorem Inv.lst {pins : List (Addr × Obj)} {σ : St} {H : Hp} {s : Shared} {p : Addr} {xs : List V} (I : Inv X pins σ H s) (h : H p = some (.lst xs)) :
    ∃ (its : List Value) (n : Nat), Vals xs its ∧ s.heap.get? p = some { cls := .type "list", data := .seq its.toArray n } ∧ xs.length ≤ sizeLine := by
  obtain ⟨z, its, n, r, e⟩ := I.hok p _ h
  exact ⟨its, n, r, e, z⟩
theorem Inv.lstUpd {pins : List (Addr × Obj)} {σ : St} {H : Hp} {s : Shared} {p : Addr} {xs ys : List V} {its its' : List Value} {n n' : Nat} {f : Obj → Obj} (I : Inv X pins σ H s) (h : H p = some (.lst xs))
    (ho : s.heap.get? p = some { cls := .type "list", data := .seq its.toArray n }) (hf : f { cls := .type "list", data := .seq its.toArray n } = { cls := .type "list", data := .seq its'.toArray n' }) (r : Vals ys its') (hz : ys.length ≤ sizeLine) (t : Nat) :
    Inv X pins σ (upd H p (.lst ys)) { s with heap := s.heap.update p f, toks := t } := by
  have e : (s.heap.update p f).get? p = some { cls := .type "list", data := .seq its'.toArray n' } := by
    rw [Heap.get?_update_self f ho (by rw [hf] <;> rfl), hf]
  refine I.write (x := p) (e := p) (by rw [h]; trivial) (.inl rfl) (fun b u hb q => (Heap.get?_update_other _ _ (Ne.symm hb)).trans q) ⟨_, e⟩ ?_
  exact ⟨hz, its', n', r, e⟩
def rSetL : V → V → V → Hp → (Hp → Prop) → Prop := fun o i v H Q => ∃ p xs k j, o = .ref p ∧ i = .int k ∧ H p = some (.lst xs) ∧ ixN xs.length k = some j ∧ Q (upd H p (.lst (xs.set j v)))
theorem set_list : PSet X rSetL := by
  intro pins s σ H o i v ov iv u Q I ro ri rv h
  obtain ⟨p, xs, k, j, rfl, rfl, hp, hj, q⟩ := h
  cases ro
  obtain ⟨t, rfl⟩ := ri
  obtain ⟨its, n, r, ho, hz⟩ := I.lst hp
  obtain ⟨h1, h2, h3, h4⟩ := ixN_seq hj
  have hl := r.length
  have hn := line63
  have I' : Inv X pins σ (upd H p (.lst (xs.set j v))) { s with heap := s.heap.update p (Obj.mapSeq (·.setIfInBounds j u)) } :=
    I.lstUpd hp ho (mapSeq_set its n j u) (r.set rv j) (by rw [List.length_set]; exact hz) s.toks
  by_cases h0 : 0 ≤ k
  · have hk : k.toNat = j := by
      rw [seqIndex_of h0 h4] at h1
      exact Option.some.inj h1
    exact PySem.W.ki_setAt ho h0 (by omega) (by rw [List.size_toArray, ← hl]; exact h4) (by rw [hk]; exact ⟨_, I', q⟩)
  · have hk : (k + (its.toArray.size : Int)).toNat = j := by
      rw [seqIndex_neg (by omega) h3] at h1
      rw [List.size_toArray, ← hl]
      exact Option.some.inj h1
    exact PySem.W.ki_setBack ho (by omega) (by rw [List.size_toArray, ← hl]; exact h3) (by omega) (by rw [hk]; exact ⟨_, I', q⟩)
theorem slice_bounds (lo hi : Option Int) (n : Nat) : (sliceBounds lo hi none n).1 = ((HT.sIx n 0 lo : Nat) : Int) ∧ (sliceBounds lo hi none n).2.1 = ((HT.sIx n n hi : Nat) : Int) ∧ (sliceBounds lo hi none n).2.2 = 1 := by
  refine ⟨?_, ?_, rfl⟩
  · cases lo with
    | none => simp [sliceBounds, HT.sIx]
    | some i =>
      simp only [sliceBounds, HT.sIx, Option.getD_none, show (1 : Int) > 0 by decide, if_true]
      by_cases h : i < 0
      · simp only [h, if_true] <;> omega
      · simp only [h, if_false] <;> omega
  · cases hi with
    | none => simp [sliceBounds, HT.sIx]
    | some i =>
      simp only [sliceBounds, HT.sIx, Option.getD_none, show (1 : Int) > 0 by decide, if_true]
      by_cases h : i < 0
      · simp only [h, if_true] <;> omega
      · simp only [h, if_false] <;> omega
theorem slicePick_cut (its : List Value) (lo hi : Option Int) : slicePick its.toArray lo hi none = ((its.drop (HT.sIx its.length 0 lo)).take (HT.sIx its.length its.length hi - HT.sIx its.length 0 lo)).toArray := by
  obtain ⟨h1, h2, h3⟩ := slice_bounds lo hi its.toArray.size
  unfold slicePick
  rw [h1, h2, h3]
  simp only [sliceRange_one, pick_run, List.size_toArray] <;> rfl
def rSlL (K : PySem.W.Frag) : V → Option Int → Option Int → Hp → VK → Prop := fun x lo hi H Q => ∃ a xs, x = .ref a ∧ SqL K H a xs ∧ ∀ p, H p = none → Q (.ref p) (upd H p (.lst (cutV xs lo hi)))
theorem sl_list : SlR X (rSlL X.K) := by
  intro pins s σ H x v vl vu lo hi sl Q I rx hs pl pu h
  obtain ⟨a, xs, rfl, hx, q⟩ := h
  cases rx
  obtain ⟨its, r, ht, hz⟩ := I.list hx
  have hlen := r.length
  refine ⟨"list", _, slot_list_getitem.lookup, ht.isList.typeIs, ?_⟩
  refine wpAny_getItem_list_slice ht.isList hs pl pu .none (by simp) ?_ (by rw [List.size_toArray] <;> omega)
  rw [slicePick_cut, ← hlen]
  refine ⟨.ref s.heap.objs.size, _, I.laid (t' := s.toks) (o := .lst (cutV xs lo hi)) (fun b ob q => Heap.get?_push_of_some _ q) (Nat.le_refl _) ?_, rfl, q _ (I.hok.fresh (Nat.le_refl _))⟩
  exact ⟨Nat.le_trans (cutV_length xs lo hi) hz, _, 0, (r.drop (HT.sIx xs.length 0 lo)).take (HT.sIx xs.length xs.length hi - HT.sIx xs.length 0 lo), Heap.get?_push_size _ rfl⟩
def flatV : V → Bool
  | .non => true
  | .bl _ => true
  | .int _ => true
  | .str _ => true
  | _ => false
def eqV : V → V → Bool
  | .non, .non => true
  | .bl a, .bl b => a == b
  | .bl a, .int b => (if a then 1 else 0) == b
  | .int a, .bl b => a == (if b then 1 else 0)
  | .int a, .int b => a == b
  | .str a, .str b => a == b
  | _, _ => false
def eqU (x : V) (u : Value) : Bool := match u with
  | .none => eqV .non x
  | .bool b => eqV (.bl b) x
  | .int i _ => eqV (.int i) x
  | .str z _ => eqV (.str z) x
  | _ => false
def inV (x : V) (xs : List V) : Bool := xs.any fun y => eqV y x
def rIn (K : PySem.W.Frag) (neg : Bool) : R2 := fun x y H Q => ∃ p xs, y = .ref p ∧ (SqL K H p xs ∨ SqT K H p xs) ∧ flatV x = true ∧ xs.all flatV = true ∧ Q (.bl (if neg then !inV x xs else inV x xs)) H
theorem call_len_seq : CallR X (.builtin "len") (fun xs H Q => ∃ p ys, xs = [.ref p] ∧ (SqL X.K H p ys ∨ SqT X.K H p ys) ∧ Q (.int ys.length) H) := by
  intro pins s σ H xs us Q I r h
  obtain ⟨p, ys, rfl, hq, q⟩ := h
  obtain ⟨u, rfl, rx⟩ := vals1 r
  cases rx
  have hn := line63
  rcases hq with hq | hq
  · obtain ⟨its, r', pl, hz⟩ := I.list hq
    have hlen := r'.length
    exact Calls.call_len_list pl.isList (by simp only [List.size_toArray] <;> omega) ⟨.int ys.length, H, I.tok _, ⟨s.toks + 1, by rw [List.size_toArray, hlen]⟩, q⟩
  · obtain ⟨its, r', pl, hz⟩ := I.tuple hq
    have hlen := r'.length
    exact len_tuple pl (by simp only [List.size_toArray] <;> omega) ⟨.int ys.length, H, I.tok _, ⟨s.toks + 1, by rw [List.size_toArray, hlen]⟩, q⟩
theorem call_len_str : CallR X (.builtin "len") (fun xs H Q => ∃ z, xs = [.str z] ∧ z.length ≤ sizeLine ∧ Q (.int z.length) H) := by
  intro pins s σ H xs us Q I r h
  obtain ⟨z, rfl, hz, q⟩ := h
  obtain ⟨u, rfl, t, rfl⟩ := vals1 r
  have hn := line63
  exact len_str (by omega) ⟨.int z.length, H, I.tok _, ⟨_, rfl⟩, q⟩
theorem call_tuple_of : CallR X (.type "tuple") (fun xs H Q => ∃ p ys, xs = [.ref p] ∧ ((SqL X.K H p ys ∧ ∀ l, H l = none → Q (.ref l) (upd H l (.tup ys))) ∨ (SqT X.K H p ys ∧ Q (.ref p) H))) := by
  intro pins s σ H xs us Q I r h
  obtain ⟨p, ys, rfl, h⟩ := h
  obtain ⟨u, rfl, rx⟩ := vals1 r
  cases rx
  rcases h with ⟨hq, q⟩ | ⟨hq, q⟩
  · obtain ⟨its, r', pl, hz⟩ := I.list hq
    have hlen := r'.length
    refine call_tuple_list pl.isList (fun h' kp => ?_) (by simp only [List.size_toArray] <;> omega)
    have I1 : Inv X pins σ H { s with heap := h' } := I.kept (t' := s.toks) kp
    have I2 : Inv X pins σ (upd H h'.objs.size (.tup ys)) { s with heap := h'.push { cls := .type "tuple", data := .seq its.toArray } } :=
      I1.laid (t' := s.toks) (fun b o e => Heap.get?_push_of_some _ e) (Nat.le_refl _) (show ObjOk X.prog X.w _ _ _ (.tup ys) from ⟨hz, its, r', TupN.new _ _⟩)
    exact ⟨.ref h'.objs.size, _, I2, rfl, q _ (I1.hok.fresh (Nat.le_refl _))⟩
  · obtain ⟨its, r', pl, hz⟩ := I.tuple hq
    exact call_tuple_same pl ⟨.ref p, H, I, rfl, q⟩
def tyV (K : PySem.W.Frag) (T : String) (x : V) (H : Hp) : Prop := match x with
  | .str _ => T = "str"
  | .int _ => T = "int"
  | .ref p => (T = "list" ∧ ∃ xs, SqL K H p xs) ∨ (T = "tuple" ∧ ∃ xs, SqT K H p xs) ∨
      (T = "dict" ∧ ((∃ kvs, H p = some (.dK kvs)) ∨ ∃ kvs, H p = some (.dT kvs))) ∨ (T = "set" ∧ ∃ S n, H p = some (.set S n))
  | _ => False
theorem tyV_is {pins : List (Addr × Obj)} {σ : St} {H : Hp} {s : Shared} {T : String} {x : V} {v : Value} (I : Inv X pins σ H s) (r : RelV x v) (ty : tyV X.K T x H) :
    s.TypeIs v T ∧ ∀ a, v = .ref a → ∃ ob, s.heap.get? a = some ob ∧ ob.dict = none := by
  cases x with
  | str z =>
    obtain ⟨t, rfl⟩ := r
    cases (show T = "str" from ty)
    exact ⟨typeIs_str s z t, fun _ e => nomatch e⟩
  | int i =>
    obtain ⟨t, rfl⟩ := r
    cases (show T = "int" from ty)
    exact ⟨typeIs_int s i t, fun _ e => nomatch e⟩
  | ref p =>
    cases r
    rcases ty with ⟨rfl, xs, hq⟩ | ⟨rfl, xs, hq⟩ | ⟨rfl, hk⟩ | ⟨rfl, S, n, hk⟩
    · obtain ⟨its, _, pl, _⟩ := I.list hq
      refine ⟨pl.isList.typeIs, fun a e => ?_⟩
      cases e
      obtain ⟨o, n, e, c, hd, _⟩ := pl
      exact ⟨o, e, hd⟩
    · obtain ⟨its, _, ⟨o, e1, hd, hc, _⟩, _⟩ := I.tupN hq
      refine ⟨⟨o, e1, hc⟩, fun a e => ?_⟩
      cases e
      exact ⟨o, e1, hd⟩
    · have z : ∃ o, s.heap.get? p = some o ∧ o.ExactDict := by
        rcases hk with ⟨kvs, hk⟩ | ⟨kvs, hk⟩
        · obtain ⟨_, _, _, _, o, _, _, e, ex, _⟩ := I.hok p _ hk
          exact ⟨o, e, ex⟩
        · obtain ⟨_, _, _, _, o, _, _, e, ex, _⟩ := I.hok p _ hk
          exact ⟨o, e, ex⟩
      obtain ⟨o, e, ex⟩ := z
      refine ⟨⟨o, e, ex.1⟩, fun a e2 => ?_⟩
      cases e2
      exact ⟨o, e, ex.2.1⟩
    · obtain ⟨o, _, _, _, e, ex, _⟩ := I.hok p _ hk
      refine ⟨⟨o, e, ex.1⟩, fun a e2 => ?_⟩
      cases e2
      exact ⟨o, e, ex.2.1⟩
  | _ => exact False.elim ty
def tBM0 (K : PySem.W.Frag) (T : String) (r : V → List V → Hp → VK → Prop) (to : TE) : TE := fun σ H Q => to σ H fun x H1 => tyV K T x H1 ∧ r x [] H1 Q
def tBM (K : PySem.W.Frag) (T : String) (r : V → List V → Hp → VK → Prop) (to : TE) (t : TA) : TE := fun σ H Q => to σ H fun x H1 => tyV K T x H1 ∧ t σ H1 fun xs H2 => r x xs H2 Q
variable {o e : Expr} {es : List Expr} {to : TE} {t : TA} {name : Str} {apos cpos : Pos} {T id : String} {r : V → List V → Hp → VK → Prop}
theorem pe_bm (pa : PlainAttrs T) (slot : Slot T name id) (hty : typeOf (.builtin id) = pure (.type "method_descriptor")) (hm : MtR X id r) (ho : PE X o to) (ha : PA X (e :: es) t)
    (hbase : attributeBase o name X.env (eval o X.env) = eval o X.env := by rfl)
    (hfew : ((backTo cpos (starEach (e :: es) X.env)).all (fun x => !x.1) && (backToKw cpos (keywordEach [] X.env)).all (fun x => x.1.isSome)
      && decide ((e :: es).length + ([] : List Keyword).length + (if ([] : List Keyword).isEmpty then 0 else 1) < 30)) = true := by rfl)
    (hline : (apos.endLine == cpos.line) = true := by rfl) (hs : starEach (e :: es) X.env = (false, eval e X.env) :: starEach es X.env := by rfl) (hplain : (backTo cpos (starEach es X.env)).any (·.1) = false := by rfl) :
    PE X (.Call (.Attribute o name apos) (e :: es) [] cpos) (tBM X.K T r to t) := by
  intro pins s σ H Q I h
  refine wpAny_Call_method_late hbase hfew hline rfl (thn (ho pins s σ H _ I h) fun v s1 ⟨x, H1, I1, r1, ty, q1⟩ => ?_)
  obtain ⟨h1, h2⟩ := tyV_is I1 r1 ty
  refine ⟨T, id, pa, slot, hty, h1, h2, ?_⟩
  have hA := ha cpos pins s1 σ H1 _ I1 q1
  rw [hs] at hA ⊢
  refine Calls.callWith_builtin (by show (false || (backTo cpos (starEach es X.env)).any (·.1)) = false; rw [hplain] <;> rfl) (Calls.evalArgs_plain ?_)
  exact thn hA fun us s2 ⟨vs, H2, I2, r2, q2⟩ => hm pins s2 σ H2 x vs v us Q I2 r1 r2 q2
end
end L2
namespace L2
open PySem PySem.Spec PyProof.Rows
def MtM (X : Cx) (id : String) (r : V → List V → Hp → VK → Prop) : Prop :=
  ∀ (pins : List (Addr × Obj)) (s : Shared) (σ : St) (H : Hp) (x : V) (xs : List V) (v : Value) (us : List Value) (Q : VK), Inv X pins σ H s → RelV x v → Vals xs us → r x xs H Q →
    wpAny (model X.prog X.w) X.A (call (.builtin id) (v :: us)) (EP X pins σ Q) X.xe s
theorem Vals.one : ∀ {x : V} {us : List Value}, Vals [x] us → ∃ u, us = [u] ∧ RelV x u
  | _, _, .cons r .nil => ⟨_, rfl, r⟩
section
variable {X : Cx} {pins : List (Addr × Obj)} {σ : St} {H : Hp} {s : Shared} {l b : Addr} {xs ys zs : List V}
theorem Inv.lset {its its' : List Value} {n : Nat} {f : Array Value → Array Value} {t' : Nat} (I : Inv X pins σ H s) (hH : H l = some (.lst xs))
    (e : s.heap.get? l = some { cls := .type "list", data := .seq its.toArray n }) (hf : f its.toArray = its'.toArray) (hv : Vals ys its') (hz : ys.length ≤ sizeLine) :
    Inv X pins σ (upd H l (.lst ys)) { s with heap := s.heap.update l (Obj.mapSeq f), toks := t' } := by
  have q := PySem.IsL.update e f
  rw [hf] at q
  refine I.write (x := l) (e := l) (by rw [hH]; exact trivial) (.inl rfl) (fun b' u hb hu => (Heap.get?_update_other s.heap (Obj.mapSeq f) (Ne.symm hb)).trans hu) ⟨_, q⟩ ?_
  exact ⟨hz, its', _, hv, q⟩
theorem Inv.lnew {its : List Value} {t' : Nat} (I : Inv X pins σ H s) (hv : Vals ys its) (hz : ys.length ≤ sizeLine) :
    Inv X pins σ (upd H s.heap.objs.size (.lst ys)) { s with heap := s.heap.push { cls := .type "list", data := .seq its.toArray }, toks := t' } :=
  I.laid (fun _ _ q => Heap.get?_push_of_some _ q) (Nat.le_refl _) ⟨hz, its, 0, hv, Heap.get?_push_size _ rfl⟩
theorem Inv.fresh (I : Inv X pins σ H s) : H s.heap.objs.size = none := I.hok.fresh (Nat.le_refl _)
theorem Inv.lstM (I : Inv X pins σ H s) (hH : H l = some (.lst xs)) : xs.length ≤ sizeLine ∧ ∃ (its : List Value) (n : Nat), Vals xs its ∧ xs.length = its.length ∧ s.heap.get? l = some { cls := .type "list", data := .seq its.toArray n } := by
  obtain ⟨z, its, n, r, e⟩ := I.hok l _ hH
  exact ⟨z, its, n, r, r.length, e⟩
end
section
variable {X : Cx}
def rAppend : V → List V → Hp → VK → Prop := fun x vs H Q => ∃ l xs y, x = .ref l ∧ vs = [y] ∧ H l = some (.lst xs) ∧ xs.length < sizeLine ∧ Q .non (upd H l (.lst (xs ++ [y])))
theorem mt_append : MtM X "list.append" rAppend := by
  intro pins s σ H x vs v us Q I rx rv h
  obtain ⟨l, xs, y, rfl, rfl, hH, hz, q⟩ := h
  cases rx
  obtain ⟨u, rfl, ru⟩ := rv.one
  obtain ⟨z, its, n, r, hl, e⟩ := I.lstM hH
  refine call_meets F.slot_list_append ⟨_, e, rfl⟩ F.entry_list_append (F.args_list_append_2 _ _) (PySem.list_append l its.toArray n u (by rw [List.size_toArray]; omega)) ⟨e, ?_⟩
  refine ⟨.non, _, I.lset (its' := its ++ [u]) hH e (by simp) (r.append (.cons ru .nil)) ?_, rfl, q⟩
  rw [List.length_append, List.length_singleton]
  omega
def rExtend : V → List V → Hp → VK → Prop := fun x vs H Q => ∃ l b xs zs, x = .ref l ∧ vs = [.ref b] ∧ H l = some (.lst xs) ∧ H b = some (.lst zs) ∧ xs.length + zs.length ≤ sizeLine ∧ Q .non (upd H l (.lst (xs ++ zs)))
def rPop : V → List V → Hp → VK → Prop := fun x vs H Q => ∃ l xs y, x = .ref l ∧ vs = [] ∧ H l = some (.lst xs) ∧ xs[xs.length - 1]? = some y ∧ Q y (upd H l (.lst xs.dropLast))
def rPopAt : V → List V → Hp → VK → Prop := fun x vs H Q => ∃ l xs i k y, x = .ref l ∧ vs = [.int i] ∧ H l = some (.lst xs) ∧ -(2 ^ 63) ≤ i ∧ i < 2 ^ 63 ∧ seqIndex? i xs.length = some k ∧ xs[k]? = some y ∧ Q y (upd H l (.lst (xs.eraseIdx k)))
def rReverse : V → List V → Hp → VK → Prop := fun x vs H Q => ∃ l xs, x = .ref l ∧ vs = [] ∧ H l = some (.lst xs) ∧ Q .non (upd H l (.lst xs.reverse))
def rClear : V → List V → Hp → VK → Prop := fun x vs H Q => ∃ l xs, x = .ref l ∧ vs = [] ∧ H l = some (.lst xs) ∧ Q .non (upd H l (.lst []))
def rCat : R2 := fun x y H Q => ∃ l b xs zs, x = .ref l ∧ y = .ref b ∧ H l = some (.lst xs) ∧ H b = some (.lst zs) ∧ xs.length + zs.length ≤ sizeLine ∧ ∀ p, H p = none → Q (.ref p) (upd H p (.lst (xs ++ zs)))
theorem op_cat : OpR X (binaryOp .Add) rCat := by
  intro pins s σ H x y v u Q I rx ry h
  obtain ⟨l, b, xs, zs, rfl, rfl, hH, hB, hz, q⟩ := h
  cases rx
  cases ry
  obtain ⟨z, its, n, r, hl, e⟩ := I.lstM hH
  obtain ⟨z2, its2, n2, r2, hl2, e2⟩ := I.lstM hB
  refine PySem.P.add_list e e2 ?_ (by rw [List.size_toArray, List.size_toArray]; omega)
  have ea : its.toArray ++ its2.toArray = (its ++ its2).toArray := by simp
  rw [ea]
  exact ⟨.ref _, _, I.lnew (t' := s.toks) (r.append r2) (by rw [List.length_append]; omega), rfl, q _ I.fresh⟩
def rRep : R2 := fun x y H Q => ∃ l k xs, x = .ref l ∧ y = .int k ∧ H l = some (.lst xs) ∧ -(2 ^ 63) ≤ k ∧ k < 2 ^ 63 ∧ xs.length * k.toNat ≤ sizeLine ∧
  ∀ p, H p = none → Q (.ref p) (upd H p (.lst (List.replicate k.toNat xs).flatten))
end
section
variable {prog : Program} {w : World} {A : Around} {E : Value → Shared → Prop} {s : Shared}
end
section
variable {X : Cx}
end
end L2
namespace Att
open PySem PySem.W PySem.Calls PyProof.Rows
theorem ints_of_wellAll {P : Params} {h : Heap} : ∀ (ns : List Int) (vs : List Value), WellAll P h vs (ns.map WData.int) → IntsAre vs ns := by
  intro ns
  induction ns with
  | nil =>
    intro vs w
    rw [List.map_nil] at w
    cases w
    exact .nil
  | cons n ns ih =>
    intro vs w
    rw [List.map_cons] at w
    cases w with
    | cons a b =>
      cases a
      exact .cons _ _ (ih _ b)
theorem script_of {l : OpenLaw} {n : Nat} (hn : l.most = some n) {P : Params} {h : Heap} {args : List WData} {vals : List Value}
    (hpre : l.row.toRowW.claim.pre args = true) (hwl : WellAll P h vals args) :
    ∃ a vs ns, vals = [Value.ref a] ∧ args = [WData.list (ns.map WData.int)] ∧ h.get? a = some { cls := .type "list", data := .seq vs.toArray } ∧ IntsAre vs ns ∧ ns.length ≤ n := by
  have hsh : WShape.hasAll [] args [.list .int] = true := (pre_splitW hpre).1
  have hc : l.pre.holds [] { args := args } = true := (pre_splitW hpre).2
  obtain ⟨d, r, rfl, h1, h2⟩ := hasAllW_cons hsh
  obtain rfl := hasAllW_nil h2
  obtain ⟨xs, rfl, h3⟩ := hasW_list h1
  obtain ⟨ns, rfl⟩ := items_int h3
  have hlen : ns.length ≤ n := by
    unfold OpenLaw.pre at hc
    have h4 : (WTm.not (.lt (.lit (.int (n : Int))) (.len (.arg 0)))).holds [] { args := [.list (ns.map .int)] } = true := by
      have h4 := (holds_andW hc).1
      rw [hn] at h4
      exact h4
    have h5 := condW_of h4 (w_not (w_lt w_lit (w_len_list (w_arg rfl))))
    rw [List.length_map] at h5
    refine Nat.le_of_not_lt fun q => ?_
    have q' : (n : Int) < ((ns.length : Nat) : Int) := by omega
    first
      | (rw [decide_eq_true q'] at h5; exact absurd h5 (by decide))
      | (simp at h5; omega)
  cases hwl with
  | cons w1 w2 =>
    cases w2
    cases w1 with
    | list ho hall => exact ⟨_, _, ns, rfl, rfl, ho, ints_of_wellAll ns _ hall, hlen⟩
theorem post_true (l : OpenLaw) (args : List WData) : l.row.toRowW.claim.post args (.bool true) args = true :=
  postW_of (r := l.row.toRowW) (X := (true == true))
    (show WShape.has [] (.bool true) .bool = true by first | rfl | decide | simp [WShape.has, WShape.arms, WShape.armsAll])
    (show (WTm.eq .res (.lit (.bool true))).value [] { args := args, res := some (.bool true), after := args } = some (.bool (true == true)) from w_eq_bool (w_res rfl) w_lit) rfl
theorem attach_call {l : OpenLaw} {n : Nat} {q : Program} {loose : List Str} {XP : (Str → Option Value) → Heap → Prop} {YP : World → Heap → Prop} {d : DefRec}
    (hn : l.most = some n) (hdf : d.params.defaults = [])
    (call : ∀ (w : World) (s₀ s₁ : Shared) (mg mb : Str → Option Value) (fa : Addr) (o : Obj) (pm cd doc : Value) (a : Addr) (vs : List Value) (ns : List Int),
      Ground q loose [] XP w s₀ mg mb s₁.heap → YP w s₁.heap →
      s₁.heap.get? fa = some o → o.data = .func (docDef d.name d.params d.body d.scope pm cd doc) → s₁.heap.CodeRec cd d.name → mg d.name = some (.ref fa) →
      s₁.heap.get? a = some { cls := .type "list", data := .seq vs.toArray } → IntsAre vs ns → ns.length ≤ n → s₁.gens = #[] →
      codeAny (model l.prog w) callerA (.call (.ref fa) ⟨[.ref a], []⟩) (fun r s' => r = .ok (.ret (.bool true)) ∧ OldK s₁.heap s'.heap ∧ s'.os = s₁.os ∧ AllBare s'.gens) s₁) :
    WalkO q loose XP YP l.row.toRowW d [] (fun f vs => PySem.call f vs) := by
  intro w s₀ s₁ mg mb G Y fa o pm cd doc dV kV ho hd hcd hD hmg hg args vals as hpre hlay hrd hwl hlo
  obtain rfl : dV = .none := Dflts.none hD hdf
  obtain rfl : kV = .none := Dflts.noKw hD
  obtain ⟨a, vs, ns, rfl, rfl, hobj, hints, hlen⟩ := script_of hn hpre hwl
  refine enter_call (codeAny_mono (call w s₀ s₁ mg mb fa o pm cd doc a vs ns G Y ho (fd_plain hd) hcd hmg hobj hints hlen hg) fun r s' hq => ?_)
  obtain ⟨rfl, h2, h3, h4⟩ := hq
  exact ⟨.inl ⟨.bool true, .bool true, [], rfl, fun _ => rfl, .bool true, post_true l _, fun _ => ⟨List.Pairwise.nil, fun _ hm => (nomatch hm)⟩⟩, h2, h3, h4⟩
section
variable {prog : Program} {w : World} {A : Around} {E : Value → Shared → Prop} {s : Shared} {K : Frag}
def noObjs (h : Heap) : Heap := { h with objs := #[] }
def ledger (h : Heap) (L d : Addr) : List (Addr × Obj) := (List.range h.objs.size).filterMap fun a => if a = L ∨ a = d then none else (h.get? a).map fun o => (a, o)
end
end Att
namespace L2
open PySem PySem.Spec PyProof.Rows
theorem vals_ints : ∀ {vs : List Value} {ns : List Int}, IntsAre vs ns → Vals (ns.map V.int) vs
  | _, _, .nil => .nil
  | _, _, .cons n t h => .cons ⟨t, rfl⟩ (vals_ints h)
def Only (H : Hp) : Prop := ∀ b, H b = none ∨ ∃ o xs, H b = some (.frz o (.lst xs))
theorem law_call {P : Program} {w : World} {K : PySem.W.Frag} {mg mb : Str → Option Value} {CX : CXT} {k : Nat} {fa a : Addr} {fd : FuncData} {x : Str} {sp : Sp} {s₁ : Shared} {vs : List Value} {ns : List Int}
    (KX : K.In s₁.heap) (hns : s₁.heap.Ns mainGlobals mg) (hb : s₁.heap.Ns builtinsNs mb) (hbb : ∀ x : Str, x ≠ "__name__" → mb x = bootBuiltins x) (hlim : s₁.heap.NoLimit) (hg : s₁.gens = #[])
    (ha : s₁.heap.get? a = some { cls := .type "list", data := .seq vs.toArray }) (hi : IntsAre vs ns) (hl : ns.length ≤ sizeLine) (hr : Room k callerA)
    (F : ∀ base : Heap, K.In base → base.Ns mainGlobals mg → FnOk P w K mg base CX k fa fd [x] sp) (hbind : ∀ (s : Shared) (u : Value), BindsTo s fd ⟨[u], []⟩ [(x, u)])
    (hsp : ∀ H : Hp, Only H → SqL K H a (ns.map V.int) → sp [.ref a] H (fun v _ => v = .bl true) fun _ _ _ => False)
    (hCX : ∀ H e s', CX [] H s₁ (fun _ _ _ => False) e s' → False) :
    codeAny (model P w) callerA (.call (.ref fa) ⟨[.ref a], []⟩) (fun r s' => r = .ok (.ret (.bool true)) ∧ OldK s₁.heap s'.heap ∧ s'.os = s₁.os ∧ AllBare s'.gens) s₁ := by
  have rv := vals_ints hi
  have lenV := hi.length
  -- from an abstract heap in which nothing but the script may be tracked
  have core : ∀ H : Hp, Only H → SqL K H a (ns.map V.int) → HOk P w H s₁.heap → (∀ b, H b ≠ none → b = a) → (H a ≠ none → K.lookup a = none) →
      codeAny (model P w) callerA (.call (.ref fa) ⟨[.ref a], []⟩) (fun r s' => r = .ok (.ret (.bool true)) ∧ OldK s₁.heap s'.heap ∧ s'.os = s₁.os ∧ AllBare s'.gens) s₁ := by
    intro H hO hS hok hA hK
    have base_of : ∀ {b : Addr} {o : Obj}, s₁.heap.get? b = some o → H b = none → (hidT s₁.heap H).get? b = some o := fun e n => hidT_get e n
    have noA : ∀ {b : Addr} {o : Obj} {es : Array DictEntry} {ep : Nat}, s₁.heap.get? b = some o → o.data = .dict es ep → H b = none := fun {b o es ep} e d => by
      cases q : H b with
      | none => rfl
      | some u =>
        have e' : b = a := hA b (by rw [q]; simp)
        subst e'
        rw [ha] at e; cases e
        have d' : Data.seq vs.toArray _ = Data.dict es ep := d
        cases d'
    have nsK : ∀ {b : Addr} {m : Str → Option Value}, s₁.heap.Ns b m → (hidT s₁.heap H).Ns b m := fun {b m} ⟨o, es, ep, e, d, r⟩ => ⟨o, es, ep, base_of e (noA e d), d, r⟩
    have hKb : K.In (hidT s₁.heap H) := fun b o e => base_of (KX b o e) (by
      cases q : H b with
      | none => rfl
      | some u =>
        have e' : b = a := hA b (by rw [q]; simp)
        subst e'
        rw [hK (by rw [q]; simp)] at e; cases e)
    have hM : Mod K mg (hidT s₁.heap H) := ⟨hKb, nsK hns, ⟨mb, nsK hb, hbb⟩, let ⟨mc, h1, h2⟩ := hlim; ⟨mc, nsK h1, h2⟩⟩
    have e0 : Env0 P w K mg (hidT s₁.heap H) callerA [] s₁ H := ⟨rfl, hM, fun b o e => of_hidT e, Nat.le_of_eq (hidT_size _ _), trivial, fun b hb => absurd (show b ∈ ([] : List Addr) from hb) (by simp), hok, .of_eq hg⟩
    refine codeAny_mono ((F _ hKb (nsK hns)).run callerA [] s₁ H ⟨[.ref a], []⟩ [.ref a] [.ref a] _ _ hr e0 (hbind s₁ (.ref a)) (.cons rfl .nil) (hsp H hO hS)) fun r s' h => ?_
    cases r with
    | error e => exact (hCX H e s' h).elim
    | ok fl =>
      cases fl with
      | next => exact False.elim h
      | brk => exact False.elim h
      | cont => exact False.elim h
      | ret u =>
        obtain ⟨v, H', os, bare, un, hok', r', q⟩ := h
        have q' : v = .bl true := q
        subst q'
        obtain rfl : u = Value.bool true := r'
        refine ⟨rfl, OldK.of_keep fun b o e => ?_, os, bare⟩
        cases q : H b with
        | none => exact un.keep b o e q (by intro z; exact absurd (show b ∈ ([] : List Addr) from z) (by simp)) (by simp)
        | some u =>
          rcases hO b with z | ⟨ob, xs, z⟩
          · rw [q] at z; cases z
          · have z2 := un.frzs b ob _ z
            obtain ⟨e1, _⟩ := hok b _ z
            obtain ⟨e2, _⟩ := hok' b _ z2
            rw [e] at e1; cases e1
            exact e2
  cases hk : K.lookup a with
  | some o =>
    -- the script is one of the module's own objects
    have e := KX a o hk
    rw [ha] at e
    cases e
    refine core (fun _ => none) (fun _ => .inl rfl) (.inr ⟨_, vs.toArray, _, hk, rfl, rfl, rfl, by rw [List.size_toArray, lenV]; exact hl, by simpa using rv⟩) (fun b u z => by have z' : (none : Option HO) = some u := z; cases z') (fun b z => absurd rfl z) fun z => absurd rfl z
  | none =>
    refine core (fun b => if b = a then some (.frz { cls := .type "list", data := .seq vs.toArray } (.lst (ns.map V.int))) else none) (fun b => ?_) (.inl (.inr ⟨{ cls := .type "list", data := .seq vs.toArray }, if_pos rfl⟩)) (fun b u z => ?_) (fun b z => ?_) fun _ => hk
    · by_cases hb : b = a
      · exact .inr ⟨_, _, if_pos hb⟩
      · exact .inl (if_neg hb)
    · by_cases hb : b = a
      · have z' := (if_pos hb).symm.trans z
        cases z'
        subst hb
        exact ⟨ha, by rw [List.length_map]; exact hl, vs, _, rv, ha⟩
      · have z' := (if_neg hb).symm.trans z
        cases z'
    · by_cases hb : b = a
      · exact hb
      · exact absurd (if_neg hb) z
end L2
namespace L2
open PySem PySem.Spec PyProof.Rows
abbrev KOf {K : PySem.W.Frag} {h : Heap} (_ : K.In h) : PySem.W.Frag := K
theorem walk_of {l : PySem.W.OpenLaw} {n k : Nat} {q : Program} {loose : List Str} {XP : (Str → Option Value) → Heap → Prop} {YP : World → Heap → Prop} {d : DefRec} {K : Params → PySem.W.Frag} {CX : World → CXT} {sp : World → Sp} {x : Str}
    (hn : l.most = some n) (hn2 : n ≤ sizeLine) (hdf : d.params.defaults = []) (hr : Room k callerA)
    (hY : ∀ (w : World) (h : Heap), YP w h → (K w.params).In h)
    (F : ∀ (w : World) (mg : Str → Option Value) (fa : Addr) (h : Heap), (K w.params).In h → h.Ns mainGlobals mg → mg d.name = some (.ref fa) →
      ∃ fd : FuncData, (∀ (s : Shared) (u : Value), BindsTo s fd ⟨[u], []⟩ [(x, u)]) ∧
        ∀ base : Heap, (K w.params).In base → base.Ns mainGlobals mg → FnOk l.prog w (K w.params) mg base (CX w) k fa fd [x] (sp w))
    (hsp : ∀ (w : World) (H : Hp) (a : Addr) (ns : List Int), ns.length ≤ n → Only H → SqL (K w.params) H a (ns.map V.int) → sp w [.ref a] H (fun v _ => v = .bl true) fun _ _ _ => False)
    (hCX : ∀ (w : World) (H : Hp) (s : Shared) (e : Value) (s' : Shared), CX w [] H s (fun _ _ _ => False) e s' → False) :
    PySem.W.WalkO q loose XP YP l.row.toRowW d [] (fun f vs => PySem.call f vs) := by
  refine Att.attach_call hn hdf fun w s₀ s₁ mg mb fa o pm cd doc a vs ns G Y ho hd hcd hmg hobj hints hlen hg => ?_
  have KX := hY w _ Y
  obtain ⟨fd, hb, hF⟩ := F w mg fa _ KX G.T.g hmg
  exact law_call KX G.T.g G.T.b G.T.builtins G.T.nolimit hg hobj hints (Nat.le_trans hlen hn2) hr hF hb (fun H hO hS => hsp w H a ns hlen hO hS) fun H e s' => hCX w H s₁ e s'
end L2
namespace L2
open PySem PySem.Spec PyProof.Rows
def inClass (s : Stmt) (j : Nat) : Stmt := match s with
  | .ClassDef _ _ _ body _ _ _ _ _ _ _ => body.getD j (.Pass ⟨0, 0, 0, 0⟩)
  | _ => .Pass ⟨0, 0, 0, 0⟩
def defArgs (s : Stmt) : Arguments := match s with
  | .FunctionDef _ a _ _ _ _ _ _ _ _ => a
  | _ => { posonlyargs := [], args := [], vararg := none, kwonlyargs := [], kw_defaults := [], kwarg := none, defaults := [] }
def defBody (s : Stmt) : List Stmt := match s with
  | .FunctionDef _ _ b _ _ _ _ _ _ _ => b
  | _ => []
def defScope (s : Stmt) : Scope := match s with
  | .FunctionDef _ _ _ _ _ _ sc _ _ _ => sc
  | _ => { kind := .function, names := [], isGenerator := false, isCoroutine := false }
abbrev CX0 : CXT := fun _ _ _ _ _ _ => False
abbrev E0 : XK := fun _ _ _ => False
theorem pass0 {X : Cx} : Passes CX0 X E0 := fun _ _ _ _ _ _ _ h => h.elim
structure Fun (K : PySem.W.Frag) (x qual : Str) (st : Stmt) (f : Addr) (fd : FuncData) : Prop where
  ex : ∃ (oc : Value) (od : Option Addr) (kV doc pm : Value) (an : Option Addr) (cdv ct : Value) (osl : Array (Option Value)),
    fd = PySem.W.fnOf x qual (defArgs st) (defBody st) (defScope st) .none kV doc pm an cdv ct ∧ K.lookup f = some ⟨oc, od, .func fd, osl⟩ ∧ PySem.W.codeIn K cdv qual = true
  kp : PySem.W.keepIn K (.ref f) = true
section
variable {P : Program} {w : World} {K : PySem.W.Frag} {mg : Str → Option Value} {base : Heap}
theorem Fun.ok {x qual : Str} {st : Stmt} {f : Addr} {fd : FuncData} {N ps : List Str} {k : Nat} {sp : Sp} (F : Fun K x qual st f fd) (S : FnScope N ps (defScope st)) (len : ∀ vs H Q E, sp vs H Q E → vs.length = ps.length)
    (hbody : ∀ (cdv : Value) (A : Around) (outer : List Env) (s : Shared) (H : Hp) (vs : List V) (Q : VK) (E : XK), Room k (A.deeper (envOfC qual (defScope st) s.heap.objs.size f cdv)) → sp vs H Q E →
      ∃ t, PSs (cxOf CX0 P w K mg base N qual (defScope st) f cdv A outer s H E).nox (defBody st) t ∧ t { nx := fun _ H' => Q .non H', rt := Q } (start N vs) H) : FnOk P w K mg base CX0 (k + 1) f fd ps sp := by
  obtain ⟨oc, od, kV, doc, pm, an, cdv, ct, osl, rfl, lk, hcd⟩ := F.ex
  refine fn_of lk hcd S len fun A outer s H vs Q E hr hsp => ?_
  obtain ⟨t, h, q⟩ := hbody cdv A outer s H vs Q E hr hsp
  exact ⟨t, h.nox, q⟩
theorem Fun.binds {x qual : Str} {st : Stmt} {f : Addr} {fd : FuncData} {ps : List Str} (F : Fun K x qual st f fd)
    (h : ∀ (kV doc pm : Value) (an : Option Addr) (cdv ct : Value) (us : List Value), us.length = ps.length → bindArgs (PySem.W.fnOf x qual (defArgs st) (defBody st) (defScope st) .none kV doc pm an cdv ct) ⟨us, []⟩ = pure (ps.zip us)) : Binds K fd ps [] := by
  obtain ⟨oc, od, kV, doc, pm, an, cdv, ct, osl, rfl, lk, hcd⟩ := F.ex
  exact .all (h kV doc pm an cdv ct)
theorem fun_mk {x qual : Str} {st : Stmt} {f : Addr} {oc : Value} {od an : Option Addr} {osl : Array (Option Value)} {kV doc pm cdv ct : Value} (l : K.lookup f = some ⟨oc, od, .func (PySem.W.fnOf x qual (defArgs st) (defBody st) (defScope st) .none kV doc pm an cdv ct), osl⟩)
    (c : PySem.W.codeIn K cdv qual = true) (k : PySem.W.keepIn K (.ref f) = true) : Fun K x qual st f (PySem.W.fnOf x qual (defArgs st) (defBody st) (defScope st) .none kV doc pm an cdv ct) := ⟨⟨oc, od, kV, doc, pm, an, cdv, ct, osl, rfl, l, c⟩, k⟩
end
section
variable {X : Cx}
end
theorem iteF {A B : Prop} (h : B) : if false = true then A else B := by
  rw [if_neg Bool.false_ne_true]
  exact h
theorem iteT {A B : Prop} (h : A) : if true = true then A else B := by
  rw [if_pos rfl]
  exact h
def Same (H H' : Hp) : Prop := ∀ b o, H b = some o → H' b = some o
theorem Same.refl (H : Hp) : Same H H := fun _ _ h => h
theorem Same.trans {H H1 H2 : Hp} (a : Same H H1) (b : Same H1 H2) : Same H H2 := fun c o h => b c o (a c o h)
theorem Same.free {H H' : Hp} (e : Same H H') {l : Addr} (h : H' l = Option.none) : H l = Option.none := by
  cases q : H l with
  | none => rfl
  | some o =>
    rw [e l o q] at h
    cases h
theorem Same.seq {K : PySem.W.Frag} {H H' : Hp} {a : Addr} {xs : List V} (e : Same H H') (h : SqL K H a xs) : SqL K H' a xs := by
  rcases h with (h | ⟨o, h⟩) | h
  · exact .inl (.inl (e _ _ h))
  · exact .inl (.inr ⟨o, e _ _ h⟩)
  · exact .inr h
end L2
set_option Elab.async false
set_option linter.all false
set_option maxRecDepth 100000
namespace L2
open PySem PySem.Spec PyProof.Rows
section
variable {κ : Type} [DecidableEq κ]
def valV (kvs : List (κ × V)) (k : κ) : Option V := (kvs.find? fun kv => decide (kv.1 = k)).map (·.2)
def putK (kvs : List (κ × V)) (k : κ) (v : V) : List (κ × V) :=
  if (kvs.any fun kv => decide (kv.1 = k)) = true then kvs.map (fun kv => if kv.1 = k then (kv.1, v) else kv) else kvs ++ [(k, v)]
def dropK (kvs : List (κ × V)) (k : κ) : List (κ × V) := kvs.filter fun kv => decide (kv.1 ≠ k)
end
abbrev KT (H : Hp) : List (List Key × V) → List (List Key × Addr × Value) → Prop := Paired fun p q => p.1 = q.1 ∧ H q.2.1 = some (.tup (p.1.map kV)) ∧ RelV p.2 q.2.2
section
variable {P : Program} {w : World} {H : Hp} {h : Heap} {a : Addr}
end
def DGet (H : Hp) (a : Addr) (y : V) (r : Option V) : Prop :=
  (∃ kvs k, Rd H a (.dK kvs) ∧ y = kV k ∧ r = valV kvs k) ∨ ∃ kvs k b, Rd H a (.dT kvs) ∧ y = .ref b ∧ H b = some (.tup (k.map kV)) ∧ r = valV kvs k
def DPut (H : Hp) (a : Addr) (y v : V) (H' : Hp) : Prop :=
  (∃ kvs k, H a = some (.dK kvs) ∧ y = kV k ∧ kvs.length < sizeLine ∧ H' = upd H a (.dK (putK kvs k v))) ∨
  ∃ kvs k b, H a = some (.dT kvs) ∧ y = .ref b ∧ H b = some (.tup (k.map kV)) ∧ kvs.length < sizeLine ∧ H' = upd H a (.dT (putK kvs k v))
section
variable {X : Cx} {pins : List (Addr × Obj)} {σ : St} {H : Hp} {s : Shared} {a : Addr} {y v : V} {u r : Value} {o : Option V} {A : Around} {E : Value → Shared → Prop}
end
section
variable {X : Cx} {pins : List (Addr × Obj)} {σ : St} {H : Hp} {s : Shared} {a : Addr} {kvs : List (Key × V)} {k : Key} {u : Value} {A : Around} {E : Value → Shared → Prop}
end
def NoSl (i : Expr) : Prop := ∀ ov iv, subscripted i false ov iv = operate [ov, iv] (getItem ov iv)
def tDGet (td ty : TE) : TE := fun σ H Q => td σ H fun x H1 => ty σ H1 fun y H2 => ∃ a v, x = .ref a ∧ DGet H2 a y (some v) ∧ Q v H2
def tDIn (ty td : TE) : TE := fun σ H Q => ty σ H fun y H1 => td σ H1 fun x H2 => ∃ a o, x = .ref a ∧ DGet H2 a y o ∧ Q (.bl o.isSome) H2
def tDNotIn (ty td : TE) : TE := fun σ H Q => ty σ H fun y H1 => td σ H1 fun x H2 => ∃ a o, x = .ref a ∧ DGet H2 a y o ∧ Q (.bl (!o.isSome)) H2
def sDPut (td ty tv : TE) : TS := fun D σ H => tv σ H fun v H1 => td σ H1 fun x H2 => ty σ H2 fun y H3 => ∃ a H4, x = .ref a ∧ DPut H3 a y v H4 ∧ D.nx σ H4
def sDAug (td ty tv : TE) (rd : V → V → Hp → VK → Prop) : TS := fun D σ H => td σ H fun x H1 => ty σ H1 fun y H2 => ∃ a v, x = .ref a ∧ DGet H2 a y (some v) ∧
  tv σ H2 fun y2 H3 => rd v y2 H3 fun z H4 => ∃ H5, DPut H4 a y z H5 ∧ D.nx σ H5
def sDDel (td ty : TE) : TS := fun D σ H => td σ H fun x H1 => ty σ H1 fun y H2 => ∃ a kvs k, x = .ref a ∧ H2 a = some (.dK kvs) ∧ y = kV k ∧ (valV kvs k).isSome = true ∧ D.nx σ (upd H2 a (.dK (dropK kvs k)))
section
variable {X : Cx} {o i e value : Expr} {pos pos' tpos : Pos} {td ty tv : TE}
end
def tDNewK : TE := fun _ H Q => ∀ p, H p = none → Q (.ref p) (upd H p (.dK []))
def tDNewT : TE := fun _ H Q => ∀ p, H p = none → Q (.ref p) (upd H p (.dT []))
section
variable {X : Cx} {pos : Pos}
end
def tPairs : List (TE × TE) → St → Hp → (List (V × V) → Hp → Prop) → Prop
  | [], _, H, Q => Q [] H
  | (tk, tv) :: r, σ, H, Q => tk σ H fun x H1 => tv σ H1 fun y H2 => tPairs r σ H2 fun ps H3 => Q ((x, y) :: ps) H3
abbrev VV : List (V × V) → List (Value × Value) → Prop := Paired fun p q => RelV p.1 q.1 ∧ RelV p.2 q.2
def PPs (X : Cx) (pos : Pos) (keys : List (Option Expr)) (values : List Expr) (trs : List (TE × TE)) : Prop :=
  ∀ (pins : List (Addr × Obj)) (s : Shared) (σ : St) (H : Hp) (Q : List (V × V) → Hp → Prop), Inv X pins σ H s → tPairs trs σ H Q →
    wpAny (model X.prog X.w) X.A (evalPairs (pairTrees keys values X.env pos)) (fun vs s' => ∃ ps H', Inv X pins σ H' s' ∧ VV ps vs ∧ Q ps H') X.xe s
def mergeK (kvs more : List (Key × V)) : List (Key × V) := more.foldl (fun acc kv => putK acc kv.1 kv.2) kvs
def tDisp (trs : List (TE × TE)) : TE := fun σ H Q => ∀ p, H p = none → tPairs trs σ (upd H p (.dK [])) fun ps H2 => H2 p = some (.dK []) ∧ ∃ kvs : List (Key × V), ps = kvs.map (fun kv => (kV kv.1, kv.2)) ∧ kvs.length ≤ 15 ∧ Q (.ref p) (upd H2 p (.dK (mergeK [] kvs)))
structure M1 (X : Cx) (o : Expr) (m : Str) (apos : Pos) (e : Expr) (cpos : Pos) : Prop where
  base : attributeBase o m X.env (eval o X.env) = eval o X.env
  few : ((backTo cpos (starEach [e] X.env)).all (fun x => !x.1) && (backToKw cpos (keywordEach [] X.env)).all (fun x => x.1.isSome)
    && decide (([e] : List Expr).length + ([] : List Keyword).length + (if ([] : List Keyword).isEmpty then 0 else 1) < 30)) = true
  line : (apos.endLine == cpos.line) = true
  trees : backTo cpos (starEach [e] X.env) = [(false, eval e X.env)]
structure M2 (X : Cx) (o : Expr) (m : Str) (apos : Pos) (e f : Expr) (cpos : Pos) : Prop where
  base : attributeBase o m X.env (eval o X.env) = eval o X.env
  few : ((backTo cpos (starEach [e, f] X.env)).all (fun x => !x.1) && (backToKw cpos (keywordEach [] X.env)).all (fun x => x.1.isSome)
    && decide (([e, f] : List Expr).length + ([] : List Keyword).length + (if ([] : List Keyword).isEmpty then 0 else 1) < 30)) = true
  line : (apos.endLine == cpos.line) = true
  trees : backTo cpos (starEach [e, f] X.env) = [(false, eval e X.env), (false, eval f X.env)]
def IsD (H : Hp) (a : Addr) : Prop := (∃ kvs, Rd H a (.dK kvs)) ∨ ∃ kvs, Rd H a (.dT kvs)
section
variable {X : Cx} {pins : List (Addr × Obj)} {σ : St} {H : Hp} {s : Shared} {a : Addr} {y d : V} {u r : Value} {o : Option V} {A : Around} {E : Value → Shared → Prop}
end
def tDGet1 (td ty : TE) : TE := fun σ H Q => td σ H fun x H1 => ∃ a, x = .ref a ∧ IsD H1 a ∧ ty σ H1 fun y H2 => ∃ o, DGet H2 a y o ∧ Q (o.getD .non) H2
def tDGet2 (td ty tx : TE) : TE := fun σ H Q => td σ H fun x H1 => ∃ a, x = .ref a ∧ IsD H1 a ∧ ty σ H1 fun y H2 => tx σ H2 fun z H3 => ∃ o, DGet H3 a y o ∧ Q (o.getD z) H3
def tDPop1 (td ty : TE) : TE := fun σ H Q => td σ H fun x H1 => ∃ a, x = .ref a ∧ IsD H1 a ∧ ty σ H1 fun y H2 => ∃ kvs k v, H2 a = some (.dK kvs) ∧ y = kV k ∧ valV kvs k = some v ∧ Q v (upd H2 a (.dK (dropK kvs k)))
def tDPop2 (td ty tx : TE) : TE := fun σ H Q => td σ H fun x H1 => ∃ a, x = .ref a ∧ IsD H1 a ∧ ty σ H1 fun y H2 => tx σ H2 fun z H3 => ∃ kvs k, H3 a = some (.dK kvs) ∧ y = kV k ∧
  (∀ v, valV kvs k = some v → Q v (upd H3 a (.dK (dropK kvs k)))) ∧ (valV kvs k = none → Q z H3)
section
variable {X : Cx} {o e f : Expr} {apos cpos : Pos} {td ty tx : TE}
end
section
variable {X : Cx} {pins : List (Addr × Obj)} {σ : St} {H : Hp} {s : Shared} {a : Addr} {kvs : List (Key × V)} {A : Around} {E : Value → Shared → Prop}
end
section
variable {X : Cx} {pins : List (Addr × Obj)} {σ : St} {H : Hp} {s : Shared} {a : Addr} {y : V} {u : Value} {A : Around} {E : Value → Shared → Prop}
end
section
variable {X : Cx}
end
section
variable {κ : Type} [DecidableEq κ]
end
end L2
set_option Elab.async false
set_option linter.all false
set_option maxRecDepth 100000
namespace DL
open PySem PySem.Spec PyProof.Rows L2
inductive D where
  | non | bl (b : Bool) | int (i : Int) | str (x : Str) | tup (xs : List D) | lst (xs : List D) | scr (xs : List D) | ptr (n : Nat) | ty (n : String) | fn (a : Addr) | dct (ks : List Key) (xs : List D)
structure Wd where
  g : Hp
  l : List Addr
structure Ext (G G' : Wd) : Prop where
  g : Same G.g G'.g
  l : ∃ t, G'.l = G.l ++ t
theorem Ext.refl (G : Wd) : Ext G G := ⟨Same.refl _, [], (List.append_nil _).symm⟩
theorem Ext.trans {G G' G'' : Wd} (a : Ext G G') (b : Ext G' G'') : Ext G G'' := ⟨a.g.trans b.g, by
  obtain ⟨t, e⟩ := a.l; obtain ⟨u, e'⟩ := b.l; exact ⟨t ++ u, by rw [e', e, List.append_assoc]⟩⟩
theorem Ext.at {G G' : Wd} {n : Nat} {a : Addr} (e : Ext G G') (h : G.l[n]? = some a) : G'.l[n]? = some a := by
  obtain ⟨t, e⟩ := e.l
  rw [e, List.getElem?_append_left (List.getElem?_eq_some_iff.mp h).1, h]
mutual
inductive Is (K : PySem.W.Frag) (G : Wd) : D → V → Prop
  | non : Is K G .non .non
  | bl (b : Bool) : Is K G (.bl b) (.bl b)
  | int (i : Int) : Is K G (.int i) (.int i)
  | str (x : Str) : Is K G (.str x) (.str x)
  | tup {a : Addr} {ds : List D} {vs : List V} (h : SqT K G.g a vs) (r : Iss K G ds vs) : Is K G (.tup ds) (.ref a)
  | lst {a : Addr} {ds : List D} {vs : List V} (h : G.g a = some (.lst vs)) (r : Iss K G ds vs) : Is K G (.lst ds) (.ref a)
  | scr {a : Addr} {ds : List D} {vs : List V} (h : SqL K G.g a vs) (r : Iss K G ds vs) : Is K G (.scr ds) (.ref a)
  | ptr {a : Addr} (n : Nat) (h : G.l[n]? = some a) : Is K G (.ptr n) (.ref a)
  | ty (n : String) : Is K G (.ty n) (.ty n)
  | fn (a : Addr) : Is K G (.fn a) (.ref a)
  | dct {a : Addr} {ks : List Key} {ds : List D} {vs : List V} {ob : Obj} (h : G.g a = some (.frz ob (.dK (ks.zip vs)))) (hl : ks.length = vs.length) (r : Iss K G ds vs) : Is K G (.dct ks ds) (.ref a)
inductive Iss (K : PySem.W.Frag) (G : Wd) : List D → List V → Prop
  | nil : Iss K G [] []
  | cons {d : D} {v : V} {ds : List D} {vs : List V} (h : Is K G d v) (r : Iss K G ds vs) : Iss K G (d :: ds) (v :: vs)
end
theorem sqT_same {K : PySem.W.Frag} {H H' : Hp} {a : Addr} {xs : List V} (e : Same H H') (h : SqT K H a xs) : SqT K H' a xs := by
  rcases h with (h | ⟨o, h⟩) | h
  · exact .inl (.inl (e _ _ h))
  · exact .inl (.inr ⟨o, e _ _ h⟩)
  · exact .inr h
mutual
theorem Is.ext {K : PySem.W.Frag} {G G' : Wd} (e : Ext G G') : ∀ {d : D} {v : V}, Is K G d v → Is K G' d v
  | _, _, .non => .non
  | _, _, .bl b => .bl b
  | _, _, .int i => .int i
  | _, _, .str x => .str x
  | _, _, .tup h r => .tup (sqT_same e.g h) (Iss.ext e r)
  | _, _, .lst h r => .lst (e.g _ _ h) (Iss.ext e r)
  | _, _, .scr h r => .scr (e.g.seq h) (Iss.ext e r)
  | _, _, .ptr n h => .ptr n (e.at h)
  | _, _, .ty n => .ty n
  | _, _, .fn n => .fn n
  | _, _, .dct h hl r => .dct (e.g _ _ h) hl (Iss.ext e r)
theorem Iss.ext {K : PySem.W.Frag} {G G' : Wd} (e : Ext G G') : ∀ {ds : List D} {vs : List V}, Iss K G ds vs → Iss K G' ds vs
  | _, _, .nil => .nil
  | _, _, .cons h r => .cons (Is.ext e h) (Iss.ext e r)
end
section
variable {K : PySem.W.Frag} {G G' : Wd}
theorem Iss.length : ∀ {ds : List D} {vs : List V}, Iss K G ds vs → ds.length = vs.length
  | _, _, .nil => rfl
  | _, _, .cons _ r => by rw [List.length_cons, List.length_cons, r.length]
theorem Iss.append : ∀ {ds es : List D} {vs us : List V}, Iss K G ds vs → Iss K G es us → Iss K G (ds ++ es) (vs ++ us)
  | _, _, _, _, .nil, q => q
  | _, _, _, _, .cons h r, q => .cons h (Iss.append r q)
theorem Iss.get : ∀ {ds : List D} {vs : List V} {i : Nat} {d : D}, Iss K G ds vs → ds[i]? = some d → ∃ v, vs[i]? = some v ∧ Is K G d v
  | _, _, _, _, .nil, e => by simp at e
  | _, _, 0, _, .cons h r, e => by simp at e; subst e; exact ⟨_, rfl, h⟩
  | _, _, i + 1, d, .cons h r, e => by
    obtain ⟨v, e1, h1⟩ := Iss.get (i := i) (d := d) r (by simpa using e)
    exact ⟨v, by simpa using e1, h1⟩
theorem Iss.getV : ∀ {ds : List D} {vs : List V} {i : Nat} {v : V}, Iss K G ds vs → vs[i]? = some v → ∃ d, ds[i]? = some d ∧ Is K G d v
  | _, _, _, _, .nil, e => by simp at e
  | _, _, 0, _, .cons h r, e => by simp at e; subst e; exact ⟨_, rfl, h⟩
  | _, _, i + 1, d, .cons h r, e => by
    obtain ⟨v, e1, h1⟩ := Iss.getV (i := i) (v := d) r (by simpa using e)
    exact ⟨v, by simpa using e1, h1⟩
theorem Iss.take : ∀ {ds : List D} {vs : List V} (n : Nat), Iss K G ds vs → Iss K G (ds.take n) (vs.take n)
  | _, _, 0, _ => .nil
  | _, _, _ + 1, .nil => .nil
  | _, _, n + 1, .cons h r => .cons h (Iss.take n r)
theorem Iss.drop : ∀ {ds : List D} {vs : List V} (n : Nat), Iss K G ds vs → Iss K G (ds.drop n) (vs.drop n)
  | _, _, 0, h => h
  | _, _, _ + 1, .nil => .nil
  | _, _, n + 1, .cons h r => Iss.drop n r
theorem Iss.set {d : D} {v : V} (q : Is K G d v) : ∀ {ds : List D} {vs : List V} (i : Nat), Iss K G ds vs → Iss K G (ds.set i d) (vs.set i v)
  | _, _, _, .nil => .nil
  | _, _, 0, .cons _ r => .cons q r
  | _, _, i + 1, .cons h r => .cons h (Iss.set q i r)
theorem Iss.ints : ∀ {ns : List Int}, Iss K G (ns.map D.int) (ns.map V.int)
  | [] => .nil
  | n :: ns => .cons (.int n) (Iss.ints (ns := ns))
end
def _root_.L2.ctxOf (o : Obj) : Option Value := match o.data with | .fields vs => vs[2]? | _ => none
inductive MO where
  | lst (xs : List D)
  | ins (C : Addr) (fs : List (Str × D))
  
  | exc (C : Addr) (fs : List (Str × D)) (h : Option Addr := none)
  
  | dct (ks : List Key) (xs : List D)
  
  | pin (ob : Obj) (vs : List V) (ks : List Key) (xs : List D)
abbrev Sto := List (Option MO)
inductive FsIs (K : PySem.W.Frag) (G : Wd) : List (Str × D) → List (Str × V) → Prop
  | nil : FsIs K G [] []
  | cons {f : Str} {d : D} {v : V} {fs : List (Str × D)} {vs : List (Str × V)} (h : Is K G d v) (r : FsIs K G fs vs) : FsIs K G ((f, d) :: fs) ((f, v) :: vs)
theorem FsIs.ext {K : PySem.W.Frag} {G G' : Wd} (e : Ext G G') : ∀ {fs : List (Str × D)} {vs : List (Str × V)}, FsIs K G fs vs → FsIs K G' fs vs
  | _, _, .nil => .nil
  | _, _, .cons h r => .cons (h.ext e) (FsIs.ext e r)
def MOk (K : PySem.W.Frag) (G : Wd) (H : Hp) (p : Addr) : MO → Prop
  | .lst xs => ∃ vs, H p = some (.lst vs) ∧ Iss K G xs vs
  | .ins C fs => ∃ dx vs, H p = some (.ins C dx vs) ∧ FsIs K G fs vs
  | .exc C fs h => ∃ ob, H p = some (.ext fun h => h.get? p = some ob) ∧ (ob.cls = .ref C ∧ ∃ ws, ob.data = .fields ws) ∧ (fs = [] ∨ ∃ dx vs, ob.dict = some dx ∧ G.g dx = some (.xd vs) ∧ FsIs K G fs vs) ∧ ∀ a, h = some a → p = a ∧ L2.ctxOf ob = some .none
  | .dct ks xs => ∃ vs, H p = some (.dK (ks.zip vs)) ∧ ks.length = vs.length ∧ Iss K G xs vs
  | .pin ob vs ks xs => H p = some (.frz ob (.dK (ks.zip vs))) ∧ ks.length = vs.length ∧ Iss K G xs vs
structure SA (K : PySem.W.Frag) (G : Wd) (H : Hp) (O : Sto) : Prop where
  sub : Same G.g H
  len : G.l.length = O.length
  nd : G.l.Nodup
  liv : ∀ a ∈ G.l, ∃ o, H a = some o
  mt : ∀ (n : Nat) (m : MO), O[n]? = some (some m) → ∃ a, G.l[n]? = some a ∧ G.g a = none ∧ MOk K G H a m
section
variable {K : PySem.W.Frag} {G G' : Wd} {H H' : Hp} {O : Sto}
theorem MOk.ext {p : Addr} {m : MO} (e : Ext G G') (q : H' p = H p) (h : MOk K G H p m) : MOk K G' H' p m := by
  cases m with
  | lst xs => obtain ⟨vs, h1, h2⟩ := h; exact ⟨vs, by rw [q]; exact h1, h2.ext e⟩
  | ins C fs => obtain ⟨dx, vs, h1, h2⟩ := h; exact ⟨dx, vs, by rw [q]; exact h1, h2.ext e⟩
  | exc C fs ha =>
    obtain ⟨ob, h1, h2, h3, h4⟩ := h
    refine ⟨ob, by rw [q]; exact h1, h2, h3.imp id ?_, h4⟩
    rintro ⟨dx, vs, a1, a2, a3⟩
    exact ⟨dx, vs, a1, e.g _ _ a2, a3.ext e⟩
  | dct ks xs => obtain ⟨vs, h1, hl, h2⟩ := h; exact ⟨vs, by rw [q]; exact h1, hl, h2.ext e⟩
  | pin ob vs ks xs => obtain ⟨h1, hl, h2⟩ := h; exact ⟨by rw [q]; exact h1, hl, h2.ext e⟩
theorem MOk.some {p : Addr} {m : MO} (h : MOk K G H p m) : ∃ o, H p = some o := by
  cases m with
  | lst xs => obtain ⟨vs, h1, h2⟩ := h; exact ⟨_, h1⟩
  | ins C fs => obtain ⟨dx, vs, h1, h2⟩ := h; exact ⟨_, h1⟩
  | exc C fs ha => obtain ⟨ob, h1, _⟩ := h; exact ⟨_, h1⟩
  | dct ks xs => obtain ⟨vs, h1, _⟩ := h; exact ⟨_, h1⟩
  | pin ob vs ks xs => exact ⟨_, h.1⟩
theorem SA.free {p : Addr} (s : SA K G H O) (h : H p = none) : G.g p = none := s.sub.free h
theorem same_upd {p : Addr} {o : HO} (h : H p = none) : Same H (upd H p o) := fun b u q => by
  rw [upd_ne]; exact q
  rintro rfl; rw [h] at q; cases q
theorem SA.laid {p : Addr} {o : HO} (s : SA K G H O) (h : H p = none) : Ext G ⟨upd G.g p o, G.l⟩ ∧ SA K ⟨upd G.g p o, G.l⟩ (upd H p o) O := by
  have e : Ext G ⟨upd G.g p o, G.l⟩ := ⟨same_upd (s.free h), [], (List.append_nil _).symm⟩
  refine ⟨e, ⟨fun b u q => ?_, s.len, s.nd, fun a ha => let ⟨o, q⟩ := s.liv a ha; ⟨o, same_upd h _ _ q⟩, fun n m hq => ?_⟩⟩
  · by_cases hb : b = p
    · subst hb
      have q : upd G.g b o b = some u := q
      rw [upd_same] at q; rw [upd_same]; exact q
    · have q : upd G.g p o b = some u := q
      rw [upd_ne hb] at q ⊢; exact s.sub b u q
  · obtain ⟨a, h1, h2, h3⟩ := s.mt n m hq
    have ne : a ≠ p := by
      rintro rfl; obtain ⟨o, h4⟩ := h3.some; rw [h] at h4; cases h4
    exact ⟨a, h1, by show upd G.g p o a = none; rw [upd_ne ne]; exact h2, h3.ext e (upd_ne ne)⟩
theorem SA.new {p : Addr} {o : HO} {m : MO} (s : SA K G H O) (h : H p = none) (r : MOk K ⟨G.g, G.l ++ [p]⟩ (upd H p o) p m) : Ext G ⟨G.g, G.l ++ [p]⟩ ∧ SA K ⟨G.g, G.l ++ [p]⟩ (upd H p o) (O ++ [some m]) := by
  have e : Ext G ⟨G.g, G.l ++ [p]⟩ := ⟨Same.refl _, [p], rfl⟩
  have hp : p ∉ G.l := fun z => by obtain ⟨o, q⟩ := s.liv p z; rw [h] at q; cases q
  refine ⟨e, ⟨s.sub.trans (same_upd h), ?_, ?_, ?_, ?_⟩⟩
  · simp [s.len]
  · exact List.nodup_append.mpr ⟨s.nd, List.nodup_cons.mpr ⟨List.not_mem_nil, List.nodup_nil⟩, fun a ha b hb => by
      rw [List.mem_singleton] at hb; subst hb; rintro rfl; exact hp ha⟩
  · intro a ha
    rcases List.mem_append.mp ha with ha | ha
    · obtain ⟨u, q⟩ := s.liv a ha; exact ⟨u, same_upd h _ _ q⟩
    · rw [List.mem_singleton] at ha; subst ha; exact ⟨_, upd_same⟩
  · intro n m' hq
    by_cases hn : n < O.length
    · rw [List.getElem?_append_left hn] at hq
      obtain ⟨a, h1, h2, h3⟩ := s.mt n m' hq
      have ne : a ≠ p := by rintro rfl; exact hp (List.mem_of_getElem? h1)
      exact ⟨a, e.at h1, h2, h3.ext e (upd_ne ne)⟩
    · have e1 : n = O.length := by
        have := (List.getElem?_eq_some_iff.mp hq).1
        rw [List.length_append, List.length_singleton] at this
        omega
      subst e1
      rw [List.getElem?_append_right (Nat.le_refl _), Nat.sub_self] at hq
      cases hq
      exact ⟨p, by show (G.l ++ [p])[O.length]? = _; rw [← s.len, List.getElem?_append_right (Nat.le_refl _), Nat.sub_self]; rfl, s.free h, r⟩
theorem SA.put {n : Nat} {p : Addr} {o : HO} {m m' : MO} (s : SA K G H O) (h : O[n]? = some (some m)) (hp : G.l[n]? = some p) (r : MOk K G (upd H p o) p m') : SA K G (upd H p o) (O.set n (some m')) := by
  obtain ⟨a, h1, h2, h3⟩ := s.mt n m h
  obtain rfl : p = a := Option.some.inj (hp.symm.trans h1)
  refine ⟨fun b u q => ?_, by simp [s.len], s.nd, fun b hb => ?_, fun k m2 hk => ?_⟩
  · rw [upd_ne]; exact s.sub b u q
    rintro rfl; rw [h2] at q; cases q
  · by_cases hbp : b = p
    · subst hbp; exact ⟨_, upd_same⟩
    · obtain ⟨u, q⟩ := s.liv b hb; exact ⟨u, by rw [upd_ne hbp]; exact q⟩
  · by_cases hkn : n = k
    · subst hkn
      rw [List.getElem?_set_self (List.getElem?_eq_some_iff.mp h).1] at hk
      cases hk
      exact ⟨p, hp, h2, r⟩
    · rw [List.getElem?_set_ne hkn] at hk
      obtain ⟨b, g1, g2, g3⟩ := s.mt k m2 hk
      have ne : b ≠ p := by
        rintro rfl
        exact hkn ((List.getElem?_inj (List.getElem?_eq_some_iff.mp hp).1 s.nd).mp (hp.trans g1.symm))
      exact ⟨b, g1, g2, g3.ext (Ext.refl _) (upd_ne ne)⟩
end
abbrev Rho := List (Option D)
structure EnvR (K : PySem.W.Frag) (G : Wd) (σ : L2.St) (ρ : Rho) : Prop where
  len : σ.length = ρ.length
  get : ∀ (i : Nat) (d : D), ρ[i]? = some (some d) → ∃ v, σ[i]? = some (some v) ∧ Is K G d v
theorem EnvR.ext {K : PySem.W.Frag} {G G' : Wd} {σ : L2.St} {ρ : Rho} (e : Ext G G') (h : EnvR K G σ ρ) : EnvR K G' σ ρ :=
  ⟨h.len, fun i d q => let ⟨v, h1, h2⟩ := h.get i d q; ⟨v, h1, h2.ext e⟩⟩
theorem EnvR.set {K : PySem.W.Frag} {G : Wd} {σ : L2.St} {ρ : Rho} {d : D} {v : V} (i : Nat) (h : EnvR K G σ ρ) (q : Is K G d v) : EnvR K G (σ.set i (some v)) (ρ.set i (some d)) := by
  refine ⟨by simp [h.len], fun j e hj => ?_⟩
  by_cases hij : i = j
  · subst hij
    by_cases hl : i < ρ.length
    · rw [List.getElem?_set_self hl] at hj
      cases hj
      exact ⟨v, List.getElem?_set_self (by rw [h.len]; exact hl), q⟩
    · rw [List.getElem?_eq_none (by simp; omega)] at hj; cases hj
  · rw [List.getElem?_set_ne hij] at hj ⊢
    exact h.get j e hj
def Ev (X : Cx) (ρ : Rho) (O : Sto) (e : Expr) (R : D → Sto → Prop) : Prop :=
  ∀ G, PE X e (fun σ H Q => SA X.K G H O ∧ EnvR X.K G σ ρ ∧ ∀ v d O' G' H', Ext G G' → SA X.K G' H' O' → Is X.K G' d v → R d O' → Q v H')
def EvP (X : Cx) (ρ : Rho) (O : Sto) (e : Expr) (d : D) : Prop :=
  ∀ G, PE X e (fun σ H Q => SA X.K G H O ∧ EnvR X.K G σ ρ ∧ ∀ v G' H', Ext G G' → SA X.K G' H' O → Is X.K G' d v → Q v H')
def EvT (X : Cx) (ρ : Rho) (O : Sto) (e : Expr) (b : Bool) : Prop :=
  ∀ G, PT X e (fun σ H Q => SA X.K G H O ∧ EnvR X.K G σ ρ ∧ ∀ G' H', Ext G G' → SA X.K G' H' O → Q b H')
def EvW (X : Cx) (ρ : Rho) (O : Sto) (e : Expr) (b : Bool) : Prop :=
  ∀ G, PW X e (fun σ H Q => SA X.K G H O ∧ EnvR X.K G σ ρ ∧ ∀ G' H', Ext G G' → SA X.K G' H' O → Q b H')
def EvAs (X : Cx) (ρ : Rho) (O : Sto) (es : List Expr) (R : List D → Sto → Prop) : Prop :=
  ∀ G, PA X es (fun σ H Q => SA X.K G H O ∧ EnvR X.K G σ ρ ∧ ∀ vs ds O' G' H', Ext G G' → SA X.K G' H' O' → Iss X.K G' ds vs → R ds O' → Q vs H')
theorem _root_.L2.PE.imp {X : Cx} {e : Expr} {t u : TE} (h : PE X e t) (k : ∀ σ H Q, u σ H Q → t σ H Q) : PE X e u := fun pins s σ H Q I q => h pins s σ H Q I (k _ _ _ q)
theorem _root_.L2.PT.imp {X : Cx} {e : Expr} {t u : TT} (h : PT X e t) (k : ∀ σ H Q, u σ H Q → t σ H Q) : PT X e u := fun pins s σ H Q I q => h pins s σ H Q I (k _ _ _ q)
theorem _root_.L2.PA.imp {X : Cx} {es : List Expr} {t u : TA} (h : PA X es t) (k : ∀ σ H Q, u σ H Q → t σ H Q) : PA X es u := fun pos pins s σ H Q I q => h pos pins s σ H Q I (k _ _ _ q)
theorem _root_.L2.PS.imp {X : Cx} {e : Stmt} {t u : TS} (h : PS X e t) (k : ∀ D σ H, u D σ H → t D σ H) : PS X e u := fun pins s σ H D I q => h pins s σ H D I (k _ _ _ q)
theorem _root_.L2.PSs.imp {X : Cx} {e : List Stmt} {t u : TS} (h : PSs X e t) (k : ∀ D σ H, u D σ H → t D σ H) : PSs X e u := fun pins s σ H D I q => h pins s σ H D I (k _ _ _ q)
section
variable {X : Cx} {ρ : Rho} {O : Sto} {e a b c : Expr} {d da db : D} {R : D → Sto → Prop} {pos : Pos}
theorem EvP.ev (h : EvP X ρ O e d) (r : R d O) : Ev X ρ O e R := fun G => (h G).imp fun σ H Q ⟨s, n, k⟩ => ⟨s, n, fun v G' H' e1 s' i => k v d O G' H' e1 s' i r⟩
theorem Ev.evp (h : Ev X ρ O e fun d' O' => d' = d ∧ O' = O) : EvP X ρ O e d := fun G => (h G).imp fun σ H Q ⟨s, n, k⟩ => ⟨s, n, fun v d' O' G' H' e1 s' i r => by obtain ⟨rfl, rfl⟩ := r; exact k v G' H' e1 s' i⟩
theorem EvP.cast {d' : D} (h : EvP X ρ O e d) (q : d = d') : EvP X ρ O e d' := q ▸ h
theorem EvW.t (h : EvW X ρ O e b') : EvT X ρ O e b' := fun G => (h G).pt
theorem EvT.cast {k k' : Bool} (h : EvT X ρ O e k) (q : k = k') : EvT X ρ O e k' := q ▸ h
theorem ev_var (i : Nat) {x : Str} {p : Pos} (hr : ρ[i]? = some (some d) := by rfl) (hN : X.N[i]? = some x := by rfl) (hv : Vis X.env.scope x := by first | exact Or.inl rfl | exact Or.inr (Or.inl rfl) | exact Or.inr (Or.inr rfl))
    (hd : (x == ("__debug__" : Str)) = false := by decide) (hcd : (x == ("__classdict__" : Str)) = false := by decide) : EvP X ρ O (.Name x p) d := fun G =>
  PE.imp (pe_var hN hv hd hcd) fun σ H Q ⟨s, n, k⟩ => by
    obtain ⟨v, e1, i1⟩ := n.get i d hr
    exact ⟨v, e1, k v G H (Ext.refl _) s i1⟩
theorem ev_int {i : Int} {j : Nat} : EvP X ρ O (.Constant (.int i) j pos) (.int i) := fun G => PE.imp pe_int fun σ H Q ⟨s, n, k⟩ => k _ G H (Ext.refl _) s (.int i)
theorem ev_bl {i : Bool} {j : Nat} : EvP X ρ O (.Constant (.bool i) j pos) (.bl i) := fun G => PE.imp pe_bl fun σ H Q ⟨s, n, k⟩ => k _ G H (Ext.refl _) s (.bl i)
theorem ev_non {j : Nat} : EvP X ρ O (.Constant .none j pos) .non := fun G => PE.imp pe_non fun σ H Q ⟨s, n, k⟩ => k _ G H (Ext.refl _) s .non
theorem ev_str {x : Str} {j : Nat} : EvP X ρ O (.Constant (.str x) j pos) (.str x) := fun G => PE.imp pe_str fun σ H Q ⟨s, n, k⟩ => k _ G H (Ext.refl _) s (.str x)
def Op2 (X : Cx) (O : Sto) (f : Value → Value → Sem Value) (da db d : D) : Prop :=
  ∀ G, OpR X f (fun v u H Q => SA X.K G H O ∧ Is X.K G da v ∧ Is X.K G db u ∧ ∀ w G' H', Ext G G' → SA X.K G' H' O → Is X.K G' d w → Q w H')
theorem Op2.of {f : Value → Value → Sem Value} {r : R2} (ho : OpR X f r)
    (k : ∀ G v u H Q, SA X.K G H O → Is X.K G da v → Is X.K G db u → (∀ w G' H', Ext G G' → SA X.K G' H' O → Is X.K G' d w → Q w H') → r v u H Q) : Op2 X O f da db d :=
  fun G pins s σ H x y v u Q I rx ry ⟨h1, h2, h3, h4⟩ => ho pins s σ H x y v u Q I rx ry (k G _ _ _ _ h1 h2 h3 h4)
theorem ev_bin {op : Operator} (ha : EvP X ρ O a da) (hb : EvP X ρ O b db) (ho : Op2 X O (binaryOp op) da db d) : EvP X ρ O (.BinOp a op b pos) d := fun G pins s σ H Q I ⟨h1, h2, h3⟩ =>
  wpAny_BinOp (binT (ta := fun σ H Q => SA X.K G H O ∧ EnvR X.K G σ ρ ∧ ∀ v G' H', Ext G G' → SA X.K G' H' O → Is X.K G' da v → Q v H') (ha G)
    (tb := fun σ H Q => ∃ G1 v0, SA X.K G1 H O ∧ EnvR X.K G1 σ ρ ∧ ∀ v G' H', Ext G1 G' → SA X.K G' H' O → Is X.K G' db v → Q v H') (fun pins s σ H Q I ⟨G1, _, q⟩ => hb G1 pins s σ H Q I q) I
    (R := fun x y H2 => ∃ G2, Ext G G2 ∧ SA X.K G2 H2 O ∧ Is X.K G2 da x ∧ Is X.K G2 db y)
    ⟨h1, h2, fun v G1 H1 e1 s1 i1 => ⟨G1, (0 : Nat), s1, h2.ext e1, fun u G2 H2 e2 s2 i2 => ⟨G2, e1.trans e2, s2, i1.ext e2, i2⟩⟩⟩
    fun v u s2 x y H2 I2 rx ry ⟨G2, e2, s2', i1, i2⟩ => ho G2 pins s2 σ H2 x y v u Q I2 rx ry ⟨s2', i1, i2, fun w G3 H3 e3 s3 i3 => h3 w G3 H3 (e2.trans e3) s3 i3⟩)
theorem o_int {f : Value → Value → Sem Value} {g : Int → Int → Int} {i j : Int} (ho : OpR X f (rI0 fun i j => .int (g i j))) : Op2 X O f (.int i) (.int j) (.int (g i j)) :=
  .of ho fun G v u H Q s h1 h2 k => by cases h1; cases h2; exact ⟨i, j, rfl, rfl, k _ G H (Ext.refl _) s (.int _)⟩
theorem o_intC {f : Value → Value → Sem Value} {C : Int → Int → Prop} {g : Int → Int → Int} {i j : Int} (ho : OpR X f (rI C fun i j => .int (g i j))) (hc : C i j) : Op2 X O f (.int i) (.int j) (.int (g i j)) :=
  .of ho fun G v u H Q s h1 h2 k => by cases h1; cases h2; exact ⟨i, j, rfl, rfl, hc, k _ G H (Ext.refl _) s (.int _)⟩
theorem o_intB {f : Value → Value → Sem Value} {g : Int → Int → Bool} {i j : Int} (ho : OpR X f (rI0 fun i j => .bl (g i j))) : Op2 X O f (.int i) (.int j) (.bl (g i j)) :=
  .of ho fun G v u H Q s h1 h2 k => by cases h1; cases h2; exact ⟨i, j, rfl, rfl, k _ G H (Ext.refl _) s (.bl _)⟩
theorem o_add {i j : Int} : Op2 X O (binaryOp .Add) (.int i) (.int j) (.int (i + j)) := o_int op_add
theorem op_mulG : OpR X (binaryOp .Mult) (rI IntMulOk fun i j => .int (i * j)) := opI fun _ _ _ _ _ _ _ hc q => mul_int q hc
theorem o_mul {i j : Int} (h : IntMulOk i j) : Op2 X O (binaryOp .Mult) (.int i) (.int j) (.int (i * j)) := o_intC op_mulG h
theorem o_div {i j : Int} (h : CDiv i j) : Op2 X O (binaryOp .FloorDiv) (.int i) (.int j) (.int (i / j)) := o_intC op_fdiv h
theorem o_mod {i j : Int} (h : 0 < j) : Op2 X O (binaryOp .Mod) (.int i) (.int j) (.int (i % j)) := o_intC (C := fun _ j => 0 < j) op_mod h
theorem cmp_lt {i j : Int} : Op2 X O (compareOp .Lt) (.int i) (.int j) (.bl (decide (i < j))) := o_intB op_lt
theorem cmp_le {i j : Int} : Op2 X O (compareOp .LtE) (.int i) (.int j) (.bl (decide (i ≤ j))) := o_intB op_le
theorem cmp_gt {i j : Int} : Op2 X O (compareOp .Gt) (.int i) (.int j) (.bl (decide (j < i))) := o_intB op_gt
theorem dec_V {i j : Int} : decide (V.int i = V.int j) = decide (i = j) := by
  by_cases h : i = j
  · subst h; rw [decide_eq_true rfl, decide_eq_true rfl]
  · rw [decide_eq_false h, decide_eq_false]; intro z; injection z with z; exact h z
theorem cmp_eqI {i j : Int} : Op2 X O (compareOp .Eq) (.int i) (.int j) (.bl (decide (i = j))) :=
  .of op_eq fun G v u H Q s h1 h2 k => by cases h1; cases h2; exact ⟨rfl, by rw [dec_V]; exact k _ G H (Ext.refl _) s (.bl _)⟩
theorem cmp_neI {i j : Int} : Op2 X O (compareOp .NotEq) (.int i) (.int j) (.bl (!decide (i = j))) :=
  .of op_ne fun G v u H Q s h1 h2 k => by cases h1; cases h2; exact ⟨rfl, by rw [dec_V]; exact k _ G H (Ext.refl _) s (.bl _)⟩
def isN : D → Bool
  | .non => true
  | _ => false
theorem isN_of {K : PySem.W.Frag} {G : Wd} {v : V} (h : Is K G d v) : decide (v = V.non) = isN d := by
  cases h <;> first | rfl | exact decide_eq_false (fun z => by cases z)
theorem cmp_isnot : Op2 X O (compareOp .IsNot) da .non (.bl (!isN da)) :=
  .of op_notN fun G v u H Q s h1 h2 k => by cases h2; exact ⟨rfl, by rw [isN_of h1]; exact k _ G H (Ext.refl _) s (.bl _)⟩
theorem ev_cmp {op : CmpOp} (ha : EvP X ρ O a da) (hb : EvP X ρ O b db) (ho : Op2 X O (compareOp op) da db d) (hm : behindInMarks op b = false := by first | exact nomark _ | (with_unfolding_all rfl)) : EvP X ρ O (.Compare a [op] [b] pos) d := fun G pins s σ H Q I ⟨h1, h2, h3⟩ =>
  wpAny_Compare1 (binT (ta := fun σ H Q => SA X.K G H O ∧ EnvR X.K G σ ρ ∧ ∀ v G' H', Ext G G' → SA X.K G' H' O → Is X.K G' da v → Q v H') (ha G)
    (tb := fun σ H Q => ∃ G1 v0, SA X.K G1 H O ∧ EnvR X.K G1 σ ρ ∧ ∀ v G' H', Ext G1 G' → SA X.K G' H' O → Is X.K G' db v → Q v H') (fun pins s σ H Q I ⟨G1, _, q⟩ => hb G1 pins s σ H Q I q) I
    (R := fun x y H2 => ∃ G2, Ext G G2 ∧ SA X.K G2 H2 O ∧ Is X.K G2 da x ∧ Is X.K G2 db y)
    ⟨h1, h2, fun v G1 H1 e1 s1 i1 => ⟨G1, (0 : Nat), s1, h2.ext e1, fun u G2 H2 e2 s2 i2 => ⟨G2, e1.trans e2, s2, i1.ext e2, i2⟩⟩⟩
    fun v u s2 x y H2 I2 rx ry ⟨G2, e2, s2', i1, i2⟩ => ho G2 pins s2 σ H2 x y v u Q I2 rx ry ⟨s2', i1, i2, fun w G3 H3 e3 s3 i3 => h3 w G3 H3 (e2.trans e3) s3 i3⟩) hm
theorem et_cmp {op : CmpOp} {k : Bool} (ha : EvP X ρ O a da) (hb : EvP X ρ O b db) (ho : Op2 X O (compareOp op) da db (.bl k)) (hm : behindInMarks op b = false := by first | exact nomark _ | (with_unfolding_all rfl)) : EvT X ρ O (.Compare a [op] [b] pos) k := fun G pins s σ H Q I ⟨h1, h2, h3⟩ => by
  refine wpAny_isTrue_Compare1 (thn (ha G pins s σ H _ I ⟨h1, h2, fun v G1 H1 e1 s1 i1 => (⟨G1, e1, s1, i1⟩ : ∃ G1, Ext G G1 ∧ SA X.K G1 H1 O ∧ Is X.K G1 da v)⟩) fun v s1 ⟨x, H1, I1, r1, G1, e1, sa1, i1⟩ =>
    thn (hb G1 pins s1 σ H1 _ I1 ⟨sa1, h2.ext e1, fun u G2 H2 e2 s2 i2 => (⟨G2, e2, s2, i2⟩ : ∃ G2, Ext G1 G2 ∧ SA X.K G2 H2 O ∧ Is X.K G2 db u)⟩) fun u s2 ⟨y, H2, I2, r2, G2, e2, sa2, i2⟩ =>
    thn (ho G2 pins s2 σ H2 x y v u _ I2 r1 r2 ⟨sa2, i1.ext e2, i2, fun w G3 H3 e3 s3 i3 => (⟨G3, e3, s3, i3⟩ : ∃ G3, Ext G2 G3 ∧ SA X.K G3 H3 O ∧ Is X.K G3 (.bl k) w)⟩) fun c s3 ⟨z, H3, I3, r3, G3, e3, sa3, i3⟩ => ?_) hm
  cases i3
  cases r3
  exact wpAny_truthy_bool ⟨H3, I3, h3 G3 H3 ((e1.trans e2).trans e3) sa3⟩
theorem et_bl {k : Bool} (ha : EvP X ρ O a (.bl k)) (he : ∀ whole, isTrue a X.env whole = (do let v ← whole; standAt a.pos; holding [v] (truthy v)) := by intro _; rfl) : EvT X ρ O a k := fun G =>
  (pt_truth (ha G) he).imp fun σ H Q ⟨h1, h2, h3⟩ => ⟨h1, h2, fun v G' H' e1 s1 i1 => by cases i1; exact ⟨k, rfl, h3 G' H' e1 s1⟩⟩
theorem et_not {k : Bool} (ha : EvT X ρ O a k) : EvT X ρ O (.UnaryOp .Not a pos) (!k) := fun G =>
  (pt_not (ha G)).imp fun σ H Q ⟨h1, h2, h3⟩ => ⟨h1, h2, fun G' H' e1 s1 => h3 G' H' e1 s1⟩
theorem ew_and1 {k : Bool} (ha : EvT X ρ O a k) : EvW X ρ O (.BoolOp .And [a] pos) k := fun G => pw_and1 (ha G)
theorem ew_or1 {k : Bool} (ha : EvT X ρ O a k) : EvW X ρ O (.BoolOp .Or [a] pos) k := fun G => pw_or1 (ha G)
theorem ew_and {k l : Bool} {rest : List Expr} (ha : EvT X ρ O a k) (hb : k = true → EvW X ρ O (.BoolOp .And (b :: rest) pos) l) : EvW X ρ O (.BoolOp .And (a :: b :: rest) pos) (k && l) := fun G wh pins s σ H Q I ⟨h1, h2, h3⟩ => by
  refine isTrue_and (thn (ha G pins s σ H (fun c H1 => c = k ∧ ∃ G1, Ext G G1 ∧ SA X.K G1 H1 O) I ⟨h1, h2, fun G1 H1 e1 s1 => ⟨rfl, G1, e1, s1⟩⟩) ?_)
  rintro c s1 ⟨H1, I1, rfl, G1, e1, sa1⟩
  cases c with
  | false => exact ⟨H1, I1, h3 G1 H1 e1 sa1⟩
  | true => exact hb rfl G1 wh pins s1 σ H1 Q I1 ⟨sa1, h2.ext e1, fun G2 H2 e2 s2 => h3 G2 H2 (e1.trans e2) s2⟩
theorem ew_or {k l : Bool} {rest : List Expr} (ha : EvT X ρ O a k) (hb : k = false → EvW X ρ O (.BoolOp .Or (b :: rest) pos) l) : EvW X ρ O (.BoolOp .Or (a :: b :: rest) pos) (k || l) := fun G wh pins s σ H Q I ⟨h1, h2, h3⟩ => by
  refine isTrue_or (thn (ha G pins s σ H (fun c H1 => c = k ∧ ∃ G1, Ext G G1 ∧ SA X.K G1 H1 O) I ⟨h1, h2, fun G1 H1 e1 s1 => ⟨rfl, G1, e1, s1⟩⟩) ?_)
  rintro c s1 ⟨H1, I1, rfl, G1, e1, sa1⟩
  cases c with
  | true => exact ⟨H1, I1, h3 G1 H1 e1 sa1⟩
  | false => exact hb rfl G1 wh pins s1 σ H1 Q I1 ⟨sa1, h2.ext e1, fun G2 H2 e2 s2 => h3 G2 H2 (e1.trans e2) s2⟩
theorem ev_one {op : BoolOp} (ha : EvP X ρ O a d) : EvP X ρ O (.BoolOp op [a] pos) d := fun G => pe_one (ha G)
theorem ev_and {k l : Bool} {rest : List Expr} (ha : EvP X ρ O a (.bl k)) (hb : k = true → EvP X ρ O (.BoolOp .And (b :: rest) pos) (.bl l)) : EvP X ρ O (.BoolOp .And (a :: b :: rest) pos) (.bl (k && l)) := fun G pins s σ H Q I ⟨h1, h2, h3⟩ => by
  refine BoolOp_and (thn (ha G pins s σ H (fun v H1 => ∃ G1, Ext G G1 ∧ SA X.K G1 H1 O ∧ Is X.K G1 (.bl k) v) I ⟨h1, h2, fun v G1 H1 e1 s1 i1 => ⟨G1, e1, s1, i1⟩⟩) ?_)
  rintro v s1 ⟨x, H1, I1, r1, G1, e1, sa1, i1⟩
  cases i1
  cases r1
  refine wpAny_truthy_bool ?_
  cases k with
  | false => exact ⟨.bl false, H1, I1, rfl, h3 _ G1 H1 e1 sa1 (.bl _)⟩
  | true => exact hb rfl G1 pins s1 σ H1 Q I1 ⟨sa1, h2.ext e1, fun w G2 H2 e2 s2 i2 => h3 w G2 H2 (e1.trans e2) s2 i2⟩
theorem ev_or {k l : Bool} {rest : List Expr} (ha : EvP X ρ O a (.bl k)) (hb : k = false → EvP X ρ O (.BoolOp .Or (b :: rest) pos) (.bl l)) : EvP X ρ O (.BoolOp .Or (a :: b :: rest) pos) (.bl (k || l)) := fun G pins s σ H Q I ⟨h1, h2, h3⟩ => by
  refine BoolOp_or (thn (ha G pins s σ H (fun v H1 => ∃ G1, Ext G G1 ∧ SA X.K G1 H1 O ∧ Is X.K G1 (.bl k) v) I ⟨h1, h2, fun v G1 H1 e1 s1 i1 => ⟨G1, e1, s1, i1⟩⟩) ?_)
  rintro v s1 ⟨x, H1, I1, r1, G1, e1, sa1, i1⟩
  cases i1
  cases r1
  refine wpAny_truthy_bool ?_
  cases k with
  | true => exact ⟨.bl true, H1, I1, rfl, h3 _ G1 H1 e1 sa1 (.bl _)⟩
  | false => exact hb rfl G1 pins s1 σ H1 Q I1 ⟨sa1, h2.ext e1, fun w G2 H2 e2 s2 i2 => h3 w G2 H2 (e1.trans e2) s2 i2⟩
theorem ev_not {k : Bool} (ha : EvP X ρ O a (.bl k)) : EvP X ρ O (.UnaryOp .Not a pos) (.bl (!k)) := fun G => (pe_not (ha G)).imp fun σ H Q ⟨h1, h2, h3⟩ => ⟨h1, h2, fun v G1 H1 e1 s1 i1 => by
  cases i1
  exact ⟨k, rfl, h3 _ G1 H1 e1 s1 (.bl _)⟩⟩
end
end DL
set_option Elab.async false
set_option linter.all false
set_option maxRecDepth 100000
namespace DL
open PySem PySem.Spec PyProof.Rows L2
def LV (O : Sto) (d : D) (xs : List D) : Prop := d = .lst xs ∨ d = .scr xs ∨ ∃ n, d = .ptr n ∧ O[n]? = some (some (.lst xs))
def LT (O : Sto) (d : D) (xs : List D) : Prop := LV O d xs ∨ d = .tup xs
theorem LV.sq {K : PySem.W.Frag} {G : Wd} {H : Hp} {O : Sto} {d : D} {xs : List D} {v : V} (h : LV O d xs) (s : SA K G H O) (i : Is K G d v) : ∃ a vs, v = .ref a ∧ SqL K H a vs ∧ Iss K G xs vs := by
  rcases h with rfl | rfl | ⟨p, rfl, h⟩
  · cases i with | lst h r => exact ⟨_, _, rfl, SqL.of (s.sub _ _ h), r⟩
  · cases i with | scr h r => exact ⟨_, _, rfl, s.sub.seq h, r⟩
  · cases i with
    | ptr _ q =>
      obtain ⟨a, e, _, vs, h1, h2⟩ := s.mt p _ h
      obtain rfl := Option.some.inj (q.symm.trans e)
      exact ⟨_, vs, rfl, SqL.of h1, h2⟩
theorem tup_sq {K : PySem.W.Frag} {G : Wd} {H : Hp} {O : Sto} {xs : List D} {v : V} (s : SA K G H O) (i : Is K G (.tup xs) v) : ∃ a vs, v = .ref a ∧ SqT K H a vs ∧ Iss K G xs vs := by
  cases i with | tup h r => exact ⟨_, _, rfl, sqT_same s.sub h, r⟩
def EvPs (X : Cx) (ρ : Rho) (O : Sto) (es : List Expr) (ds : List D) : Prop :=
  ∀ G, PA X es (fun σ H Q => SA X.K G H O ∧ EnvR X.K G σ ρ ∧ ∀ vs G' H', Ext G G' → SA X.K G' H' O → Iss X.K G' ds vs → Q vs H')
section
variable {X : Cx} {ρ : Rho} {O : Sto} {e a b c : Expr} {es : List Expr} {d da db : D} {ds : List D} {R : D → Sto → Prop} {pos p : Pos} {x : Str}
theorem es_nil : EvPs X ρ O [] [] := fun G => PA.imp pa_nil fun σ H Q ⟨h1, h2, h3⟩ => h3 _ G H (Ext.refl _) h1 .nil
theorem es_cons (he : EvP X ρ O e d) (hs : EvPs X ρ O es ds) (hst : starEach (e :: es) X.env = (false, eval e X.env) :: starEach es X.env := by rfl) : EvPs X ρ O (e :: es) (d :: ds) := fun G =>
  PA.imp (pa_cons (he G) (t := fun σ H Q => ∃ G1, SA X.K G1 H O ∧ EnvR X.K G1 σ ρ ∧ ∀ vs G' H', Ext G1 G' → SA X.K G' H' O → Iss X.K G' ds vs → Q vs H') (fun pos pins s σ H Q I ⟨G1, q⟩ => hs G1 pos pins s σ H Q I q) hst)
    fun σ H Q ⟨h1, h2, h3⟩ => ⟨h1, h2, fun v G1 H1 e1 s1 i1 => ⟨G1, s1, h2.ext e1, fun vs G2 H2 e2 s2 i2 => h3 _ G2 H2 (e1.trans e2) s2 (.cons (i1.ext e2) i2)⟩⟩
theorem EvPs.as {R : List D → Sto → Prop} (h : EvPs X ρ O es ds) (r : R ds O) : EvAs X ρ O es R := fun G => PA.imp (h G) fun σ H Q ⟨h1, h2, h3⟩ => ⟨h1, h2, fun vs G' H' e1 s1 i1 => h3 vs ds O G' H' e1 s1 i1 r⟩
theorem ev_tup {x1 : Nat} (h : EvPs X ρ O es ds) (hz : ds.length ≤ sizeLine := by exact Nat.le_of_ble_eq_true rfl) : EvP X ρ O (.Tuple es x1 pos) (.tup ds) := fun G =>
  PE.imp (pe_tup (h G)) fun σ H Q ⟨h1, h2, h3⟩ => ⟨h1, h2, fun vs G1 H1 e1 s1 i1 => ⟨by rw [← i1.length]; exact hz, fun p hp => by
    obtain ⟨e2, s2⟩ := s1.laid (o := .tup vs) hp
    exact h3 _ _ _ (e1.trans e2) s2 (.tup (SqT.of upd_same) (i1.ext e2))⟩⟩
theorem ev_lst (h : EvPs X ρ O es ds) (hz : ds.length ≤ sizeLine := by exact Nat.le_of_ble_eq_true rfl) : EvP X ρ O (.List es pos) (.lst ds) := fun G =>
  PE.imp (pe_lst (h G)) fun σ H Q ⟨h1, h2, h3⟩ => ⟨h1, h2, fun vs G1 H1 e1 s1 i1 => ⟨by rw [← i1.length]; exact hz, fun p hp => by
    obtain ⟨e2, s2⟩ := s1.laid (o := .lst vs) hp
    exact h3 _ _ _ (e1.trans e2) s2 (.lst upd_same (i1.ext e2))⟩⟩
theorem ev_lstM (h : EvPs X ρ O es ds) (k : R (.ptr O.length) (O ++ [some (.lst ds)])) (hz : ds.length ≤ sizeLine := by exact Nat.le_of_ble_eq_true rfl) : Ev X ρ O (.List es pos) R := fun G =>
  PE.imp (pe_lst (h G)) fun σ H Q ⟨h1, h2, h3⟩ => ⟨h1, h2, fun vs G1 H1 e1 s1 i1 => ⟨by rw [← i1.length]; exact hz, fun p hp => by
    have e : Ext G1 ⟨G1.g, G1.l ++ [p]⟩ := ⟨Same.refl _, [p], rfl⟩
    obtain ⟨e2, s2⟩ := s1.new (m := .lst ds) hp ⟨vs, upd_same, i1.ext e⟩
    refine h3 _ _ _ _ _ (e1.trans e2) s2 (.ptr _ ?_) k
    rw [← s1.len, List.getElem?_append_right (Nat.le_refl _), Nat.sub_self]; rfl⟩⟩
theorem ixN_len {xs : List D} {vs : List V} {K : PySem.W.Frag} {G : Wd} {i : Int} (r : Iss K G xs vs) (h : atI xs i = some d) : ∃ v, atI vs i = some v ∧ Is K G d v := by
  unfold atI at h ⊢
  rw [← r.length]
  cases q : ixN xs.length i with
  | none => rw [q] at h; cases h
  | some j =>
    rw [q] at h
    exact r.get h
theorem ev_ixL {xs : List D} {i : Int} (ha : EvP X ρ O a da) (hl : LV O da xs) (hb : EvP X ρ O b (.int i)) (hi : atI xs i = some d) (hs : PlainIx b := by intro _ _; rfl) : EvP X ρ O (.Subscript a b pos) d := fun G pins s σ H Q I ⟨h1, h2, h3⟩ =>
  Subscript_ (binT (ta := fun σ H Q => SA X.K G H O ∧ EnvR X.K G σ ρ ∧ ∀ v G' H', Ext G G' → SA X.K G' H' O → Is X.K G' da v → Q v H') (ha G)
    (tb := fun σ H Q => ∃ G1, SA X.K G1 H O ∧ EnvR X.K G1 σ ρ ∧ ∀ v G' H', Ext G1 G' → SA X.K G' H' O → Is X.K G' (.int i) v → Q v H') (fun pins s σ H Q I ⟨G1, q⟩ => hb G1 pins s σ H Q I q) I
    (R := fun x y H2 => ∃ G2, Ext G G2 ∧ SA X.K G2 H2 O ∧ Is X.K G2 da x ∧ Is X.K G2 (.int i) y)
    ⟨h1, h2, fun v G1 H1 e1 s1 i1 => ⟨G1, s1, h2.ext e1, fun u G2 H2 e2 s2 i2 => ⟨G2, e1.trans e2, s2, i1.ext e2, i2⟩⟩⟩
    fun v u s2 x y H2 I2 rx ry ⟨G2, e2, s2', i1, i2⟩ => by
      obtain ⟨p, vs, rfl, q, r⟩ := hl.sq s2' i1
      cases i2
      obtain ⟨w, hw, iw⟩ := ixN_len r hi
      exact ix_list a b pins s2 σ H2 _ _ v u Q I2 rx ry ⟨p, vs, i, w, rfl, rfl, q, hw, h3 w G2 H2 e2 s2' iw⟩ (hs _ _))
theorem ev_ixT {xs : List D} {i : Int} (ha : EvP X ρ O a (.tup xs)) (hb : EvP X ρ O b (.int i)) (hi : atI xs i = some d) (hs : PlainIx b := by intro _ _; rfl) : EvP X ρ O (.Subscript a b pos) d := fun G pins s σ H Q I ⟨h1, h2, h3⟩ =>
  Subscript_ (binT (ta := fun σ H Q => SA X.K G H O ∧ EnvR X.K G σ ρ ∧ ∀ v G' H', Ext G G' → SA X.K G' H' O → Is X.K G' (.tup xs) v → Q v H') (ha G)
    (tb := fun σ H Q => ∃ G1, SA X.K G1 H O ∧ EnvR X.K G1 σ ρ ∧ ∀ v G' H', Ext G1 G' → SA X.K G' H' O → Is X.K G' (.int i) v → Q v H') (fun pins s σ H Q I ⟨G1, q⟩ => hb G1 pins s σ H Q I q) I
    (R := fun x y H2 => ∃ G2, Ext G G2 ∧ SA X.K G2 H2 O ∧ Is X.K G2 (.tup xs) x ∧ Is X.K G2 (.int i) y)
    ⟨h1, h2, fun v G1 H1 e1 s1 i1 => ⟨G1, s1, h2.ext e1, fun u G2 H2 e2 s2 i2 => ⟨G2, e1.trans e2, s2, i1.ext e2, i2⟩⟩⟩
    fun v u s2 x y H2 I2 rx ry ⟨G2, e2, s2', i1, i2⟩ => by
      obtain ⟨p, vs, rfl, q, r⟩ := tup_sq s2' i1
      cases i2
      obtain ⟨w, hw, iw⟩ := ixN_len r hi
      exact ix_tup a b pins s2 σ H2 _ _ v u Q I2 rx ry ⟨p, vs, i, w, rfl, rfl, q, hw, h3 w G2 H2 e2 s2' iw⟩ (hs _ _))
def sliceD (xs : List D) (lo hi : Option Int) : List D := (xs.drop (HT.sIx xs.length 0 lo)).take (HT.sIx xs.length xs.length hi - HT.sIx xs.length 0 lo)
theorem cut_is {xs : List D} {vs : List V} {K : PySem.W.Frag} {G : Wd} {lo hi : Option Int} (r : Iss K G xs vs) : Iss K G (sliceD xs lo hi) (cutV vs lo hi) := by
  unfold sliceD cutV
  rw [← r.length]
  exact (r.drop _).take _
def EvO (X : Cx) (ρ : Rho) (O : Sto) (e : Option Expr) (i : Option Int) : Prop :=
  ∀ G, PO X e (fun σ H Q => SA X.K G H O ∧ EnvR X.K G σ ρ ∧ ∀ G' H', Ext G G' → SA X.K G' H' O → Q i H')
theorem _root_.L2.PO.imp {X : Cx} {e : Option Expr} {t u : TO} (h : PO X e t) (k : ∀ σ H Q, u σ H Q → t σ H Q) : PO X e u := fun pins s σ H Q I q => h pins s σ H Q I (k _ _ _ q)
theorem eo_none : EvO X ρ O none none := fun G => PO.imp po_none fun σ H Q ⟨h1, h2, h3⟩ => h3 G H (Ext.refl _) h1
theorem eo_some {i : Int} (h : EvP X ρ O e (.int i)) : EvO X ρ O (some e) (some i) := fun G => PO.imp (po_some (h G)) fun σ H Q ⟨h1, h2, h3⟩ => ⟨h1, h2, fun v G1 H1 e1 s1 i1 => by cases i1; exact ⟨i, rfl, h3 G1 H1 e1 s1⟩⟩
theorem ev_slL {xs : List D} {lo hi : Option Expr} {l u : Option Int} {p2 : Pos} (ha : EvP X ρ O a da) (hx : LV O da xs) (hl : EvO X ρ O lo l) (hh : EvO X ρ O hi u) : EvP X ρ O (.Subscript a (.Slice lo hi none p2) pos) (.lst (sliceD xs l u)) := fun G =>
  PE.imp (pe_slice sl_list (ha G) (tl := fun σ H Q => ∃ G1, SA X.K G1 H O ∧ EnvR X.K G1 σ ρ ∧ ∀ G' H', Ext G1 G' → SA X.K G' H' O → Q l H') (fun pins s σ H Q I ⟨G1, q⟩ => hl G1 pins s σ H Q I q)
    (th := fun σ H Q => ∃ G1, SA X.K G1 H O ∧ EnvR X.K G1 σ ρ ∧ ∀ G' H', Ext G1 G' → SA X.K G' H' O → Q u H') (fun pins s σ H Q I ⟨G1, q⟩ => hh G1 pins s σ H Q I q)) fun σ H Q ⟨h1, h2, h3⟩ =>
    ⟨h1, h2, fun v G1 H1 e1 s1 i1 => ⟨G1, s1, h2.ext e1, fun G2 H2 e2 s2 => ⟨G2, s2, (h2.ext e1).ext e2, fun G3 H3 e3 s3 => by
      obtain ⟨q, vs, rfl, q1, r⟩ := hx.sq s3 (i1.ext (e2.trans e3))
      refine ⟨q, vs, rfl, q1, fun z hz => ?_⟩
      obtain ⟨e4, s4⟩ := s3.laid (o := .lst (cutV vs l u)) hz
      exact h3 _ _ _ (((e1.trans e2).trans e3).trans e4) s4 (.lst upd_same ((cut_is r).ext e4))⟩⟩⟩
theorem o_cat {xs ys : List D} (hz : xs.length + ys.length ≤ sizeLine) : Op2 X O (binaryOp .Add) (.lst xs) (.lst ys) (.lst (xs ++ ys)) :=
  .of op_cat fun G v u H Q s h1 h2 k => by
    cases h1 with
    | lst g1 r1 =>
      cases h2 with
      | lst g2 r2 =>
        refine ⟨_, _, _, _, rfl, rfl, s.sub _ _ g1, s.sub _ _ g2, by rw [← r1.length, ← r2.length]; exact hz, fun p hp => ?_⟩
        obtain ⟨e4, s4⟩ := s.laid (o := .lst _) hp
        exact k _ _ _ e4 s4 (.lst upd_same ((r1.append r2).ext e4))
def CallD (X : Cx) (O : Sto) (f : Value) (ds : List D) (d : D) : Prop :=
  ∀ G, CallR X f (fun vs H Q => SA X.K G H O ∧ Iss X.K G ds vs ∧ ∀ w G' H', Ext G G' → SA X.K G' H' O → Is X.K G' d w → Q w H')
theorem CallD.of {f : Value} {r : List V → Hp → VK → Prop} (ho : CallR X f r)
    (k : ∀ G vs H Q, SA X.K G H O → Iss X.K G ds vs → (∀ w G' H', Ext G G' → SA X.K G' H' O → Is X.K G' d w → Q w H') → r vs H Q) : CallD X O f ds d :=
  fun G pins s σ H xs us Q I r ⟨h1, h2, h3⟩ => ho pins s σ H xs us Q I r (k G _ _ _ h1 h2 h3)
theorem ev_callB {id : String} (hm : X.mg x = none) (ha : EvPs X ρ O (e :: es) ds) (hc : CallD X O (.builtin id) ds d) (hg : Gl X x := by rfl) (hv : bootBuiltins x = some (.builtin id) := by first | rfl | decide +kernel) (hn : x ≠ "__name__" := by decide) (hdb : (x == ("__debug__" : Str)) = false := by decide)
    (he : starEach (e :: es) X.env = (false, eval e X.env) :: starEach es X.env := by rfl) (hpl : (backTo pos (starEach es X.env)).any (·.1) = false := by rfl) : EvP X ρ O (.Call (.Name x p) (e :: es) [] pos) d := fun G =>
  PE.imp (pe_callB (r := fun vs H Q => ∃ G1, SA X.K G1 H O ∧ Iss X.K G1 ds vs ∧ ∀ w G' H', Ext G1 G' → SA X.K G' H' O → Is X.K G' d w → Q w H') (fun pins s σ H xs us Q I r ⟨G1, q⟩ => hc G1 pins s σ H xs us Q I r q) hg hm hv (ha G) hn hdb he hpl)
    fun σ H Q ⟨h1, h2, h3⟩ => ⟨h1, h2, fun vs G1 H1 e1 s1 i1 => ⟨G1, s1, i1, fun w G2 H2 e2 s2 i2 => h3 w G2 H2 (e1.trans e2) s2 i2⟩⟩
theorem ev_callTy {T : String} (hm : X.mg x = none) (ha : EvPs X ρ O (e :: es) ds) (hc : CallD X O (.type T) ds d) (hg : Gl X x := by rfl) (hv : bootBuiltins x = some (.type T) := by first | rfl | decide +kernel) (hn : x ≠ "__name__" := by decide) (hdb : (x == ("__debug__" : Str)) = false := by decide)
    (he : starEach (e :: es) X.env = (false, eval e X.env) :: starEach es X.env := by rfl) (hpl : (backTo pos (starEach es X.env)).any (·.1) = false := by rfl) : EvP X ρ O (.Call (.Name x p) (e :: es) [] pos) d := fun G =>
  PE.imp (pe_callTy (r := fun vs H Q => ∃ G1, SA X.K G1 H O ∧ Iss X.K G1 ds vs ∧ ∀ w G' H', Ext G1 G' → SA X.K G' H' O → Is X.K G' d w → Q w H') (fun pins s σ H xs us Q I r ⟨G1, q⟩ => hc G1 pins s σ H xs us Q I r q) hg hm hv (ha G) hn hdb he hpl)
    fun σ H Q ⟨h1, h2, h3⟩ => ⟨h1, h2, fun vs G1 H1 e1 s1 i1 => ⟨G1, s1, i1, fun w G2 H2 e2 s2 i2 => h3 w G2 H2 (e1.trans e2) s2 i2⟩⟩
theorem c_len {xs : List D} (h : LT O d xs) : CallD X O (.builtin "len") [d] (.int xs.length) := .of call_len_seq fun G vs H Q s i k => by
  cases i with
  | cons i r =>
    cases r
    rcases h with h | rfl
    · obtain ⟨p, vs, rfl, q, r⟩ := h.sq s i
      exact ⟨p, vs, rfl, .inl q, by rw [← r.length]; exact k _ G H (Ext.refl _) s (.int _)⟩
    · obtain ⟨p, vs, rfl, q, r⟩ := tup_sq s i
      exact ⟨p, vs, rfl, .inr q, by rw [← r.length]; exact k _ G H (Ext.refl _) s (.int _)⟩
theorem c_tuple {xs : List D} (h : LT O d xs) : CallD X O (.type "tuple") [d] (.tup xs) := .of call_tuple_of fun G vs H Q s i k => by
  cases i with
  | cons i r =>
    cases r
    rcases h with h | rfl
    · obtain ⟨p, vs, rfl, q, r⟩ := h.sq s i
      refine ⟨p, vs, rfl, .inl ⟨q, fun l hl => ?_⟩⟩
      obtain ⟨e4, s4⟩ := s.laid (o := .tup vs) hl
      exact k _ _ _ e4 s4 (.tup (SqT.of upd_same) (r.ext e4))
    · obtain ⟨p, vs, rfl, q, r⟩ := tup_sq s i
      exact ⟨p, vs, rfl, .inr ⟨q, k _ G H (Ext.refl _) s i⟩⟩
theorem c_min {i j : Int} (hc : X.calm = true := by rfl) : CallD X O (.builtin "min") [.int i, .int j] (.int (if j < i then j else i)) := .of (call_min2 hc) fun G vs H Q s h k => by
  cases h with | cons h r => cases r with | cons h' r => cases r; cases h; cases h'; exact ⟨i, j, rfl, k _ G H (Ext.refl _) s (.int _)⟩
theorem c_intB {b : Bool} : CallD X O (.type "int") [.bl b] (.int (if b then 1 else 0)) := .of call_int1 fun G vs H Q s h k => by
  cases h with | cons h r => cases r; cases h; exact .inr ⟨b, rfl, k _ G H (Ext.refl _) s (.int _)⟩
abbrev SpD := List D → Sto → (D → Sto → Prop) → Prop
def toSp (K : PySem.W.Frag) (sp : SpD) : Sp := fun vs H Q _ => ∃ G O ds R, SA K G H O ∧ Iss K G ds vs ∧ sp ds O R ∧ ∀ v d O' G' H', Ext G G' → SA K G' H' O' → Is K G' d v → R d O' → Q v H'
structure DefOk (P : Program) (w : World) (K : PySem.W.Frag) (mg : Str → Option Value) (base : Heap) (k : Nat) (x : Str) (sp : SpD) : Prop where
  ex : ∃ f fd ps, FnOk P w K mg base CX0 k f fd ps (toSp K sp) ∧ mg x = some (.ref f) ∧ PySem.W.keepIn K (.ref f) = true ∧ Binds K fd ps []
theorem ev_callA {k : Nat} {sp : SpD} (F : DefOk X.prog X.w X.K X.mg X.base k x sp) (hr : Room k X.A) (ha : EvAs X ρ O (e :: es) fun ds O1 => sp ds O1 R) (hg : Gl X x := by rfl) (hdb : (x == ("__debug__" : Str)) = false := by decide)
    (he : starEach (e :: es) X.env = (false, eval e X.env) :: starEach es X.env := by rfl) (hpl : (backTo pos (starEach es X.env)).any (·.1) = false := by rfl) : Ev X ρ O (.Call (.Name x p) (e :: es) [] pos) R := fun G => by
  obtain ⟨f, fd, ps, h1, h2, h3, h4⟩ := F.ex
  refine PE.imp (pe_call h1 hr hg h2 h3 h4 .nil pass0 (ha G) hdb he hpl) fun σ H Q ⟨q1, q2, q3⟩ => ⟨q1, q2, fun vs ds O1 G1 H1 e1 s1 i1 r1 => ?_⟩
  show toSp X.K sp (vs ++ []) H1 Q E0
  rw [List.append_nil]
  exact ⟨G1, O1, ds, R, s1, i1, r1, fun v d O' G' H' e2 s2 i2 r2 => q3 v d O' G' H' (e1.trans e2) s2 i2 r2⟩
theorem ev_call {k : Nat} {sp : SpD} (F : DefOk X.prog X.w X.K X.mg X.base k x sp) (hr : Room k X.A) (ha : EvPs X ρ O (e :: es) ds) (hs : sp ds O R) (hg : Gl X x := by rfl) (hdb : (x == ("__debug__" : Str)) = false := by decide)
    (he : starEach (e :: es) X.env = (false, eval e X.env) :: starEach es X.env := by rfl) (hpl : (backTo pos (starEach es X.env)).any (·.1) = false := by rfl) : Ev X ρ O (.Call (.Name x p) (e :: es) [] pos) R :=
  ev_callA F hr (ha.as hs) hg hdb he hpl
def pureSp (f : List D → D → Prop) : SpD := fun ds O R => ∃ d, f ds d ∧ R d O
theorem ev_callP {k : Nat} {f : List D → D → Prop} (F : DefOk X.prog X.w X.K X.mg X.base k x (pureSp f)) (hr : Room k X.A) (ha : EvPs X ρ O (e :: es) ds) (hs : f ds d) (hg : Gl X x := by rfl) (hdb : (x == ("__debug__" : Str)) = false := by decide)
    (he : starEach (e :: es) X.env = (false, eval e X.env) :: starEach es X.env := by rfl) (hpl : (backTo pos (starEach es X.env)).any (·.1) = false := by rfl) : EvP X ρ O (.Call (.Name x p) (e :: es) [] pos) d :=
  (ev_call F hr ha ⟨d, hs, rfl, rfl⟩ hg hdb he hpl).evp
end
structure Post where
  nx : Rho → Sto → Prop
  rt : D → Sto → Prop
  bk : Rho → Sto → Prop := fun _ _ => False
  ct : Rho → Sto → Prop := fun _ _ => False
def Goes (K : PySem.W.Frag) (G : Wd) (N : Rho → Sto → Prop) (n : L2.St → Hp → Prop) : Prop := ∀ σ ρ O G' H, Ext G G' → SA K G' H O → EnvR K G' σ ρ → N ρ O → n σ H
structure Conts (K : PySem.W.Frag) (G : Wd) (P : Post) (E : Ends) : Prop where
  nx : Goes K G P.nx E.nx
  rt : ∀ v d O G' H, Ext G G' → SA K G' H O → Is K G' d v → P.rt d O → E.rt v H
  bk : Goes K G P.bk E.bk
  ct : Goes K G P.ct E.ct
theorem Goes.ext {K : PySem.W.Frag} {G G' : Wd} {N : Rho → Sto → Prop} {n : L2.St → Hp → Prop} (h : Goes K G N n) (e : Ext G G') : Goes K G' N n := fun σ ρ O G2 H e2 => h σ ρ O G2 H (e.trans e2)
theorem Conts.ext {K : PySem.W.Frag} {G G' : Wd} {P : Post} {E : Ends} (h : Conts K G P E) (e : Ext G G') : Conts K G' P E := ⟨h.nx.ext e, fun v d O G2 H e2 => h.rt v d O G2 H (e.trans e2), h.bk.ext e, h.ct.ext e⟩
def Ex (X : Cx) (ρ : Rho) (O : Sto) (st : Stmt) (P : Post) : Prop := ∀ G, PS X st (fun E σ H => SA X.K G H O ∧ EnvR X.K G σ ρ ∧ Conts X.K G P E)
def Exs (X : Cx) (ρ : Rho) (O : Sto) (st : List Stmt) (P : Post) : Prop := ∀ G, PSs X st (fun E σ H => SA X.K G H O ∧ EnvR X.K G σ ρ ∧ Conts X.K G P E)
section
variable {X : Cx} {ρ : Rho} {O : Sto} {e a b c : Expr} {es : List Expr} {d da db : D} {ds : List D} {R : D → Sto → Prop} {pos p : Pos} {x : Str} {st : Stmt} {rest body orelse : List Stmt} {P : Post}
theorem xs_nil (h : P.nx ρ O) : Exs X ρ O [] P := fun G => PSs.imp pss_nil fun E σ H ⟨h1, h2, h3⟩ => h3.nx σ ρ O G H (Ext.refl _) h1 h2 h
theorem xs_cons (h : Ex X ρ O st { P with nx := fun ρ' O' => Exs X ρ' O' rest P }) : Exs X ρ O (st :: rest) P := fun G =>
  PSs.imp (pss_cons (h G) (u := fun E σ H => ∃ G1 ρ1 O1, SA X.K G1 H O1 ∧ EnvR X.K G1 σ ρ1 ∧ Exs X ρ1 O1 rest P ∧ Conts X.K G1 P E) (fun pins s σ H E I ⟨G1, ρ1, O1, q1, q2, q3, q4⟩ => q3 G1 pins s σ H E I ⟨q1, q2, q4⟩)) fun E σ H ⟨h1, h2, h3⟩ =>
    ⟨h1, h2, ⟨fun σ1 ρ1 O1 G1 H1 e1 s1 n1 q1 => ⟨G1, ρ1, O1, s1, n1, q1, h3.ext e1⟩, h3.rt, h3.bk, h3.ct⟩⟩
theorem xs_seq (M : Rho → Sto → Prop) (h : Ex X ρ O st { P with nx := M }) (k : ∀ ρ' O', M ρ' O' → Exs X ρ' O' rest P) : Exs X ρ O (st :: rest) P := xs_cons fun G =>
  PS.imp (h G) fun E σ H ⟨h1, h2, h3⟩ => ⟨h1, h2, ⟨fun σ1 ρ1 O1 G1 H1 e1 s1 n1 q1 => h3.nx σ1 ρ1 O1 G1 H1 e1 s1 n1 (k _ _ q1), h3.rt, h3.bk, h3.ct⟩⟩
theorem x_ret (h : Ev X ρ O e P.rt) : Ex X ρ O (.Return (some e) pos) P := fun G => PS.imp (ps_ret (h G)) fun E σ H ⟨h1, h2, h3⟩ => ⟨h1, h2, fun v d O' G' H' e1 s1 i1 r1 => h3.rt v d O' G' H' e1 s1 i1 r1⟩
theorem x_if {k : Bool} (hc : EvT X ρ O c k) (h1 : k = true → Exs X ρ O body P) (h2 : k = false → Exs X ρ O orelse P) : Ex X ρ O (.If c body orelse pos) P := fun G =>
  PS.imp (ps_if (hc G) (t := fun E σ H => ∃ G1, k = true ∧ SA X.K G1 H O ∧ EnvR X.K G1 σ ρ ∧ Conts X.K G1 P E) (fun pins s σ H E I ⟨G1, z, q⟩ => h1 z G1 pins s σ H E I q)
    (u := fun E σ H => ∃ G1, k = false ∧ SA X.K G1 H O ∧ EnvR X.K G1 σ ρ ∧ Conts X.K G1 P E) (fun pins s σ H E I ⟨G1, z, q⟩ => h2 z G1 pins s σ H E I q)) fun E σ H ⟨q1, q2, q3⟩ =>
    ⟨q1, q2, fun G' H' e1 s1 => by
      cases k with
      | true => exact iteT ⟨G', rfl, s1, q2.ext e1, q3.ext e1⟩
      | false => exact iteF ⟨G', rfl, s1, q2.ext e1, q3.ext e1⟩⟩
def Tg (X : Cx) (tg : Expr) (d : D) (ρ ρ' : Rho) : Prop := ∀ G, PG X tg (fun v σ H Q => Is X.K G d v ∧ Same G.g H ∧ EnvR X.K G σ ρ ∧ ∀ σ', EnvR X.K G σ' ρ' → Q σ' H)
def Tgs (X : Cx) (tg : List Expr) (ds : List D) (ρ ρ' : Rho) : Prop := ∀ G, PGs X tg (fun vs σ H Q => Iss X.K G ds vs ∧ Same G.g H ∧ EnvR X.K G σ ρ ∧ ∀ σ', EnvR X.K G σ' ρ' → Q σ' H)
theorem tg_name (i : Nat) (hN : X.N.Nodup) (hi : X.N[i]? = some x := by rfl) (hx : Loc X.env.scope x := by first | exact Or.inl rfl | exact Or.inr rfl) (hf : X.fn x = true ∨ X.env.scope.names.lookup x = some .local := by first | exact .inl rfl | exact .inr rfl | assumption) : Tg X (.Name x pos) d ρ (ρ.set i (some d)) := fun G pins s σ H v u Q I r ⟨h1, h2, h3, h4⟩ =>
  pg_name hN hi hx hf pins s σ H v u Q I r (h4 _ (h3.set i h1))
theorem tgs_nil : Tgs X [] [] ρ ρ := fun G pins s σ H vs us Q I r ⟨h1, h2, h3, h4⟩ => pgs_nil pins s σ H vs us Q I r ⟨by cases h1; rfl, h4 _ h3⟩
theorem tgs_cons {ρ1 ρ2 : Rho} (h : Tg X e d ρ ρ1) (k : Tgs X es ds ρ1 ρ2) (hs : (assignEach (e :: es) X.env).map (·.2) = assign e X.env :: (assignEach es X.env).map (·.2) := by rfl) : Tgs X (e :: es) (d :: ds) ρ ρ2 := fun G pins s σ H vs us Q I r ⟨h1, h2, h3, h4⟩ => by
  cases h1 with
  | cons i1 i2 =>
    exact pgs_cons (h G) (k G) hs pins s σ H _ us Q I r ⟨_, _, rfl, i1, h2, h3, fun σ' n' => ⟨i2, h2, n', h4⟩⟩
theorem tg_tup {ρ1 : Rho} {k : Nat} (h : Tgs X es ds ρ ρ1) (hc : X.calm = true := by rfl) (hn : (assignEach es X.env).length = ds.length := by rfl) (hst : (assignEach es X.env).findIdx? (·.1) = none := by rfl) : Tg X (.Tuple es k pos) (.tup ds) ρ ρ1 := fun G pins s σ H v u Q I r ⟨h1, h2, h3, h4⟩ => by
  cases h1 with
  | tup q1 q2 =>
    exact pg_tup hc (h G) hn hst pins s σ H _ u Q I r ⟨_, _, rfl, sqT_same h2 q1, by rw [← q2.length], q2, h2, h3, h4⟩
theorem x_set (i : Nat) (he : Ev X ρ O e fun d O' => P.nx (ρ.set i (some d)) O') (hN : X.N.Nodup) (hi : X.N[i]? = some x := by rfl) (hx : Loc X.env.scope x := by first | exact Or.inl rfl | exact Or.inr rfl) {p : Pos}
    (hs : swapsWith e (some (.Name x p)) pos.line X.env = pure false := by rfl) (hf : X.fn x = true ∨ X.env.scope.names.lookup x = some .local := by first | exact .inl rfl | exact .inr rfl | assumption) : Ex X ρ O (.Assign [.Name x p] e pos) P := fun G =>
  PS.imp (ps_set hN hi hx (he G) hs hf) fun E σ H ⟨h1, h2, h3⟩ => ⟨h1, h2, fun v d O' G' H' e1 s1 i1 r1 => h3.nx _ _ O' G' H' e1 s1 ((h2.ext e1).set i i1) r1⟩
theorem x_append {q : Nat} {xs : List D} {apos cpos : Pos} (ho : EvP X ρ O a (.ptr q)) (hq : O[q]? = some (some (.lst xs))) (he : EvP X ρ O e d) (hz : xs.length < sizeLine) (h : P.nx ρ (O.set q (some (.lst (xs ++ [d])))))
    (hbase : attributeBase a ("append" : Str) X.env (eval a X.env) = eval a X.env := by rfl) (hline : (apos.endLine == cpos.line) = true := by rfl) (hst : starEach [e] X.env = [(false, eval e X.env)] := by rfl)
    (hsw : swapsWith (.Call (.Attribute a ("append" : Str) apos) [e] [] cpos) none pos.line X.env = pure false := by rfl) : Ex X ρ O (.Expr (.Call (.Attribute a ("append" : Str) apos) [e] [] cpos) pos) P := fun G =>
  PS.imp (ps_expr (pe_bm PySem.F.plainAttrs_list PySem.F.slot_list_append PySem.F.type_list_append mt_append (ho G)
    (pa_cons (te := fun σ H Q => ∃ G1, SA X.K G1 H O ∧ EnvR X.K G1 σ ρ ∧ ∀ v G' H', Ext G1 G' → SA X.K G' H' O → Is X.K G' d v → Q v H') (fun pins s σ H Q I ⟨G1, q⟩ => he G1 pins s σ H Q I q) pa_nil hst) hbase
    (by rw [hst]; rfl) hline hst (by rfl)) hsw) fun E σ H ⟨q1, q2, q3⟩ => ⟨q1, q2, fun v G1 H1 e1 s1 i1 => by
      cases i1 with
      | ptr _ ha =>
      obtain ⟨a1, g0, g1, vs, g2, g3⟩ := s1.mt q _ hq
      obtain rfl := Option.some.inj (ha.symm.trans g0)
      refine ⟨.inl ⟨rfl, vs, SqL.of g2⟩, G1, s1, q2.ext e1, fun w G2 H2 e2 s2 i2 => ?_⟩
      obtain ⟨a2, g7, g4, us, g5, g6⟩ := s2.mt q _ hq
      obtain rfl := Option.some.inj ((e2.at g0).symm.trans g7)
      refine ⟨_, us, w, rfl, rfl, g5, by rw [← g6.length]; exact hz, ?_⟩
      exact q3.nx σ ρ _ G2 _ (e1.trans e2) (s2.put (m' := .lst (xs ++ [d])) hq g7 ⟨_, upd_same, g6.append (.cons i2 .nil)⟩) (q2.ext (e1.trans e2)) h⟩
structure Yields (K : PySem.W.Frag) (G : Wd) (J : It) (xs : List D) : Prop where
  go : ∀ i H, Same G.g H → i < xs.length → J.go i H
  stop : ∀ i H, Same G.g H → xs.length ≤ i → J.stop i H
  yld : ∀ i v H H' G2 O2, Ext G G2 → SA K G2 H O2 → J.yld i H v H' → i < xs.length → ∃ x G3, xs[i]? = some x ∧ Ext G2 G3 ∧ SA K G3 H' O2 ∧ Is K G3 x v
def EvI (X : Cx) (ρ : Rho) (O : Sto) (tg iter : Expr) (xs : List D) : Prop :=
  ∀ G, PI X tg iter (fun σ H R => SA X.K G H O ∧ EnvR X.K G σ ρ ∧ ∀ J G' H', Ext G G' → SA X.K G' H' O → Yields X.K G' J xs → R J H')
theorem _root_.L2.PI.imp {X : Cx} {tg iter : Expr} {t u : TI} (h : PI X tg iter t) (k : ∀ σ H R, u σ H R → t σ H R) : PI X tg iter u := fun pins s σ H R I q => h pins s σ H R I (k _ _ _ q)
theorem itl_yields {K : PySem.W.Frag} {G : Wd} {q : Addr} {vs : List V} {xs : List D} (h1 : SqL K G.g q vs) (r : Iss K G xs vs) : Yields K G (Itl K q) xs where
  go := fun i H e hi => by
    obtain ⟨v, hv, _⟩ := r.get (i := i) (d := xs[i]) (by simp [hi])
    exact ⟨vs, v, e.seq h1, hv⟩
  stop := fun i H e hi => ⟨vs, e.seq h1, by rw [← r.length]; exact hi⟩
  yld := fun i v H H' G2 O2 e s y hi => by
    obtain ⟨rfl, y⟩ := y
    obtain ⟨x, hx, ix⟩ := r.getV (y vs ((e.g.trans s.sub).seq h1))
    exact ⟨x, G2, hx, Ext.refl _, s, ix.ext e⟩
theorem itt_yields {K : PySem.W.Frag} {G : Wd} {q : Addr} {vs : List V} {xs : List D} (h1 : SqT K G.g q vs) (r : Iss K G xs vs) : Yields K G (Itt K q) xs where
  go := fun i H e hi => by
    obtain ⟨v, hv, _⟩ := r.get (i := i) (d := xs[i]) (by simp [hi])
    exact ⟨vs, v, sqT_same e h1, hv⟩
  stop := fun i H e hi => ⟨vs, sqT_same e h1, by rw [← r.length]; exact hi⟩
  yld := fun i v H H' G2 O2 e s y hi => by
    obtain ⟨rfl, y⟩ := y
    obtain ⟨x, hx, ix⟩ := r.getV (y vs (sqT_same (e.g.trans s.sub) h1))
    exact ⟨x, G2, hx, Ext.refl _, s, ix.ext e⟩
theorem ei_lst {tg : Expr} {xs : List D} (h : EvP X ρ O e (.lst xs)) : EvI X ρ O tg e xs := fun G => PI.imp (pi_list (h G)) fun σ H R ⟨h1, h2, h3⟩ => ⟨h1, h2, fun v G1 H1 e1 s1 i1 => by
  cases i1 with
  | lst q r => exact ⟨_, rfl, ⟨_, SqL.of (s1.sub _ _ q)⟩, h3 _ G1 H1 e1 s1 (itl_yields (SqL.of q) r)⟩⟩
theorem ei_scr {tg : Expr} {xs : List D} (h : EvP X ρ O e (.scr xs)) : EvI X ρ O tg e xs := fun G => PI.imp (pi_list (h G)) fun σ H R ⟨h1, h2, h3⟩ => ⟨h1, h2, fun v G1 H1 e1 s1 i1 => by
  cases i1 with
  | scr q r => exact ⟨_, rfl, ⟨_, s1.sub.seq q⟩, h3 _ G1 H1 e1 s1 (itl_yields q r)⟩⟩
theorem ei_tup {tg : Expr} {xs : List D} (h : EvP X ρ O e (.tup xs)) : EvI X ρ O tg e xs := fun G => PI.imp (pi_tup (h G)) fun σ H R ⟨h1, h2, h3⟩ => ⟨h1, h2, fun v G1 H1 e1 s1 i1 => by
  cases i1 with
  | tup q r => exact ⟨_, rfl, ⟨_, sqT_same s1.sub q⟩, h3 _ G1 H1 e1 s1 (itt_yields q r)⟩⟩
def rangeD (lo : Int) (n : Nat) : List D := (List.range n).map fun i => .int (lo + (i : Nat))
theorem rangeD_len {lo : Int} {n : Nat} : (rangeD lo n).length = n := by simp [rangeD]
theorem rangeD_get {lo : Int} {n i : Nat} (h : i < n) : (rangeD lo n)[i]? = some (.int (lo + (i : Nat))) := by simp [rangeD, h]
theorem rangeD_at {lo : Int} {n i : Nat} {x : D} (h : (rangeD lo n)[i]? = some x) : i < n ∧ x = .int (lo + (i : Nat)) := by
  have hi : i < n := by
    have := (List.getElem?_eq_some_iff.mp h).1
    rw [rangeD_len] at this
    exact this
  rw [rangeD_get hi] at h
  exact ⟨hi, (Option.some.inj h).symm⟩
theorem itr_yields {K : PySem.W.Frag} {G : Wd} {lo : Int} {n : Nat} : Yields K G (Itr lo n) (rangeD lo n) where
  go := fun i H _ hi => by rw [rangeD_len] at hi; exact hi
  stop := fun i H _ hi => by rw [rangeD_len] at hi; exact hi
  yld := fun i v H H' G2 O2 e s y hi => by
    obtain ⟨rfl, rfl⟩ := y
    rw [rangeD_len] at hi
    exact ⟨_, G2, rangeD_get hi, Ext.refl _, s, .int _⟩
theorem ei_range1 {tg : Expr} {n : Int} (h : EvP X ρ O e (.int n)) (hm : X.mg "range" = none) (h1 : -(2 ^ 62) ≤ n) (h2 : n < 2 ^ 62) (hg : Gl X "range" := by rfl) (hs : starEach [e] X.env = [(false, eval e X.env)] := by rfl) : EvI X ρ O tg (.Call (.Name "range" p) [e] [] pos) (rangeD 0 n.toNat) := fun G =>
  PI.imp (pi_range1 hg hm (es_cons h es_nil hs G) hs) fun σ H R ⟨q1, q2, q3⟩ => ⟨q1, q2, fun vs G1 H1 e1 s1 i1 => by
    cases i1 with | cons i r => cases r; cases i; exact ⟨n, rfl, h1, h2, q3 _ G1 H1 e1 s1 itr_yields⟩⟩
theorem x_for {tg iter : Expr} {body : List Stmt} {xs : List D} (hi : EvI X ρ O tg iter xs) (inv : Nat → Rho → Sto → Prop) (h0 : inv 0 ρ O)
    (hs : ∀ i x ρ' O', xs[i]? = some x → inv i ρ' O' → ∃ ρ1, Tg X tg x ρ' ρ1 ∧ Exs X ρ1 O' body { P with nx := inv (i + 1), ct := inv (i + 1), bk := P.nx }) (hd : ∀ ρ' O', inv xs.length ρ' O' → P.nx ρ' O')
    (hp : PassesOwn (model X.prog X.w) X.A X.env X.xe := by exact PassesOwn.never) (hc : X.calm = true := by rfl) (hf : ∀ x, foldedSetIterable iter X.env x = pure x := by intro _; rfl) : Ex X ρ O (.For tg iter body [] pos) P := fun G =>
  PS.imp (ps_for hp hc (hi G) (g := fun v σ H Q => ∃ G1 ρ1 ρ2 x, Tg X tg x ρ1 ρ2 ∧ Is X.K G1 x v ∧ Same G1.g H ∧ EnvR X.K G1 σ ρ1 ∧ ∀ σ', EnvR X.K G1 σ' ρ2 → Q σ' H) (fun pins s σ H v u Q I r ⟨G1, ρ1, ρ2, x, q, q'⟩ => q G1 pins s σ H v u Q I r q')
    (tb := fun E σ H => ∃ G1 ρ1 O1 P1, SA X.K G1 H O1 ∧ EnvR X.K G1 σ ρ1 ∧ Exs X ρ1 O1 body P1 ∧ Conts X.K G1 P1 E) (fun pins s σ H E I ⟨G1, ρ1, O1, P1, q1, q2, q3, q4⟩ => q3 G1 pins s σ H E I ⟨q1, q2, q4⟩) hf) fun E σ H ⟨q1, q2, q3⟩ => by
    refine ⟨q1, q2, fun J G1 H1 e1 s1 Y => ?_⟩
    refine ⟨fun i m σ H => ∃ G2 ρ2 O2, Ext G1 G2 ∧ SA X.K G2 H O2 ∧ EnvR X.K G2 σ ρ2 ∧ inv i ρ2 O2 ∧ i ≤ xs.length ∧ m = xs.length - i, ⟨_, G1, ρ, O, Ext.refl _, s1, q2.ext e1, h0, Nat.zero_le _, rfl⟩, ?_⟩
    rintro i m σ2 H2 ⟨G2, ρ2, O2, e2, s2, n2, v2, l2, rfl⟩
    by_cases hlt : i < xs.length
    · refine .inr ⟨Y.go i H2 (e2.g.trans s2.sub) hlt, fun σ' H' => ∃ G3 ρ3 O3, Ext G1 G3 ∧ SA X.K G3 H' O3 ∧ EnvR X.K G3 σ' ρ3 ∧ inv (i + 1) ρ3 O3, fun σ' H' ⟨G3, ρ3, O3, e3, s3, n3, v3⟩ => ⟨xs.length - (i + 1), by omega, G3, ρ3, O3, e3, s3, n3, v3, hlt, rfl⟩, fun v H3 y => ?_⟩
      obtain ⟨x, G3, hx, e3, s3, i3⟩ := Y.yld i v H2 H3 G2 O2 e2 s2 y hlt
      obtain ⟨ρ3, t3, b3⟩ := hs i x ρ2 O2 hx v2
      have e13 : Ext G1 G3 := e2.trans e3
      refine ⟨G3, ρ2, ρ3, x, t3, i3, s3.sub, n2.ext e3, fun σ' n' => ⟨G3, ρ3, O2, _, s3, n', b3, ⟨fun σ4 ρ4 O4 G4 H4 e4 s4 n4 q => ⟨G4, ρ4, O4, e13.trans e4, s4, n4, q⟩, fun v d O4 G4 H4 e4 s4 i4 r => q3.rt v d O4 G4 H4 (e1.trans (e13.trans e4)) s4 i4 r,
        fun σ4 ρ4 O4 G4 H4 e4 s4 n4 q => q3.nx σ4 ρ4 O4 G4 H4 (e1.trans (e13.trans e4)) s4 n4 q, fun σ4 ρ4 O4 G4 H4 e4 s4 n4 q => ⟨G4, ρ4, O4, e13.trans e4, s4, n4, q⟩⟩⟩⟩
    · have ei : i = xs.length := by omega
      subst ei
      exact .inl ⟨Y.stop _ H2 (e2.g.trans s2.sub) (Nat.le_refl _), q3.nx σ2 ρ2 O2 G2 H2 (e1.trans e2) s2 n2 (hd _ _ v2)⟩
end
def startD (N : List Str) (ds : List D) : Rho := ds.map some ++ List.replicate (N.length - ds.length) none
section
variable {P : Program} {w : World} {K : PySem.W.Frag} {mg : Str → Option Value} {base : Heap}
theorem start_env {G : Wd} {N : List Str} {ds : List D} {vs : List V} (r : Iss K G ds vs) : EnvR K G (L2.start N vs) (startD N ds) := by
  refine ⟨by unfold L2.start startD; simp [r.length], fun i d h => ?_⟩
  unfold startD at h
  by_cases hi : i < ds.length
  · rw [List.getElem?_append_left (by simpa using hi), List.getElem?_map] at h
    cases q : ds[i]? with
    | none => rw [q] at h; cases h
    | some d' =>
      rw [q] at h; cases h
      obtain ⟨v, hv, iv⟩ := r.get q
      refine ⟨v, ?_, iv⟩
      unfold L2.start
      rw [List.getElem?_append_left (by rw [List.length_map, ← r.length]; exact hi), List.getElem?_map, hv]
      rfl
  · rw [List.getElem?_append_right (by simpa using hi), List.getElem?_replicate] at h
    split at h <;> cases h
theorem okF {x qual : Str} {st : Stmt} {f : Addr} {fd : FuncData} {N ps : List Str} {k : Nat} {sp : SpD} (F : Fun K x qual st f fd) (S : FnScope N ps (defScope st))
    (len : ∀ ds O R, sp ds O R → ds.length = ps.length)
    (hbody : ∀ (cdv : Value) (A : Around) (outer : List Env) (s : Shared) (H : Hp) (E : XK) (ds : List D) (O : Sto) (R : D → Sto → Prop), Room k (A.deeper (envOfC qual (defScope st) s.heap.objs.size f cdv)) → sp ds O R →
      Exs (cxOf CX0 P w K mg base N qual (defScope st) f cdv A outer s H E).nox (startD N ds) O (defBody st) { nx := fun _ O' => R .non O', rt := R }) : FnOk P w K mg base CX0 (k + 1) f fd ps (toSp K sp) := by
  refine F.ok S (fun vs H Q E h => ?_) (fun cdv A outer s H vs Q E hr h => ?_)
  · obtain ⟨G, O, ds, R, h1, h2, h3, h4⟩ := h
    rw [← h2.length]
    exact len _ _ _ h3
  · obtain ⟨G, O, ds, R, h1, h2, h3, h4⟩ := h
    refine ⟨_, hbody cdv A outer s H E ds O R hr h3 G, h1, start_env h2, ⟨fun σ ρ O' G' H' e1 s1 n1 q => h4 _ _ O' G' H' e1 s1 .non q, fun v d O' G' H' e1 s1 i1 q => h4 v d O' G' H' e1 s1 i1 q, fun σ ρ O' G' H' e1 s1 n1 q => q.elim, fun σ ρ O' G' H' e1 s1 n1 q => q.elim⟩⟩
theorem okD {x qual : Str} {st : Stmt} {f : Addr} {fd : FuncData} {N ps : List Str} {k : Nat} {sp : SpD} (F : Fun K x qual st f fd) (S : FnScope N ps (defScope st)) (hm : mg x = some (.ref f)) (hb : Binds K fd ps [])
    (len : ∀ ds O R, sp ds O R → ds.length = ps.length)
    (hbody : ∀ (cdv : Value) (A : Around) (outer : List Env) (s : Shared) (H : Hp) (E : XK) (ds : List D) (O : Sto) (R : D → Sto → Prop), Room k (A.deeper (envOfC qual (defScope st) s.heap.objs.size f cdv)) → sp ds O R →
      Exs (cxOf CX0 P w K mg base N qual (defScope st) f cdv A outer s H E).nox (startD N ds) O (defBody st) { nx := fun _ O' => R .non O', rt := R }) : DefOk P w K mg base (k + 1) x sp :=
  ⟨f, fd, ps, okF F S len hbody, hm, F.kp, hb⟩
end
def spLaw : SpD := fun ds O R => ∃ ns : List Int, ds = [.scr (ns.map D.int)] ∧ ns.length ≤ 63 ∧ R (.bl true) O
theorem law_start {K : PySem.W.Frag} {H : Hp} {a : Addr} {ns : List Int} (hl : ns.length ≤ 63) (hS : SqL K H a (ns.map V.int)) : toSp K spLaw [.ref a] H (fun v _ => v = .bl true) fun _ _ _ => False :=
  ⟨⟨H, []⟩, [], [.scr (ns.map D.int)], fun d _ => d = .bl true, ⟨Same.refl _, rfl, List.nodup_nil, fun a h => absurd h List.not_mem_nil, fun n m h => by cases h⟩, .cons (.scr hS Iss.ints) .nil, ⟨ns, rfl, hl, rfl⟩, fun v d O' G' H' _ _ i r => by subst r; cases i; rfl⟩
section
variable {X : Cx} {ρ : Rho} {O : Sto} {e a b c : Expr} {es : List Expr} {d da db : D} {ds : List D} {R : D → Sto → Prop} {pos p : Pos} {x : Str}
theorem ev_type {U : String} (hm : X.mg x = none) (hg : Gl X x := by rfl) (hv : bootBuiltins x = some (.type U) := by first | rfl | decide +kernel) (hn : x ≠ "__name__" := by decide) (hd : (x == ("__debug__" : Str)) = false := by decide) : EvP X ρ O (.Name x p) (.ty U) := fun G =>
  PE.imp (pe_bltn (v := .ty U) hg hm hv rfl hn hd) fun σ H Q ⟨h1, h2, h3⟩ => h3 _ G H (Ext.refl _) h1 (.ty U)
def tyD : D → Option String
  | .non => some "NoneType" | .bl _ => some "bool" | .int _ => some "int" | .str _ => some "str" | .tup _ => some "tuple" | .lst _ => some "list" | .scr _ => some "list" | .ptr _ => none | .ty _ => none | .fn _ => none | .dct _ _ => some "dict"
theorem c_isi {T U : String} {k : Bool} (ht : tyD d = some T) (hk : ∀ K, PySem.W.kitOne K (.type T) (.type U) = some k) : CallD X O (.builtin "isinstance") [d, .ty U] (.bl k) := fun G pins s σ H xs us Q I r ⟨h1, h2, h3⟩ => by
  cases h2 with
  | cons i r2 =>
    cases r2 with
    | cons i' r3 =>
      cases r3
      cases i'
      obtain ⟨u, u', rfl, r1, r2⟩ := vals2 r
      cases r2
      have fin : ∀ tk, EP X pins σ Q (.bool k) { s with toks := tk } := fun tk => ⟨.bl k, H, I.tok tk, rfl, h3 _ G H (Ext.refl _) h1 (.bl k)⟩
      cases i with
      | non => cases ht; cases r1; exact PySem.W.kia_one PySem.W.kitx_none I.kIn True.intro (hk _) (fun z => nomatch z) fin
      | bl y => cases ht; cases r1; exact PySem.W.kia_one PySem.W.kitx_bool I.kIn True.intro (hk _) (fun z => nomatch z) fin
      | int i => cases ht; obtain ⟨t, rfl⟩ := r1; exact PySem.W.kia_one PySem.W.kitx_int I.kIn True.intro (hk _) (fun z => nomatch z) fin
      | str y => cases ht; obtain ⟨t, rfl⟩ := r1; exact PySem.W.kia_one PySem.W.kitx_str I.kIn True.intro (hk _) (fun z => nomatch z) fin
      | tup q1 q2 =>
        cases ht; cases r1
        obtain ⟨its, _, ⟨o, g1, g2, _⟩, _⟩ := I.tuple (sqT_same h1.sub q1)
        exact PySem.W.kia_one PySem.W.kitx_tuple I.kIn ⟨o, g1, g2⟩ (hk _) (fun z => nomatch z) fin
      | lst q1 q2 =>
        cases ht; cases r1
        obtain ⟨its, _, ⟨o, n, g1, g2, _⟩, _⟩ := I.list (SqL.of (h1.sub _ _ q1))
        exact PySem.W.kia_one PySem.W.kitx_list I.kIn ⟨o, g1, g2⟩ (hk _) (fun z => nomatch z) fin
      | scr q1 q2 =>
        cases ht; cases r1
        obtain ⟨its, _, ⟨o, n, g1, g2, _⟩, _⟩ := I.list (h1.sub.seq q1)
        exact PySem.W.kia_one PySem.W.kitx_list I.kIn ⟨o, g1, g2⟩ (hk _) (fun z => nomatch z) fin
      | ptr _ _ => cases ht
      | ty _ => cases ht
      | fn _ => cases ht
      | dct q1 _ q2 =>
        cases ht; cases r1
        obtain ⟨_, _, _, _, o, _, _, g1, g2, _⟩ := Rd.ok (.inr ⟨_, h1.sub _ _ q1⟩) I.hok
        exact PySem.W.kia_one PySem.W.kitx_dict I.kIn ⟨o, g1, g2.1⟩ (hk _) (fun z => nomatch z) fin
def subTy (T U : String) : Bool := T == U || (T == "bool" && U == "int")
theorem kit_all : ∀ T ∈ ["NoneType", "bool", "int", "str", "tuple", "list", "dict"], ∀ U ∈ ["int", "bool", "tuple", "str", "dict", "list"], ∀ K, PySem.W.kitOne K (.type T) (.type U) = some (subTy T U) := by
  intro T hT U hU K
  simp only [List.mem_cons, List.not_mem_nil, or_false] at hT hU
  rcases hT with rfl | rfl | rfl | rfl | rfl | rfl | rfl <;> rcases hU with rfl | rfl | rfl | rfl | rfl | rfl <;> kernel_rfl
def okTy : D → Bool
  | .ptr _ => false | .ty _ => false | .fn _ => false | _ => true
def isiD (d : D) (U : String) : Bool := match tyD d with
  | some T => subTy T U
  | none => false
theorem c_isiU {U : String} (h : okTy d = true) (hU : U ∈ ["int", "bool", "tuple", "str", "dict", "list"]) : CallD X O (.builtin "isinstance") [d, .ty U] (.bl (isiD d U)) := by
  cases d with
  | ptr _ => cases h
  | ty _ => cases h
  | fn _ => cases h
  | _ => exact c_isi (T := _) rfl (kit_all _ (by decide) U hU)
theorem c_isi_int (h : okTy d = true) : CallD X O (.builtin "isinstance") [d, .ty "int"] (.bl (isiD d "int")) := c_isiU h (by decide)
theorem c_isi_bool (h : okTy d = true) : CallD X O (.builtin "isinstance") [d, .ty "bool"] (.bl (isiD d "bool")) := c_isiU h (by decide)
theorem ev_neg {i : Int} (ha : EvP X ρ O a (.int i)) : EvP X ρ O (.UnaryOp .USub a pos) (.int (-i)) := fun G => PE.imp (pe_un un_neg (ha G)) fun σ H Q ⟨h1, h2, h3⟩ => ⟨h1, h2, fun v G1 H1 e1 s1 i1 => by
  cases i1; exact ⟨i, rfl, h3 _ G1 H1 e1 s1 (.int _)⟩⟩
end
end DL
set_option Elab.async false
set_option linter.all false
set_option maxRecDepth 100000
namespace DL
open PySem PySem.Spec PyProof.Rows L2
def closOf (env : Env) : List (Str × NameKind) → List (Str × Addr) → List (Str × Addr)
  | [], cs => cs
  | (n, k) :: r, cs => if k == .free then closOf env r ((n, (env.cells.lookup n).getD 0) :: cs) else closOf env r cs
theorem clos_run {env : Env} (f : Str × NameKind → List (Str × Addr) → Sem (ForInStep (List (Str × Addr))))
    (hf : ∀ n k cs, f (n, k) cs = if (k == NameKind.free) = true then (do let a ← cellOf env n; pure (.yield ((n, a) :: cs))) else pure (.yield cs)) :
    ∀ (names : List (Str × NameKind)) (cs : List (Str × Addr)), (∀ y ∈ names, y.2 = .free → ∃ a, env.cells.lookup y.1 = some a) → forIn names cs f = pure (closOf env names cs)
  | [], cs, _ => by rw [List.forIn_nil]; rfl
  | (n, k) :: r, cs, h => by
    rw [List.forIn_cons, hf]
    have hr : ∀ y ∈ r, y.2 = .free → ∃ a, env.cells.lookup y.1 = some a := fun y hy => h y (List.mem_cons_of_mem _ hy)
    unfold closOf
    by_cases hk : (k == NameKind.free) = true
    · rw [if_pos hk, if_pos hk]
      obtain ⟨a, e⟩ := h (n, k) List.mem_cons_self (by simpa using hk)
      have e' : cellOf env n = pure a := by unfold cellOf; rw [e]
      rw [e', e]
      simp only [pure_bind, Option.getD_some]
      exact clos_run f hf r _ hr
    · rw [if_neg hk, if_neg hk]
      simp only [pure_bind]
      exact clos_run f hf r _ hr
theorem clos_eq {env : Env} {scope : Scope} (h : ∀ y ∈ scope.names, y.2 = .free → ∃ a, env.cells.lookup y.1 = some a) : closureFor scope env = pure (closOf env scope.names []) := by
  have e := clos_run (env := env) (fun (x : Str × NameKind) (cs : List (Str × Addr)) => if (x.2 == NameKind.free) = true then (do let a ← cellOf env x.1; pure (.yield ((x.1, a) :: cs))) else pure (.yield cs)) (fun n k cs => rfl) scope.names [] h
  unfold closureFor
  exact (congrArg (fun z => z >>= fun q => pure q) e).trans (by simp)
theorem clos_of {env : Env} {x : Str} {c : Addr} : ∀ (names : List (Str × NameKind)) (cs : List (Str × Addr)), (∀ y ∈ names, y.2 = .free → ∃ a, env.cells.lookup y.1 = some a) →
    (closOf env names cs).lookup x = some c → cs.lookup x = some c ∨ env.cells.lookup x = some c
  | [], cs, _, h => .inl h
  | (n, k) :: r, cs, hh, h => by
    have hr : ∀ y ∈ r, y.2 = .free → ∃ a, env.cells.lookup y.1 = some a := fun y hy => hh y (List.mem_cons_of_mem _ hy)
    unfold closOf at h
    by_cases hk : (k == NameKind.free) = true
    · rw [if_pos hk] at h
      obtain ⟨a, e⟩ := hh (n, k) List.mem_cons_self (by simpa using hk)
      rcases clos_of r _ hr h with q | q
      · rw [e, Option.getD_some, List.lookup_cons] at q
        cases hx : x == n with
        | true =>
          rw [hx] at q
          have : x = n := by simpa using hx
          subst this
          exact .inr (by cases q; exact e)
        | false => rw [hx] at q; exact .inl q
      · exact .inr q
    · rw [if_neg hk] at h
      exact clos_of r cs hr h
theorem clos_has {env : Env} {x : Str} : ∀ (names : List (Str × NameKind)) (cs : List (Str × Addr)), names.lookup x = some .free ∨ (cs.lookup x).isSome = true → ((closOf env names cs).lookup x).isSome = true
  | [], cs, h => h.elim (fun e => by cases e) id
  | (n, k) :: r, cs, h => by
    unfold closOf
    by_cases hk : (k == NameKind.free) = true
    · rw [if_pos hk]
      refine clos_has r _ ?_
      cases hx : x == n with
      | true => right; rw [List.lookup_cons, hx]; rfl
      | false =>
        rw [List.lookup_cons, hx] at h
        rw [List.lookup_cons, hx]
        exact h
    · rw [if_neg hk]
      refine clos_has r _ ?_
      cases hx : x == n with
      | true =>
        rw [List.lookup_cons, hx] at h
        rcases h with h | h
        · cases h; exact absurd rfl hk
        · exact .inr h
      | false => rw [List.lookup_cons, hx] at h; exact h
theorem cf_out {x : Str} : ∀ (names : List (Str × NameKind)) (n : Nat) (acc : List (Str × Addr)), (∀ y ∈ names, y.1 = x → y.2 ≠ .cell) → (cellsFrom n names acc).lookup x = acc.lookup x
  | [], _, _, _ => rfl
  | (y, k) :: r, n, acc, h => by
    have hr : ∀ z ∈ r, z.1 = x → z.2 ≠ .cell := fun z hz => h z (List.mem_cons_of_mem _ hz)
    unfold cellsFrom
    by_cases hk : (k == NameKind.cell) = true
    · rw [if_pos hk, cf_out r _ _ hr, List.lookup_cons]
      have : y ≠ x := fun e => h (y, k) List.mem_cons_self e (by simpa using hk)
      rw [show (x == y) = false from by simpa using Ne.symm this]
    · rw [if_neg hk]
      exact cf_out r _ _ hr
theorem cf_cell {x : Str} {c : Addr} : ∀ (names : List (Str × NameKind)) (h : Heap) (acc : List (Str × Addr)), (∀ y b, acc.lookup y = some b → ∃ v, h.IsCell b v) → (cellsFrom h.objs.size names acc).lookup x = some c →
    (∃ v, (pushCells h names).IsCell c v) ∧ (acc.lookup x = some c ∨ h.objs.size ≤ c)
  | [], h, acc, hc, e => ⟨hc _ _ e, .inl e⟩
  | (y, k) :: r, h, acc, hc, e => by
    unfold cellsFrom at e
    unfold pushCells
    by_cases hk : (k == NameKind.cell) = true
    · rw [if_pos hk] at e ⊢
      have hz : (h.push { cls := .type "cell", data := .cell none }).objs.size = h.objs.size + 1 := Heap.size_push ..
      rw [← hz] at e
      obtain ⟨q1, q2⟩ := cf_cell r (h.push { cls := .type "cell", data := .cell none }) ((y, h.objs.size) :: acc) (fun z b q => by
        rw [List.lookup_cons] at q
        cases hx : z == y with
        | true => rw [hx] at q; cases q; exact ⟨none, _, Heap.get?_push_size _ rfl, rfl⟩
        | false =>
          rw [hx] at q
          obtain ⟨v, o, q1, q2⟩ := hc z b q
          exact ⟨v, o, Heap.get?_push_of_some _ q1, q2⟩) e
      refine ⟨q1, ?_⟩
      rcases q2 with q2 | q2
      · rw [List.lookup_cons] at q2
        cases hx : x == y with
        | true => rw [hx] at q2; cases q2; exact .inr (Nat.le_refl _)
        | false => rw [hx] at q2; exact .inl q2
      · exact .inr (by rw [hz] at q2; omega)
    · rw [if_neg hk] at e ⊢
      exact cf_cell r h acc hc e
theorem cf_inj : ∀ (names : List (Str × NameKind)) (n : Nat) (acc : List (Str × Addr)), (∀ x y c, acc.lookup x = some c → acc.lookup y = some c → x = y) → (∀ x c, acc.lookup x = some c → c < n) →
    ∀ x y c, (cellsFrom n names acc).lookup x = some c → (cellsFrom n names acc).lookup y = some c → x = y
  | [], _, _, hi, _ => hi
  | (z, k) :: r, n, acc, hi, hl => by
    unfold cellsFrom
    by_cases hk : (k == NameKind.cell) = true
    · rw [if_pos hk]
      refine cf_inj r (n + 1) ((z, n) :: acc) (fun x y c e1 e2 => ?_) (fun x c e => ?_)
      · rw [List.lookup_cons] at e1 e2
        cases hx : x == z <;> cases hy : y == z <;> rw [hx] at e1 <;> rw [hy] at e2
        · exact hi x y c e1 e2
        · cases e2; exact absurd (hl _ _ e1) (Nat.lt_irrefl _)
        · cases e1; exact absurd (hl _ _ e2) (Nat.lt_irrefl _)
        · rw [show x = z by simpa using hx, show y = z by simpa using hy]
      · rw [List.lookup_cons] at e
        cases hx : x == z <;> rw [hx] at e
        · exact Nat.lt_succ_of_lt (hl _ _ e)
        · cases e; exact Nat.lt_succ_self _
    · rw [if_neg hk]
      exact cf_inj r n acc hi hl
theorem relab_of {env : Env} {x : Str} {k : NameKind} : ∀ (names : List (Str × NameKind)), (names.map fun (n, k) => if (k == NameKind.free && env.scope.kind == .function && env.kindOf n == some .cell) then (n, NameKind.cell) else (n, k)).lookup x = some k →
    names.lookup x = some k ∨ (k = .cell ∧ names.lookup x = some .free)
  | [], h => by cases h
  | (n, k') :: r, h => by
    rw [List.map_cons] at h
    by_cases hc : (k' == NameKind.free && env.scope.kind == .function && env.kindOf n == some .cell) = true
    · simp only [hc, if_true] at h
      rw [List.lookup_cons] at h ⊢
      cases hx : x == n with
      | true =>
        rw [hx] at h; cases h
        have : k' = .free := by
          simp only [Bool.and_eq_true, beq_iff_eq] at hc
          exact hc.1.1
        subst this
        exact .inr ⟨rfl, rfl⟩
      | false => rw [hx] at h; exact relab_of r h
    · simp only [hc, Bool.false_eq_true, if_false] at h
      rw [List.lookup_cons] at h ⊢
      cases hx : x == n with
      | true => rw [hx] at h; exact .inl h
      | false => rw [hx] at h; exact relab_of r h
theorem relab_free {env : Env} {x : Str} : ∀ (names : List (Str × NameKind)), names.lookup x = some .free →
    (names.map fun (n, k) => if (k == NameKind.free && env.scope.kind == .function && env.kindOf n == some .cell) then (n, NameKind.cell) else (n, k)).lookup x = some .cell ∨
    (names.map fun (n, k) => if (k == NameKind.free && env.scope.kind == .function && env.kindOf n == some .cell) then (n, NameKind.cell) else (n, k)).lookup x = some .free
  | [], h => by cases h
  | (n, k') :: r, h => by
    rw [List.map_cons]
    rw [List.lookup_cons] at h
    by_cases hc : (k' == NameKind.free && env.scope.kind == .function && env.kindOf n == some .cell) = true
    · simp only [hc, if_true]
      rw [List.lookup_cons]
      cases hx : x == n with
      | true => left; rfl
      | false => rw [hx] at h; exact relab_free r h
    · simp only [hc]
      cases hx : x == n with
      | true => rw [hx] at h; right; exact (by simp [List.lookup_cons, hx]; exact Option.some.inj h)
      | false =>
        rw [hx] at h
        simpa [List.lookup_cons, hx] using relab_free r h
def cxC (X : Cx) (N : List Str) (scope : Scope) (s : Shared) (H : Hp) (fp : List Addr) : Cx :=
  { X with
    N := N
    s₀ := s
    H₀ := H
    env := compEnvC scope (cellsFrom (s.heap.objs.size + 2) scope.names (closOf X.env scope.names [])) (s.heap.objs.size + 1) X.env
    outer := X.stack
    ex := fp
    fn := fun x => scope.names.lookup x == some .cell
    pn := []
    xe := fun _ _ => False }
section
variable {X : Cx} {pins : List (Addr × Obj)} {σ : L2.St} {H : Hp} {s : Shared}
def FreeOk (X : Cx) (scope : Scope) : Prop := ∀ y ∈ scope.names, y.2 = .free → X.env.kindOf y.1 = some .cell ∨ X.env.kindOf y.1 = some .free
theorem inv_comp {N : List Str} {scope : Scope} {fp : List Addr} {σ0 : L2.St} (I : L2.Inv X pins σ H s) (hf : ∀ b ∈ fp, FpOk X pins H b) (ho : ∀ b ∈ fp, ∃ o, s.heap.get? b = some o) (hk : scope.kind = .function) (hfr : FreeOk X scope)
    (hl : σ0.length = N.length) (hσ : ∀ (i : Nat) (v : V), σ0[i]? = some (some v) → ∃ (x : Str) (j : Nat), N[i]? = some x ∧ scope.names.lookup x = some .free ∧ (∀ y ∈ scope.names, y.1 = x → y.2 ≠ .cell) ∧ X.N[j]? = some x ∧ σ[j]? = some (some v) ∧ Vis X.env.scope x) (t : Nat) (oD : Obj) :
    L2.Inv (cxC X N scope s H fp) [] σ0 H { s with heap := pushCells ((s.heap.push oD).push { cls := .type "dict", data := .dict #[] }) scope.names, toks := t } := by
  have hz1 : (s.heap.push oD).objs.size = s.heap.objs.size + 1 := Heap.size_push ..
  have hz : ((s.heap.push oD).push { cls := .type "dict", data := .dict #[] }).objs.size = s.heap.objs.size + 2 := by rw [Heap.size_push, hz1]
  have up : ∀ b o, s.heap.get? b = some o → (pushCells ((s.heap.push oD).push { cls := .type "dict", data := .dict #[] }) scope.names).get? b = some o := fun b o e => pushCells_keeps _ _ b o (Heap.get?_push_of_some _ (Heap.get?_push_of_some _ e))
  have hcl : ∀ y ∈ scope.names, y.2 = .free → ∃ a, X.env.cells.lookup y.1 = some a := fun y hy e => I.ok.has _ (hfr y hy e)
  have cl1 : ∀ y b, (closOf X.env scope.names []).lookup y = some b → X.env.cells.lookup y = some b := fun y b e => by
    rcases clos_of _ _ hcl e with q | q
    · cases q
    · exact q
  have cl2 : ∀ y b, (closOf X.env scope.names []).lookup y = some b → b < s.heap.objs.size := fun y b e => by
    obtain ⟨v, q⟩ := I.cell y b (cl1 y b e); exact q.lt
  have cc : ∀ y b, (cellsFrom (s.heap.objs.size + 2) scope.names (closOf X.env scope.names [])).lookup y = some b →
      (∃ v, (pushCells ((s.heap.push oD).push { cls := .type "dict", data := .dict #[] }) scope.names).IsCell b v) ∧ (X.env.cells.lookup y = some b ∧ b < s.heap.objs.size ∨ s.heap.objs.size + 2 ≤ b) := fun y b e => by
    rw [← hz] at e
    obtain ⟨q1, q2⟩ := cf_cell scope.names ((s.heap.push oD).push { cls := .type "dict", data := .dict #[] }) _ (fun z c q => by
      obtain ⟨v, o, q1, q2⟩ := I.cell z c (cl1 z c q)
      exact ⟨v, o, Heap.get?_push_of_some _ (Heap.get?_push_of_some _ q1), q2⟩) e
    refine ⟨q1, ?_⟩
    rcases q2 with q2 | q2
    · exact .inl ⟨cl1 _ _ q2, cl2 _ _ q2⟩
    · rw [hz] at q2; exact .inr q2
  have hlt := I.lt
  refine ⟨⟨I.ok.mod, hk, I.ok.glob, I.ok.blt, Nat.le_succ _, ?_, ?_, ?_, I.ok.hd, I.ok.frames, .inl rfl, ?_, I.bs, Nat.le_trans I.ok.bsz I.sz, ?_, ?_, I.stack, I.stkFree⟩, rfl, I.bare, Un.kept up, ?_, ?_, ?_, ?_, ?_, I.hok.kept up, hl⟩
  · exact cf_inj _ _ _ (fun x y c e1 e2 => I.ok.inj x y c (cl1 _ _ e1) (cl1 _ _ e2)) (fun x c e => Nat.lt_of_lt_of_le (cl2 x c e) (Nat.le_add_right _ 2))
  · intro x hx
    have hx : (relabel scope X.env).names.lookup x = some .cell ∨ (relabel scope X.env).names.lookup x = some .free := hx
    have : ((cellsFrom (s.heap.objs.size + 2) scope.names (closOf X.env scope.names [])).lookup x).isSome = true := by
      refine PySem.W.cellsFrom_some _ _ _ ?_
      rcases hx with hx | hx
      · rcases relab_of _ hx with q | ⟨_, q⟩
        · exact .inl q
        · exact .inr (clos_has _ _ (.inl q))
      · rcases relab_of _ hx with q | ⟨q, _⟩
        · exact .inr (clos_has _ _ (.inl q))
        · cases q
    exact Option.isSome_iff_exists.mp this
  · intro x c hfn e
    rcases (cc x c e).2 with ⟨q, q'⟩ | q
    · exfalso
      have hfn : scope.names.lookup x = some .cell := by simpa [cxC] using hfn
      -- own names' cells are new
      have : ∀ (names : List (Str × NameKind)) (n : Nat) (acc : List (Str × Addr)), names.lookup x = some .cell ∨ (∃ b, acc.lookup x = some b ∧ s.heap.objs.size ≤ b) → s.heap.objs.size ≤ n → ∀ b, (cellsFrom n names acc).lookup x = some b → s.heap.objs.size ≤ b := by
        intro names
        induction names with
        | nil =>
          intro n acc h hn b eb
          rcases h with h | ⟨b', h, hb⟩
          · cases h
          · have eb : acc.lookup x = some b := eb
            rw [h] at eb; cases eb; exact hb
        | cons p r ih =>
          obtain ⟨y, k⟩ := p
          intro n acc h hn b eb
          unfold cellsFrom at eb
          by_cases hkc : (k == NameKind.cell) = true
          · rw [if_pos hkc] at eb
            refine ih (n + 1) _ ?_ (Nat.le_succ_of_le hn) b eb
            cases hxy : x == y with
            | true => right; exact ⟨n, by rw [List.lookup_cons, hxy], hn⟩
            | false =>
              rw [List.lookup_cons, hxy] at h
              rw [List.lookup_cons, hxy]
              exact h
          · rw [if_neg hkc] at eb
            refine ih n _ ?_ hn b eb
            cases hxy : x == y with
            | true =>
              rw [List.lookup_cons, hxy] at h
              rcases h with h | h
              · cases h; exact absurd rfl hkc
              · exact .inr h
            | false => rw [List.lookup_cons, hxy] at h; exact h
      exact absurd q' (Nat.not_lt.mpr (this scope.names _ _ (.inl hfn) (Nat.le_add_right _ 2) c e))
    · exact Nat.le_trans (Nat.le_add_right _ 2) q
  · intro b hb
    have hbl : b < s.heap.objs.size := let ⟨o, e⟩ := ho b hb; Heap.lt_size e
    refine ⟨Nat.ne_of_lt (Nat.lt_succ_of_lt hbl), fun x c e => ?_⟩
    obtain ⟨f0, f1, f2, f3, f4, f5⟩ := hf b hb
    rcases (cc x c e).2 with ⟨q, _⟩ | q
    · exact f4 x c q
    · exact Nat.ne_of_gt (Nat.lt_of_lt_of_le (Nat.lt_of_lt_of_le hbl (Nat.le_add_right _ 2)) q)
  · intro b o e hb
    obtain ⟨f0, f1, f2, f3, f4, f5⟩ := hf b hb
    rcases f3 with q | q
    · exact I.ok.noex b o e q
    · exact absurd (Nat.lt_of_lt_of_le (Heap.lt_size e) (Nat.le_trans I.ok.bsz q)) (Nat.lt_irrefl _)
  · intro b hb z
    obtain ⟨f0, f1, f2, f3, f4, f5⟩ := hf b hb
    rcases List.mem_cons.mp (I.stkSub b z) with q | q
    · exact f1 q
    · exact f2 q
  · refine ⟨fun _ => none, ?_, fun i x v e1 e2 e3 => ?_⟩
    · show Heap.Ns _ (s.heap.objs.size + 1) _
      rw [← hz1]
      exact (Heap.Ns.new (s.heap.push oD) (.type "dict")).keeps (pushCells_keeps _ _)
    · obtain ⟨x', j, q1, q2, q3, q4, q5, q6⟩ := hσ i v e2
      have : x' = x := Option.some.inj (q1.symm.trans e1)
      subst this
      obtain ⟨m, hn, hlk⟩ := I.loc
      obtain ⟨u, ru, lk⟩ := hlk j x' v q4 q5 q6
      refine ⟨u, ru, .inr ⟨?_, ?_⟩⟩
      · exact relab_free _ q2
      · have hks := hfr (x', .free) (PySem.mem_of_lookup q2) rfl
        rcases lk with ⟨k, _⟩ | ⟨k, c, e, z⟩
        · rcases hks with z | z
          · rw [k] at z; cases z
          · rw [k] at z; cases z
        · refine ⟨c, ?_, z.keeps up⟩
          show (cellsFrom _ _ _).lookup x' = some c
          rw [cf_out _ _ _ q3]
          obtain ⟨b, eb⟩ := Option.isSome_iff_exists.mp (clos_has (env := X.env) scope.names [] (.inl q2))
          rw [eb, ← cl1 _ _ eb, e]
  · exact fun x c e => (cc x c e).1
  · exact I.hok.fresh (Nat.le_succ _)
  · intro x c e
    rcases (cc x c e).2 with ⟨q, _⟩ | q
    · exact I.freeC x c q
    · exact I.hok.fresh (Nat.le_trans (Nat.le_add_right _ 2) q)
  · intro p hp
    exact absurd (show p ∈ ([] : List (Addr × Obj)) from hp) (by simp)
end
end DL
set_option Elab.async false
set_option linter.all false
set_option maxRecDepth 100000
namespace DL
open PySem PySem.Spec PyProof.Rows L2
theorem newEnv_comp {M : Model} {A : Around} {E : Value → Shared → Prop} {s : Shared} {scope : Scope} {g : Addr} {cl : List (Str × Addr)} {q : Str} {env : Env} {Q : Env → Shared → Prop}
    (h : ∀ b, b = env.builtins → Q { scope := scope, locals := s.heap.objs.size, globals := g, cells := cellsFrom (s.heap.objs.size + 1) scope.names cl, qual := q, func := none, code := env.code, frame := env.frame, builtins := b }
      { s with heap := pushCells (s.heap.push { cls := .type "dict", data := .dict #[] }) scope.names }) : wpAny M A (newFunctionEnv scope g cl [] q none .none (some env)) Q E s := by
  simp only [newFunctionEnv, Option.isSome_some, if_true]
  refine wpAny_bind (wpAny_alloc ?_)
  refine wpAny_bind (wpAny_layCells _ (fun n k cells => by cases hkc : k == NameKind.cell <;> simp [hkc]) _ _ _ _ ?_)
  rw [show ({ s with heap := s.heap.push { cls := .type "dict", data := .dict #[] } } : Shared).heap.objs.size = s.heap.objs.size + 1 from Heap.size_push ..]
  rw [List.forIn_nil]
  exact wpAny_bind (wpAny_pure (wpAny_pure (h _ rfl)))
theorem Un_more {fs ex : List Addr} {H H' : Hp} {h h' : Heap} {D : Addr} {o : HO} (u : Un fs ex H H' h h') (hn : H D = none) (hh : h.get? D = none) : Un fs ex H (upd H' D o) h h' where
  keep := u.keep
  slot := u.slot
  free := fun b ob q n hx => by
    rw [upd_ne (fun z => by rw [z, hh] at q; cases q)]; exact u.free b ob q n hx
  there := u.there
  tups := fun b xs q => by rw [upd_ne (ne_of_none q hn)]; exact u.tups b xs q
  frzs := fun b ob xs q => by rw [upd_ne (ne_of_none q hn)]; exact u.frzs b ob xs q
  tbls := fun b ps q => by rw [upd_ne (ne_of_none q hn)]; exact u.tbls b ps q
theorem HOk_more {P : Program} {w : World} {H : Hp} {h : Heap} {D : Addr} {o : HO} (x : HOk P w H h) (hn : H D = none) (new : ObjOk P w (upd H D o) h D o) : HOk P w (upd H D o) h := fun b u e => by
  by_cases hb : b = D
  · subst hb
    rw [upd_same] at e
    cases e
    exact new
  · rw [upd_ne hb] at e
    refine (x b u e).stay (fun c v _ q => q) (fun c q => ?_) fun c xs q => ?_
    · rw [upd_ne (ne_of_none q hn)]; exact q
    · rw [upd_ne (ne_of_none q hn)]; exact q
theorem compLoop_any {prog : Program} {w : World} {A : Around} {R : Result → Shared → Prop} {elt tg iter : Expr} {ifs : List Expr} {scope : Scope} {pos : Pos} {it acc : Value} {env : Env} (V : Nat → Shared → Prop)
    (turn : ∀ (n : Nat) (s : Shared) (F : Value → Shared → Prop), V n s → wpAny (model prog w) A (pyNext it) (fun r s1 => match r with
      | none => R (.ok .next) s1
      | some v => wpAny (model prog w) A (letOwnedTupleGo tg it v) (fun _ s2 => wpAny (model prog w) A (assign tg env v) (fun _ s3 =>
          wpAny (model prog w) A (compTests ifs env) (fun ok s4 => if ok = true then wpAny (model prog w) A (eval elt env) (fun x s5 => wpAny (model prog w) A (call (.builtin "list.append") [acc, x]) (fun _ s6 => ∃ m, m < n ∧ V m s6) F s5) F s4
            else ∃ m, m < n ∧ V m s4) F s3) F s2) F s1) F s) :
    ∀ (n : Nat) (s : Shared), V n s → codeAny (model prog w) A (.compLoop (.ListComp elt [⟨tg, iter, ifs, 0⟩] scope pos) 0 it acc env) R s := fun n s h => by
  refine codeAny_loop rfl V (fun n s hV => ?_) n h
  refine wpAny_noted ?_
  rw [compTurn_list]
  refine wpAny_bind (wpAny_standAt (wpAny_bind (thn (turn n s _ hV) fun r s1 h1 => ?_)))
  cases r with
  | none => exact wpAny_pure h1
  | some v =>
    refine wpAny_bind (thn h1 fun _ s2 h2 => wpAny_bind (thn h2 fun _ s3 h3 => ?_))
    have h3 : wpAny (model prog w) A (compTests ifs env) _ _ s3 := h3
    unfold compTests at h3
    rw [show ∀ x : Sem Bool, (x >>= fun q => pure q) = x from fun x => bind_pure x] at h3
    refine wpAny_bind (thn h3 fun ok s4 h4 => ?_)
    cases ok with
    | false => exact wpAny_pure ⟨rfl, h4⟩
    | true => exact wpAny_bind (wpAny_bind (thn h4 fun x s5 h5 => wpAny_bind (thn h5 fun _ s6 h6 => wpAny_pure (wpAny_pure ⟨rfl, h6⟩))))
abbrev lstO (ys : List Value) : Obj := { cls := .type "list", data := .seq ys.toArray ys.length }
def Kept (X : Cx) (ρ : Rho) (O : Sto) (elt : Expr) : List Expr → Option D → Prop
  | [], z => ∃ y, z = some y ∧ EvP X ρ O elt y
  | [c], z => ∃ k, EvT X ρ O c k ∧ (k = true → ∃ y, z = some y ∧ EvP X ρ O elt y) ∧ (k = false → z = none)
  | _, _ => False
theorem EnvR.weak {K : PySem.W.Frag} {G : Wd} {σ : L2.St} {ρ ρ' : Rho} (h : EnvR K G σ ρ) (hl : ρ'.length = ρ.length) (hs : ∀ (i : Nat) (d : D), ρ'[i]? = some (some d) → ρ[i]? = some (some d)) : EnvR K G σ ρ' :=
  ⟨h.len.trans hl.symm, fun i d e => h.get i d (hs i d e)⟩
theorem ex_list {α : Type} (P : Nat → α → Prop) : ∀ n : Nat, (∀ i, i < n → ∃ a, P i a) → ∃ l : List α, l.length = n ∧ ∀ i a, l[i]? = some a → P i a
  | 0, _ => ⟨[], rfl, fun i a h => by simp at h⟩
  | n + 1, h => by
    obtain ⟨l, h1, h2⟩ := ex_list P n fun i hi => h i (Nat.lt_succ_of_lt hi)
    obtain ⟨a, ha⟩ := h n (Nat.lt_succ_self _)
    refine ⟨l ++ [a], by simp [h1], fun i b hb => ?_⟩
    by_cases hi : i < n
    · rw [List.getElem?_append_left (by omega)] at hb; exact h2 i b hb
    · have hin : i = n := by
        have := (List.getElem?_eq_some_iff.mp hb).1
        simp [h1] at this; omega
      subst hin
      rw [List.getElem?_append_right (by omega), h1, Nat.sub_self] at hb
      cases hb; exact ha
section
variable {X : Cx} {ρ : Rho} {O : Sto} {elt tg iter : Expr} {ifs : List Expr} {scope : Scope} {pos : Pos} {xs : List D} {zs : List (Option D)}
theorem fm_take {α : Type} : ∀ (zs : List (Option α)) (i : Nat) (z : Option α), zs[i]? = some z → (zs.take (i + 1)).filterMap id = (zs.take i).filterMap id ++ z.toList := by
  intro zs i z h
  rw [List.take_add_one, h, List.filterMap_append]
  cases z <;> rfl
theorem comp_core (N : List Str) (js : List Nat) (ρ0 : Rho) (hi : EvI X ρ O tg iter xs) (hc : X.calm = true) (hk : scope.kind = .function) (hfr : FreeOk X scope) (hnm : ∀ x ∈ scope.names, x.2 = .local → scope.names.lookup x.1 = some .local)
    (hl0 : ρ0.length = N.length)
    (h0 : ∀ (i : Nat) (d : D), ρ0[i]? = some (some d) → ∃ (x : Str) (j : Nat), N[i]? = some x ∧ scope.names.lookup x = some .free ∧ (∀ y ∈ scope.names, y.1 = x → y.2 ≠ .cell) ∧ X.N[j]? = some x ∧ ρ[j]? = some (some d) ∧ Vis X.env.scope x)
    (hzl : zs.length = xs.length) (hsz : xs.length ≤ sizeLine)
    (turn : ∀ (s : Shared) (H : Hp) (fp : List Addr) (i : Nat) (x : D) (z : Option D), xs[i]? = some x → zs[i]? = some z → ∃ ρ1, Tg (cxC X N scope s H fp) tg x ρ0 ρ1 ∧ ρ1.length = ρ0.length ∧ (∀ (j : Nat) (d : D), ρ0[j]? = some (some d) → ρ1[j]? = some (some d)) ∧ Kept (cxC X N scope s H fp) ρ1 O elt ifs z)
    {use : Option (Value → Sem Unit)} {pins : List (Addr × Obj)} {s : Shared} {σ : L2.St} {H : Hp} {G : Wd} {Q : Value → Shared → Prop} (I : L2.Inv X pins σ H s) (sa : SA X.K G H O) (en : EnvR X.K G σ ρ)
    (fin : ∀ (D C : Addr) (s' : Shared) (H' : Hp) (G' : Wd), L2.Inv X pins σ H' s' → Ext G G' → SA X.K G' H' O → Is X.K G' (.lst (zs.filterMap id)) (.ref D) → FpOk X pins H' C → (∃ m, s'.heap.Ns C m) → compPost (model X.prog X.w) X.A X.xe use Q (.ref D) C (.ok .next) s')
    (hs : ∀ x, foldedSetIterable iter X.env x = pure x := by intro _; rfl) :
    wpAny (model X.prog X.w) X.A (comprehension (.ListComp elt [⟨tg, iter, ifs, 0⟩] scope pos) scope X.env (firstIterPos [⟨tg, iter, ifs, 0⟩] pos) (newList []) false (eval iter X.env) use) Q X.xe s := by
  refine wpAny_comprehension_free rfl hs (clos_eq fun y hy e => I.ok.has _ (hfr y hy e)) hk hnm (thn (hi G pins s σ H (fun J H1 => ∃ G1, Ext G G1 ∧ SA X.K G1 H1 O ∧ Yields X.K G1 J xs) I ⟨sa, en, fun J G1 H1 e1 s1 y1 => ⟨G1, e1, s1, y1⟩⟩) fun v s1 h1 => thn h1 fun itv s2 h2 => ?_)
  obtain ⟨it, fp, tn, J, H2, e, I2, T, st2, f2, G2, e2, sa2, Yi⟩ := h2
  subst e
  have ho2 : ∀ b ∈ fp, ∃ o, s2.heap.get? b = some o := fun b hb => let ⟨o, q, _⟩ := T.obj 0 _ st2 b hb; ⟨o, q⟩
  have hlt : ∀ b ∈ fp, b < s2.heap.objs.size := fun b hb => let ⟨o, q⟩ := ho2 b hb; Heap.lt_size q
  unfold newList
  refine wpAny_newObj_type (newEnv_comp fun bb hbb => ?_)
  have hbb' : bb = X.env.builtins := hbb
  subst hbb'
  have hz1 : (s2.heap.push { cls := .type "list", dict := none, data := .seq ([] : List Value).toArray }).objs.size = s2.heap.objs.size + 1 := Heap.size_push ..
  dsimp only
  rw [hz1]
  generalize hD : s2.heap.objs.size = dd at hz1 ⊢
  -- the block's own context
  have en2 : EnvR X.K G2 σ ρ := en.ext e2
  obtain ⟨σ0, hσl, hσ0⟩ := ex_list (fun i (o : Option V) => (∀ d, ρ0[i]? = some (some d) → ∃ v, o = some v ∧ Is X.K G2 d v) ∧ ∀ v, o = some v → ∃ (x : Str) (j : Nat), N[i]? = some x ∧ scope.names.lookup x = some .free ∧ (∀ y ∈ scope.names, y.1 = x → y.2 ≠ .cell) ∧ X.N[j]? = some x ∧ σ[j]? = some (some v) ∧ Vis X.env.scope x) N.length (fun i hi => by
    cases q : ρ0[i]? with
    | none => exact ⟨none, And.intro (fun d z => nomatch z) (fun v z => nomatch z)⟩
    | some o =>
      cases o with
      | none => exact ⟨none, And.intro (fun d z => nomatch z) (fun v z => nomatch z)⟩
      | some d =>
        obtain ⟨x, j, q1, q2, q3, q4, q5, q6⟩ := h0 i d q
        obtain ⟨v, q7, q8⟩ := en2.get j d q5
        exact ⟨some v, And.intro (fun d' z => by cases z; exact ⟨v, rfl, q8⟩) (fun v' z => by cases z; exact ⟨x, j, q1, q2, q3, q4, q7, q6⟩)⟩)
  have en0 : EnvR X.K G2 σ0 ρ0 := ⟨hσl.trans hl0.symm, fun i d e => by
    have hi : i < σ0.length := by rw [hσl, ← hl0]; exact (List.getElem?_eq_some_iff.mp e).1
    obtain ⟨v, e1, e2⟩ := (hσ0 i σ0[i] (List.getElem?_eq_getElem hi)).1 d e
    exact ⟨v, by rw [List.getElem?_eq_getElem hi, e1], e2⟩⟩
  have I3 := inv_comp (N := N) (scope := scope) (fp := fp) (σ0 := σ0) I2 f2 ho2 hk hfr hσl (fun i v e => (hσ0 i _ e).2 v rfl) s2.toks { cls := .type "list", dict := none, data := .seq ([] : List Value).toArray }
  generalize hY : cxC X N scope s2 H2 fp = Y at I3
  have hD1 : (pushCells ((s2.heap.push { cls := .type "list", dict := none, data := .seq ([] : List Value).toArray }).push { cls := .type "dict", data := .dict #[] }) scope.names).get? dd = some (lstO []) := by
    refine pushCells_keeps _ _ _ _ (Heap.get?_push_of_some _ ?_)
    rw [← hD]
    exact Heap.get?_push_size _ rfl
  have hHD : H2 dd = none := I2.hok.fresh (by rw [hD]; exact Nat.le_refl _)
  have hsD : s2.heap.get? dd = none := Heap.get?_none_of_le (by rw [hD]; exact Nat.le_refl _)
  have hDC : dd ≠ Y.env.locals := by
    rw [← hY]; show dd ≠ s2.heap.objs.size + 1; rw [hD]; exact Nat.ne_of_lt (Nat.lt_succ_self _)
  have hfs : ∀ b ∈ frs X.stack, b < s2.heap.objs.size := fun b hb => by
    rcases List.mem_cons.mp (I2.stkSub b hb) with q | q
    · rw [q]; exact I2.lt
    · exact Nat.lt_of_not_le fun z => I2.nofs z q
  have hYfs : Y.fs = frs X.stack := by rw [← hY]; rfl
  have hDfs : dd ∉ Y.fs := fun z => by rw [hYfs] at z; have := hfs dd z; rw [hD] at this; exact Nat.lt_irrefl _ this
  have hYex : Y.ex = fp := by rw [← hY]; rfl
  have hYpn : Y.pn = [] := by rw [← hY]; rfl
  have hYxe : Y.xe = fun _ _ => False := by rw [← hY]; rfl
  have hYs : Y.s₀.heap.objs.size = dd := by rw [← hY]; exact hD
  have hYc : ∀ x c, Y.env.cells.lookup x = some c → c ≠ dd ∧ ∀ b ∈ fp, c ≠ b := fun x c e => by
    refine ⟨?_, fun b hb => ?_⟩
    · intro z
      subst z
      obtain ⟨v, o, q1, q2⟩ := I3.cell x c e
      rw [hD1] at q1; cases q1; cases q2
    · have := I3.ok.exf b (by rw [hYex]; exact hb)
      exact this.2 x c e
  have fpY : ∀ {H' : Hp} {pl : List (Addr × Obj)}, (∀ b ∈ fp, H' b = none) → (∀ p ∈ pl, p.1 = dd) → ∀ b ∈ fp, FpOk Y pl H' b := fun hn hp b hb => ⟨hn b hb, (I3.ok.exf b (by rw [hYex]; exact hb)).1, I3.ok.exfs b (by rw [hYex]; exact hb), .inl (by rw [hYex]; exact hb), fun x c e => (hYc x c e).2 b hb, fun p hq => by
    rw [hYpn, List.nil_append] at hq
    rw [hp p hq]
    exact Nat.ne_of_gt (by rw [← hD]; exact hlt b hb)⟩
  have I4 : L2.Inv Y [(dd, lstO [])] σ0 H2 { s2 with heap := pushCells ((s2.heap.push { cls := .type "list", dict := none, data := .seq ([] : List Value).toArray }).push { cls := .type "dict", data := .dict #[] }) scope.names, toks := s2.toks } := I3.pins_of fun p hp => by
    rw [List.mem_singleton.mp hp]
    exact ⟨hD1, hHD, hDC, hDfs, fun v z => by cases z⟩
  have st4 : tn 0 (pushCells ((s2.heap.push { cls := .type "list", dict := none, data := .seq ([] : List Value).toArray }).push { cls := .type "dict", data := .dict #[] }) scope.names) := T.keep 0 _ _ st2 fun b hb o e => pushCells_keeps _ _ b o (Heap.get?_push_of_some _ (Heap.get?_push_of_some _ e))
  have hYp : Y.prog = X.prog := by rw [← hY]; rfl
  have hYw : Y.w = X.w := by rw [← hY]; rfl
  have hYK : Y.K = X.K := by rw [← hY]; rfl
  have hYA : Y.A = X.A := by rw [← hY]; rfl
  have hYcm : Y.calm = true := by rw [← hY]; exact hc
  have loop : ∀ s3 : Shared, s3 = { s2 with heap := pushCells ((s2.heap.push { cls := .type "list", dict := none, data := .seq ([] : List Value).toArray }).push { cls := .type "dict", data := .dict #[] }) scope.names } →
      codeAny (model X.prog X.w) X.A (.compLoop (.ListComp elt [⟨tg, iter, ifs, 0⟩] scope pos) 0 (.ref it) (.ref dd) Y.env) (compPost (model X.prog X.w) X.A X.xe use Q (.ref dd) (dd + 1)) s3 := by
    rintro s3 rfl
    refine compLoop_any (fun n s' => ∃ (i : Nat) (G' : Wd) (σ' : L2.St) (H' : Hp) (vs : List V) (its : List Value), n = xs.length - i ∧ i ≤ xs.length ∧ L2.Inv Y [(dd, lstO its)] σ' H' s' ∧ tn i s'.heap ∧ (∀ b ∈ fp, H' b = none) ∧ Ext G2 G' ∧ SA X.K G' H' O ∧ EnvR X.K G' σ' ρ0 ∧
      Iss X.K G' ((zs.take i).filterMap id) vs ∧ Vals vs its ∧ its.length ≤ i) ?_ xs.length _ ⟨0, G2, σ0, H2, [], [], rfl, Nat.zero_le _, I4, st4, fun b hb => (f2 b hb).1, Ext.refl _, sa2, en0, .nil, .nil, Nat.le_refl _⟩
    rintro n s5 F ⟨i, G5, σ5, H5, vs, its, rfl, hil, I5, st5, fr5, e5, sa5, en5, is5, va5, hl5⟩
    by_cases hlt5 : i < xs.length
    · have hx : xs[i]? = some xs[i] := List.getElem?_eq_getElem hlt5
      have hzi : i < zs.length := by omega
      have hz : zs[i]? = some zs[i] := List.getElem?_eq_getElem hzi
      generalize xs[i] = x at hx
      generalize zs[i] = z at hz
      have it5 := T.item Y hYp hYw hYK hYcm i [(dd, lstO its)] s5 σ5 H5 F I5 (fpY fr5 (fun p hp => by rw [List.mem_singleton.mp hp])) st5 (Yi.go i H5 (e5.g.trans sa5.sub) hlt5)
      rw [hYA] at it5
      refine thn it5 fun r s6 ⟨u, hr, h6⟩ => ?_
      subst hr
      refine thn h6 fun _ s7 ⟨xv, H7, I7, r7, y7, st7, fr7⟩ => ?_
      obtain ⟨x', G7, hx', e7, sa7, ix⟩ := Yi.yld i xv H5 H7 G5 O e5 sa5 y7 hlt5
      have : x' = x := Option.some.inj (hx'.symm.trans hx)
      subst this
      have I7' := I7.pinned (fpY fr7 (fun p hp => by rw [List.mem_singleton.mp hp])) (T.obj _ _ st7)
      obtain ⟨ρ1, tg1, hl1, hs1, kp1⟩ := turn s2 H2 fp i x' z hx hz
      rw [hY] at tg1 kp1
      have xeF : ∀ {α : Type} {t : Sem α} {P : α → Shared → Prop} {q : Shared}, wpAny (model Y.prog Y.w) Y.A t P Y.xe q → wpAny (model X.prog X.w) X.A t P F q := fun h => by
        rw [hYp, hYw, hYA, hYxe] at h
        exact wpAny_mono h (fun _ _ q => q) fun _ _ q => q.elim
      refine thn (xeF (tg1 G7 _ s7 σ5 H7 xv u (fun σ' H' => EnvR X.K G7 σ' ρ1 ∧ H' = H7) I7' r7 (by
        rw [hYK]
        exact ⟨ix, sa7.sub, en5.ext e7, fun σ' q => ⟨q, rfl⟩⟩))) fun _ s8 ⟨σ8, H8, I8, en8, hH8⟩ => ?_
      subst hH8
      -- back to the invariant, with or without one more
      have again : ∀ {s9 : Shared} {H9 : Hp} {G9 : Wd} {its' : List Value} {vs' : List V}, L2.Inv Y ((dd, lstO its') :: pinsAt fp s7.heap) σ8 H9 s9 → Ext G7 G9 → SA X.K G9 H9 O → Iss X.K G9 ((zs.take (i + 1)).filterMap id) vs' → Vals vs' its' → its'.length ≤ i + 1 →
          ∃ m, m < xs.length - i ∧ ∃ (i : Nat) (G' : Wd) (σ' : L2.St) (H' : Hp) (vs : List V) (its : List Value), m = xs.length - i ∧ i ≤ xs.length ∧ L2.Inv Y [(dd, lstO its)] σ' H' s9 ∧ tn i s9.heap ∧ (∀ b ∈ fp, H' b = none) ∧ Ext G2 G' ∧ SA X.K G' H' O ∧ EnvR X.K G' σ' ρ0 ∧
            Iss X.K G' ((zs.take i).filterMap id) vs ∧ Vals vs its ∧ its.length ≤ i := fun {s9 H9 G9 its' vs'} I9 e9 sa9 is9 va9 hl9 => by
        refine ⟨xs.length - (i + 1), by omega, i + 1, G9, σ8, H9, vs', its', rfl, hlt5, I9.pins_of (fun p hp => I9.pin p (by rw [hYpn, List.nil_append]; rw [List.mem_singleton.mp hp]; exact List.mem_cons_self)), T.keep _ _ _ st7 fun b hb o e => (I9.pin (b, o) (by rw [hYpn, List.nil_append]; exact List.mem_cons_of_mem _ (mem_pinsAt hb e))).1, fun b hb => ?_, (e5.trans e7).trans e9, sa9, (en8.weak hl1.symm hs1).ext e9, is9, va9, hl9⟩
        obtain ⟨o, e, _⟩ := T.obj _ _ st7 b hb
        exact (I9.pin (b, o) (by rw [hYpn, List.nil_append]; exact List.mem_cons_of_mem _ (mem_pinsAt hb e))).2.1
      have more : ∀ {y : D} {s9 : Shared} {G9 : Wd} {H9 : Hp}, z = some y → L2.Inv Y ([(dd, lstO its)] ++ pinsAt fp s7.heap) σ8 H9 s9 → Ext G7 G9 → SA X.K G9 H9 O → EvP Y ρ1 O elt y → wpAny (model X.prog X.w) X.A (eval elt Y.env) (fun x s5 => wpAny (model X.prog X.w) X.A (call (.builtin "list.append") [.ref dd, x]) (fun _ s6 => ∃ m, m < xs.length - i ∧ ∃ (i : Nat) (G' : Wd) (σ' : L2.St) (H' : Hp) (vs : List V) (its : List Value), m = xs.length - i ∧ i ≤ xs.length ∧ L2.Inv Y [(dd, lstO its)] σ' H' s6 ∧ tn i s6.heap ∧ (∀ b ∈ fp, H' b = none) ∧ Ext G2 G' ∧ SA X.K G' H' O ∧ EnvR X.K G' σ' ρ0 ∧
            Iss X.K G' ((zs.take i).filterMap id) vs ∧ Vals vs its ∧ its.length ≤ i) F s5) F s9 := fun {y s9 G9 H9} hzy I9 e9 sa9 ev => by
        refine thn (xeF (ev G9 _ s9 σ8 H9 (fun v H' => ∃ G', Ext G9 G' ∧ SA X.K G' H' O ∧ Is X.K G' y v) I9 (by
          rw [hYK]
          exact ⟨sa9, en8.ext e9, fun v G' H' q1 q2 q3 => ⟨G', q1, q2, q3⟩⟩))) fun uy s10 ⟨vy, H10, I10, r10, G10, e10, sa10, iy⟩ => ?_
        have p10 := I10.pin (dd, lstO its) (by rw [hYpn, List.nil_append]; exact List.mem_append_left _ List.mem_cons_self)
        refine append_at (hsz := by show its.toArray.size ≤ sizeLine; rw [List.size_toArray]; omega) p10.1 fun h' hs' hD' => ?_
        have Ia : L2.Inv Y (pinsAt fp s7.heap) σ8 H10 s10 := I10.pins_of fun p hp => I10.pin p (by rw [hYpn, List.nil_append]; exact List.mem_append_right _ hp)
        have Ib : L2.Inv Y (pinsAt fp s7.heap) σ8 H10 { s10 with heap := h' } := Ia.turned (t' := s10.toks) (fun b o hb e => (hs'.2 b hb).trans e) p10.2.1 hDC (.inr (by rw [hYs]; exact Nat.le_refl _)) (fun x c e => (hYc x c e).1) (fun p hp => by
          rw [hYpn, List.nil_append] at hp
          obtain ⟨hb, _⟩ := of_pinsAt hp
          exact Nat.ne_of_lt (by rw [← hD]; exact hlt p.1 hb))
        have Ic : L2.Inv Y ((dd, lstO (its ++ [uy])) :: pinsAt fp s7.heap) σ8 H10 { s10 with heap := h' } := Ib.pins_of fun p hp => by
          rcases List.mem_cons.mp hp with q | q
          · rw [q]
            refine ⟨hD'.trans ?_, p10.2.1, hDC, hDfs, fun v z => by cases z⟩
            congr 1
            simp [lstO]
          · exact Ib.pin p (by rw [hYpn, List.nil_append]; exact q)
        refine again Ic (e9.trans e10) sa10 (vs' := vs ++ [vy]) ?_ (va5.append (.cons r10 .nil)) (by rw [List.length_append, List.length_singleton]; omega)
        rw [fm_take zs i z hz, hzy]
        exact (is5.ext ((e7.trans e9).trans e10)).append (.cons iy .nil)
      match ifs, kp1 with
      | [], kp1 =>
        obtain ⟨y, hzy, ev⟩ := kp1
        unfold compTests
        refine wpAny_bind (wpAny_tests_nil (wpAny_pure ?_))
        simp only [if_true]
        exact more hzy I8 (Ext.refl _) sa7 ev
      | [c], kp1 =>
        obtain ⟨k, tc, ht, hff⟩ := kp1
        unfold compTests
        refine wpAny_bind (wpAny_tests_one (thn (xeF (tc G7 _ s8 σ8 H8 (fun b H' => b = k ∧ ∃ G', Ext G7 G' ∧ SA X.K G' H' O) I8 (by
          rw [hYK]
          exact ⟨sa7, en8, fun G' H' q1 q2 => ⟨rfl, G', q1, q2⟩⟩))) fun b s9 ⟨H9, I9, hb, G9, e9, sa9⟩ => wpAny_pure ?_))
        subst hb
        cases b with
        | true =>
          obtain ⟨y, hzy, ev⟩ := ht rfl
          simp only [if_true]
          exact more hzy I9 e9 sa9 ev
        | false =>
          simp only [Bool.false_eq_true, if_false]
          refine again I9 e9 sa9 (vs' := vs) ?_ va5 (Nat.le_succ_of_le hl5)
          rw [fm_take zs i z hz, hff rfl]
          simpa using is5.ext (e7.trans e9)
      | _ :: _ :: _, kp1 => exact kp1.elim
    · have hie : i = xs.length := by omega
      subst hie
      have dn := T.done Y hYp hYw hYK hYcm xs.length [(dd, lstO its)] s5 σ5 H5 F I5 (fpY fr5 (fun p hp => by rw [List.mem_singleton.mp hp])) st5 (Yi.stop _ H5 (e5.g.trans sa5.sub) (Nat.le_refl _))
      rw [hYA] at dn
      refine thn dn fun r s6 ⟨hr, I6⟩ => ?_
      subst hr
      have p6 := I6.pin (dd, lstO its) (by rw [hYpn, List.nil_append]; exact List.mem_cons_self)
      rw [← hzl, List.take_length] at is5
      have vl : vs.length ≤ sizeLine := by rw [va5.length]; omega
      have Ix : L2.Inv X pins σ (upd H5 dd (.lst vs)) s6 := by
        have un := I6.base
        rw [hYfs, hYex, ← hY] at un
        have un : Un (frs X.stack) fp H2 H5 s2.heap s6.heap := un
        refine I2.call' (ch := fp) (I6.os.trans (by rw [← hY]; rfl)) (Un_more un hHD hsD) ?_ I6.bare fun b hb => ?_
        · have hk6 := I6.hok
          rw [hYp, hYw] at hk6
          exact HOk_more hk6 p6.2.1 ⟨vl, its, its.length, va5, p6.1⟩
        · obtain ⟨_, f1, _, f3, f4, f5⟩ := f2 b hb
          exact ⟨f3, f1, f4, f5⟩
      obtain ⟨ed, sd⟩ := sa5.laid (p := dd) (o := .lst vs) p6.2.1
      refine fin dd (dd + 1) s6 _ _ Ix ((e2.trans e5).trans ed) sd (.lst upd_same (is5.ext ed)) ?_ ?_
      · have hC : dd + 1 = Y.env.locals := by rw [← hY]; show dd + 1 = s2.heap.objs.size + 1; rw [hD]
        have ge : s2.heap.objs.size ≤ dd + 1 := by rw [hD]; exact Nat.le_succ _
        have := I2.fpOk (H' := upd H5 dd (.lst vs)) ge (by
          have q := I6.free
          rw [← hC] at q
          rw [upd_ne (show dd + 1 ≠ dd from Nat.succ_ne_self _)]
          exact q)
        exact this
      · obtain ⟨m, hn, _⟩ := I6.loc
        rw [← hY] at hn
        have hn : s6.heap.Ns (s2.heap.objs.size + 1) m := hn
        rw [hD] at hn
        exact ⟨m, hn⟩
  have eY : Y.env = { scope := relabel scope X.env, locals := dd + 1, globals := X.env.globals, cells := cellsFrom (dd + 1 + 1) scope.names (closOf X.env scope.names []), qual := X.env.qual, func := none, code := X.env.code, frame := X.env.frame, builtins := X.env.builtins } := by
    rw [← hY]
    show compEnvC _ _ _ _ = _
    rw [hD]
    rfl
  rw [← eY]
  exact codeAny_compStart_list (loop _ rfl) (T.self X.A 0 _ _ _ st4 (loop _ rfl))
def freeB (XN : List Str) (xs cs : List (Str × NameKind)) (F : List Str) (js : List Nat) : Bool :=
  (js.map fun j => XN[j]?) == F.map some && (F.all fun x => cs.lookup x == some .free && (cs.all fun y => y.1 != x || y.2 != .cell) && (xs.lookup x == some .cell || xs.lookup x == some .free)) &&
  (cs.all fun y => (y.2 != .free || xs.lookup y.1 == some .cell || xs.lookup y.1 == some .free) && (y.2 != .local || cs.lookup y.1 == some .local))
def frOf (ρ : Rho) (js : List Nat) : Rho := js.map fun j => (ρ[j]?).getD none
theorem freeB_free {F : List Str} {js : List Nat} (h : freeB X.N X.env.scope.names scope.names F js = true) : FreeOk X scope := fun y hy e => by
  unfold freeB at h
  simp only [Bool.and_eq_true, List.all_eq_true] at h
  have q := (h.2 y hy).1
  rw [e] at q
  have q : (X.env.scope.names.lookup y.1 == some .cell || X.env.scope.names.lookup y.1 == some .free) = true := by simpa using q
  rcases (Bool.or_eq_true _ _).mp q with q | q
  · exact .inl (show X.env.scope.names.lookup y.1 = _ by simpa using q)
  · exact .inr (show X.env.scope.names.lookup y.1 = _ by simpa using q)
theorem freeB_loc {F : List Str} {js : List Nat} (h : freeB X.N X.env.scope.names scope.names F js = true) : ∀ x ∈ scope.names, x.2 = .local → scope.names.lookup x.1 = some .local := fun y hy e => by
  unfold freeB at h
  simp only [Bool.and_eq_true, List.all_eq_true] at h
  have q := (h.2 y hy).2
  rw [e] at q
  simpa using q
theorem freeB_at {T F : List Str} {js : List Nat} (h : freeB X.N X.env.scope.names scope.names F js = true) (i : Nat) (d : D) (e : (T.map (fun _ => (none : Option D)) ++ frOf ρ js)[i]? = some (some d)) :
    ∃ (x : Str) (j : Nat), (T ++ F)[i]? = some x ∧ scope.names.lookup x = some .free ∧ (∀ y ∈ scope.names, y.1 = x → y.2 ≠ .cell) ∧ X.N[j]? = some x ∧ ρ[j]? = some (some d) ∧ Vis X.env.scope x := by
  unfold freeB at h
  simp only [Bool.and_eq_true, List.all_eq_true, beq_iff_eq] at h
  obtain ⟨⟨h1, h2⟩, h3⟩ := h
  by_cases hi : i < T.length
  · rw [List.getElem?_append_left (by simpa using hi), List.getElem?_map] at e
    cases q : T[i]? with
    | none => rw [q] at e; cases e
    | some _ => rw [q] at e; cases e
  · rw [List.getElem?_append_right (by simpa using hi), List.length_map] at e
    unfold frOf at e
    rw [List.getElem?_map] at e
    cases q : js[i - T.length]? with
    | none => rw [q] at e; cases e
    | some j =>
      rw [q] at e
      have e : (ρ[j]?).getD none = some d := Option.some.inj e
      have hρ : ρ[j]? = some (some d) := by
        cases q2 : ρ[j]? with
        | none => rw [q2] at e; cases e
        | some o => rw [q2] at e; rw [show o = some d from e]
      have hF := congrArg (fun l => l[i - T.length]?) h1
      simp only [List.getElem?_map, q, Option.map_some] at hF
      cases qF : F[i - T.length]? with
      | none => rw [qF] at hF; cases hF
      | some x =>
        rw [qF] at hF
        have hF : X.N[j]? = some x := Option.some.inj hF
        obtain ⟨⟨g1, g2⟩, g3⟩ := h2 x (List.mem_of_getElem? qF)
        refine ⟨x, j, by rw [List.getElem?_append_right (by omega)]; exact qF, g1, fun y hy ey => ?_, hF, hρ, ?_⟩
        · have := g2 y hy
          rw [ey] at this
          simpa using this
        · rcases (Bool.or_eq_true _ _).mp g3 with g | g
          · exact .inr (.inl (by simpa using g))
          · exact .inr (.inr (by simpa using g))
theorem sub_fr {ts fr : Rho} {T : List Str} (h : ts.length = T.length) : (ts ++ fr).length = (T.map (fun _ => (none : Option D)) ++ fr).length ∧ ∀ (j : Nat) (d : D), (T.map (fun _ => (none : Option D)) ++ fr)[j]? = some (some d) → (ts ++ fr)[j]? = some (some d) := by
  refine ⟨by simp [h], fun j d e => ?_⟩
  by_cases hj : j < T.length
  · rw [List.getElem?_append_left (by simpa using hj), List.getElem?_map] at e
    cases q : T[j]? with
    | none => rw [q] at e; cases e
    | some _ => rw [q] at e; cases e
  · rw [List.getElem?_append_right (by simpa using hj), List.length_map] at e
    rw [List.getElem?_append_right (by omega), h]
    exact e
def CTurn (X : Cx) (T F : List Str) (js : List Nat) (ρ : Rho) (O : Sto) (scope : Scope) (tg elt : Expr) (ifs : List Expr) (x : D) (z : Option D) : Prop :=
  ∀ (s : Shared) (H : Hp) (fp : List Addr), ∃ ts : Rho, ts.length = T.length ∧ Tg (cxC X (T ++ F) scope s H fp) tg x (T.map (fun _ => (none : Option D)) ++ frOf ρ js) (ts ++ frOf ρ js) ∧ Kept (cxC X (T ++ F) scope s H fp) (ts ++ frOf ρ js) O elt ifs z
theorem ev_compZ (T F : List Str) (js : List Nat) (hi : EvI X ρ O tg iter xs) (hzl : zs.length = xs.length) (hsz : xs.length ≤ sizeLine) (turn : ∀ (i : Nat) (x : D) (z : Option D), xs[i]? = some x → zs[i]? = some z → CTurn X T F js ρ O scope tg elt ifs x z)
    (hfl : F.length = js.length) (hB : freeB X.N X.env.scope.names scope.names F js = true) (hc : X.calm = true) (hk : scope.kind = .function) (hs : ∀ x, foldedSetIterable iter X.env x = pure x) :
    EvP X ρ O (.ListComp elt [⟨tg, iter, ifs, 0⟩] scope pos) (.lst (zs.filterMap id)) := fun G pins s σ H Q I ⟨h1, h2, h3⟩ => by
  rw [eval_ListComp]
  refine comp_core (T ++ F) js (T.map (fun _ => (none : Option D)) ++ frOf ρ js) hi hc hk (freeB_free hB) (freeB_loc hB) (by simp [frOf, hfl]) (freeB_at hB) hzl hsz (fun s H fp i x z q1 q2 => ?_) I h1 h2 (fun dd C s' H' G' I' e' sa' is' fo ns => ?_) hs
  · obtain ⟨ts, t1, t2, t3⟩ := turn i x z q1 q2 s H fp
    obtain ⟨u1, u2⟩ := sub_fr (fr := frOf ρ js) t1
    exact ⟨_, t2, u1, u2, t3⟩
  · obtain ⟨m, hn⟩ := ns
    refine ⟨m, hn, fun h' hs' => ?_⟩
    obtain ⟨f0, f1, f2, f3, f4, f5⟩ := fo
    exact ⟨.ref dd, H', I'.turned (t' := s'.toks) (fun b o hb e => (hs'.2 b hb).trans e) f0 f1 f3 f4 f5, rfl, h3 _ G' H' e' sa' is'⟩
theorem x_setC {x : Str} {p spos : Pos} {P : Post} (k : Nat) (T F : List Str) (js : List Nat) (hi : EvI X ρ O tg iter xs) (hzl : zs.length = xs.length) (hsz : xs.length ≤ sizeLine) (turn : ∀ (i : Nat) (x : D) (z : Option D), xs[i]? = some x → zs[i]? = some z → CTurn X T F js ρ O scope tg elt ifs x z)
    (h : P.nx (ρ.set k (some (.lst (zs.filterMap id)))) O) (hN : X.N.Nodup) (hx : X.N[k]? = some x) (hlc : Loc X.env.scope x) (hf : X.fn x = true ∨ X.env.scope.names.lookup x = some .local)
    (hfl : F.length = js.length) (hB : freeB X.N X.env.scope.names scope.names F js = true) (hc : X.calm = true) (hk : scope.kind = .function) (hs : ∀ x, foldedSetIterable iter X.env x = pure x)
    (hsw : swapsWith (.ListComp elt [⟨tg, iter, ifs, 0⟩] scope pos) (some (.Name x p)) spos.line X.env = pure true) : Ex X ρ O (.Assign [.Name x p] (.ListComp elt [⟨tg, iter, ifs, 0⟩] scope pos) spos) P := fun G pins s σ H E I ⟨h1, h2, h3⟩ => by
  rw [PySem.exec_Assign_Name_used _ _ _ _ hsw]
  refine wpAny_bind (wpAny_standAt (wpAny_bind ?_))
  show wpAny _ _ (do let _ ← comprehension (.ListComp elt [⟨tg, iter, ifs, 0⟩] scope pos) scope X.env _ (newList []) false (eval iter X.env) (some (assign (.Name x p) X.env))) _ _ s
  refine wpAny_bind (thn (comp_core (use := some (assign (.Name x p) X.env)) (Q := fun _ s' => SP X pins E .next s') (T ++ F) js (T.map (fun _ => (none : Option D)) ++ frOf ρ js) hi hc hk (freeB_free hB) (freeB_loc hB) (by simp [frOf, hfl]) (freeB_at hB) hzl hsz (fun s H fp i x z q1 q2 => ?_) I h1 h2 (fun dd C s' H' G' I' e' sa' is' fo ns => ?_) hs) fun _ s' hq => wpAny_pure (wpAny_pure hq))
  · obtain ⟨ts, t1, t2, t3⟩ := turn i x z q1 q2 s H fp
    obtain ⟨u1, u2⟩ := sub_fr (fr := frOf ρ js) t1
    exact ⟨_, t2, u1, u2, t3⟩
  · obtain ⟨m, hn⟩ := ns
    obtain ⟨f0, f1, f2, f3, f4, f5⟩ := fo
    refine wpAny_assign_Name (store_ok2 I' hN hx hlc (v := .ref dd) rfl (fun s2 I2 ⟨a, sb, ha⟩ => ?_) hf)
    have hCa : C ≠ a := by
      rcases ha with q | q
      · rw [q]; exact f1
      · exact Ne.symm (f4 _ _ q)
    refine ⟨m, hn.sameBut sb hCa, fun h' hs' => ?_⟩
    exact ⟨_, H', I2.turned (t' := s2.toks) (fun b o hb e => (hs'.2 b hb).trans e) f0 f1 f3 f4 f5, h3.nx _ _ O G' H' e' sa' ((h2.ext e').set k is') h⟩
end
end DL
set_option Elab.async false
set_option linter.all false
set_option maxRecDepth 100000
namespace DL
open PySem PySem.Spec PyProof.Rows L2 PySem.W
def kRun {α : Type} (lt : Nat → Nat → Bool) : KasT α → α
  | .ret a => a
  | .ask i j k => kRun lt (k (lt i j))
section
variable (key : Nat → Int)
abbrev ltK (i j : Nat) : Bool := decide (key i < key j)
def KQ (p : Array Nat) (i : Nat) : Int := key (p.getD i 0)
def Srt (p : Array Nat) (m : Nat) : Prop := ∀ i j, i ≤ j → j < m → KQ key p i ≤ KQ key p j
end
end DL
set_option Elab.async false
set_option linter.all false
set_option maxRecDepth 100000
set_option maxHeartbeats 2000000
namespace DL
open PySem PySem.Spec PyProof.Rows L2 PySem.W
def SIt (k : Bool) (h : Heap) (it l : Addr) (i : Nat) : Prop := if k then h.IsListIter it l i else h.IsTupleIter it l i
def SSq (k : Bool) (h : Heap) (l : Addr) (xs : Array Value) : Prop := if k then h.IsList l xs else h.IsTuple l xs
section
variable {k : Bool} {h h' : Heap} {it l b : Addr} {i : Nat} {xs : Array Value}
theorem SIt.at (q : SIt k h it l i) (e : ∀ o, h.get? it = some o → h'.get? it = some o) : SIt k h' it l i := by
  cases k with
  | true => obtain ⟨o, g, r⟩ := (q : h.IsListIter it l i); exact ⟨o, e o g, r⟩
  | false => obtain ⟨o, g, r⟩ := (q : h.IsTupleIter it l i); exact ⟨o, e o g, r⟩
theorem SSq.at (q : SSq k h l xs) (e : ∀ o, h.get? l = some o → h'.get? l = some o) : SSq k h' l xs := by
  cases k with
  | true => obtain ⟨o, g, r⟩ := (q : h.IsList l xs); exact ⟨o, e o g, r⟩
  | false => obtain ⟨o, g, r⟩ := (q : h.IsTuple l xs); exact ⟨o, e o g, r⟩
theorem SIt.obj (q : SIt k h it l i) : ∃ o, h.get? it = some o ∧ ∀ v, o.data ≠ .cell v := by
  cases k with
  | true => obtain ⟨o, g, c, d⟩ := (q : h.IsListIter it l i); exact ⟨o, g, fun v z => by rw [d] at z; cases z⟩
  | false => obtain ⟨o, g, c, d⟩ := (q : h.IsTupleIter it l i); exact ⟨o, g, fun v z => by rw [d] at z; cases z⟩
end
theorem drawn_by {prog : Program} {w : World} {A : Around} {E : Value → Shared → Prop} {s : Shared} {T id : String} {b : Builtin} {v : Value} {Q : Value → Shared → Prop} (hT : s.TypeIs v T) (sl : Slot T (Str.ofString "__next__") id) (en : entryFor table id = some b) (ok : argsOk id ⟨[v], []⟩)
    (h : wpAny (model prog w) A.in1 (b ⟨[v], []⟩) (fun fin s' => ∃ x, fin = .done (.ret x) ∧ Q x s') E s) : wpAny (model prog w) A (Builtin.SmallTypes.nextOf v) Q E s :=
  wpAny_bind (wpAny_callSpecial?_slot hT sl (wpAny_call_entry sl hT en (wpAny_mono h (fun fin s' ⟨x, e, q⟩ => ⟨x, e, wpAny_pure q⟩) fun _ _ e => e) ok))
section
variable {prog : Program} {w : World} {A : Around} {E : Value → Shared → Prop} {s : Shared} {it l : Addr} {i : Nat} {xs : Array Value} {Q : Value → Shared → Prop}
theorem tup_item {x : Value} (q : s.heap.IsTupleIter it l i) (t : s.heap.IsTuple l xs) (hx : xs[i]? = some x) (hQ : ∀ h', h'.IsTupleIter it l (i + 1) → Heap.SameBut it s.heap h' → Q x { s with heap := h' }) : wpAny (model prog w) A (Builtin.SmallTypes.nextOf (.ref it)) Q E s := by
  refine drawn_by q.typeIs F.slot_tuple_iterator_next F.entry_tuple_iterator_next (F.args_tuple_iterator_next_1 _) ?_
  obtain ⟨h, g, d, tk, os⟩ := s
  obtain ⟨⟨c, dc, da, sl⟩, gi, rfl, rfl⟩ := q
  obtain ⟨⟨c, dc, da, sl⟩, gt, rfl, n, rfl⟩ := t
  dsimp only at gi gt hQ
  wp_walk
  rw [Int.toNat_natCast, hx]
  wp_walk
  exact ⟨x, rfl, hQ _ ⟨_, Heap.get?_update_self _ gi rfl, rfl, by simp [Obj.mapFields, rawInt]⟩ (Heap.SameBut.update ..)⟩
theorem tup_end (hh : A.handled = none) (q : s.heap.IsTupleIter it l i) (t : s.heap.IsTuple l xs) (hx : xs[i]? = none) (hE : ∀ h' e, Heap.ExtBut it s.heap h' → (∃ o, h'.get? e = some o ∧ o.cls = .type "StopIteration") → E (.ref e) { s with heap := h' }) : wpAny (model prog w) A (Builtin.SmallTypes.nextOf (.ref it)) Q E s := by
  refine drawn_by q.typeIs F.slot_tuple_iterator_next F.entry_tuple_iterator_next (F.args_tuple_iterator_next_1 _) ?_
  obtain ⟨h, g, d, tk, os⟩ := s
  obtain ⟨⟨c, dc, da, sl⟩, gi, rfl, rfl⟩ := q
  obtain ⟨⟨c, dc, da, sl⟩, gt, rfl, n, rfl⟩ := t
  dsimp only at gi gt hE
  have hh1 : A.in1.handled = none := hh
  wp_walk
  rw [Int.toNat_natCast, hx]
  wp_walk
  unfold raiseNew
  wp_walk
  exact hE _ _ (fun b u hb e => Heap.get?_push_of_some _ (Heap.get?_push_of_some _ ((Heap.get?_update_ne _ _ _ _ hb).trans e))) ⟨_, Heap.get?_push_size _ rfl, rfl⟩
theorem sq_item {k : Bool} {x : Value} (q : SIt k s.heap it l i) (t : SSq k s.heap l xs) (hx : xs[i]? = some x) (hQ : ∀ h', SIt k h' it l (i + 1) → Heap.SameBut it s.heap h' → Q x { s with heap := h' }) : wpAny (model prog w) A (Builtin.SmallTypes.nextOf (.ref it)) Q E s :=
  match k with
  | true => wpAny_nextOf_list_item q t hx hQ
  | false => tup_item q t hx hQ
theorem sq_end {k : Bool} (hh : A.handled = none) (q : SIt k s.heap it l i) (t : SSq k s.heap l xs) (hx : xs[i]? = none) (hE : ∀ h' e, Heap.ExtBut it s.heap h' → (∃ o, h'.get? e = some o ∧ o.cls = .type "StopIteration") → E (.ref e) { s with heap := h' }) : wpAny (model prog w) A (Builtin.SmallTypes.nextOf (.ref it)) Q E s :=
  match k with
  | true => wpAny_nextOf_list_end hh q t hx hE
  | false => tup_end hh q t hx hE
end
def zObj (n : Nat) (f0 f1 : Value) : Obj := { cls := .type "zip", dict := none, data := .fields #[f0, f1, .bool false, .ref (n + 2), .ref (n + 3)], slots := #[] }
structure ZW (n : Nat) (k1 k2 : Bool) (l1 l2 i1 i2 : Nat) (xs ys : Array Value) (f0 f1 a b : Value) (h : Heap) : Prop where
  z : h.get? (n + 4) = some { cls := .type "zip", dict := none, data := .fields #[f0, f1, .bool false, .ref (n + 2), .ref (n + 3)], slots := #[] }
  ti : h.get? (n + 2) = some { cls := .type "tuple", data := .seq #[.ref n, .ref (n + 1)] }
  to : h.get? (n + 3) = some { cls := .type "tuple", data := .seq #[a, b] }
  w1 : SIt k1 h n l1 i1
  w2 : SIt k2 h (n + 1) l2 i2
  s1 : SSq k1 h l1 xs
  s2 : SSq k2 h l2 ys
  b1 : l1 < n
  b2 : l2 < n
theorem ap {x y : Nat} (h : x ≠ y) : @Ne Addr x y := h
def Oth (n : Nat) (h h' : Heap) : Prop := ∀ c o, c ≠ n + 4 → c ≠ n + 3 → c ≠ n → c ≠ n + 1 → h.get? c = some o → h'.get? c = some o
section
variable {prog : Program} {w : World} {A : Around} {E : Value → Shared → Prop} {s : Shared} {n l1 l2 i1 i2 : Nat} {k1 k2 : Bool} {xs ys : Array Value} {f0 f1 a b v : Value}
def ZF (f0 : Value) : Prop := f0 = .none ∨ ∃ c : Nat, f0 = rawInt (c : Int)
theorem alive_as {M : Model} {c : Addr} {Q : Option Obj → Shared → Prop} (h : Q (s.heap.get? c) s) : wpAny M A (loadIfAlive c) Q E s := fun _ _ _ => h
def ZE (n : Nat) (h : Heap) (f0 f1 : Value) (h' : Heap) (e : Addr) : Prop := h'.get? (n + 4) = some (zObj n f0 f1) ∧ Oth n h h' ∧ ∃ o, h'.get? e = some o ∧ o.cls = .type "StopIteration"
end
end DL
set_option Elab.async false
set_option linter.all false
set_option maxRecDepth 100000
set_option maxHeartbeats 2000000
namespace DL
open PySem PySem.Spec PyProof.Rows L2 PySem.W
section
variable {prog : Program} {w : World} {A : Around} {E : Value → Shared → Prop} {s : Shared} {n l1 l2 i1 i2 i : Nat} {k1 k2 : Bool} {xs ys : Array Value} {f0 f1 a b v : Value}
theorem next_by {T id : String} {bi : Builtin} {Q : Option Value → Shared → Prop} (hT : s.TypeIs v T) (sl : Slot T (Str.ofString "__next__") id) (en : entryFor table id = some bi) (ok : argsOk id ⟨[v], []⟩)
    (h : wpAny (model prog w) A.in1 (bi ⟨[v], []⟩) (fun fin s' => ∃ x, fin = .done (.ret x) ∧ Q (some x) s') (fun e s' => s'.TypeIs e "StopIteration" ∧ Q none s') s) : wpAny (model prog w) A (pyNext v) Q E s :=
  wpAny_bind (wpAny_attempt (wpAny_callSpecial?_slot hT sl (wpAny_call_entry sl hT en (wpAny_mono h (fun fin s' ⟨x, e, q⟩ => ⟨x, e, wpAny_pure q⟩) fun e s' ⟨t, q⟩ => wpAny_bind (wpAny_isInstance (T := "StopIteration") (b := true) t isSubtype_stop (wpAny_pure q))) ok)))
def ztn (k1 k2 : Bool) (n l1 l2 i : Nat) (h : Heap) : Prop := ∃ f0 f1 a b, ZF f0 ∧ h.get? (n + 4) = some (zObj n f0 f1) ∧ IsPair h (n + 2) (.ref n) (.ref (n + 1)) ∧ IsPair h (n + 3) a b ∧ SIt k1 h n l1 i ∧ SIt k2 h (n + 1) l2 i
theorem own_iter {T id nid : String} {bi : Builtin} {Q : Value → Shared → Prop} (hT : s.TypeIs v T) (sl : Slot T (Str.ofString "__iter__") id) (en : entryFor table id = some bi) (ok : argsOk id ⟨[v], []⟩) (nx : Slot T (Str.ofString "__next__") nid)
    (h : wpAny (model prog w) A.in1 (bi ⟨[v], []⟩) (fun fin s' => fin = .done (.ret v) ∧ s' = s) E s) (q : Q v s) : wpAny (model prog w) A (pyIter v) Q E s :=
  wpAny_pyIter_slot hT sl (wpAny_call_entry sl hT en (wpAny_mono h (fun fin s' ⟨e1, e2⟩ => ⟨v, e1, T, _, by rw [e2]; exact hT, nx.lookup, by rw [e2]; exact q⟩) fun _ _ e => e) ok)
theorem iter_sq {k : Bool} {l : Addr} {Q : Value → Shared → Prop} (t : SSq k s.heap l xs) (hQ : ∀ o, o.isFreed = false → (∀ h : Heap, ∀ c, h.get? c = some o → SIt k h c l 0) → Q (.ref s.heap.objs.size) { s with heap := s.heap.push o }) : wpAny (model prog w) A (pyIter (.ref l)) Q E s :=
  match k with
  | true => wpAny_pyIter_list t (hQ _ rfl fun h c e => ⟨_, e, rfl, rfl⟩)
  | false => wpAny_pyIter_tuple t (hQ _ rfl fun h c e => ⟨_, e, rfl, rfl⟩)
end
def Sq (k : Bool) (K : PySem.W.Frag) (H : Hp) (a : Addr) (xs : List V) : Prop := if k then SqL K H a xs else SqT K H a xs
def Itz (k1 k2 : Bool) (K : PySem.W.Frag) (l1 l2 : Addr) : It :=
  ⟨fun i H => ∃ as bs a b, Sq k1 K H l1 as ∧ Sq k2 K H l2 bs ∧ as[i]? = some a ∧ bs[i]? = some b,
   fun i H x H' => ∃ T a b, H T = none ∧ H' = upd H T (.tup [a, b]) ∧ x = .ref T ∧ (∀ as, Sq k1 K H l1 as → as[i]? = some a) ∧ ∀ bs, Sq k2 K H l2 bs → bs[i]? = some b,
   fun i H => ∃ as bs, Sq k1 K H l1 as ∧ Sq k2 K H l2 bs ∧ (as.length ≤ i ∨ bs.length ≤ i)⟩
section
variable {X : Cx} {pins : List (Addr × Obj)} {σ : L2.St} {H : Hp} {s : Shared} {k : Bool} {a : Addr} {xs ys : List V}
theorem Inv_sq (I : L2.Inv X pins σ H s) (h : Sq k X.K H a xs) : ∃ its : List Value, Vals xs its ∧ SSq k s.heap a its.toArray ∧ xs.length ≤ sizeLine := by
  cases k with
  | true => obtain ⟨its, v, p, z⟩ := I.list h; exact ⟨its, v, p.isList, z⟩
  | false => obtain ⟨its, v, p, z⟩ := I.tuple h; exact ⟨its, v, (p : IsTup _ _ _), z⟩
theorem Inv_sq_inj (I : L2.Inv X pins σ H s) (h : Sq k X.K H a xs) (h' : Sq k X.K H a ys) : xs = ys := by
  cases k with
  | true => exact I.list_inj h h'
  | false => exact I.tuple_inj h h'
end
theorem Inv_tur5 {X : Cx} {pins : List (Addr × Obj)} {σ : L2.St} {H : Hp} {s : Shared} {h' : Heap} {t' : Nat} {fp : List Addr} (I : L2.Inv X pins σ H s) (hf : ∀ b ∈ fp, FpOk X pins H b) (k : ∀ b o, b ∉ fp → s.heap.get? b = some o → h'.get? b = some o) : L2.Inv X pins σ H { s with heap := h', toks := t' } := by
  have nit : ∀ b u, H b = some u → b ∉ fp := fun b u e z => by rw [(hf b z).1] at e; cases e
  refine I.step (g' := s.gens) (d' := s.drawn) (ch := fp) (fun b hb => ?_) (fun b o _ _ hc e _ => k b o hc e) (fun b o _ _ hc e _ => ⟨o.slots, k b o hc e⟩) (fun _ _ _ _ n => n) (fun b o hc e => ⟨o, k b o hc e⟩) (fun _ _ e => e) (fun _ _ _ e => e) (fun b ps e => ⟨#[], by rw [e]; simp⟩) (fun m hm => ?_) (fun b u e => ?_) I.bare
  · obtain ⟨f0, f1, f2, f3, f4, f5⟩ := hf b hb
    exact ⟨f3, f1, f4, f5⟩
  · obtain ⟨o, es, ep, ho, r⟩ := hm
    exact ⟨o, es, ep, k _ o (fun z => (hf _ z).2.1 rfl) ho, r⟩
  · refine (I.hok b u e).stay (fun c v hc q => k c v ?_ q) (fun _ q => q) fun _ _ q => q
    rcases hc with z | z
    · rw [z]; exact nit b u e
    · exact nit c _ z
theorem Inv_track {X : Cx} {pins : List (Addr × Obj)} {σ : L2.St} {H : Hp} {s : Shared} {T : Addr} {o : HO} (I : L2.Inv X pins σ H s) (hT : FpOk X pins H T) (hs : X.s₀.heap.objs.size ≤ T) (new : ObjOk X.prog X.w (upd H T o) s.heap T o) : L2.Inv X pins σ (upd H T o) s := by
  obtain ⟨f0, f1, f2, f3, f4, f5⟩ := hT
  have ne : ∀ b u, H b = some u → b ≠ T := fun b u e z => by rw [z, f0] at e; cases e
  have sn : ∀ b o, X.s₀.heap.get? b = some o → b ≠ T := fun b o e => Nat.ne_of_lt (Nat.lt_of_lt_of_le (Heap.lt_size e) hs)
  exact ⟨I.ok, I.os, I.bare, ⟨I.base.keep, I.base.slot, fun b ob q n hx => by rw [upd_ne (sn b ob q)]; exact I.base.free b ob q n hx, I.base.there, fun b xs q => by have e := I.base.tups b xs q; rw [upd_ne (ne b _ e)]; exact e, fun b ob u q => by have e := I.base.frzs b ob u q; rw [upd_ne (ne b _ e)]; exact e, fun b ps q => by obtain ⟨m, e⟩ := I.base.tbls b ps q; exact ⟨m, by rw [upd_ne (ne b _ e)]; exact e⟩⟩,
    I.loc, I.cell, by rw [upd_ne (Ne.symm f1)]; exact I.free, fun x c e => by rw [upd_ne (f4 x c e)]; exact I.freeC x c e, fun p hp => by obtain ⟨a, b, c⟩ := I.pin p hp; exact ⟨a, by rw [upd_ne (f5 p hp)]; exact b, c⟩, HOk_more I.hok f0 new, I.len⟩
def zfp (n : Nat) : List Addr := [n, n + 1, n + 2, n + 3, n + 4]
end DL
set_option Elab.async false
set_option linter.all false
set_option maxRecDepth 100000
set_option maxHeartbeats 1000000
namespace DL
open PySem PySem.Spec PyProof.Rows L2 PySem.W
def LF (d : D) (xs : List D) : Prop := d = .lst xs ∨ d = .scr xs ∨ d = .tup xs
theorem Sq.same {k : Bool} {K : PySem.W.Frag} {H H' : Hp} {a : Addr} {xs : List V} (e : Same H H') (h : Sq k K H a xs) : Sq k K H' a xs := by
  cases k with
  | true => exact e.seq h
  | false => exact sqT_same e h
theorem LF.sq {K : PySem.W.Frag} {G : Wd} {d : D} {xs : List D} {v : V} (h : LF d xs) (i : Is K G d v) : ∃ k a vs, v = .ref a ∧ Sq k K G.g a vs ∧ Iss K G xs vs := by
  rcases h with rfl | rfl | rfl
  · cases i with | lst h r => exact ⟨true, _, _, rfl, SqL.of h, r⟩
  · cases i with | scr h r => exact ⟨true, _, _, rfl, h, r⟩
  · cases i with | tup h r => exact ⟨false, _, _, rfl, h, r⟩
def EvZ (X : Cx) (ρ : Rho) (O : Sto) (e : Expr) (xs : List D) (T : String) : Prop :=
  ∀ (G : Wd) (tg : Expr) (pins : List (Addr × Obj)) (s : Shared) (σ : L2.St) (H : Hp) (R : It → Hp → Prop), L2.Inv X pins σ H s → SA X.K G H O → EnvR X.K G σ ρ → (∀ J G' H', Ext G G' → SA X.K G' H' O → Yields X.K G' J xs → R J H') →
    wpAny (model X.prog X.w) X.A (eval e X.env) (fun v s1 => PIE X pins σ tg R v s1 ∧ s1.TypeIs v T) X.xe s
def zipD (xs ys : List D) : List D := List.zipWith (fun a b => .tup [a, b]) xs ys
section
variable {X : Cx} {ρ : Rho} {O : Sto} {e a b c : Expr} {es : List Expr} {d da db : D} {ds : List D} {R : D → Sto → Prop} {pos p : Pos} {x : Str} {xs ys : List D}
theorem ei_Z {tg : Expr} {T : String} (h : EvZ X ρ O e xs T) : EvI X ρ O tg e xs := fun G pins s σ H R I ⟨h1, h2, h3⟩ =>
  thn (h G tg pins s σ H R I h1 h2 h3) fun v s1 ⟨q, _⟩ => by
    obtain ⟨it, fp, tn, J, H', rfl, I', T, st, f, r⟩ := id q
    exact T.self X.A 0 s1 _ _ st q
end
def Cx.wA (X : Cx) (A : Around) : Cx := { X with A := A }
end DL
set_option Elab.async false
set_option linter.all false
set_option maxRecDepth 100000
set_option maxHeartbeats 1000000
namespace DL
open PySem PySem.Spec PyProof.Rows L2 PySem.W
def kBd {α : Type} (n : Nat) (P : α → Prop) : KasT α → Prop
  | .ret a => P a
  | .ask i j k => i < n ∧ j < n ∧ ∀ b, kBd n P (k b)
def In (n : Nat) (p : Array Nat) : Prop := ∀ k, p.getD k 0 < n
section
variable (key : Nat → Int)
end
def rankOf {α : Type} (lt : α → α → Bool) (l : List α) (x : α) : Int := ((l.filter fun z => lt z x).length : Nat)
end DL
set_option Elab.async false
set_option linter.all false
set_option maxRecDepth 100000
set_option maxHeartbeats 1000000
namespace DL
open PySem PySem.Spec PyProof.Rows L2 PySem.W
abbrev inSort (h : Heap) (a : Addr) (vs : List Value) : Heap := ((h.update a (Obj.mapSeq fun _ => (#[] : Array Value))).push (seqObj "tuple" vs.toArray 0)).push (seqObj "list" #[] 0)
section
variable {prog : Program} {w : World} {A : Around} {E : Value → Shared → Prop} {s : Shared}
def outOf (p : Array Nat) (vs : List Value) : List Value := p.toList.map fun i => vs.getD i Value.none
def Runs (prog : Program) (w : World) (A : Around) (vs : List Value) (s : Shared) (G : SortSt → Prop) : Prop :=
  ∀ E : Value → Shared → Prop, wpAny (model prog w) A (if vs.toArray.size < 2 then pure general' else keyKind' vs.toArray)
    (fun κ s1 => wpAny (model prog w) A ((if vs.toArray.size < 2 then pure () else sortRuns').run (SortSt.mk' κ (vs.toArray.zip vs.toArray) #[] 7 none)) (fun r s2 => s2 = s ∧ failedOf r.2 = none ∧ G r.2) E s1) E s
def Cmp (prog : Program) (w : World) (A : Around) (vs : List Value) (key : Nat → Int) (s : Shared) : Prop :=
  ∃ κ, (∀ (E : Value → Shared → Prop) (Q : SortKind → Shared → Prop), Q κ s → wpAny (model prog w) A (keyKind' vs.toArray) Q E s) ∧ ∀ i j (C : Bool → Shared → Prop), i < vs.length → j < vs.length → C (decide (key i < key j)) s → wpAny (model prog w) A (keyLt' κ (vs.getD i Value.none) (vs.getD j Value.none)) C (fun _ _ => False) s
def Sortd (vs : List Value) (key : Nat → Int) (st : SortSt) : Prop := ∃ p : Array Nat, p.Perm (List.toArray (List.range vs.length)) ∧ p.size = vs.length ∧ Srt key p vs.length ∧ (arrOf st).map (·.2) = List.toArray (outOf p vs)
end
end DL
set_option Elab.async false
set_option linter.all false
set_option maxRecDepth 100000
set_option maxHeartbeats 1000000
namespace DL
open PySem PySem.Spec PyProof.Rows L2 PySem.W
abbrev lsC (its : List Value) (c : Nat) : Obj := { cls := .type "list", dict := none, data := .seq its.toArray c, slots := #[] }
structure Got (X : Cx) (pins : List (Addr × Obj)) (σ : L2.St) (O : Sto) (G1 : Wd) (xs : List D) (S : Addr) (i : Nat) (s : Shared) (H : Hp) (G : Wd) (vs : List V) (its : List Value) (c : Nat) : Prop where
  inv : L2.Inv X ((S, lsC its c) :: pins) σ H s
  ext : Ext G1 G
  sa : SA X.K G H O
  iss : Iss X.K G (xs.take i) vs
  vals : Vals vs its
section
variable {X : Cx} {A : Around} {tg : Expr} {J : It} {fp : List Addr} {it : Addr} {tn : Nat → Heap → Prop} {pins : List (Addr × Obj)} {σ : L2.St} {O : Sto} {G1 : Wd} {xs : List D} {S : Addr} {res : Value} {R : Result → Shared → Prop}
end
structure NoLen (T : String) : Prop where
  len : typeLookup (.type T) "__len__" = pure none
  hint : typeLookup (.type T) "__length_hint__" = pure none
  nl : (Value.type T == Value.type "list") = false
  nt : (Value.type T == Value.type "tuple") = false
end DL
set_option Elab.async false
set_option linter.all false
set_option maxRecDepth 100000
set_option maxHeartbeats 1000000
namespace DL
open PySem PySem.Spec PyProof.Rows L2 PySem.W
structure Ord {α : Type} (lt : α → α → Bool) : Prop where
  irr : ∀ a, lt a a = false
  tr : ∀ a b c, lt a b = true → lt b c = true → lt a c = true
  tot : ∀ a b, lt a b = false → lt b a = false → a = b
def srt {α : Type} (lt : α → α → Bool) (l : List α) : List α := l.mergeSort fun a b => !lt b a
def ltI (a b : Int) : Bool := decide (a < b)
def ltP (a b : Int × Int) : Bool := decide (a.1 < b.1 ∨ (a.1 = b.1 ∧ a.2 < b.2))
abbrev pD (p : Int × Int) : D := .tup [.int p.1, .int p.2]
def CmpD {α : Type} [Inhabited α] (X : Cx) (lt : α → α → Bool) (f : α → D) : Prop :=
  ∀ (A : Around) (G : Wd) (H : Hp) (pins : List (Addr × Obj)) (σ : L2.St) (s : Shared) (s' : Shared) (O : Sto) (ps : List α) (vs : List V) (its : List Value), L2.Inv X pins σ H s → SA X.K G H O → Iss X.K G (ps.map f) vs → Vals vs its → 2 ≤ ps.length → (∀ b o, s.heap.get? b = some o → s'.heap.get? b = some o) →
    Cmp X.prog X.w A its (fun i => rankOf lt ps (ps.getD i default)) s'
end DL
set_option Elab.async false
set_option linter.all false
set_option maxRecDepth 100000
set_option maxHeartbeats 1000000
namespace DL
open PySem PySem.Spec PyProof.Rows L2 PySem.W
section
variable {X : Cx} {ρ : Rho} {O : Sto} {e a b c : Expr} {es : List Expr} {d da db : D} {ds : List D} {R : D → Sto → Prop} {pos p : Pos} {x : Str} {xs ys : List D} {α : Type} [Inhabited α] {lt : α → α → Bool} {f : α → D} {ps : List α}
end
end DL
set_option Elab.async false
set_option linter.all false
set_option maxRecDepth 100000
set_option maxHeartbeats 1000000
namespace DL
open PySem PySem.Spec PyProof.Rows L2 PySem.W
mutual
def toPy : D → PyData
  | .non => .none | .bl b => .bool b | .int i => .int i | .str x => .str x | .tup xs => .tuple (toPys xs) | .lst xs => .list (toPys xs) | .scr xs => .list (toPys xs) | .ptr _ => .none | .ty _ => .none | .fn _ => .none | .dct _ _ => .none
def toPys : List D → List PyData
  | [] => []
  | x :: xs => toPy x :: toPys xs
end
mutual
def plD : D → Bool
  | .non => true | .bl _ => true | .int _ => true | .str x => PyData.strOk x | .tup xs => plDs xs | .lst xs => plDs xs | .scr xs => plDs xs | .ptr _ => false | .ty _ => false | .fn _ => false | .dct _ _ => false
def plDs : List D → Bool
  | [] => true
  | x :: xs => plD x && plDs xs
end
mutual
def dpD : D → Nat
  | .tup xs => dpDs xs + 1 | .lst xs => dpDs xs + 1 | .scr xs => dpDs xs + 1 | .non => 0 | .bl _ => 0 | .int _ => 0 | .str _ => 0 | .ptr _ => 0 | .ty _ => 0 | .fn _ => 0 | .dct _ _ => 0
def dpDs : List D → Nat
  | [] => 0
  | x :: xs => max (dpD x) (dpDs xs)
end
def eqD (a b : D) : Bool := PyData.eqv (toPy a) (toPy b)
def eqDs (a b : List D) : Bool := PyData.eqvAll (toPys a) (toPys b)
mutual
theorem dp_py : ∀ d : D, (toPy d).depth = dpD d
  | .non => rfl | .bl _ => rfl | .int _ => rfl | .str _ => rfl | .ptr _ => rfl | .ty _ => rfl | .fn _ => rfl | .dct _ _ => rfl
  | .tup xs => by simp only [toPy, PyData.depth, dpD]; rw [dp_pys xs]
  | .lst xs => by simp only [toPy, PyData.depth, dpD]; rw [dp_pys xs]
  | .scr xs => by simp only [toPy, PyData.depth, dpD]; rw [dp_pys xs]
theorem dp_pys : ∀ xs : List D, PyData.depthAll (toPys xs) = dpDs xs
  | [] => rfl
  | x :: xs => by simp only [toPys, PyData.depthAll, dpDs]; rw [dp_py x, dp_pys xs]
end
mutual
theorem pl_lay : ∀ d : D, plD d = true → (toPy d).canLay0 = true
  | .non, _ => rfl | .bl _, _ => rfl | .int _, _ => rfl | .str x, h => by simp only [plD] at h; simp only [toPy, PyData.canLay0]; exact h | .ptr _, h => nomatch h | .ty _, h => nomatch h | .fn _, h => nomatch h | .dct _ _, h => nomatch h
  | .tup xs, h => pl_lays xs h
  | .lst xs, h => pl_lays xs h
  | .scr xs, h => pl_lays xs h
theorem pl_lays : ∀ xs : List D, plDs xs = true → PyData.canLayAll0 (toPys xs) = true
  | [], _ => rfl
  | x :: xs, h => by
    have h : (plD x && plDs xs) = true := h
    rw [Bool.and_eq_true] at h
    show (PyData.canLay0 (toPy x) && PyData.canLayAll0 (toPys xs)) = true
    rw [pl_lay x h.1, pl_lays xs h.2]; rfl
end
section
variable {X : Cx} {pins : List (Addr × Obj)} {σ : L2.St} {H : Hp} {s : Shared} {G : Wd}
mutual
theorem rd_of (I : L2.Inv X pins σ H s) (sub : Same G.g H) : ∀ {d : D} {v : V} {u : Value}, Is X.K G d v → RelV v u → plD d = true → ∃ as, Reads s.heap u (toPy d) as
  | _, _, _, .non, r, _ => by cases r; exact ⟨[], .none⟩
  | _, _, _, .bl b, r, _ => by cases r; exact ⟨[], .bool b⟩
  | _, _, _, .int i, r, _ => by obtain ⟨t, rfl⟩ := r; exact ⟨[], .int i t⟩
  | _, _, _, .str x, r, _ => by obtain ⟨t, rfl⟩ := r; exact ⟨[], .str x t⟩
  | _, _, _, .tup h q, r, p => by
    cases r
    obtain ⟨its, va, ⟨o, g1, g2, n, g3⟩, _⟩ := I.tuple (sqT_same sub h)
    obtain ⟨as, ra⟩ := rds_of I sub q va p
    exact ⟨as, .tuple g1 g2 g3 (by simpa using ra)⟩
  | _, _, _, .lst h q, r, p => by
    cases r
    obtain ⟨its, va, pl, _⟩ := I.list (SqL.of (sub _ _ h))
    obtain ⟨o, g1, g2, n, g3⟩ := pl.isList
    obtain ⟨as, ra⟩ := rds_of I sub q va p
    exact ⟨_, .list g1 g2 g3 (by simpa using ra)⟩
  | _, _, _, .scr h q, r, p => by
    cases r
    obtain ⟨its, va, pl, _⟩ := I.list (sub.seq h)
    obtain ⟨o, g1, g2, n, g3⟩ := pl.isList
    obtain ⟨as, ra⟩ := rds_of I sub q va p
    exact ⟨_, .list g1 g2 g3 (by simpa using ra)⟩
  | _, _, _, .ptr _ _, _, p => by simp [plD] at p
  | _, _, _, .ty _, _, p => by simp [plD] at p
  | _, _, _, .fn _, _, p => by simp [plD] at p
  | _, _, _, .dct _ _ _, _, p => by simp [plD] at p
theorem rds_of (I : L2.Inv X pins σ H s) (sub : Same G.g H) : ∀ {ds : List D} {vs : List V} {us : List Value}, Iss X.K G ds vs → Vals vs us → plDs ds = true → ∃ as, ReadsAll s.heap us (toPys ds) as
  | _, _, _, .nil, .nil, _ => ⟨[], .nil⟩
  | d :: ds, _, _, .cons i is, .cons r rs, p => by
    have p : (plD d && plDs ds) = true := p
    rw [Bool.and_eq_true] at p
    obtain ⟨as, ra⟩ := rd_of I sub i r p.1
    obtain ⟨bs, rb⟩ := rds_of I sub is rs p.2
    exact ⟨_, .cons ra rb⟩
end
end
def RD (O : Sto) (d e : D) : Prop := e = d ∨ ∃ n xs, d = .ptr n ∧ O[n]? = some (some (.lst xs)) ∧ e = .lst xs
theorem RD.reads {X : Cx} {pins : List (Addr × Obj)} {σ : L2.St} {H : Hp} {s : Shared} {G : Wd} {O : Sto} {d e : D} {v : V} {u : Value} (h : RD O d e) (I : L2.Inv X pins σ H s) (sa : SA X.K G H O) (i : Is X.K G d v) (r : RelV v u) (p : plD e = true) : ∃ as, Reads s.heap u (toPy e) as := by
  rcases h with rfl | ⟨n, xs, rfl, h, rfl⟩
  · exact rd_of I sa.sub i r p
  · cases i with | ptr _ ha =>
    cases r
    obtain ⟨a, g0, _, vs, g1, g2⟩ := sa.mt n _ h
    have := Option.some.inj (ha.symm.trans g0)
    subst this
    obtain ⟨its, va, pl, _⟩ := I.list (SqL.of g1)
    obtain ⟨o, q1, q2, k, q3⟩ := pl.isList
    obtain ⟨as, ra⟩ := rds_of I sa.sub g2 va p
    exact ⟨_, .list q1 q2 q3 (by simpa using ra)⟩
section
variable {X : Cx} {ρ : Rho} {O : Sto} {e a b c : Expr} {es : List Expr} {d da db ea eb : D} {ds xs ys : List D} {R : D → Sto → Prop} {pos p : Pos} {x : Str} {k : Nat}
theorem cmp_eqD (hr : Room k X.A) (ha : RD O da ea) (hb : RD O db eb) (pa : plD ea = true) (pb : plD eb = true) (hd : min (dpD ea) (dpD eb) ≤ 60) : Op2 X O (compareOp .Eq) da db (.bl (eqD ea eb)) := fun G pins s σ H x y v u Q I rx ry ⟨h1, h2, h3, h4⟩ => by
  obtain ⟨as, ra⟩ := ha.reads I h1 h2 rx pa
  obtain ⟨bs, rb⟩ := hb.reads I h1 h3 ry pb
  have hu := hr.units
  exact PySem.SeqAt.compareEq_reads ra rb (pl_lay _ pa) (pl_lay _ pb) (by rw [dp_py, dp_py]; omega) ⟨.bl _, H, I, rfl, h4 _ G H (Ext.refl _) h1 (.bl _)⟩
theorem cmp_neD (hr : Room k X.A) (ha : RD O da ea) (hb : RD O db eb) (pa : plD ea = true) (pb : plD eb = true) (hd : min (dpD ea) (dpD eb) ≤ 60) : Op2 X O (compareOp .NotEq) da db (.bl (!eqD ea eb)) := fun G pins s σ H x y v u Q I rx ry ⟨h1, h2, h3, h4⟩ => by
  obtain ⟨as, ra⟩ := ha.reads I h1 h2 rx pa
  obtain ⟨bs, rb⟩ := hb.reads I h1 h3 ry pb
  have hu := hr.units
  exact PySem.SeqAt.compareNe_reads ra rb (pl_lay _ pa) (pl_lay _ pb) (by rw [dp_py, dp_py]; omega) ⟨.bl _, H, I, rfl, h4 _ G H (Ext.refl _) h1 (.bl _)⟩
end
theorem plDs_all {l : List D} (h : ∀ d ∈ l, plD d = true) : plDs l = true := by
  induction l with
  | nil => rfl
  | cons x xs ih =>
    show (plD x && plDs xs) = true
    rw [h x List.mem_cons_self, ih fun d hd => h d (List.mem_cons_of_mem _ hd)]; rfl
theorem plDs_map {α : Type} {f : α → D} {l : List α} (h : ∀ a ∈ l, plD (f a) = true) : plDs (l.map f) = true := plDs_all fun d hd => by obtain ⟨a, ha, rfl⟩ := List.mem_map.mp hd; exact h a ha
theorem eqDs_map {α : Type} {f : α → D} [DecidableEq α] (h : ∀ a b, eqD (f a) (f b) = decide (a = b)) : ∀ l m : List α, eqDs (l.map f) (m.map f) = decide (l = m)
  | [], [] => rfl
  | [], _ :: _ => rfl
  | _ :: _, [] => rfl
  | a :: l, b :: m => by
    show (eqD (f a) (f b) && eqDs (l.map f) (m.map f)) = _
    rw [h a b, eqDs_map h l m]
    by_cases h1 : a = b
    · by_cases h2 : l = m
      · simp [h1, h2]
      · simp [h1, h2]
    · simp [h1]
theorem eqD_int (a b : Int) : eqD (.int a) (.int b) = decide (a = b) := by
  show (a == b) = _
  by_cases h : a = b
  · simp [h]
  · simp [h]
theorem eqD_ints (a b : List Int) : eqD (.lst (a.map D.int)) (.lst (b.map D.int)) = decide (a = b) := eqDs_map eqD_int a b
end DL
set_option Elab.async false
set_option linter.all false
set_option maxRecDepth 100000
set_option maxHeartbeats 1000000
namespace DL
open PySem PySem.Spec PyProof.Rows L2 PySem.W
theorem getD_in {α : Type} {l : List α} {i : Nat} (h : i < l.length) (d : α) : l.getD i d = l[i] := by simp [h]
section
variable {X : Cx} {ρ : Rho} {O : Sto} {e a b c : Expr} {es : List Expr} {d da db ea eb : D} {ds xs ys : List D} {R : D → Sto → Prop} {pos p : Pos} {x : Str} {k : Nat}
theorem LT.sq {K : PySem.W.Frag} {G : Wd} {H : Hp} {O : Sto} {d : D} {xs : List D} {v : V} (h : LT O d xs) (s : SA K G H O) (i : Is K G d v) : ∃ k a vs, v = .ref a ∧ Sq k K H a vs ∧ Iss K G xs vs := by
  rcases h with h | rfl
  · obtain ⟨a, vs, rfl, q, r⟩ := h.sq s i; exact ⟨true, a, vs, rfl, q, r⟩
  · obtain ⟨a, vs, rfl, q, r⟩ := tup_sq s i; exact ⟨false, a, vs, rfl, q, r⟩
theorem ssq_lt {k : Bool} {h : Heap} {l : Addr} {ys : Array Value} (q : SSq k h l ys) : l < h.objs.size := by
  cases k with
  | true => obtain ⟨o, g, _⟩ := (q : h.IsList l ys); exact Heap.lt_size g
  | false => obtain ⟨o, g, _⟩ := (q : h.IsTuple l ys); exact Heap.lt_size g
theorem call_all_sq {prog : Program} {w : World} {A : Around} {E : Value → Shared → Prop} {s : Shared} {k : Bool} {l : Addr} {its : List Value} {bs : List Bool} {Q : Value → Shared → Prop} (hh : A.handled = none) (q : SSq k s.heap l its.toArray) (hv : ∀ (i : Nat) (v : Value), its[i]? = some v → v = .bool (bs.getD i true)) (hn : bs.length = its.length) (al : Bool)
    (h : ∀ h' tk, (∀ b o, s.heap.get? b = some o → h'.get? b = some o) → Q (.bool (if al then bs.all id else bs.any id)) { s with heap := h', toks := tk }) : wpAny (model prog w) A (call (.builtin (if al then "all" else "any")) [.ref l]) Q E s := by
  have hl := ssq_lt q
  have ea : (List.range its.toArray.size).all (fun i => bs.getD i true) = bs.all id := by
    have : bs = (List.range bs.length).map fun i => bs.getD i true := by
      apply List.ext_getElem
      · simp
      · intro i h1 h2; simp; rw [List.getElem?_eq_getElem h1]; rfl
    conv => rhs; rw [this, List.all_map]
    rw [show its.toArray.size = bs.length by simp [hn]]
    rfl
  have eb : (List.range its.toArray.size).any (fun i => bs.getD i true) = bs.any id := by
    have : bs = (List.range bs.length).map fun i => bs.getD i true := by
      apply List.ext_getElem
      · simp
      · intro i h1 h2; simp; rw [List.getElem?_eq_getElem h1]; rfl
    conv => rhs; rw [this, List.any_map]
    rw [show its.toArray.size = bs.length by simp [hn]]
    rfl
  have kp' : ∀ (h2 : Heap), (∀ b o, s.heap.get? b = some o → h2.get? b = some o) → ∀ h' : Heap, (∀ b o, b ∉ [s.heap.objs.size] → h2.get? b = some o → h'.get? b = some o) → ∀ b o, s.heap.get? b = some o → h'.get? b = some o := fun h2 up h' kp b o e => kp b o (by simpa using Nat.ne_of_lt (Heap.lt_size e)) (up b o e)
  have tr : TruthOf prog w A.in1 (fun i v => its.toArray[i]? = some v) (fun i => bs.getD i true) := fun i v s Q E hP hQ => by
    rw [hv i v (by simpa using hP)]; exact wpAny_truthy_bool hQ
  cases k with
  | true =>
    have W := Walks.list (prog := prog) (w := w) (A := A.in1) hh s.heap.objs.size l (Nat.ne_of_lt hl) its.toArray
    have st : (s.heap.push { cls := .type "list_iterator", data := .fields #[.ref l, .int 0 0] }).IsListIter s.heap.objs.size l 0 ∧ (s.heap.push { cls := .type "list_iterator", data := .fields #[.ref l, .int 0 0] }).IsList l its.toArray := ⟨⟨_, Heap.get?_push_size _ rfl, rfl, rfl⟩, Heap.IsList.push q _⟩
    cases al with
    | true => exact call_all_walk (wpAny_pyIter_list q ⟨_, _, _, _, _, _, _, rfl, W, st, tr, fun h' tk kp => by rw [ea]; exact h h' tk (kp' _ (fun b o e => Heap.get?_push_of_some _ e) h' kp)⟩)
    | false => exact call_any_walk (wpAny_pyIter_list q ⟨_, _, _, _, _, _, _, rfl, W, st, tr, fun h' tk kp => by rw [eb]; exact h h' tk (kp' _ (fun b o e => Heap.get?_push_of_some _ e) h' kp)⟩)
  | false =>
    have W := Walks.tuple (prog := prog) (w := w) (A := A.in1) hh s.heap.objs.size l (Nat.ne_of_lt hl) its.toArray
    have st : (s.heap.push { cls := .type "tuple_iterator", data := .fields #[.ref l, .int 0 0] }).IsTupleIter s.heap.objs.size l 0 ∧ (s.heap.push { cls := .type "tuple_iterator", data := .fields #[.ref l, .int 0 0] }).IsTuple l its.toArray := ⟨⟨_, Heap.get?_push_size _ rfl, rfl, rfl⟩, (SSq.at (k := false) q fun o e => Heap.get?_push_of_some _ e : SSq false _ l _)⟩
    cases al with
    | true => exact call_all_walk (wpAny_pyIter_tuple q ⟨_, _, _, _, _, _, _, rfl, W, st, tr, fun h' tk kp => by rw [ea]; exact h h' tk (kp' _ (fun b o e => Heap.get?_push_of_some _ e) h' kp)⟩)
    | false => exact call_any_walk (wpAny_pyIter_tuple q ⟨_, _, _, _, _, _, _, rfl, W, st, tr, fun h' tk kp => by rw [eb]; exact h h' tk (kp' _ (fun b o e => Heap.get?_push_of_some _ e) h' kp)⟩)
theorem c_allany {bs : List Bool} (al : Bool) (h : LT O d (bs.map D.bl)) (hc : X.calm = true) : CallD X O (.builtin (if al then "all" else "any")) [d] (.bl (if al then bs.all id else bs.any id)) := fun G pins s σ H vs us Q I r ⟨h1, h2, h3⟩ => by
  cases h2 with | cons i r2 =>
  cases r2
  obtain ⟨kk, ad, ws, rfl, q, is⟩ := h.sq h1 i
  obtain ⟨u, rfl, ru⟩ := vals1 r
  cases ru
  obtain ⟨its, va, sq, _⟩ := Inv_sq I q
  have e1 := is.length
  have e2 := va.length
  rw [List.length_map] at e1
  refine call_all_sq (bs := bs) (I.ok.hd hc) sq (fun i v hv => ?_) (by omega) al fun h' tk kp => ⟨.bl _, H, I.kept kp, rfl, h3 _ G H (Ext.refl _) h1 (.bl _)⟩
  have hi : i < bs.length := by rw [e1, e2]; exact (List.getElem?_eq_some_iff.mp hv).1
  obtain ⟨w, hw, iw⟩ := is.get (i := i) (d := .bl bs[i]) (by simp [hi])
  obtain ⟨z, hz, rz⟩ := va.get hw
  rw [hv] at hz
  cases hz
  cases iw
  rw [getD_in hi]
  exact rz
theorem c_all {bs : List Bool} (h : LT O d (bs.map D.bl)) (hc : X.calm = true := by rfl) : CallD X O (.builtin "all") [d] (.bl (bs.all id)) := c_allany true h hc
def rSlW (K : PySem.W.Frag) : V → Option Int → Option Int → Hp → VK → Prop := fun x lo hi H Q => ∃ a xs, x = .ref a ∧ SqT K H a xs ∧ (HT.sIx xs.length 0 lo = 0 ∧ HT.sIx xs.length xs.length hi = xs.length) ∧ Q (.ref a) H
end
end DL
set_option Elab.async false
set_option linter.all false
set_option maxRecDepth 100000
namespace DL
open PySem PySem.Spec PyProof.Rows L2
mutual
def npD : D → Bool
  | .ptr _ => false
  | .tup xs => npDs xs
  | .lst xs => npDs xs
  | .scr xs => npDs xs
  | .dct _ xs => npDs xs
  | _ => true
def npDs : List D → Bool
  | [] => true
  | d :: ds => npD d && npDs ds
end
theorem npDs_map {α : Type} {f : α → D} (h : ∀ a, npD (f a) = true) (l : List α) : npDs (l.map f) = true := by
  induction l with
  | nil => rfl
  | cons a l ih => rw [List.map_cons]; unfold npDs; rw [h, ih]; rfl
theorem npDs_ints (l : List Int) : npDs (l.map D.int) = true := npDs_map (fun _ => rfl) l
section
variable {K : PySem.W.Frag} {G G' : Wd} {t : List Addr}
mutual
theorem Is.cut : ∀ {d : D} {v : V}, Is K G' d v → npD d = true → ∀ l, Is K ⟨G'.g, l⟩ d v
  | _, _, .non, _, l => .non
  | _, _, .bl b, _, l => .bl b
  | _, _, .int i, _, l => .int i
  | _, _, .str x, _, l => .str x
  | _, _, .tup h r, e, l => .tup h (Iss.cut r e l)
  | _, _, .lst h r, e, l => .lst h (Iss.cut r e l)
  | _, _, .scr h r, e, l => .scr h (Iss.cut r e l)
  | _, _, .ptr n h, e, l => by cases e
  | _, _, .ty n, _, l => .ty n
  | _, _, .fn n, _, l => .fn n
  | _, _, .dct h hl r, e, l => .dct h hl (Iss.cut r e l)
theorem Iss.cut : ∀ {ds : List D} {vs : List V}, Iss K G' ds vs → npDs ds = true → ∀ l, Iss K ⟨G'.g, l⟩ ds vs
  | _, _, .nil, _, l => .nil
  | _, _, .cons h r, e, l => by
    have e := (Bool.and_eq_true _ _).mp e
    exact .cons (Is.cut h e.1 l) (Iss.cut r e.2 l)
end
mutual
theorem Is.back (e : G'.l = G.l ++ t) : ∀ {d : D} {v v0 : V}, Is K G d v0 → Is K G' d v → Is K ⟨G'.g, G.l⟩ d v
  | _, _, _, .non, h => by cases h; exact .non
  | _, _, _, .bl b, h => by cases h; exact .bl b
  | _, _, _, .int i, h => by cases h; exact .int i
  | _, _, _, .str x, h => by cases h; exact .str x
  | _, _, _, .tup _ r0, h => by cases h with | tup h r => exact .tup h (Iss.back e r0 r)
  | _, _, _, .lst _ r0, h => by cases h with | lst h r => exact .lst h (Iss.back e r0 r)
  | _, _, _, .scr _ r0, h => by cases h with | scr h r => exact .scr h (Iss.back e r0 r)
  | _, _, _, .ptr n q, h => by
    cases h with
    | ptr _ h =>
      refine .ptr n ?_
      rw [e, List.getElem?_append_left (List.getElem?_eq_some_iff.mp q).1] at h
      exact h
  | _, _, _, .ty n, h => by cases h; exact .ty n
  | _, _, _, .fn n, h => by cases h; exact .fn n
  | _, _, _, .dct _ _ r0, h => by cases h with | dct h hl r => exact .dct h hl (Iss.back e r0 r)
theorem Iss.back (e : G'.l = G.l ++ t) : ∀ {ds : List D} {vs v0 : List V}, Iss K G ds v0 → Iss K G' ds vs → Iss K ⟨G'.g, G.l⟩ ds vs
  | _, _, _, .nil, h => by cases h; exact .nil
  | _, _, _, .cons q r, h => by cases h with | cons h1 h2 => exact .cons (Is.back e q h1) (Iss.back e r h2)
end
theorem FsIs.back (e : G'.l = G.l ++ t) : ∀ {fs : List (Str × D)} {vs v0 : List (Str × V)}, FsIs K G fs v0 → FsIs K G' fs vs → FsIs K ⟨G'.g, G.l⟩ fs vs
  | _, _, _, .nil, h => by cases h; exact .nil
  | _, _, _, .cons q r, h => by cases h with | cons h1 h2 => exact .cons (Is.back e q h1) (FsIs.back e r h2)
theorem SA.cut {H H' : Hp} {O O2 : Sto} (s : SA K G H O) (e : Ext G G') (s' : SA K G' H' (O ++ O2)) : Ext G ⟨G'.g, G.l⟩ ∧ SA K ⟨G'.g, G.l⟩ H' O := by
  obtain ⟨t, et⟩ := e.l
  refine ⟨⟨e.g, [], (List.append_nil _).symm⟩, ⟨s'.sub, s.len, s.nd, fun a ha => s'.liv a (by rw [et]; exact List.mem_append_left _ ha), fun n m h => ?_⟩⟩
  have hn := (List.getElem?_eq_some_iff.mp h).1
  obtain ⟨a, q1, q2, q3⟩ := s'.mt n m (by rw [List.getElem?_append_left hn]; exact h)
  obtain ⟨a0, p1, p2, p3⟩ := s.mt n m h
  rw [et, List.getElem?_append_left (by rw [s.len]; exact hn)] at q1
  refine ⟨a, q1, q2, ?_⟩
  cases m with
  | lst xs =>
    obtain ⟨vs, g1, g2⟩ := q3
    obtain ⟨v0, h1, h2⟩ := p3
    exact ⟨vs, g1, Iss.back et h2 g2⟩
  | ins C fs =>
    obtain ⟨dx, vs, g1, g2⟩ := q3
    obtain ⟨dx0, v0, h1, h2⟩ := p3
    exact ⟨dx, vs, g1, FsIs.back et h2 g2⟩
  | exc C fs ha =>
    obtain ⟨ob, g1, g2, g3, g4⟩ := q3
    obtain ⟨ob0, h1, h2, h3, _⟩ := p3
    refine ⟨ob, g1, g2, ?_, g4⟩
    rcases h3 with h3 | ⟨dx0, v0, b1, b2, b3⟩
    · exact .inl h3
    · refine g3.imp id ?_
      rintro ⟨dx, vs, a1, a2, a3⟩
      exact ⟨dx, vs, a1, a2, FsIs.back et b3 a3⟩
  | dct ks xs =>
    obtain ⟨vs, g1, g2, g3⟩ := q3
    obtain ⟨v0, h1, h2, h3⟩ := p3
    exact ⟨vs, g1, g2, Iss.back et h3 g3⟩
  | pin ob vs ks xs => exact ⟨q3.1, q3.2.1, Iss.back et p3.2.2 q3.2.2⟩
end
section
variable {X : Cx} {ρ : Rho} {O : Sto} {e a b c : Expr} {es : List Expr} {d da db : D} {ds : List D} {R : D → Sto → Prop} {pos p : Pos} {x : Str} {rest : List Stmt} {P : Post}
theorem xs_keep (h : Exs X ρ O rest { nx := fun _ _ => False, rt := fun d O' => (∃ O2, O' = O ++ O2) ∧ npD d = true ∧ P.rt d O }) : Exs X ρ O rest P := fun G pins s σ H E I ⟨q1, q2, q3⟩ => by
  refine h G pins s σ H E I ⟨q1, q2, ⟨fun σ' ρ' O' G3 H3 e3 s3 n3 q => q.elim, fun v d O' G3 H3 e3 s3 i3 r => ?_, fun σ' ρ' O' G3 H3 e3 s3 n3 q => q.elim, fun σ' ρ' O' G3 H3 e3 s3 n3 q => q.elim⟩⟩
  obtain ⟨⟨O2, rfl⟩, r2, r3⟩ := r
  obtain ⟨e4, s4⟩ := q1.cut e3 s3
  exact q3.rt v d O _ H3 e4 s4 (i3.cut r2 _) r3
def relSp (pre : List D → Prop) (f : List D → D → Prop) : SpD := fun ds O R => pre ds ∧ ∀ d, f ds d → R d O
theorem x_asgE {tg : Expr} (he : Ev X ρ O e fun d O' => ∃ ρ1, Tg X tg d ρ ρ1 ∧ P.nx ρ1 O') (hs : swapsWithSole [tg] e pos.line X.env = pure false := by rfl) (hw : swappedStores [tg] e X.env = pure none := by rfl)
    (h1 : (assignEach [tg] X.env).map (·.2) = [assign tg X.env] := by rfl) : Ex X ρ O (.Assign [tg] e pos) P := fun G =>
  PS.imp (ps_asg (he G) (g := fun v σ H Q => ∃ G1 d ρ1, Tg X tg d ρ ρ1 ∧ Is X.K G1 d v ∧ Same G1.g H ∧ EnvR X.K G1 σ ρ ∧ ∀ σ', EnvR X.K G1 σ' ρ1 → Q σ' H) (fun pins s σ H v u Q I r ⟨G1, d, ρ1, ht, q⟩ => ht G1 pins s σ H v u Q I r q) hs hw h1) fun E σ H ⟨q1, q2, q3⟩ =>
    ⟨q1, q2, fun v d O' G' H' e1 s1 i1 ⟨ρ1, t1, r1⟩ => ⟨G', d, ρ1, t1, i1, s1.sub, q2.ext e1, fun σ' n' => q3.nx _ _ O' G' H' e1 s1 n' r1⟩⟩
theorem st0 {m : Option MO} {O2 : Sto} : (O ++ m :: O2)[O.length]? = some m := by
  rw [List.getElem?_append_right (Nat.le_refl _), Nat.sub_self]; rfl
theorem ss0 {m z : Option MO} {O2 : Sto} : (O ++ m :: O2).set O.length z = O ++ z :: O2 := by
  rw [List.set_append_right (h := Nat.le_refl _), Nat.sub_self]; rfl
section
variable {α : Type} {ps : List α} {f g : α → D} {h : α → Option D} {tg iter elt : Expr} {ifs : List Expr} {scope : Scope}
theorem fm_some (ps : List α) (g : α → D) : (ps.map fun q => some (g q)).filterMap id = ps.map g := by
  induction ps with
  | nil => rfl
  | cons a l ih => rw [List.map_cons, List.filterMap_cons, ih]; rfl
theorem fm_map (ps : List α) (h : α → Option D) : (ps.map h).filterMap id = ps.filterMap h := by
  rw [List.filterMap_map]; rfl
theorem ev_compF (h : α → Option D) (T F : List Str) (js : List Nat) (hi : EvI X ρ O tg iter (ps.map f)) (hsz : ps.length ≤ sizeLine) (turn : ∀ q, q ∈ ps → CTurn X T F js ρ O scope tg elt ifs (f q) (h q))
    (hfl : F.length = js.length := by rfl) (hB : freeB X.N X.env.scope.names scope.names F js = true := by rfl) (hc : X.calm = true := by rfl) (hk : scope.kind = .function := by rfl) (hs : ∀ x, foldedSetIterable iter X.env x = pure x := by intro _; rfl) :
    EvP X ρ O (.ListComp elt [⟨tg, iter, ifs, 0⟩] scope pos) (.lst (ps.filterMap h)) := by
  rw [← fm_map]
  refine ev_compZ T F js hi (by rw [List.length_map, List.length_map]) (by rw [List.length_map]; exact hsz) (fun i x z h1 h2 => ?_) hfl hB hc hk hs
  rw [List.getElem?_map] at h1 h2
  cases e : ps[i]? with
  | none => rw [e] at h1; cases h1
  | some q => rw [e] at h1 h2; cases h1; cases h2; exact turn q (List.mem_of_getElem? e)
theorem ev_compM (g : α → D) (T F : List Str) (js : List Nat) (hi : EvI X ρ O tg iter (ps.map f)) (hsz : ps.length ≤ sizeLine) (turn : ∀ q, q ∈ ps → CTurn X T F js ρ O scope tg elt ifs (f q) (some (g q)))
    (hfl : F.length = js.length := by rfl) (hB : freeB X.N X.env.scope.names scope.names F js = true := by rfl) (hc : X.calm = true := by rfl) (hk : scope.kind = .function := by rfl) (hs : ∀ x, foldedSetIterable iter X.env x = pure x := by intro _; rfl) :
    EvP X ρ O (.ListComp elt [⟨tg, iter, ifs, 0⟩] scope pos) (.lst (ps.map g)) := by
  rw [← fm_some, fm_map]
  exact ev_compF (fun q => some (g q)) T F js hi hsz turn hfl hB hc hk hs
theorem x_setF {x : Str} {p spos : Pos} (k : Nat) (h : α → Option D) (T F : List Str) (js : List Nat) (hi : EvI X ρ O tg iter (ps.map f)) (hsz : ps.length ≤ sizeLine) (turn : ∀ q, q ∈ ps → CTurn X T F js ρ O scope tg elt ifs (f q) (h q))
    (hP : P.nx (ρ.set k (some (.lst (ps.filterMap h)))) O) (hN : X.N.Nodup) (hx : X.N[k]? = some x := by rfl) (hlc : Loc X.env.scope x := by first | exact Or.inl rfl | exact Or.inr rfl) (hf : X.fn x = true ∨ X.env.scope.names.lookup x = some .local := by first | exact .inl rfl | exact .inr rfl | assumption)
    (hfl : F.length = js.length := by rfl) (hB : freeB X.N X.env.scope.names scope.names F js = true := by rfl) (hc : X.calm = true := by rfl) (hk : scope.kind = .function := by rfl) (hs : ∀ x, foldedSetIterable iter X.env x = pure x := by intro _; rfl)
    (hsw : swapsWith (.ListComp elt [⟨tg, iter, ifs, 0⟩] scope pos) (some (.Name x p)) spos.line X.env = pure true := by rfl) : Ex X ρ O (.Assign [.Name x p] (.ListComp elt [⟨tg, iter, ifs, 0⟩] scope pos) spos) P := by
  rw [← fm_map] at hP
  refine x_setC k T F js hi (by rw [List.length_map, List.length_map]) (by rw [List.length_map]; exact hsz) (fun i x z h1 h2 => ?_) hP hN hx hlc hf hfl hB hc hk hs hsw
  rw [List.getElem?_map] at h1 h2
  cases e : ps[i]? with
  | none => rw [e] at h1; cases h1
  | some q => rw [e] at h1 h2; cases h1; cases h2; exact turn q (List.mem_of_getElem? e)
theorem x_setM {x : Str} {p spos : Pos} (k : Nat) (g : α → D) (T F : List Str) (js : List Nat) (hi : EvI X ρ O tg iter (ps.map f)) (hsz : ps.length ≤ sizeLine) (turn : ∀ q, q ∈ ps → CTurn X T F js ρ O scope tg elt ifs (f q) (some (g q)))
    (hP : P.nx (ρ.set k (some (.lst (ps.map g)))) O) (hN : X.N.Nodup) (hx : X.N[k]? = some x := by rfl) (hlc : Loc X.env.scope x := by first | exact Or.inl rfl | exact Or.inr rfl) (hf : X.fn x = true ∨ X.env.scope.names.lookup x = some .local := by first | exact .inl rfl | exact .inr rfl | assumption)
    (hfl : F.length = js.length := by rfl) (hB : freeB X.N X.env.scope.names scope.names F js = true := by rfl) (hc : X.calm = true := by rfl) (hk : scope.kind = .function := by rfl) (hs : ∀ x, foldedSetIterable iter X.env x = pure x := by intro _; rfl)
    (hsw : swapsWith (.ListComp elt [⟨tg, iter, ifs, 0⟩] scope pos) (some (.Name x p)) spos.line X.env = pure true := by rfl) : Ex X ρ O (.Assign [.Name x p] (.ListComp elt [⟨tg, iter, ifs, 0⟩] scope pos) spos) P := by
  rw [← fm_some, fm_map] at hP
  exact x_setF k (fun q => some (g q)) T F js hi hsz turn hP hN hx hlc hf hfl hB hc hk hs hsw
theorem ei_LF {xs : List D} (he : EvP X ρ O e d) (fa : LF d xs) : EvI X ρ O tg e xs := by
  rcases fa with rfl | rfl | rfl
  · exact ei_lst he
  · exact ei_scr he
  · exact ei_tup he
end
end
end DL
set_option Elab.async false
set_option linter.all false
set_option maxRecDepth 100000
namespace DL
open PySem PySem.Spec PyProof.Rows L2
def cutA {α : Type} (a : List α) (lo hi : Option Int) : List α := (a.drop (HT.sIx a.length 0 lo)).take (HT.sIx a.length a.length hi - HT.sIx a.length 0 lo)
theorem slice_map {α : Type} {f : α → D} (a : List α) (lo hi : Option Int) : sliceD (a.map f) lo hi = (cutA a lo hi).map f := by
  unfold sliceD cutA
  rw [List.length_map, List.map_take, List.map_drop]
theorem cutA_mem {α : Type} {a : List α} {lo hi : Option Int} {x : α} (h : x ∈ cutA a lo hi) : x ∈ a := List.mem_of_mem_drop (List.mem_of_mem_take h)
theorem cutA_le {α : Type} (a : List α) (lo hi : Option Int) : (cutA a lo hi).length ≤ a.length := by
  unfold cutA
  rw [List.length_take, List.length_drop]
  omega
theorem cutA_take {α : Type} (a : List α) (k : Nat) : cutA a none (some (k : Int)) = a.take k := by
  unfold cutA
  rw [HT.sIx_none, HT.sIx_nat, List.drop_zero, Nat.sub_zero]
  rcases Nat.le_total k a.length with h | h
  · rw [Nat.min_eq_left h]
  · rw [Nat.min_eq_right h, List.take_of_length_le (Nat.le_refl _), List.take_of_length_le h]
theorem cutA_drop {α : Type} (a : List α) (k : Nat) : cutA a (some (k : Int)) none = a.drop k := by
  unfold cutA
  rw [HT.sIx_none, HT.sIx_nat]
  rcases Nat.le_total k a.length with h | h
  · rw [Nat.min_eq_left h, List.take_of_length_le (by rw [List.length_drop]; exact Nat.le_refl _)]
  · rw [Nat.min_eq_right h, Nat.sub_self, List.take_zero, List.drop_of_length_le h]
section
variable {X : Cx} {ρ : Rho} {O : Sto} {e a b c : Expr} {es : List Expr} {d da db : D} {ds : List D} {R : D → Sto → Prop} {pos p : Pos} {x : Str} {rest : List Stmt} {P : Post}
theorem ev_slLA {α : Type} {f : α → D} {as : List α} {lo hi : Option Expr} {l u : Option Int} {p2 : Pos} (ha : EvP X ρ O a da) (hx : LV O da (as.map f)) (hl : EvO X ρ O lo l) (hh : EvO X ρ O hi u) : EvP X ρ O (.Subscript a (.Slice lo hi none p2) pos) (.lst ((cutA as l u).map f)) := by
  rw [← slice_map]
  exact ev_slL ha hx hl hh
end
theorem atI_map {α : Type} {f : α → D} {a : List α} {i : Int} {v : α} (h0 : 0 ≤ i) (h : a[i.toNat]? = some v) : atI (a.map f) i = some (f v) := by
  obtain ⟨k, rfl⟩ := Int.eq_ofNat_of_zero_le h0
  rw [Int.toNat_natCast] at h
  exact atI_nat (by rw [List.getElem?_map, h]; rfl)
def sm {α : Type} (g : α → Int) : List α → Int
  | [] => 0
  | a :: l => g a + sm g l
section
variable {α β : Type} {g h : α → Int} {l m : List α}
end
theorem bitsP {b : Int} {n : Nat} (h0 : 0 ≤ b) (h1 : b < 2 ^ n) : PySem.Builtin.Int.intBits b ≤ n := by
  unfold PySem.Builtin.Int.intBits
  split
  · exact Nat.zero_le _
  · rename_i hz
    have hn : b.natAbs < 2 ^ n := by
      have e : ((2 ^ n : Nat) : Int) = 2 ^ n := by rw [Int.natCast_pow]; rfl
      omega
    have hp : b.natAbs ≠ 0 := by
      intro z; apply hz; rw [Int.natAbs_eq_zero.mp z]; rfl
    have := (Nat.log2_lt hp).mpr hn
    omega
theorem mulP {a b : Int} {m n : Nat} (a0 : 0 ≤ a) (a1 : a < 2 ^ m) (b0 : 0 ≤ b) (b1 : b < 2 ^ n) (h : m + n ≤ 134217728 := by decide) : IntMulOk a b := IntMulOk.of_le (bitsP a0 a1) (bitsP b0 b1) h
end DL
set_option Elab.async false
set_option linter.all false
set_option maxRecDepth 100000
namespace DL
open PySem PySem.Spec PyProof.Rows L2
section
variable {prog : Program} {w : World} {A : Around} {E : Value → Shared → Prop} {s : Shared}
end
section
variable {X : Cx} {ρ : Rho} {O : Sto} {e a b c st : Expr} {es : List Expr} {d da db : D} {ds xs : List D} {R : D → Sto → Prop} {pos p p2 : Pos} {x : Str} {rest : List Stmt} {P : Post}
end
end DL
set_option Elab.async false
set_option linter.all false
set_option maxRecDepth 100000
namespace DL
open PySem PySem.Spec PyProof.Rows L2
section
variable {prog : Program} {w : World} {A : Around} {E : Value → Shared → Prop} {s : Shared}
end
section
variable {X : Cx} {O : Sto} {xs : List D}
end
end DL
set_option Elab.async false
set_option linter.all false
set_option maxRecDepth 100000
namespace DL
open PySem PySem.Spec PyProof.Rows L2
def putD (f : Str) (d : D) : List (Str × D) → List (Str × D)
  | [] => [(f, d)]
  | (g, x) :: r => if g = f then (g, d) :: r else (g, x) :: putD f d r
section
variable {K : PySem.W.Frag} {G : Wd}
theorem FsIs.look {f : Str} {d : D} : ∀ {fs : List (Str × D)} {vs : List (Str × V)}, FsIs K G fs vs → fs.lookup f = some d → ∃ v, vs.lookup f = some v ∧ Is K G d v
  | _, _, .nil, e => by cases e
  | _, _, .cons (f := g) h r, e => by
    rw [List.lookup_cons] at e
    cases hc : f == g with
    | true =>
      rw [hc] at e
      cases e
      exact ⟨_, by rw [List.lookup_cons, hc], h⟩
    | false =>
      rw [hc] at e
      obtain ⟨v, e1, e2⟩ := FsIs.look r e
      exact ⟨v, by rw [List.lookup_cons, hc]; exact e1, e2⟩
end
section
variable {X : Cx} {ρ : Rho} {O : Sto} {e a b c o value : Expr} {es : List Expr} {d da db : D} {ds : List D} {R : D → Sto → Prop} {pos p apos pos' : Pos} {x f m : Str} {rest : List Stmt} {P : Post} {q : Nat} {C : Addr} {fs : List (Str × D)}
structure MethOk (P : Program) (w : World) (K : PySem.W.Frag) (mg : Str → Option Value) (base : Heap) (C : Addr) (k : Nat) (m : Str) (sp : SpD) : Prop where
  ex : ∃ f fd ps, FnOk P w K mg base CX0 k f fd ps (toSp K sp) ∧ Meth K C m f ∧ Binds K fd ps []
  cls : Cls K C
structure MakeOk (P : Program) (w : World) (K : PySem.W.Frag) (mg : Str → Option Value) (base : Heap) (C : Addr) (k : Nat) (x : Str) (sp : SpD) : Prop where
  ex : ∃ f fd ps, FnOk P w K mg base CX0 k f fd ps (toSp K sp) ∧ Mk K C f ∧ Binds K fd ps []
  at_ : mg x = some (.ref C)
end
end DL
set_option Elab.async false
set_option linter.all false
set_option maxRecDepth 100000
namespace DL
open PySem PySem.Spec PyProof.Rows L2
section
variable {X : Cx} {ρ : Rho} {O : Sto} {e a b c o ix value : Expr} {es : List Expr} {d da db : D} {ds xs : List D} {R : D → Sto → Prop} {pos p apos tpos : Pos} {x f m : Str} {rest : List Stmt} {P : Post} {q j : Nat} {i : Int}
theorem SA.lstAt {K : PySem.W.Frag} {G : Wd} {H : Hp} {v : V} (s : SA K G H O) (h1 : Is K G (.ptr q) v) (h : O[q]? = some (some (.lst xs))) : ∃ ad vs, v = .ref ad ∧ G.l[q]? = some ad ∧ H ad = some (.lst vs) ∧ Iss K G xs vs := by
  cases h1 with
  | ptr _ ha =>
    obtain ⟨ad, g1, g2, vs, g3, g4⟩ := s.mt q _ h
    cases Option.some.inj (ha.symm.trans g1)
    exact ⟨_, vs, rfl, g1, g3, g4⟩
theorem x_item (hv : EvP X ρ O value d) (ho : EvP X ρ O o (.ptr q)) (hq : O[q]? = some (some (.lst xs))) (hi : EvP X ρ O ix (.int i)) (hj : ixN xs.length i = some j) (h : P.nx ρ (O.set q (some (.lst (xs.set j d)))))
    (hs : swapsWithSole [.Subscript o ix tpos] value pos.line X.env = pure false := by rfl) (hw : swappedStores [.Subscript o ix tpos] value X.env = pure none := by rfl)
    (h1 : (assignEach [.Subscript o ix tpos] X.env).map (·.2) = [assign (.Subscript o ix tpos) X.env] := by rfl)
    (ha : ∀ v, assign (.Subscript o ix tpos) X.env v = (do
      let ov ← holding [v] (eval o X.env)
      let iv ← holding [v, ov] (eval ix X.env)
      standAt tpos
      holding [v, ov, iv] (setItem ov iv v)
      release [v, ov, iv] []) := by intro _; rfl) : Ex X ρ O (.Assign [.Subscript o ix tpos] value pos) P := fun G => by
  refine PS.imp (ps_asg (hv G) (pg_sub (to := fun σ H Q => ∃ G1, SA X.K G1 H O ∧ EnvR X.K G1 σ ρ ∧ ∀ v G' H', Ext G1 G' → SA X.K G' H' O → Is X.K G' (.ptr q) v → Q v H') (ti := fun σ H Q => ∃ G1, SA X.K G1 H O ∧ EnvR X.K G1 σ ρ ∧ ∀ v G' H', Ext G1 G' → SA X.K G' H' O → Is X.K G' (.int i) v → Q v H')
    (fun pins s σ H Q I ⟨G1, z⟩ => ho G1 pins s σ H Q I z) (fun pins s σ H Q I ⟨G1, z⟩ => hi G1 pins s σ H Q I z) set_list ha) hs hw h1) fun E σ H ⟨q1, q2, q3⟩ => ?_
  refine ⟨q1, q2, fun y G1 H1 e1 s1 i1 => ⟨G1, s1, q2.ext e1, fun ov G2 H2 e2 s2 i2 => ⟨G2, s2, q2.ext (e1.trans e2), fun iv G3 H3 e3 s3 i3 => ?_⟩⟩⟩
  obtain ⟨ad, vs, rfl, g1, g3, g4⟩ := s3.lstAt (i2.ext e3) hq
  cases i3
  refine ⟨ad, vs, i, j, rfl, rfl, g3, by rw [← g4.length]; exact hj, ?_⟩
  exact q3.nx σ ρ _ G3 _ ((e1.trans e2).trans e3) (s3.put (m' := .lst (xs.set j d)) hq g1 ⟨_, upd_same, g4.set (i1.ext (e2.trans e3)) j⟩) (q2.ext ((e1.trans e2).trans e3)) h
end
end DL
set_option Elab.async false
set_option linter.all false
set_option maxRecDepth 100000
set_option maxHeartbeats 1000000
namespace DL
open PySem PySem.Spec PyProof.Rows L2 PySem.W
structure EW (n : Nat) (k : Bool) (l i : Nat) (j : Int) (xs : Array Value) (f0 f1 old : Value) (h : Heap) : Prop where
  z : h.get? (n + 1) = some { cls := .type "enumerate", dict := none, data := .fields #[f0, f1, .ref n, .int j 0, .none, old], slots := #[] }
  w : SIt k h n l i
  s : SSq k h l xs
  b : l < n
def Oth2 (n : Nat) (h h' : Heap) : Prop := ∀ c o, c ≠ n → c ≠ n + 1 → h.get? c = some o → h'.get? c = some o
theorem Oth2.refl (n : Nat) (h : Heap) : Oth2 n h h := fun _ _ _ _ e => e
theorem Oth2.on {n : Nat} {h h1 h2 : Heap} (p : Oth2 n h h1) (q : Oth2 n h1 h2) : Oth2 n h h2 := fun c o c1 c2 e => q c o c1 c2 (p c o c1 c2 e)
theorem Oth2.more {n : Nat} {h h' : Heap} {o : Obj} (p : Oth2 n h h') : Oth2 n h (h'.push o) := p.on fun c u _ _ q => Heap.get?_push_of_some _ q
section
variable {prog : Program} {w : World} {A : Around} {E : Value → Shared → Prop} {s : Shared} {n l i : Nat} {j : Int} {k : Bool} {xs : Array Value} {f0 f1 old v : Value}
theorem EW.set {m : Nat} {vs : Array Value} {Q : Unit → Shared → Prop} (W : EW n k l i j xs f0 f1 old s.heap) (hm : m < 6)
    (hQ : ∀ h', h'.get? (n + 1) = some { cls := .type "enumerate", dict := none, data := .fields ((#[f0, f1, .ref n, .int j 0, .none, old] : Array Value).setIfInBounds m v), slots := #[] } → SIt k h' n l i → SSq k h' l xs → Oth2 n s.heap h' → h'.objs.size = s.heap.objs.size → Q () { s with heap := h' }) : wpAny (model prog w) A (setField (.ref (n + 1)) m v) Q E s :=
  wpAny_setField_rec W.z hm fun h' g e => hQ h' g (W.w.at fun o => e.extBut _ _ (ap (by omega))) (W.s.at fun o => e.extBut _ _ (ap (by have := W.b; omega))) (fun c o _ c2 q => e.extBut _ _ c2 q) e.1
theorem EW.set0 {Q : Unit → Shared → Prop} (W : EW n k l i j xs f0 f1 old s.heap) (hQ : ∀ h', EW n k l i j xs v f1 old h' → Oth2 n s.heap h' → h'.objs.size = s.heap.objs.size → Q () { s with heap := h' }) : wpAny (model prog w) A (setField (.ref (n + 1)) 0 v) Q E s := W.set (vs := #[]) (by decide) fun h' a b c d e => hQ h' ⟨a, b, c, W.b⟩ d e
theorem EW.set1 {Q : Unit → Shared → Prop} (W : EW n k l i j xs f0 f1 old s.heap) (hQ : ∀ h', EW n k l i j xs f0 v old h' → Oth2 n s.heap h' → h'.objs.size = s.heap.objs.size → Q () { s with heap := h' }) : wpAny (model prog w) A (setField (.ref (n + 1)) 1 v) Q E s := W.set (vs := #[]) (by decide) fun h' a b c d e => hQ h' ⟨a, b, c, W.b⟩ d e
theorem EW.set3 {j' : Int} {Q : Unit → Shared → Prop} (W : EW n k l i j xs f0 f1 old s.heap) (hQ : ∀ h', EW n k l i j' xs f0 f1 old h' → Oth2 n s.heap h' → h'.objs.size = s.heap.objs.size → Q () { s with heap := h' }) : wpAny (model prog w) A (setField (.ref (n + 1)) 3 (rawInt j')) Q E s := W.set (vs := #[]) (by decide) fun h' a b c d e => hQ h' ⟨a, b, c, W.b⟩ d e
theorem EW.set4 {Q : Unit → Shared → Prop} (W : EW n k l i j xs f0 f1 old s.heap) (hQ : ∀ h', EW n k l i j xs f0 f1 old h' → Oth2 n s.heap h' → h'.objs.size = s.heap.objs.size → Q () { s with heap := h' }) : wpAny (model prog w) A (setField (.ref (n + 1)) 4 .none) Q E s := W.set (vs := #[]) (by decide) fun h' a b c d e => hQ h' ⟨a, b, c, W.b⟩ d e
theorem EW.set5 {Q : Unit → Shared → Prop} (W : EW n k l i j xs f0 f1 old s.heap) (hQ : ∀ h', EW n k l i j xs f0 f1 v h' → Oth2 n s.heap h' → h'.objs.size = s.heap.objs.size → Q () { s with heap := h' }) : wpAny (model prog w) A (setField (.ref (n + 1)) 5 v) Q E s := W.set (vs := #[]) (by decide) fun h' a b c d e => hQ h' ⟨a, b, c, W.b⟩ d e
theorem EW.inner {Q : Value → Shared → Prop} (W : EW n k l i j xs f0 f1 old s.heap) (h : Q (.ref n) s) : wpAny (model prog w) A (field (.ref (n + 1)) 2) Q E s := wpAny_field W.z rfl (x := .ref n) rfl h
theorem EW.draw {x : Value} {Q : Value → Shared → Prop} (W : EW n k l i j xs f0 f1 old s.heap) (hx : xs[i]? = some x) (hQ : ∀ h', EW n k l (i + 1) j xs f0 f1 old h' → Oth2 n s.heap h' → h'.objs.size = s.heap.objs.size → Q x { s with heap := h' }) : wpAny (model prog w) A (Builtin.SmallTypes.nextOf (.ref n)) Q E s :=
  sq_item W.w W.s hx fun h' g e => hQ h' ⟨e.extBut _ _ (ap (by omega)) W.z, g, W.s.at fun o => e.extBut _ _ (ap (by have := W.b; omega)), W.b⟩ (fun c o c1 _ q => e.extBut _ _ c1 q) e.1
theorem EW.free {Q : Bool → Shared → Prop} (W : EW n k l i j xs f0 f1 old s.heap) (hf : ZF f0) (y : Q true s) (z : ∀ h' f, EW n k l i j xs f0 f old h' → Oth2 n s.heap h' → h'.objs.size = s.heap.objs.size → Q false { s with heap := h' }) : wpAny (model prog w) A (Builtin.SmallTypes.ownedTupleIsFree (.ref (n + 1))) Q E s := by
  obtain ⟨h, g, d, tk, os⟩ := s
  have hz := W.z
  dsimp only at hz
  rcases hf with rfl | ⟨c, rfl⟩
  · wp_walk
    exact y
  · wp_walk using alive_as
    cases h.get? (Int.toNat (c : Int)) with
    | none => wp_walk; exact y
    | some o =>
      by_cases m : f1 = .bool true
      · subst m
        wp_walk
        exact z _ _ W (Oth2.refl _ _) rfl
      · wp_walk using W.set1
        exact fun h' V o1 o2 => wpAny_pure (z h' _ V o1 o2)
theorem EW.more {h : Heap} {o : Obj} (W : EW n k l i j xs f0 f1 old h) : EW n k l i j xs f0 f1 old (h.push o) :=
  have e : ∀ c u, h.get? c = some u → (h.push o).get? c = some u := fun c u q => Heap.get?_push_of_some _ q
  ⟨e _ _ W.z, W.w.at (e _), W.s.at (e _), W.b⟩
theorem enum_item {x : Value} {Q : Value → Shared → Prop} (W : EW n k l i j xs f0 f1 old s.heap) (hf : ZF f0) (hx : xs[i]? = some x)
    (hQ : ∀ h' t f0' f1' old' tk', EW n k l (i + 1) (j + 1) xs f0' f1' old' h' → ZF f0' → IsPair h' s.heap.objs.size (.int j t) x → Oth2 n s.heap h' → Q (.ref s.heap.objs.size) { s with heap := h', toks := tk' }) :
    wpAny (model prog w) A (Builtin.«enumerate.__next__» ⟨[.ref (n + 1)], []⟩) (fun fin s' => ∃ v, fin = .done (.ret v) ∧ Q v s') E s := by
  obtain ⟨h, g, d, tk, os⟩ := s
  dsimp only at W hQ
  have z := W.z
  have lt : n + 1 < h.objs.size := Heap.lt_size z
  wp_walk using W.inner, W.draw hx
  intro h1 W1 o1 z1
  have t1 := W1.z
  wp_walk using EW.set3 (s := ⟨h1, g, d, tk + 1, os⟩) W1
  intro h2 W2 o2 z2
  wp_walk using EW.set4 (s := ⟨h2, g, d, tk + 1, os⟩) W2
  intro h3 W3 o3 z3
  have zl : h3.objs.size = h.objs.size := z3.trans (z2.trans z1)
  have ol : Oth2 n h h3 := o1.on (o2.on o3)
  have W4 : EW n k l (i + 1) (j + 1) xs f0 f1 old (h3.push { cls := .type "tuple", data := .seq #[.int j tk, x] }) := W3.more
  have t4 := W4.z
  have pr : IsPair (h3.push { cls := .type "tuple", data := .seq #[.int j tk, x] }) h3.objs.size (.int j tk) x := Heap.get?_push_size _ rfl
  have far : ∀ m, m ≤ 1 → h3.objs.size ≠ n + m := fun m hm => by omega
  have far0 : h3.objs.size ≠ n := far 0 (by decide)
  have far1 : h3.objs.size ≠ n + 1 := far 1 (by decide)
  rw [← zl] at hQ
  wp_walk using EW.free (s := ⟨h3.push _, g, d, tk + 1, os⟩) W4 hf, EW.set5 (s := ⟨h3.push _, g, d, tk + 1, os⟩) W4
  · intro h5 W5 o5 z5
    wp_walk using EW.set0 (s := ⟨h5, g, d, tk + 1, os⟩) W5
    intro h6 W6 o6 z6
    wp_walk using EW.set1 (s := ⟨h6, g, d, tk + 1, os⟩) W6
    intro h7 W7 o7 z7
    wp_walk
    exact ⟨_, rfl, hQ h7 tk _ _ _ _ W7 (.inr ⟨_, rfl⟩) (o7 _ _ far0 far1 (o6 _ _ far0 far1 (o5 _ _ far0 far1 pr))) (ol.more.on (o5.on (o6.on o7)))⟩
  · intro h5 f W5 o5 z5
    wp_walk
    exact ⟨_, rfl, hQ h5 tk _ _ _ _ W5 hf (o5 _ _ far0 far1 pr) (ol.more.on o5)⟩
theorem enum_end {Q : PySem.Fin → Shared → Prop} (hh : A.handled = none) (W : EW n k l i j xs f0 f1 old s.heap) (he : xs[i]? = none) (hE : ∀ h' e, Oth2 n s.heap h' → (∃ o, h'.get? e = some o ∧ o.cls = .type "StopIteration") → E (.ref e) { s with heap := h' }) :
    wpAny (model prog w) A (Builtin.«enumerate.__next__» ⟨[.ref (n + 1)], []⟩) Q E s := by
  obtain ⟨h, g, d, tk, os⟩ := s
  dsimp only at W hE
  wp_walk using W.inner, sq_end hh W.w W.s he
  exact fun h' e x y => hE h' e (fun c o c1 _ q => x c o c1 q) y
def etn (k : Bool) (n l i : Nat) (h : Heap) : Prop := ∃ f0 f1 old, ZF f0 ∧ h.get? (n + 1) = some { cls := .type "enumerate", dict := none, data := .fields #[f0, f1, .ref n, .int i 0, .none, old], slots := #[] } ∧ SIt k h n l i
theorem EW.tn {h : Heap} (W : EW n k l i i xs f0 f1 old h) (hf : ZF f0) : etn k n l i h := ⟨f0, f1, old, hf, W.z, W.w⟩
theorem go_enum {tg : Expr} {u : Value} {Q : Unit → Shared → Prop} (W : EW n k l i j xs f0 f1 old s.heap) (hf : ZF f0) (hQ : ∀ h' f, EW n k l i j xs f f1 old h' → ZF f → Oth2 n s.heap h' → Q () { s with heap := h' }) : wpAny (model prog w) A (letOwnedTupleGo tg (.ref (n + 1)) u) Q E s := by
  have same : Q () s := hQ s.heap _ W hf (Oth2.refl _ _)
  obtain ⟨h, g, d, tk, os⟩ := s
  have z := W.z
  dsimp only at z
  unfold letOwnedTupleGo
  cases tg <;> try exact wpAny_pure same
  all_goals cases u <;> try exact wpAny_pure same
  all_goals
    wp_walk
    split
    · exact wpAny_bind (wpAny_rule (W.set0 (s := ⟨h, g, d, tk, os⟩) (v := .none) fun h' V o z => hQ h' _ V (.inl rfl) o))
    · exact wpAny_pure same
theorem through_any {M : Model} {c : Value} {Q : Bool → Shared → Prop} (h : ∀ b, Q b s) : wpAny M A (Builtin.SmallTypes.calledThroughType c) Q E s := wpAny_bind (wpAny_stack_any fun _ => wpAny_pure (h _))
end
theorem enum_made (k : Bool) (l : Addr) (xs : Array Value) :
    Meets (Builtin.«enumerate.__new__» ⟨[.type "enumerate", .ref l], []⟩) (fun _ R s => SSq k s.heap l xs ∧
      ∀ h', EW s.heap.objs.size k l 0 0 xs .none (.bool false) .none h' → (∀ c o, s.heap.get? c = some o → h'.get? c = some o) → R (.ok (.ret (.ref (s.heap.objs.size + 1)))) { s with heap := h' }) :=
  .of_wp fun prog w A R s q => by
    obtain ⟨h, g, d, tk, os⟩ := s
    obtain ⟨t, q⟩ := q
    have hsub := sub_enumerate
    have lt : l < h.objs.size := by
      cases k with
      | true => obtain ⟨o, g, _⟩ := (t : h.IsList l xs); exact Heap.lt_size g
      | false => obtain ⟨o, g, _⟩ := (t : h.IsTuple l xs); exact Heap.lt_size g
    wp_walk using through_any
    intro b
    have fin : ∀ a, a.isFreed = false → (∀ (h : Heap) c, h.get? c = some a → SIt k h c l 0) → R (.ok (.ret (.ref (h.push a).objs.size))) ⟨(h.push a).push { cls := .type "enumerate", data := .fields #[.none, .bool false, .ref h.objs.size, .int 0 0, .none, .none] }, g, d, tk, os⟩ := fun a fa ia => by
      have up : ∀ c u, h.get? c = some u → ((h.push a).push { cls := .type "enumerate", data := .fields #[.none, .bool false, .ref h.objs.size, .int 0 0, .none, .none] }).get? c = some u := fun c u e => Heap.get?_push_of_some _ (Heap.get?_push_of_some _ e)
      rw [Heap.size_push]
      refine q _ ⟨?_, ia _ _ (Heap.get?_push_of_some _ (Heap.get?_push_size _ fa)), t.at (up _), lt⟩ up
      rw [← Heap.size_push h a]
      exact Heap.get?_push_size _ rfl
    cases b
    all_goals
      wp_walk using iter_sq t
      intro a fa ia
      wp_walk
      exact ⟨_, rfl, fin a fa ia⟩
theorem call_enum {prog : Program} {w : World} {A : Around} {E : Value → Shared → Prop} {s : Shared} {k : Bool} {l : Addr} {xs : Array Value} {Q : Value → Shared → Prop} (t : SSq k s.heap l xs)
    (hQ : ∀ h', etn k s.heap.objs.size l 0 h' → (∀ c o, s.heap.get? c = some o → h'.get? c = some o) → Q (.ref (s.heap.objs.size + 1)) { s with heap := h' }) : wpAny (model prog w) A (call (.type "enumerate") [.ref l]) Q E s :=
  callType_new F.called_enumerate (by decide) (F.typeCall_enumerate_1 _) (F.newCall_enumerate_1 _) (fun obj => F.args_object_init_2 obj _) F.entry_enumerate_new (enum_made k l xs) ⟨t, fun h' W up => ⟨⟨_, W.z, rfl⟩, hQ h' (W.tn (.inl rfl)) up⟩⟩
end DL
set_option Elab.async false
set_option linter.all false
set_option maxRecDepth 100000
set_option maxHeartbeats 1000000
namespace DL
open PySem PySem.Spec PyProof.Rows L2 PySem.W
def Ite (k : Bool) (K : PySem.W.Frag) (l : Addr) : It :=
  ⟨fun i H => ∃ as a, Sq k K H l as ∧ as[i]? = some a,
   fun i H x H' => ∃ T a, H T = none ∧ H' = upd H T (.tup [.int (i : Nat), a]) ∧ x = .ref T ∧ ∀ as, Sq k K H l as → as[i]? = some a,
   fun i H => ∃ as, Sq k K H l as ∧ as.length ≤ i⟩
def efp (n : Nat) : List Addr := [n, n + 1]
theorem etn_keep {k : Bool} {n l i : Nat} {h h' : Heap} (st : etn k n l i h) (q : ∀ b ∈ efp n, ∀ o, h.get? b = some o → h'.get? b = some o) : etn k n l i h' := by
  obtain ⟨f0, f1, old, hf, z, w⟩ := st
  exact ⟨f0, f1, old, hf, q _ (by simp [efp]) _ z, w.at (q _ (by simp [efp]))⟩
theorem etn_obj {k : Bool} {n l i : Nat} {h : Heap} (st : etn k n l i h) : ∀ b ∈ efp n, ∃ o, h.get? b = some o ∧ ∀ v, o.data ≠ .cell v := by
  obtain ⟨f0, f1, old, hf, z, w⟩ := st
  intro b hb
  rcases List.mem_cons.mp hb with rfl | hb
  · exact w.obj
  · cases List.mem_singleton.mp hb
    exact ⟨_, z, fun v e => by cases e⟩
theorem Oth2.fp {n : Nat} {h h' : Heap} (p : Oth2 n h h') : ∀ c o, c ∉ efp n → h.get? c = some o → h'.get? c = some o := fun c o hc => p c o (fun e => hc (by simp [efp, e])) (fun e => hc (by simp [efp, e]))
theorem turn_enum {P : Program} {w : World} {K : PySem.W.Frag} {tg : Expr} (k : Bool) (n l : Nat) (hl : l < n) : Turn P w K tg (Ite k K l) (efp n) (n + 1) (etn k n l) where
  mem := by simp [efp]
  obj := fun i h st => etn_obj st
  keep := fun i h h' st q => etn_keep st q
  item := by
    intro X hP hw hK hc i pins s σ H E I hf st hg
    subst hP hw hK
    obtain ⟨as, a, q1, ga⟩ := hg
    obtain ⟨ia, va, sa, _⟩ := Inv_sq I q1
    obtain ⟨ua, hua, rua⟩ := va.get ga
    have hTn : s.heap.objs.size ∉ efp n := fun m => let ⟨o, e, _⟩ := etn_obj st _ m; Nat.lt_irrefl _ (Heap.lt_size e)
    obtain ⟨f0, f1, old, zf, z, w1⟩ := st
    refine next_by ⟨_, z, rfl⟩ F.slot_enumerate_next F.entry_enumerate_next (F.args_enumerate_next_1 _) (enum_item (x := ua) ⟨z, w1, sa, hl⟩ zf (by simpa using hua) fun h1 t f0' f1' old' tk' W1 zf1 pr o1 => ⟨_, rfl, go_enum (s := { s with heap := h1, toks := tk' }) W1 zf1 fun h2 f W2 zf2 o2 => ?_⟩)
    have Iz : L2.Inv X pins σ H { s with heap := h2, toks := tk' } := Inv_tur5 I hf (o1.on o2).fp
    have fr : H s.heap.objs.size = none := I.hok.fresh (Nat.le_refl _)
    refine ⟨.ref s.heap.objs.size, upd H s.heap.objs.size (.tup [.int (i : Nat), a]), ?_, rfl, ⟨_, a, fr, rfl, rfl, fun cs q => ?_⟩, ?_, fun c hb => ?_⟩
    · refine Inv_track Iz (I.fpOk (Nat.le_refl _) fr) I.sz ⟨show 2 ≤ sizeLine by decide, [.int i t, ua], .cons ⟨t, rfl⟩ (.cons rua .nil), ?_⟩
      exact ⟨_, o2.fp _ _ hTn pr, rfl, rfl, _, rfl⟩
    · rw [Inv_sq_inj I q q1]; exact ga
    · exact EW.tn (i := i + 1) W2 zf2
    · rw [upd_ne (fun e => hTn (by rw [← e]; exact hb))]; exact (hf c hb).1
  done := by
    intro X hP hw hK hc i pins s σ H E I hf st hg
    subst hP hw hK
    obtain ⟨as, q1, hend⟩ := hg
    obtain ⟨ia, va, sa, _⟩ := Inv_sq I q1
    obtain ⟨f0, f1, old, zf, z, w1⟩ := st
    have e1 := va.length
    exact next_by ⟨_, z, rfl⟩ F.slot_enumerate_next F.entry_enumerate_next (F.args_enumerate_next_1 _) (enum_end (I.ok.hd hc) ⟨z, w1, sa, hl⟩ (by simp; omega) fun h' e p q => ⟨q, rfl, Inv_tur5 (t' := s.toks) I hf p.fp⟩)
  self := fun A i s Q E st h => by
    obtain ⟨f0, f1, old, zf, z, _⟩ := st
    exact own_iter ⟨_, z, rfl⟩ F.slot_enumerate_iter F.entry_enumerate_iter (F.args_enumerate_iter_1 _) F.slot_enumerate_next (wpAny_pure ⟨rfl, rfl⟩) h
theorem ite_yields {K : PySem.W.Frag} {G : Wd} {k : Bool} {l : Addr} {vs : List V} {xs : List D} (h1 : Sq k K G.g l vs) (r1 : Iss K G xs vs) : Yields K G (Ite k K l) (xs.zipIdx.map fun p => .tup [.int (p.2 : Nat), p.1]) where
  go := fun i H e hi => by
    have hi : i < xs.length := by simpa using hi
    obtain ⟨a, ha, _⟩ := r1.get (i := i) (d := xs[i]) (by simp)
    exact ⟨vs, a, h1.same e, ha⟩
  stop := fun i H e hi => by
    have hi : xs.length ≤ i := by simpa using hi
    exact ⟨vs, h1.same e, by rw [← r1.length]; exact hi⟩
  yld := fun i v H H' G2 O2 e s y hi => by
    obtain ⟨T, a, hT, rfl, rfl, y1⟩ := y
    obtain ⟨x, hx, ix⟩ := r1.getV (y1 vs (h1.same (e.g.trans s.sub)))
    obtain ⟨e3, s3⟩ := s.laid (o := .tup [.int (i : Nat), a]) hT
    refine ⟨.tup [.int (i : Nat), x], _, ?_, e3, s3, .tup (SqT.of upd_same) (.cons (.int _) (.cons (ix.ext (e.trans e3)) .nil))⟩
    rw [List.getElem?_map, List.getElem?_zipIdx, hx]
    simp
section
variable {X : Cx} {ρ : Rho} {O : Sto} {e a b c : Expr} {es : List Expr} {d da db : D} {ds : List D} {R : D → Sto → Prop} {pos p : Pos} {x : Str} {xs ys : List D}
theorem ez_enum (ha : EvP X ρ O a da) (fa : LF da xs) (hm : X.mg "enumerate" = none) (hg : Gl X "enumerate" := by rfl) (hs : starEach [a] X.env = [(false, eval a X.env)] := by rfl) :
    EvZ X ρ O (.Call (.Name "enumerate" p) [a] [] pos) (xs.zipIdx.map fun p => .tup [.int (p.2 : Nat), p.1]) "enumerate" := fun G tg pins s σ H R I sa en k => by
  refine Call_ (ld_blt I hg hm boot_enumerate (PyProof.Rows.callWith_type1 (thn (es_cons ha es_nil hs G pos pins s σ H (fun vs H' => ∃ G', Ext G G' ∧ SA X.K G' H' O ∧ Iss X.K G' [da] vs) I ⟨sa, en, fun vs G' H' e1 s1 i1 => ⟨G', e1, s1, i1⟩⟩) fun us s1 ⟨vs, H1, I1, r1, G1, e1, sa1, is1⟩ => ?_) (by rw [hs]; rfl) rfl))
  cases is1 with | cons i1 is1 =>
  cases is1
  obtain ⟨k1, l1, v1, rfl, q1, j1⟩ := fa.sq i1
  obtain ⟨u, rfl, ru⟩ := vals1 r1
  cases ru
  obtain ⟨t1, w1, g1, z1⟩ := Inv_sq I1 (q1.same sa1.sub)
  have lt : l1 < s1.heap.objs.size := by
    cases k1 with
    | true => obtain ⟨o, g, _⟩ := (g1 : s1.heap.IsList l1 _); exact Heap.lt_size g
    | false => obtain ⟨o, g, _⟩ := (g1 : s1.heap.IsTuple l1 _); exact Heap.lt_size g
  refine call_enum g1 fun h' Z kp => ?_
  have Ik : L2.Inv X pins σ H1 { s1 with heap := h', toks := s1.toks } := I1.kept kp
  refine ⟨⟨s1.heap.objs.size + 1, efp s1.heap.objs.size, etn k1 s1.heap.objs.size l1, Ite k1 X.K l1, H1, rfl, Ik, turn_enum k1 _ l1 lt, Z, fun b hb => ?_, k _ G1 H1 e1 sa1 (ite_yields q1 j1)⟩, ?_⟩
  · have hb' : s1.heap.objs.size ≤ b := by
      rcases List.mem_cons.mp hb with rfl | hb
      · exact Nat.le_refl _
      · cases List.mem_singleton.mp hb; exact Nat.le_succ _
    exact I1.fpOk hb' (I1.hok.fresh hb')
  · obtain ⟨f0, f1, old, _, hz, _⟩ := Z
    exact ⟨_, hz, rfl⟩
theorem ez_enumM {α : Type} {f : α → D} {as : List α} (ha : EvP X ρ O a da) (fa : LF da (as.map f)) (hm : X.mg "enumerate" = none) (hg : Gl X "enumerate" := by rfl) (hs : starEach [a] X.env = [(false, eval a X.env)] := by rfl) :
    EvZ X ρ O (.Call (.Name "enumerate" p) [a] [] pos) (as.zipIdx.map fun p => .tup [.int (p.2 : Nat), f p.1]) "enumerate" := by
  have e : (as.zipIdx.map fun p => D.tup [.int (p.2 : Nat), f p.1]) = ((as.map f).zipIdx.map fun p => D.tup [.int (p.2 : Nat), p.1]) := by
    rw [List.zipIdx_map, List.map_map]
    rfl
  rw [e]
  exact ez_enum ha fa hm hg hs
end
end DL
set_option Elab.async false
set_option linter.all false
set_option maxRecDepth 100000
set_option maxHeartbeats 1000000
namespace DL
open PySem PySem.Spec PyProof.Rows L2
section
variable {X : Cx} {ρ : Rho} {O : Sto} {e a b c o value : Expr} {es : List Expr} {d da db : D} {ds : List D} {R : D → Sto → Prop} {pos p p2 apos pos' : Pos} {x y f m : Str} {rest : List Stmt} {P : Post} {q : Nat} {C C2 : Addr} {fs : List (Str × D)}
structure ClsTy (K : PySem.W.Frag) (C : Addr) : Prop where
  cls : Cls K C
  ha : PySem.W.findIn K (.ref C) "__class__" = some (some (.builtin "object.__class__"))
  hn : PySem.W.specialIn K (.builtin "object.__class__") "__get__" = some (some (.builtin "getset_descriptor.__get__"))
  htk : PySem.W.takesIn K (.builtin "object.__class__") = some true
  hm : PySem.W.mroIn K C (.type "object") = some true
structure OfCls (P : Program) (w : World) (K : PySem.W.Frag) (mg : Str → Option Value) (base : Heap) (x : Str) (k : Nat) (m : Str) (sp : SpD) : Prop where
  ex : ∃ C mc f fd ps, mg x = some (.ref C) ∧ PySem.W.specialIn K (.ref C) "__getattribute__" = some (some (.builtin "type.__getattribute__")) ∧ PySem.W.readsIn K C mc = true ∧ PySem.W.findCls K (.ref C) mc m = some (.val (.ref f)) ∧ PySem.W.handedIn (.ref f) = true ∧
    FnOk P w K mg base CX0 k f fd ps (toSp K sp) ∧ PySem.W.keepIn K (.ref f) = true ∧ Binds K fd ps []
end
end DL
set_option Elab.async false
set_option linter.all false
set_option maxRecDepth 100000
set_option maxHeartbeats 1000000
namespace DL
open PySem PySem.Spec PyProof.Rows L2
def EvTE (X : Cx) (ρ : Rho) (O : Sto) (e : Expr) (R : Bool → Sto → Prop) : Prop :=
  ∀ G, PT X e (fun σ H Q => SA X.K G H O ∧ EnvR X.K G σ ρ ∧ ∀ k O' G' H', Ext G G' → SA X.K G' H' O' → R k O' → Q k H')
section
variable {X : Cx} {ρ : Rho} {O : Sto} {e a b c : Expr} {body orelse : List Stmt} {d da db : D} {pos : Pos} {P : Post}
end
end DL
set_option Elab.async false
set_option linter.all false
set_option maxRecDepth 100000
set_option maxHeartbeats 1000000
namespace DL
open PySem PySem.Spec PyProof.Rows L2
section
variable {X : Cx} {ρ : Rho} {O : Sto} {a b : Expr} {pos : Pos} {R : D → Sto → Prop} {xs : List D}
end
end DL
set_option Elab.async false
set_option linter.all false
set_option maxRecDepth 100000
set_option maxHeartbeats 1000000
namespace DL
open PySem PySem.Spec PyProof.Rows L2 PySem.W
section
variable {X : Cx} {ρ : Rho} {O : Sto} {d : D} {xs ys : List D}
def lstI (ns : List Int) : Int := ns.getD (argBest (fun i j => decide (ns.getD i 0 < ns.getD j 0)) (ns.length - 1)) 0
def grtI (ns : List Int) : Int := ns.getD (argBest (fun i j => decide (ns.getD i 0 > ns.getD j 0)) (ns.length - 1)) 0
end
end DL
set_option Elab.async false
set_option linter.all false
set_option maxRecDepth 100000
set_option maxHeartbeats 1000000
namespace DL
open PySem PySem.Spec PyProof.Rows L2 PySem.W
structure FunD (K : PySem.W.Frag) (x qual : Str) (st : Stmt) (f : Addr) (fd : FuncData) (dv : List Value) : Prop where
  ex : ∃ (T : Addr) (cT : Value) (dT : Option Addr) (nT : Nat) (sT : Array (Option Value)) (oc : Value) (od : Option Addr) (kV doc pm : Value) (an : Option Addr) (cdv ct : Value) (osl : Array (Option Value)),
    fd = PySem.W.fnOf x qual (defArgs st) (defBody st) (defScope st) (.ref T) kV doc pm an cdv ct ∧ K.lookup f = some ⟨oc, od, .func fd, osl⟩ ∧ PySem.W.codeIn K cdv qual = true ∧ K.lookup T = some ⟨cT, dT, .seq dv.toArray nT, sT⟩
  kp : PySem.W.keepIn K (.ref f) = true
section
variable {P : Program} {w : World} {K : PySem.W.Frag} {mg : Str → Option Value} {base : Heap}
end
section
variable {X : Cx} {ρ : Rho} {O : Sto} {a : Expr} {pos p : Pos} {R : D → Sto → Prop} {xs : List D} {d : D}
end
end DL
set_option Elab.async false
set_option linter.all false
set_option maxRecDepth 100000
set_option maxHeartbeats 1000000
namespace DL
open PySem PySem.Spec PyProof.Rows L2 PySem.W
def minP (ps : List (Int × Int)) : Int × Int := ps.getD (argBest (fun i j => ltP (ps.getD i (0, 0)) (ps.getD j (0, 0))) (ps.length - 1)) (0, 0)
def PairAt (h : Heap) (v : Value) (p : Int × Int) : Prop := ∃ a o n t u, v = .ref a ∧ h.get? a = some o ∧ o.cls = .type "tuple" ∧ o.data = .seq #[.int p.1 t, .int p.2 u] n
section
variable {prog : Program} {w : World} {A : Around} {E : Value → Shared → Prop} {s : Shared}
end
section
variable {X : Cx} {O : Sto} {d : D} {k : Nat}
end
end DL
set_option Elab.async false
set_option linter.all false
set_option maxRecDepth 100000
set_option maxHeartbeats 1000000
namespace DL
open PySem PySem.Spec PyProof.Rows L2 PySem.W
section
variable {X : Cx} {ρ : Rho} {O : Sto} {e : Expr} {p p2 pos pos2 : Pos}
end
end DL
set_option Elab.async false
set_option linter.all false
set_option maxRecDepth 100000
set_option maxHeartbeats 1000000
namespace DL
open PySem PySem.Spec PyProof.Rows L2 PySem.W
structure MakeOkN (P : Program) (w : World) (K : PySem.W.Frag) (mg : Str → Option Value) (base : Heap) (C : Addr) (k : Nat) (x : Str) (sp : SpD) : Prop where
  ex : ∃ f fd ps, FnOk P w K mg base CX0 k f fd ps (toSp K sp) ∧ Mk K C f ∧ Binds K fd ps [.none]
  at_ : mg x = some (.ref C)
section
variable {X : Cx} {ρ : Rho} {O : Sto} {e : Expr} {es : List Expr} {ds : List D} {R : D → Sto → Prop} {pos p : Pos} {x : Str} {C : Addr}
end
end DL
set_option Elab.async false
set_option linter.all false
set_option maxRecDepth 100000
set_option maxHeartbeats 1000000
namespace DL
open PySem PySem.Spec PyProof.Rows L2
end DL
set_option Elab.async false
set_option linter.all false
set_option maxRecDepth 100000
set_option maxHeartbeats 1000000
namespace DL
open PySem PySem.Spec PyProof.Rows L2
section
variable {X : Cx} {ρ : Rho} {O : Sto} {a b : Expr} {pos : Pos}
end
end DL
set_option Elab.async false
set_option linter.all false
set_option maxRecDepth 100000
set_option maxHeartbeats 1000000
namespace DL
open PySem PySem.Spec PyProof.Rows L2
section
variable {X : Cx} {ρ : Rho} {O : Sto} {a e : Expr} {d : D}
def rCnt (K : PySem.W.Frag) : V → List V → Hp → VK → Prop := fun x vs H Q => ∃ (p : Addr) (ns : List Int) (k : Int), x = .ref p ∧ vs = [.int k] ∧ SqL K H p (ns.map V.int) ∧ Q (.int ((ns.count k : Nat) : Int)) H
end
section
variable {prog : Program} {w : World} {A : Around} {E : Value → Shared → Prop} {s : Shared}
end
section
variable {X : Cx} {O : Sto} {xs : List D}
end
end DL
set_option Elab.async false
set_option linter.all false
set_option maxRecDepth 100000
set_option maxHeartbeats 1000000
namespace DL
open PySem PySem.Spec PyProof.Rows L2
section
variable {X : Cx} {ρ : Rho} {O : Sto} {a b : Expr} {d : D} {pos : Pos}
end
end DL
set_option Elab.async false
set_option linter.all false
set_option maxRecDepth 100000
set_option maxHeartbeats 1000000
namespace DL
open PySem PySem.Spec PyProof.Rows L2
def stepL {α : Type} (l : List α) (lo : Nat) : List α := (List.range ((l.length - lo + 1) / 2)).filterMap fun k => l[lo + 2 * k]?
def LoIs (o : Option Int) (lo : Nat) : Prop := (o = none ∧ lo = 0) ∨ (o = some 1 ∧ lo = 1)
section
variable {X : Cx} {ρ : Rho} {O : Sto} {e a b c st : Expr} {d da db : D} {xs ys : List D} {R : D → Sto → Prop} {pos p p2 : Pos} {P : Post} {q : Nat}
end
end DL
set_option Elab.async false
set_option linter.all false
set_option maxRecDepth 100000
set_option maxHeartbeats 1000000
namespace DL
open PySem PySem.Spec PyProof.Rows L2
section
variable {prog : Program} {w : World} {A : Around} {E : Value → Shared → Prop} {s : Shared}
end
section
variable {X : Cx} {ρ : Rho} {O : Sto} {a st lo : Expr} {xs : List D} {pos p2 : Pos}
end
end DL
set_option Elab.async false
set_option linter.all false
set_option maxRecDepth 100000
set_option maxHeartbeats 1000000
namespace DL
open PySem PySem.Spec PyProof.Rows L2
section
variable {X : Cx} {ρ : Rho} {O : Sto} {e : Expr} {C C2 : Addr} {x : Str} {p p2 pos : Pos} {R : D → Sto → Prop}
end
end DL
set_option Elab.async false
set_option linter.all false
set_option maxRecDepth 100000
set_option maxHeartbeats 1000000
namespace DL
open PySem PySem.Spec PyProof.Rows L2
section
variable {X : Cx} {ρ : Rho} {O : Sto} {o ix e : Expr} {pos tpos : Pos} {P : Post} {q : Nat}
def rGetL : V → V → Hp → VK → Prop := fun x y H Q => ∃ (p : Addr) (xs : List V) (i : Nat) (v : V), x = .ref p ∧ y = .int (i : Int) ∧ i < 1000000 ∧ H p = some (.lst xs) ∧ xs[i]? = some v ∧ Q v H
end
end DL
set_option Elab.async false
set_option linter.all false
set_option maxRecDepth 100000
set_option maxHeartbeats 1000000
namespace DL
open PySem PySem.Spec PyProof.Rows L2 PySem.W
section
variable {prog : Program} {w : World} {A : Around} {E : Value → Shared → Prop} {s : Shared} {n l : Nat} {j : Int} {xs : Array Value} {v : Value}
def RV (n l : Nat) (j : Int) (h : Heap) : Prop := h.get? n = some { cls := .type "reversed", dict := none, data := .fields #[.ref l, rawInt j], slots := #[] }
end
def Itv (K : PySem.W.Frag) (l : Addr) : It :=
  ⟨fun i H => ∃ xs x, SqT K H l xs ∧ xs.reverse[i]? = some x, fun i H x H' => H' = H ∧ ∀ xs, SqT K H l xs → xs.reverse[i]? = some x, fun i H => ∃ xs, SqT K H l xs ∧ xs.length ≤ i⟩
section
variable {X : Cx} {ρ : Rho} {O : Sto} {a : Expr} {pos p : Pos} {xs : List D}
end
end DL
set_option Elab.async false
set_option linter.all false
set_option maxRecDepth 100000
set_option maxHeartbeats 1000000
namespace DL
open PySem PySem.Spec PyProof.Rows L2 PySem.W
section
variable {prog : Program} {w : World} {A : Around} {E : Value → Shared → Prop} {s : Shared} {l : Nat} {k : Int} {t : Tok} {vs : List Value} {ns : List Int}
end
section
variable {X : Cx} {ρ : Rho} {O : Sto} {a e : Expr}
def rIdx (K : PySem.W.Frag) : V → List V → Hp → VK → Prop := fun x vs H Q => ∃ (p : Addr) (ns : List Int) (k : Int), x = .ref p ∧ vs = [.int k] ∧ SqT K H p (ns.map V.int) ∧ k ∈ ns ∧ Q (.int ((ns.idxOf k : Nat) : Int)) H
end
end DL
set_option Elab.async false
set_option linter.all false
set_option maxRecDepth 100000
set_option maxHeartbeats 1000000
namespace L2
open PySem PySem.Spec PyProof.Rows
def Mild {α : Type} : Sem α → Prop
  | .pure _ => True
  | .raise _ => True
  | .unsupported _ => True
  | .finish _ => True
  | .rule _ k => Mild (k ())
  | .at _ k => Mild (k ())
  | .load _ _ k => ∀ o, Mild (k o)
  | .update _ _ f k => (∀ o : Obj, ((f o).dict = o.dict ∧ ctxOf (f o) = ctxOf o) ∧ (o.data ≠ .freed → (f o).data ≠ .freed)) ∧ Mild (k ())
  | .alloc _ k => ∀ a, Mild (k a)
  | .loadIfAlive _ k => ∀ o, Mild (k o)
  | .point _ k => Mild (k ())
  | .fresh k => ∀ t, Mild (k t)
  | .ask k => ∀ t, Mild (k t)
  | .handled _ k => ∀ t, Mild (k t)
  | .stack k => ∀ t, Mild (k t)
  | .thread k => ∀ t, Mild (k t)
  | _ => False
theorem Mild.bind {α β : Type} {t : Sem α} {k : α → Sem β} (h : Mild t) (g : ∀ a, Mild (k a)) : Mild (t >>= k) := by
  show Mild (Sem.bind t k)
  induction t with
  | pure a => exact g a
  | raise _ => trivial
  | unsupported _ => trivial
  | finish _ => trivial
  | rule _ _ ih => exact ih () h
  | «at» _ _ ih => exact ih () h
  | load _ _ _ ih => exact fun o => ih o (h o)
  | update _ _ _ _ ih => exact ⟨h.1, ih () h.2⟩
  | alloc _ _ ih => exact fun o => ih o (h o)
  | loadIfAlive _ _ ih => exact fun o => ih o (h o)
  | point _ _ ih => exact ih () h
  | fresh _ ih => exact fun o => ih o (h o)
  | ask _ ih => exact fun o => ih o (h o)
  | handled _ _ ih => exact fun o => ih o (h o)
  | stack _ ih => exact fun o => ih o (h o)
  | thread _ ih => exact fun o => ih o (h o)
  | _ => exact h.elim
def DK (h h' : Heap) : Prop := ∀ b o, h.get? b = some o → ∃ o', h'.get? b = some o' ∧ o'.dict = o.dict ∧ ctxOf o' = ctxOf o
theorem DK.refl (h : Heap) : DK h h := fun _ o e => ⟨o, e, rfl, rfl⟩
theorem DK.trans {h h1 h2 : Heap} (x : DK h h1) (y : DK h1 h2) : DK h h2 := fun b o e => by
  obtain ⟨o1, e1, d1⟩ := x b o e
  obtain ⟨o2, e2, d2⟩ := y b o1 e1
  exact ⟨o2, e2, d2.1.trans d1.1, d2.2.trans d1.2⟩
theorem DK.push {h : Heap} (o : Obj) : DK h (h.push o) := fun b o' e => ⟨o', Heap.get?_push_of_some _ e, rfl, rfl⟩
theorem DK.update {h : Heap} {a : Addr} {f : Obj → Obj} (hf : ∀ o : Obj, ((f o).dict = o.dict ∧ ctxOf (f o) = ctxOf o) ∧ (o.data ≠ .freed → (f o).data ≠ .freed)) : DK h (h.update a f) := fun b o e => by
  by_cases hb : a = b
  · subst hb
    have hn : o.data ≠ .freed := fun z => by
      unfold Heap.get? at e
      split at e
      · cases e
      · rename_i hx
        obtain ⟨c, d, x, l⟩ := o
        subst z
        exact hx _ _ _ e
    refine ⟨f o, Heap.get?_update_self f e ?_, (hf o).1⟩
    have := (hf o).2 hn
    revert this
    generalize f o = z
    obtain ⟨c, d, y, l⟩ := z
    intro this
    cases y <;> first | rfl | exact absurd rfl this
  · exact ⟨o, (Heap.get?_update_other _ _ hb).trans e, rfl, rfl⟩
theorem Mild.wp {α : Type} {M : Model} {Γ : PySem.Ctx} {t : Sem α} (h : Mild t) : ∀ {Q : α → Pos → Shared → Prop} {E : Value → Pos → Shared → Prop} {p : Pos} {s : Shared} {h0 : Heap}, DK h0 s.heap → Sem.wp M Γ t Q E p s → Sem.wp M Γ t (fun a p' s' => Q a p' s' ∧ DK h0 s'.heap) (fun e p' s' => E e p' s' ∧ DK h0 s'.heap) p s := by
  induction t with
  | pure a => exact fun d q => ⟨q, d⟩
  | raise _ => exact fun d q => ⟨q, d⟩
  | unsupported _ => exact fun d q => q.elim
  | finish _ => exact fun d q => q.elim
  | rule _ _ ih => exact fun d q => ih () h d q
  | «at» _ _ ih => exact fun d q => ih () h d q
  | load _ _ _ ih => exact fun d ⟨o, e, q⟩ => ⟨o, e, ih o (h o) d q⟩
  | update _ _ _ _ ih => exact fun d ⟨e, q⟩ => ⟨e, ih () h.2 (d.trans (DK.update h.1)) q⟩
  | alloc _ _ ih => exact fun d q => ih _ (h _) (d.trans (DK.push _)) q
  | loadIfAlive _ _ ih => exact fun d q => ih _ (h _) d q
  | point _ _ ih => exact fun d q => ih () h d q
  | fresh _ ih => exact fun d q => ih _ (h _) d q
  | ask _ ih => exact fun d q => ih _ (h _) d q
  | handled _ _ ih => exact fun d q => ih _ (h _) d q
  | stack _ ih => exact fun d q => ih _ (h _) d q
  | thread _ ih => exact fun d q => ih _ (h _) d q
  | _ => exact h.elim
theorem Mild.any {α : Type} {M : Model} {A : Around} {t : Sem α} {Q : α → Shared → Prop} {E : Value → Shared → Prop} {s : Shared} (h : Mild t) (q : wpAny M A t Q E s) : wpAny M A t (fun a s' => Q a s' ∧ DK s.heap s'.heap) (fun e s' => E e s' ∧ DK s.heap s'.heap) s :=
  fun Γ p hi => h.wp (DK.refl _) (q Γ p hi)
theorem mild_field {v : Value} {i : Nat} : Mild (field v i) := by
  unfold field fieldsOf
  refine Mild.bind ?_ fun vs => ?_
  · cases v with
    | ref a =>
      refine Mild.bind (fun _ => trivial) fun o => ?_
      split <;> trivial
    | _ => trivial
  · split <;> trivial
theorem mild_setField {v x : Value} {i : Nat} (hi : i ≠ 2 := by decide) : Mild (setField v i x) := by
  unfold setField
  cases v with
  | ref a =>
    show Mild (updateField a i x)
    unfold updateField
    refine Mild.bind (fun _ => trivial) fun o => ?_
    split
    · split
      · refine ⟨fun o => ?_, trivial⟩
        obtain ⟨c, d, y, l⟩ := o
        cases y <;> refine ⟨⟨rfl, ?_⟩, fun z => by first | exact z | (intro q; cases q)⟩
        all_goals first | rfl | (show (Array.setIfInBounds _ i x)[2]? = _; rw [Array.getElem?_setIfInBounds_ne hi]; rfl)
      · trivial
    · trivial
  | _ => trivial
theorem mild_setFlight {e : Value} {f : Option Addr} : Mild (setFlight e f) := by
  unfold setFlight
  refine Mild.bind mild_field fun tb => ?_
  split
  · exact mild_setField
  · trivial
theorem mild_stack : Mild stack := fun _ => trivial
theorem mild_ready : ∀ l : List Env, Mild (readyFrames l)
  | [] => trivial
  | env :: outer => by
    unfold readyFrames
    split
    · refine Mild.bind (fun _ => trivial) fun o => ?_
      split
      · trivial
      · refine Mild.bind ?_ fun im => Mild.bind ?_ fun back => Mild.bind ⟨fun o => ⟨⟨rfl, rfl⟩, id⟩, trivial⟩ fun _ => mild_ready outer
        · unfold behindIsImport
          split
          · trivial
          · split
            · trivial
            · exact Mild.bind mild_field fun _ => trivial
        · unfold keptBack underTheClaimsCaller
          split
          · split
            · trivial
            · exact Mild.bind (Mild.bind mild_stack fun _ => trivial) fun _ => trivial
          · trivial
    · trivial
theorem mild_frameOf {env : Env} : Mild (PySem.frameOf env) := by
  unfold PySem.frameOf frameEnvs
  refine Mild.bind (Mild.bind mild_stack fun _ => trivial) fun es => Mild.bind ?_ fun o => ?_
  · unfold frameObject
    split
    · trivial
    · exact Mild.bind (mild_ready _) fun _ => trivial
  · split <;> trivial
theorem mild_place {f : Addr} {b : Bool} : Mild (entryPlaceOf f b) := by
  unfold entryPlaceOf
  refine Mild.bind mild_stack fun a => ?_
  split <;> trivial
theorem mild_newEntry {a b c d e : Value} {l : List Value} : Mild (EntryCells.newEntry a b c d e l) := by
  unfold EntryCells.newEntry newFields newObj newObjAsIs
  dsimp only
  split <;> split <;> first | trivial | exact fun _ => trivial
theorem mild_note {e : Value} {env : Env} : Mild (noteFrame e env) := by
  unfold noteFrame
  split
  · refine Mild.bind mild_field fun hd => ?_
    have rest : ∀ (f : Addr) (hd : Value), Mild (do setField e 1 (← EntryCells.newEntry hd (← PySem.frameOf env) .none (rawInt f) .none (← entryPlaceOf f (hd != .none)))) := fun f hd =>
      Mild.bind mild_frameOf fun _ => Mild.bind mild_place fun _ => Mild.bind mild_newEntry fun _ => mild_setField
    split
    · refine Mild.bind mild_field fun x => ?_
      split
      · trivial
      · exact Mild.bind mild_setField fun _ => rest _ _
    · exact rest _ _
  · trivial
theorem mild_leaving {e : Value} {env : Env} : Mild (leaving env e) := Mild.bind mild_note fun _ => mild_setFlight
def Flies (B : Heap) (l : List Env) (a C : Addr) (od : Option Addr) (h : Heap) : Prop :=
  (∃ t, Heap.FlyingW B l a (.ref C) (.ref t) h) ∧ ∃ oe, h.get? a = some oe ∧ oe.dict = od ∧ ctxOf oe = some .none
structure Gone (P : Program) (w : World) (outer : List Env) (H H' : Hp) (s s' : Shared) (a C : Addr) (od : Option Addr) (B : Heap) : Prop where
  os : s'.os = s.os
  bare : AllBare s'.gens
  fly : Flies B outer a C od s'.heap
  un : Un (frs outer) [] H H' s.heap s'.heap
  hok : HOk P w H' s'.heap
  old : ∀ b o, s.heap.get? b = some o → b ∉ frs outer → ∃ o', B.get? b = some o'
  trk : ∀ b u, H' b = some u → ∃ o', B.get? b = some o'
def CX1 (P : Program) (w : World) : CXT := fun outer H s E e s' => ∃ a C od B H', e = .ref a ∧ Gone P w outer H H' s s' a C od B ∧ E (.ref C) od H'
section
variable {P : Program} {w : World}
theorem hok_in {H : Hp} {h h' B : Heap} (ok : HOk P w H h) (k1 : B.StaysIn h) (k2 : B.StaysIn h') (t : ∀ b u, H b = some u → ∃ o', B.get? b = some o') : HOk P w H h' := fun a o e =>
  (ok a o e).stay (fun b u hb q => by
    have hb' : ∃ v, H b = some v := by
      rcases hb with rfl | hb
      · exact ⟨o, e⟩
      · exact ⟨_, hb⟩
    obtain ⟨v, hv⟩ := hb'
    obtain ⟨o', h1⟩ := t b v hv
    have h2 := k1 b o' h1
    rw [q] at h2
    cases h2
    exact k2 b _ h1) (fun _ q => q) fun _ _ q => q
theorem HOk.get {H : Hp} {h : Heap} {a : Addr} {o : HO} (x : HOk P w H h) (e : H a = some o) : ∃ ob, h.get? a = some ob := by
  have x := x a o e
  induction o with
  | lst xs => obtain ⟨_, _, _, _, e⟩ := x; exact ⟨_, e⟩
  | tup xs => obtain ⟨_, _, _, _, e, _⟩ := x; exact ⟨_, e⟩
  | dK kvs => obtain ⟨_, _, _, _, o, _, _, e, _⟩ := x; exact ⟨_, e⟩
  | dT kvs => obtain ⟨_, _, _, _, o, _, _, e, _⟩ := x; exact ⟨_, e⟩
  | set S n => obtain ⟨o, _, _, _, e, _⟩ := x; exact ⟨_, e⟩
  | ins C dx fs => obtain ⟨_, _, _, e, _⟩ := x; exact ⟨_, e⟩
  | own y => exact x
  | xd fs => obtain ⟨_, ⟨_, _, _, e, _⟩, _⟩ := x; exact ⟨_, e⟩
  | rng lo hi => obtain ⟨_, _, _, e⟩ := x; exact ⟨_, e⟩
  | frz ob u => obtain ⟨e, _⟩ := x; exact ⟨_, e⟩
  | tbl ps => exact ⟨_, show h.get? a = some _ from x⟩
  | met f y => exact ⟨_, show h.get? a = some _ from x⟩
  | ext φ => obtain ⟨_, q, _⟩ := x; exact q
theorem hide_get {h : Heap} {as : List Addr} {b : Addr} {o : Obj} (e : h.get? b = some o) (n : b ∉ as) : (PySem.W.hideAll h as).get? b = some o := PySem.W.hideAll_get _ e n
end
section
variable {CX : CXT} {P : Program} {w : World} {K : PySem.W.Frag} {mg : Str → Option Value} {base : Heap} {N : List Str} {qual : Str} {scope : Scope} {f : Addr} {cd : Value} {A : Around} {outer : List Env} {s : Shared} {H : Hp} {E : XK}
theorem pass1 : Passes (CX1 P w) (cxOf (CX1 P w) P w K mg base N qual scope f cd A outer s H E) E := fun pins σ H1 s1 e s2 I hc => by
  obtain ⟨a, C, od, B, H2, rfl, g, he⟩ := hc
  obtain ⟨⟨t, fl⟩, hd⟩ := g.fly
  show wpAny _ _ (leaving _ _) _ _ s2
  have hne : ∀ b o, s.heap.get? b = some o → b ≠ s.heap.objs.size := fun b o e z => Nat.lt_irrefl _ (z ▸ Heap.lt_size e)
  have hst : ∀ b o, s.heap.get? b = some o → b ∉ frs outer → b ∉ frs (envOfC qual scope s.heap.objs.size f cd :: outer) := fun b o e n z => by
    unfold frs at z n
    rw [List.filterMap_cons] at z
    have z : b ∈ s.heap.objs.size :: List.filterMap (fun x : Env => x.frame) outer := z
    rcases List.mem_cons.mp z with z | z
    · exact hne b o e z
    · exact n z
  have hin : ∀ b, b ∈ frs outer → b ∈ frs (envOfC qual scope s.heap.objs.size f cd :: outer) := fun b z => by
    unfold frs at z ⊢
    rw [List.filterMap_cons]
    exact List.mem_cons_of_mem _ z
  obtain ⟨oe, ho0, ho1⟩ := hd
  refine wpAny_mono (mild_leaving.any (wpAny_leaves_onW (E := fun _ _ => False) (Q := fun _ s' => ∃ h', s' = { s2 with heap := h' } ∧ Heap.FlyingW B outer a (.ref C) (.ref t) h' ∧ s2.heap.UpToSlots h') I.ok.frames rfl fl fun h' fl' sm => ⟨h', rfl, fl', sm⟩)) (fun _ s3 ⟨⟨h', e3, fl', sm⟩, dk⟩ => ?_) fun _ _ z => z.1.elim
  subst e3
  obtain ⟨oe', ho2, ho3⟩ := dk a oe ho0
  refine ⟨a, C, od, B, H2, rfl, ⟨g.os.trans I.os, g.bare, ⟨⟨t, fl'⟩, oe', ho2, ho3.1.trans ho1.1, ho3.2.trans ho1.2⟩, ?_, hok_in g.hok fl.1 fl'.1 g.trk, ?_, g.trk⟩, he⟩
  · have hu : Un (frs outer) [] H H1 s.heap s1.heap := I.base
    refine ⟨fun b o q n hb _ => ?_, fun b o q n hb _ => ?_, fun b o q n _ => ?_, fun b o q _ => ?_, fun b xs q => g.un.tups b xs (hu.tups b xs q), fun b o u q => g.un.frzs b o u (hu.frzs b o u q), fun b ps q => ?_⟩
    · have q1 := hu.keep b o q n hb (by simp)
      have n1 := hu.free b o q n (by simp)
      have q2 := g.un.keep b o q1 n1 (hst b o q hb) (by simp)
      obtain ⟨o', ho⟩ := g.old b o q1 (hst b o q hb)
      have h2 := fl.1 b o' ho
      rw [q2] at h2
      cases h2
      exact fl'.1 b _ ho
    · obtain ⟨sl, q1⟩ := hu.slot b o q n hb (by simp)
      have n1 := hu.free b o q n (by simp)
      obtain ⟨sl2, q2⟩ := g.un.slot b _ q1 n1 (hin b hb) (by simp)
      obtain ⟨_, oo, ho, hnf⟩ := fl.2.2.1.mem (hin b hb)
      rw [q2] at ho
      cases ho
      obtain ⟨sl3, q3⟩ := sm b _ q2 hnf
      exact ⟨sl3, q3⟩
    · obtain ⟨o1, q1⟩ := hu.there b o q (by simp)
      exact g.un.free b o1 q1 (hu.free b o q n (by simp)) (by simp)
    · obtain ⟨o1, q1⟩ := hu.there b o q (by simp)
      by_cases hb : b ∈ frs outer
      · obtain ⟨_, oo, ho, hnf⟩ := fl.2.2.1.mem (hin b hb)
        obtain ⟨sl3, q3⟩ := sm b _ ho hnf
        exact ⟨_, q3⟩
      · obtain ⟨o', ho⟩ := g.old b o1 q1 (hst b o q hb)
        exact ⟨o', fl'.1 b _ ho⟩
    · obtain ⟨m1, e1⟩ := hu.tbls b ps q
      obtain ⟨m2, e2⟩ := g.un.tbls b _ e1
      exact ⟨m1 ++ m2, by rw [e2, Array.append_assoc]⟩
  · intro b o q hb
    have hu : Un (frs outer) [] H H1 s.heap s1.heap := I.base
    obtain ⟨o1, q1⟩ := hu.there b o q (by simp)
    exact g.old b o1 q1 (hst b o q hb)
theorem raise2 {pins : List (Addr × Obj)} {σ : St} {H1 : Hp} {s1 : Shared} {a C t : Addr} {oe : Obj} {vs : Array Value} (I : Inv (cxOf (CX1 P w) P w K mg base N qual scope f cd A outer s H E) pins σ H1 s1) (n1 : H1 a = none) (n0 : s.heap.get? a = none)
    (ho : s1.heap.get? a = some oe) (hc : oe.cls = .ref C) (hv : oe.data = .fields vs) (h1 : vs[1]? = some .none) (h0 : vs[0]? = some (.ref t)) (h2 : vs[2]? = some .none) (he : E (.ref C) oe.dict H1) : (cxOf (CX1 P w) P w K mg base N qual scope f cd A outer s H E).xe (.ref a) s1 := by
  show wpAny _ _ (leaving _ _) _ _ _
  have hu : Un (frs outer) [] H H1 s.heap s1.heap := I.base
  have hne : ∀ b o, s.heap.get? b = some o → b ≠ s.heap.objs.size := fun b o e z => Nat.lt_irrefl _ (z ▸ Heap.lt_size e)
  have hst : ∀ b o, s.heap.get? b = some o → b ∉ frs outer → b ∉ frs (envOfC qual scope s.heap.objs.size f cd :: outer) := fun b o e n z => by
    unfold frs at z n
    rw [List.filterMap_cons] at z
    have z : b ∈ s.heap.objs.size :: List.filterMap (fun x : Env => x.frame) outer := z
    rcases List.mem_cons.mp z with z | z
    · exact hne b o e z
    · exact n z
  have hsub : ∀ b, b ∈ frs outer → b ∈ frs (envOfC qual scope s.heap.objs.size f cd :: outer) := fun b z => by
    unfold frs at z ⊢
    rw [List.filterMap_cons]
    exact List.mem_cons_of_mem _ z
  generalize hB : PySem.W.hideAll s1.heap (a :: frs (envOfC qual scope s.heap.objs.size f cd :: outer)) = B
  have hin : ∀ env ∈ (envOfC qual scope s.heap.objs.size f cd :: outer), ∀ b, env.frame = some b → b ∈ a :: frs (envOfC qual scope s.heap.objs.size f cd :: outer) := fun env he b hb => List.mem_cons_of_mem _ (List.mem_filterMap.mpr ⟨env, he, hb⟩)
  have ff : s1.heap.FunFrames B (envOfC qual scope s.heap.objs.size f cd :: outer) := hB ▸ PySem.W.funFrames_hide I.stack hin
  have of : ∀ b o, B.get? b = some o → s1.heap.get? b = some o := fun b o q => PySem.W.of_hideAll _ (hB ▸ q)
  have to : ∀ b o, s1.heap.get? b = some o → b ≠ a → b ∉ frs (envOfC qual scope s.heap.objs.size f cd :: outer) → B.get? b = some o := fun b o q n1 n2 => hB ▸ hide_get q (fun z => by
    rcases List.mem_cons.mp z with z | z
    · exact n1 z
    · exact n2 z)
  have ba : B.get? a = none := hB ▸ PySem.W.hideAll_none _ List.mem_cons_self
  have trk : ∀ b u, H1 b = some u → ∃ o', B.get? b = some o' := fun b u q => by
    have hb : b ∉ frs (envOfC qual scope s.heap.objs.size f cd :: outer) := fun z => by
      have := I.stkFree b z
      rw [q] at this
      cases this
    obtain ⟨o, ho⟩ : ∃ o, s1.heap.get? b = some o := I.hok.get q
    exact ⟨o, to b o ho (ne_of_none q n1) hb⟩
  refine wpAny_mono (mild_leaving.any (wpAny_leaving_firstW (E := fun _ _ => False) (Q := fun _ s' => ∃ h', s' = { s1 with heap := h' } ∧ Heap.LeftW B (envOfC qual scope s.heap.objs.size f cd :: outer) a oe.cls (.ref t) s1.heap h') I.ok.frames ff rfl ho of ba hv h1 h0 fun h' l => ⟨h', rfl, l⟩)) (fun _ s3 ⟨⟨h', e3, k1, ⟨_, _, k2⟩, k3, sm⟩, dk⟩ => ?_) fun _ _ z => z.1.elim
  subst e3
  obtain ⟨oe', ho2, ho3⟩ := dk a oe ho
  have na : ∀ b o, s.heap.get? b = some o → b ≠ a := fun b o q z => by rw [z, n0] at q; cases q
  refine ⟨a, C, oe.dict, B, H1, rfl, ⟨I.os, I.bare, ⟨⟨t, k1, ba, k2, hc ▸ k3⟩, oe', ho2, ho3.1, ho3.2.trans (by unfold ctxOf; rw [hv]; exact h2)⟩, ?_, hok_in I.hok of k1 trk, ?_, trk⟩, he⟩
  · refine ⟨fun b o q n hb _ => ?_, fun b o q n hb _ => ?_, fun b o q n _ => hu.free b o q n (by simp), fun b o q _ => ?_, hu.tups, hu.frzs, hu.tbls⟩
    · exact k1 b o (to b o (hu.keep b o q n hb (by simp)) (na b o q) (hst b o q hb))
    · obtain ⟨sl, q1⟩ := hu.slot b o q n hb (by simp)
      obtain ⟨_, oo, ho, hnf⟩ := ff.mem (hsub b hb)
      rw [q1] at ho
      cases ho
      obtain ⟨sl3, q3⟩ := sm b _ q1 hnf
      exact ⟨sl3, q3⟩
    · obtain ⟨o1, q1⟩ := hu.there b o q (by simp)
      by_cases hb : b ∈ frs outer
      · obtain ⟨_, oo, ho, hnf⟩ := ff.mem (hsub b hb)
        obtain ⟨sl3, q3⟩ := sm b _ ho hnf
        exact ⟨_, q3⟩
      · exact ⟨o1, k1 b _ (to b o1 q1 (na b o q) (hst b o q hb))⟩
  · intro b o q hb
    obtain ⟨o1, q1⟩ := hu.there b o q (by simp)
    exact ⟨o1, to b o1 q1 (na b o q) (hst b o q hb)⟩
end
end L2
set_option Elab.async false
set_option linter.all false
set_option maxRecDepth 100000
set_option maxHeartbeats 1000000
namespace DL
open PySem PySem.Spec PyProof.Rows L2
def Fds (K : PySem.W.Frag) (G : Wd) (od : Option Addr) (fs : List (Str × D)) : Prop := fs = [] ∨ ∃ dx vs, od = some dx ∧ G.g dx = some (.xd vs) ∧ FsIs K G fs vs
abbrev XR := Addr → List (Str × D) → Sto → Prop
abbrev SpX := List D → Sto → (D → Sto → Prop) → XR → Prop
def toSpX (K : PySem.W.Frag) (sp : SpX) : Sp := fun vs H Q E => ∃ G O ds R RX, SA K G H O ∧ Iss K G ds vs ∧ sp ds O R RX ∧ (∀ v d O' G' H', Ext G G' → SA K G' H' O' → Is K G' d v → R d O' → Q v H') ∧
  ∀ C fs od O' G' H', Ext G G' → SA K G' H' O' → Fds K G' od fs → RX C fs O' → E (.ref C) od H'
def Thr (X : Cx) (C : Addr) (od : Option Addr) (σ : L2.St) (H' : Hp) : Prop := ∀ pins H1 s1 a B s2, L2.Inv X pins σ H1 s1 → Gone X.prog X.w X.stack H1 H' s1 s2 a C od B → X.xe (.ref a) s2
def ThrM (X : Cx) (C : Addr) (od : Option Addr) (σ : L2.St) (H' : Hp) : Prop := ∀ pins s1 a t oe vs, L2.Inv X pins σ H' s1 → H' a = none → X.s₀.heap.get? a = none → s1.heap.get? a = some oe → oe.cls = .ref C → oe.data = .fields vs → vs[1]? = some .none → vs[0]? = some (.ref t) → vs[2]? = some .none → oe.dict = od → X.xe (.ref a) s1
abbrev XC := Addr → List (Str × D) → Rho → Sto → Prop
def ContX (X : Cx) (mk : Prop) (G : Wd) (RX : XC) : Prop := ∀ C fs od σ ρ O' G' H', Ext G G' → SA X.K G' H' O' → EnvR X.K G' σ ρ → Fds X.K G' od fs → RX C fs ρ O' → Thr X C od σ H' ∧ (mk → ThrM X C od σ H')
theorem ContX.ext {X : Cx} {mk : Prop} {G G' : Wd} {RX : XC} (h : ContX X mk G RX) (e : Ext G G') : ContX X mk G' RX := fun C fs od σ ρ O' G2 H' e2 => h C fs od σ ρ O' G2 H' (e.trans e2)
def EvX (X : Cx) (mk : Prop) (ρ : Rho) (O : Sto) (e : Expr) (R : D → Sto → Prop) (RX : XC) : Prop :=
  ∀ G, PE X e (fun σ H Q => SA X.K G H O ∧ EnvR X.K G σ ρ ∧ (∀ v d O' G' H', Ext G G' → SA X.K G' H' O' → Is X.K G' d v → R d O' → Q v H') ∧ ContX X mk G RX)
def ExX (X : Cx) (mk : Prop) (ρ : Rho) (O : Sto) (st : Stmt) (P : Post) (RX : XC) : Prop := ∀ G, PS X st (fun E σ H => SA X.K G H O ∧ EnvR X.K G σ ρ ∧ Conts X.K G P E ∧ ContX X mk G RX)
def ExsX (X : Cx) (mk : Prop) (ρ : Rho) (O : Sto) (st : List Stmt) (P : Post) (RX : XC) : Prop := ∀ G, PSs X st (fun E σ H => SA X.K G H O ∧ EnvR X.K G σ ρ ∧ Conts X.K G P E ∧ ContX X mk G RX)
section
variable {X : Cx} {mk : Prop} {ρ : Rho} {O : Sto} {e a b c o : Expr} {es : List Expr} {d da db : D} {ds : List D} {R : D → Sto → Prop} {RX : XC} {pos p apos : Pos} {x m : Str} {st : Stmt} {rest body orelse : List Stmt} {P : Post} {C : Addr} {q : Nat} {fs : List (Str × D)}
theorem _root_.DL.Ex.x_ (h : Ex X ρ O st P) : ExX X mk ρ O st P RX := fun G => PS.imp (h G) fun E σ H ⟨h1, h2, h3, _⟩ => ⟨h1, h2, h3⟩
theorem _root_.DL.Exs.x_ (h : Exs X ρ O rest P) : ExsX X mk ρ O rest P RX := fun G => PSs.imp (h G) fun E σ H ⟨h1, h2, h3, _⟩ => ⟨h1, h2, h3⟩
theorem xX_nil (h : P.nx ρ O) : ExsX X mk ρ O [] P RX := Exs.x_ (xs_nil h)
theorem xX_cons (h : ExX X mk ρ O st { P with nx := fun ρ' O' => ExsX X mk ρ' O' rest P RX } RX) : ExsX X mk ρ O (st :: rest) P RX := fun G =>
  PSs.imp (pss_cons (h G) (u := fun E σ H => ∃ G1 ρ1 O1, SA X.K G1 H O1 ∧ EnvR X.K G1 σ ρ1 ∧ ExsX X mk ρ1 O1 rest P RX ∧ Conts X.K G1 P E ∧ ContX X mk G1 RX) (fun pins s σ H E I ⟨G1, ρ1, O1, q1, q2, q3, q4, q5⟩ => q3 G1 pins s σ H E I ⟨q1, q2, q4, q5⟩)) fun E σ H ⟨h1, h2, h3, h4⟩ =>
    ⟨h1, h2, ⟨fun σ1 ρ1 O1 G1 H1 e1 s1 n1 q1 => ⟨G1, ρ1, O1, s1, n1, q1, h3.ext e1, h4.ext e1⟩, h3.rt, h3.bk, h3.ct⟩, h4⟩
theorem xX_if {k : Bool} (hc : EvT X ρ O c k) (h1 : k = true → ExsX X mk ρ O body P RX) (h2 : k = false → ExsX X mk ρ O orelse P RX) : ExX X mk ρ O (.If c body orelse pos) P RX := fun G =>
  PS.imp (ps_if (hc G) (t := fun E σ H => ∃ G1, k = true ∧ SA X.K G1 H O ∧ EnvR X.K G1 σ ρ ∧ Conts X.K G1 P E ∧ ContX X mk G1 RX) (fun pins s σ H E I ⟨G1, z, q⟩ => h1 z G1 pins s σ H E I q)
    (u := fun E σ H => ∃ G1, k = false ∧ SA X.K G1 H O ∧ EnvR X.K G1 σ ρ ∧ Conts X.K G1 P E ∧ ContX X mk G1 RX) (fun pins s σ H E I ⟨G1, z, q⟩ => h2 z G1 pins s σ H E I q)) fun E σ H ⟨q1, q2, q3, q4⟩ =>
    ⟨q1, q2, fun G' H' e1 s1 => by
      cases k with
      | true => exact iteT ⟨G', rfl, s1, q2.ext e1, q3.ext e1, q4.ext e1⟩
      | false => exact iteF ⟨G', rfl, s1, q2.ext e1, q3.ext e1, q4.ext e1⟩⟩
theorem xX_expr (h : EvX X mk ρ O e (fun _ O' => P.nx ρ O') RX) (hs : swapsWith e none pos.line X.env = pure false := by rfl) : ExX X mk ρ O (.Expr e pos) P RX := fun G => PS.imp (ps_expr (h G) hs) fun E σ H ⟨h1, h2, h3, h4⟩ =>
  ⟨h1, h2, fun v d O' G' H' e1 s1 i1 r1 => h3.nx σ ρ O' G' H' e1 s1 (h2.ext e1) r1, h4⟩
theorem run_fnX {CX : CXT} {k : Nat} {f : Addr} {fd : FuncData} {ps : List Str} {sp : Sp} {E : XK} {pins : List (Addr × Obj)} {σ : L2.St} {H : Hp} {s : Shared} {Q : VK} {us : List Value} {vs : List V} (F : FnOk X.prog X.w X.K X.mg X.base CX k f fd ps sp) (hr : Room k X.A) (hb : Binds X.K fd ps [])
    (I : L2.Inv X pins σ H s) (r : Vals vs us) (h : sp vs H Q E) (hx : ∀ e s', CX X.stack H s E e s' → X.xe e s') : wpAny (model X.prog X.w) X.A (call (.ref f) us) (EP X pins σ Q) X.xe s := by
  have hl : us.length = ps.length := by rw [← r.length]; exact F.len _ _ _ _ h
  have hb' := hb s us I.kIn (by rw [List.append_nil]; exact hl)
  rw [List.append_nil] at hb'
  refine wpAny_call (codeAny_mono (F.run X.A X.stack s H ⟨us, []⟩ us vs Q E hr I.env0 hb' r h) fun r s' hq => ?_)
  match r, hq with
  | .error e, hq => exact hx e s' hq
  | .ok (.ret u), hq => exact I.after hq
theorem thr_of {G : Wd} {H' H1 : Hp} {σ : L2.St} {pins : List (Addr × Obj)} {s1 s2 : Shared} {e : Value} {E : XK} (I : L2.Inv X pins σ H1 s1) (k : ∀ C od H2, E (.ref C) od H2 → Thr X C od σ H2) (h : CX1 X.prog X.w X.stack H1 s1 E e s2) : X.xe e s2 := by
  obtain ⟨a, C, od, B, H2, rfl, g, he⟩ := h
  exact k C od H2 he pins H1 s1 a B s2 I g
def EOf (X : Cx) (σ : L2.St) : XK := fun c od H' => ∀ C, c = .ref C → Thr X C od σ H'
theorem eof_thr {σ : L2.St} : ∀ C od H2, EOf X σ (.ref C) od H2 → Thr X C od σ H2 := fun C od H2 h => h C rfl
structure DefX (P : Program) (w : World) (K : PySem.W.Frag) (mg : Str → Option Value) (base : Heap) (k : Nat) (x : Str) (sp : SpX) : Prop where
  ex : ∃ f fd ps, FnOk P w K mg base (CX1 P w) k f fd ps (toSpX K sp) ∧ mg x = some (.ref f) ∧ PySem.W.keepIn K (.ref f) = true ∧ Binds K fd ps []
theorem evX_call {k : Nat} {sp : SpX} (F : DefX X.prog X.w X.K X.mg X.base k x sp) (hr : Room k X.A) (ha : EvPs X ρ O (e :: es) ds) (hs : sp ds O R fun C fs O' => RX C fs ρ O') (hg : Gl X x := by rfl) (hdb : (x == ("__debug__" : Str)) = false := by decide)
    (he : starEach (e :: es) X.env = (false, eval e X.env) :: starEach es X.env := by rfl) (hpl : (backTo pos (starEach es X.env)).any (·.1) = false := by rfl) : EvX X mk ρ O (.Call (.Name x p) (e :: es) [] pos) R RX := fun G pins s σ H Q I ⟨h1, h2, h3, h4⟩ => by
  obtain ⟨f, fd, ps, g1, g2, g3, g4⟩ := F.ex
  refine wpAny_Call_Name_kw (ld_glob I hg g2 ?_ hdb)
  refine PySem.W.callWith_K (h₀ := X.base) I.ok.mod.kin g3 (thn (ha G pos pins s σ H (fun vs H' => ∃ G', Ext G G' ∧ SA X.K G' H' O ∧ Iss X.K G' ds vs) I ⟨h1, h2, fun vs G' H' e1 s1 i1 => ⟨G', e1, s1, i1⟩⟩) fun us s1 ⟨vs, H1, I1, r, G1, e1, sa, i1⟩ => ⟨I1.kIn, ?_⟩) he hpl
  refine run_fnX (E := EOf X σ) g1 hr g4 I1 r ⟨G1, O, ds, R, _, sa, i1, hs, fun v d O' G' H' e2 s2 i2 r2 => h3 v d O' G' H' (e1.trans e2) s2 i2 r2, fun C fs od O' G' H' e2 s2 f2 r2 => ?_⟩ fun e s' hx => thr_of (G := G) (H' := H) I1 eof_thr hx
  intro C' hC
  cases hC
  exact (h4 _ fs od σ ρ O' G' H' (e1.trans e2) s2 (h2.ext (e1.trans e2)) f2 r2).1
structure MethX (P : Program) (w : World) (K : PySem.W.Frag) (mg : Str → Option Value) (base : Heap) (C : Addr) (k : Nat) (m : Str) (sp : SpX) : Prop where
  ex : ∃ f fd ps, FnOk P w K mg base (CX1 P w) k f fd ps (toSpX K sp) ∧ Meth K C m f ∧ Binds K fd ps []
  cls : Cls K C
structure OfClsX (P : Program) (w : World) (K : PySem.W.Frag) (mg : Str → Option Value) (base : Heap) (x : Str) (k : Nat) (m : Str) (sp : SpX) : Prop where
  ex : ∃ C mc f fd ps, mg x = some (.ref C) ∧ PySem.W.specialIn K (.ref C) "__getattribute__" = some (some (.builtin "type.__getattribute__")) ∧ PySem.W.readsIn K C mc = true ∧ PySem.W.findCls K (.ref C) mc m = some (.val (.ref f)) ∧ PySem.W.handedIn (.ref f) = true ∧
    FnOk P w K mg base (CX1 P w) k f fd ps (toSpX K sp) ∧ PySem.W.keepIn K (.ref f) = true ∧ Binds K fd ps []
structure MakeX (P : Program) (w : World) (K : PySem.W.Frag) (mg : Str → Option Value) (base : Heap) (C : Addr) (k : Nat) (x : Str) (sp : SpX) : Prop where
  ex : ∃ f fd ps, FnOk P w K mg base (CX1 P w) k f fd ps (toSpX K sp) ∧ Mk K C f ∧ Binds K fd ps []
  at_ : mg x = some (.ref C)
end
section
variable {P : Program} {w : World} {K : PySem.W.Frag} {mg : Str → Option Value} {base : Heap}
theorem okX {x qual : Str} {st : Stmt} {f : Addr} {fd : FuncData} {N ps : List Str} {k : Nat} {sp : SpX} (F : Fun K x qual st f fd) (S : FnScope N ps (defScope st)) (len : ∀ ds O R RX, sp ds O R RX → ds.length = ps.length)
    (hbody : ∀ (cdv : Value) (A : Around) (outer : List Env) (s : Shared) (H : Hp) (E : XK) (ds : List D) (O : Sto) (R : D → Sto → Prop) (RX : XR), Room k (A.deeper (envOfC qual (defScope st) s.heap.objs.size f cdv)) → sp ds O R RX →
      ExsX (cxOf (CX1 P w) P w K mg base N qual (defScope st) f cdv A outer s H E) True (startD N ds) O (defBody st) { nx := fun _ O' => R .non O', rt := R } fun C fs _ O' => RX C fs O') : FnOk P w K mg base (CX1 P w) (k + 1) f fd ps (toSpX K sp) := by
  obtain ⟨oc, od, kV, doc, pm, an, cdv, ct, osl, rfl, lk, hcd⟩ := F.ex
  refine fn_of lk hcd S (fun vs H Q E h => ?_) fun A outer s H vs Q E hr h => ?_
  · obtain ⟨G, O, ds, R, RX, h1, h2, h3, h4⟩ := h
    rw [← h2.length]
    exact len _ _ _ _ h3
  · obtain ⟨G, O, ds, R, RX, h1, h2, h3, h4, h5⟩ := h
    refine ⟨_, hbody cdv A outer s H E ds O R RX hr h3 G, h1, start_env h2, ⟨fun σ ρ O' G' H' e1 s1 n1 q => h4 _ _ O' G' H' e1 s1 .non q, fun v d O' G' H' e1 s1 i1 q => h4 v d O' G' H' e1 s1 i1 q, fun σ ρ O' G' H' e1 s1 n1 q => q.elim, fun σ ρ O' G' H' e1 s1 n1 q => q.elim⟩, ?_⟩
    intro C fs od σ ρ O' G' H' e1 s1 n1 f1 r1
    have hE := h5 C fs od O' G' H' e1 s1 f1 r1
    refine ⟨fun pins H1 s1 a B s2 I g => pass1 pins σ H1 s1 (.ref a) s2 I ⟨a, C, od, B, H', rfl, g, hE⟩, fun _ pins s1 a t oe vs I x1 x2 x3 x4 x5 x6 x7 x9 x8 => raise2 I x1 x2 x3 x4 x5 x6 x7 x9 (x8 ▸ hE)⟩
end
end DL
set_option Elab.async false
set_option linter.all false
set_option maxRecDepth 100000
set_option maxHeartbeats 1000000
namespace L2
open PySem PySem.Spec PyProof.Rows
theorem exc_cls {K : PySem.W.Frag} {h : Heap} {C : Addr} {bmB : List Value} {newId : String} (X : K.In h) (q : PySem.W.excIn K C bmB newId = true) : OwnCls "e" C bmB newId (fun _ => some (.ref C)) h := by
  unfold PySem.W.excIn at q
  split at q
  · rename_i dd cd sl ho
    split at q
    · rename_i C' bm k0 k1 k2 k3 n k5 hm hs
      have e := X _ _ ho
      obtain ⟨nm, bs, mro, ns, qn, hd, sn, sub, ab, col, del⟩ := cd
      obtain ⟨l⟩ := sl
      simp only [Bool.and_eq_true, beq_iff_eq, Bool.not_eq_true'] at q hm hs
      obtain ⟨⟨⟨⟨⟨q1, q2⟩, q3⟩, q4⟩, q5⟩, q6⟩ := q
      subst q1 q2 hm hs
      subst q3
      exact ⟨rfl, bm, ns, nm, qn, bs, hd, sn, sub, ab, col, dd, k0, k1, k2, k3, k5, _, e, .of_isNs (PySem.W.isNs_of_in X q5), PySem.W.nsMap_none_of_in X q5 q6, PySem.W.tail_of_in X q4⟩
    · cases q
  · cases q
section
variable {X : Cx} {pins : List (Addr × Obj)} {σ : St} {H : Hp} {s : Shared}
theorem name_goes {M : Model} {A : Around} {E : Value → Shared → Prop} {i : Nat} {n : Str} {pos : Pos} {Q : Unit → Shared → Prop} (I : Inv X pins σ H s) (hN : X.N.Nodup) (hi : X.N[i]? = some n) (hl : X.env.kindOf n = some .local)
    (h : ∀ s', Inv X pins (σ.set i none) H s' → Q () s') : wpAny M A (do bindName X.env n .none; unbindBehindTheSuite X.env n pos) Q E s := by
  refine wpAny_bind (wpAny_bindName (store_ok I hN hi (.inl hl) (v := .non) (u := .none) rfl (fun s1 I1 => ?_) (.inr hl)))
  have hiσ : i < σ.length := by rw [I.len]; exact (List.getElem?_eq_some_iff.mp hi).1
  obtain ⟨m, hn, hk⟩ := id I1.loc
  obtain ⟨u, ru, lu⟩ := hk i n .non hi (List.getElem?_set_self hiσ) (.inl hl)
  have hv : m n = some u := by
    rcases lu with ⟨_, e⟩ | ⟨k | k, _⟩
    · exact e
    · rw [hl] at k; cases k
    · rw [hl] at k; cases k
  unfold unbindBehindTheSuite
  refine wpAny_onRaise (wpAny_unbindName_local hl hn hv (by rw [I.ok.kind]; rfl) fun h' u' hn' hs => h _ ?_)
  have ne : ∀ b o, X.s₀.heap.get? b = some o → b ≠ X.env.locals := fun b o e => Nat.ne_of_lt (Nat.lt_of_lt_of_le (Heap.lt_size e) I.ok.above)
  refine ⟨I1.ok, I1.os, I1.bare, ⟨fun b o e n hb hx => (hs.2 b (ne b o e)).trans (I1.base.keep b o e n hb hx), fun b o e n hb hx => ?_, I1.base.free, fun b o e hx => ?_, I1.base.tups, I1.base.frzs, I1.base.tbls⟩, ⟨_, hn', fun j y v' e1 e2 e3 => ?_⟩, fun y c e => ?_, I1.free, I1.freeC, fun p hp => ?_, fun b ob e => ?_, by simpa using I.len⟩
  · obtain ⟨sl, q⟩ := I1.base.slot b o e n hb hx
    exact ⟨sl, (hs.2 b (ne b o e)).trans q⟩
  · obtain ⟨o', q⟩ := I1.base.there b o e hx
    exact ⟨o', (hs.2 b (ne b o e)).trans q⟩
  · have hj : j ≠ i := by
      rintro rfl
      rw [List.getElem?_set_self hiσ] at e2
      cases e2
    rw [List.getElem?_set_ne (Ne.symm hj)] at e2
    obtain ⟨u2, r2, q⟩ := hk j y v' e1 (by rw [List.getElem?_set_ne (Ne.symm hj)]; exact e2) e3
    refine ⟨u2, r2, ?_⟩
    rcases q with ⟨k, e⟩ | ⟨k, c, e, z⟩
    · refine .inl ⟨k, ?_⟩
      have : y ≠ n := fun e => hj (nodup_ix hN e1 (e ▸ hi))
      simp [this, e]
    · exact .inr ⟨k, c, e, z.sameBut hs (I.cne y c e)⟩
  · obtain ⟨w', z⟩ := I1.cell y c e
    exact ⟨w', z.sameBut hs (I.cne y c e)⟩
  · obtain ⟨e, n, ne, nf, d⟩ := I1.pin p hp
    exact ⟨(hs.2 p.1 ne).trans e, n, ne, nf, d⟩
  · refine (I1.hok b ob e).stay (fun c w' hc q => (hs.2 c ?_).trans q) (fun _ q => q) fun _ _ q => q
    intro z
    subst z
    rcases hc with hc | hc
    · rw [← hc, I1.free] at e; cases e
    · rw [I1.free] at hc; cases hc
theorem Gone.on {P : Program} {w : World} {l : List Env} {H H' : Hp} {s s' : Shared} {a C t : Addr} {od : Option Addr} {B h' : Heap} (g : Gone P w l H H' s s' a C od B) (fl' : Heap.FlyingW B l a (.ref C) (.ref t) h') (sm : s'.heap.UpToSlots h') (dk : DK s'.heap h') :
    Gone P w l H H' s { s' with heap := h' } a C od B := by
  obtain ⟨⟨t0, fl⟩, oe, ho0, ho1⟩ := g.fly
  obtain ⟨oe', ho2, ho3⟩ := dk a oe ho0
  refine ⟨g.os, g.bare, ⟨⟨t, fl'⟩, oe', ho2, ho3.1.trans ho1.1, ho3.2.trans ho1.2⟩, ⟨fun b o q n hb _ => ?_, fun b o q n hb _ => ?_, fun b o q n hx => g.un.free b o q n hx, fun b o q _ => ?_, g.un.tups, g.un.frzs, g.un.tbls⟩, hok_in g.hok fl.1 fl'.1 g.trk, g.old, g.trk⟩
  · obtain ⟨o', ho⟩ := g.old b o q hb
    have h2 := fl.1 b o' ho
    rw [g.un.keep b o q n hb (by simp)] at h2
    cases h2
    exact fl'.1 b _ ho
  · obtain ⟨sl, q1⟩ := g.un.slot b o q n hb (by simp)
    obtain ⟨_, oo, ho, hnf⟩ := fl.2.2.1.mem hb
    rw [q1] at ho
    cases ho
    obtain ⟨sl3, q3⟩ := sm b _ q1 hnf
    exact ⟨sl3, q3⟩
  · by_cases hb : b ∈ frs l
    · obtain ⟨_, oo, ho, hnf⟩ := fl.2.2.1.mem hb
      obtain ⟨sl3, q3⟩ := sm b _ ho hnf
      exact ⟨_, q3⟩
    · obtain ⟨o', ho⟩ := g.old b o q hb
      exact ⟨o', fl'.1 b _ ho⟩
theorem Gone.new {P : Program} {w : World} {l : List Env} {H H' : Hp} {s s' : Shared} {a C : Addr} {od : Option Addr} {B : Heap} (g : Gone P w l H H' s s' a C od B) : s.heap.get? a = none ∧ a ∉ frs l ∧ H' a = none := by
  obtain ⟨⟨t, fl⟩, hd⟩ := g.fly
  have hn : a ∉ frs l := fun z => by
    obtain ⟨_, o, ho, hnf⟩ := fl.2.2.1.mem z
    obtain ⟨oe, vs, h1, h2, h3, h4⟩ := fl.first
    rw [h1] at ho
    cases ho
    exact hnf _ h3
  have hb := fl.2.1
  refine ⟨?_, hn, ?_⟩
  · cases q : s.heap.get? a with
    | none => rfl
    | some o =>
      obtain ⟨o', ho⟩ := g.old a o q hn
      rw [hb] at ho
      cases ho
  · cases q : H' a with
    | none => rfl
    | some u =>
      obtain ⟨o', ho⟩ := g.trk a u q
      rw [hb] at ho
      cases ho
abbrev Cx.as (X : Cx) (A : Around) (calm : Bool) (pn : List (Addr × Obj)) (E : Value → Shared → Prop) : Cx := { X with A := A, calm := calm, pn := pn, xe := E }
theorem Inv.as {A : Around} {calm : Bool} {pn pins' : List (Addr × Obj)} {E : Value → Shared → Prop} (I : Inv X pins σ H s) (hd : calm = true → A.handled = none) (hf : A.frames = some X.stack) (hp : ∀ p ∈ pn ++ pins', p ∈ X.pn ++ pins) : Inv (X.as A calm pn E) pins' σ H s :=
  ⟨⟨I.ok.mod, I.ok.kind, I.ok.glob, I.ok.blt, I.ok.above, I.ok.inj, I.ok.has, I.ok.cab, hd, hf, I.ok.stk, I.ok.exf, I.ok.bs, I.ok.bsz, I.ok.noex, I.ok.exfs, I.ok.funs, I.ok.frf⟩, I.os, I.bare, I.base, I.loc, I.cell, I.free, I.freeC, fun p q => I.pin p (hp p q), I.hok, I.len⟩
theorem Inv.asI {A : Around} {calm : Bool} {pn pins' : List (Addr × Obj)} {E : Value → Shared → Prop} (I : Inv (X.as A calm pn E) pins' σ H s) (hd : X.calm = true → X.A.handled = none) (hf : X.A.frames = some X.stack) (hp : ∀ p ∈ X.pn ++ pins, p ∈ pn ++ pins') : Inv X pins σ H s :=
  ⟨⟨I.ok.mod, I.ok.kind, I.ok.glob, I.ok.blt, I.ok.above, I.ok.inj, I.ok.has, I.ok.cab, hd, hf, I.ok.stk, I.ok.exf, I.ok.bs, I.ok.bsz, I.ok.noex, I.ok.exfs, I.ok.funs, I.ok.frf⟩, I.os, I.bare, I.base, I.loc, I.cell, I.free, I.freeC, fun p q => I.pin p (hp p q), I.hok, I.len⟩
theorem Inv.tracked {a : Addr} {ob : Obj} (I : Inv X pins σ H s) (hx : X.ex = []) (h1 : s.heap.get? a = some ob) (h2 : H a = none) (h3 : X.s₀.heap.get? a = none) (h4 : a ≠ X.env.locals) (h5 : ∀ x c, X.env.cells.lookup x = some c → c ≠ a) (h6 : ∀ p ∈ X.pn ++ pins, p.1 ≠ a) :
    Inv X pins σ (upd H a (.ext fun h => h.get? a = some ob)) s := by
  refine ⟨I.ok, I.os, I.bare, ⟨I.base.keep, I.base.slot, fun b o q n hb => ?_, I.base.there, fun b xs q => ?_, fun b o u q => ?_, fun b ps q => ?_⟩, I.loc, I.cell, by rw [upd_ne (Ne.symm h4)]; exact I.free, fun x c q => by rw [upd_ne (h5 x c q)]; exact I.freeC x c q, fun p hp => ?_, fun b u q => ?_, I.len⟩
  · rw [upd_ne]
    · exact I.base.free b o q n hb
    · rintro rfl; rw [h3] at q; cases q
  · have := I.base.tups b xs q
    rw [upd_ne (ne_of_none this h2)]; exact this
  · have := I.base.frzs b o u q
    rw [upd_ne (ne_of_none this h2)]; exact this
  · obtain ⟨m, this⟩ := I.base.tbls b ps q
    exact ⟨m, by rw [upd_ne (ne_of_none this h2)]; exact this⟩
  · obtain ⟨e, n, r⟩ := I.pin p hp
    exact ⟨e, by rw [upd_ne (h6 p hp)]; exact n, r⟩
  · by_cases hb : b = a
    · subst hb
      rw [upd_same] at q
      cases q
      exact ⟨h1, ⟨ob, h1⟩, fun x y e k => k ob e⟩
    · rw [upd_ne hb] at q
      exact (I.hok b u q).stay (fun _ _ _ e => e) (fun c e => by rw [upd_ne (ne_of_none e h2)]; exact e) fun c xs e => by rw [upd_ne (ne_of_none e h2)]; exact e
end
end L2
namespace DL
open PySem PySem.Spec PyProof.Rows L2
abbrev bmV : List Value := [.type "ValueError", .type "Exception", .type "BaseException", .type "object"]
section
variable {X : Cx} {mk : Prop} {ρ : Rho} {O : Sto} {e a b c o : Expr} {es : List Expr} {d da db : D} {ds : List D} {R : D → Sto → Prop} {RX : XC} {pos p np cpos hpos : Pos} {x y n : Str} {st b₀ : Stmt} {rest body suite : List Stmt} {P : Post} {C CB : Addr} {fs : List (Str × D)}
abbrev _root_.L2.Cx.tried (X : Cx) (pn : List (Addr × Obj)) (E : Value → Shared → Prop) : Cx := X.as X.A X.calm pn E
abbrev _root_.L2.Cx.held (X : Cx) (v : Value) : Cx := X.as (X.A.mark (some v)) false X.pn fun _ _ => False
abbrev catchW (X : Cx) (pins : List (Addr × Obj)) (E : Ends) (x n : Str) (np hpos : Pos) (b₀ : Stmt) (suite : List Stmt) : Value → Shared → Prop := fun e s₁ => wpAny (model X.prog X.w) X.A (noteFrame e X.env) (fun _ s₂ => wpAny (model X.prog X.w) X.A (setFlight e none) (fun _ s₃ => wpAny (model X.prog X.w) X.A (handleBy e X.env [.ExceptHandler (some (.Name x np)) (some n) (b₀ :: suite) hpos]) (SP X pins E) X.xe s₃) X.xe s₂) X.xe s₁
theorem x_tryA (i : Nat) (hN : X.N.Nodup) (hm : X.mg x = some (.ref CB)) (hb : ∀ pn E, ExsX (X.tried pn E) False ρ O body P RX)
    (hh : ∀ ah C fs ρ' O', RX C fs ρ' O' → PySem.W.exmOne X.K (.ref C) (.ref CB) = some true ∧
      Exs (X.held (.ref ah)) (ρ'.set i (some (.ptr O'.length))) (O' ++ [some (.exc C fs (some ah))]) (b₀ :: suite) { nx := fun ρ2 O2 => P.nx (ρ2.set i none) O2, rt := P.rt, bk := fun ρ2 O2 => P.bk (ρ2.set i none) O2, ct := fun ρ2 O2 => P.ct (ρ2.set i none) O2 })
    (hi : X.N[i]? = some n := by rfl) (hl : X.env.kindOf n = some .local := by rfl) (hg : Gl X x := by rfl) (hst : X.stack = X.env :: X.outer := by rfl) (hfr : X.env.frame = some X.env.locals := by rfl) (hex : X.ex = [] := by rfl) (hdb : (x == ("__debug__" : Str)) = false := by decide) :
    Ex X ρ O (.Try body [.ExceptHandler (some (.Name x np)) (some n) (b₀ :: suite) hpos] [] [] pos) P := fun G pins s σ H E I ⟨h1, h2, h3⟩ => by
  refine wpAny_Try_except ?_
  have I0 : L2.Inv (X.tried (X.pn ++ pins) (catchW X pins E x n np hpos b₀ suite)) [] σ H s :=
    I.as I.ok.hd I.ok.frames fun p q => by simpa using q
  refine wpAny_mono (hb (X.pn ++ pins) (catchW X pins E x n np hpos b₀ suite) G [] s σ H E I0 ⟨h1, h2, h3, fun C fs od σ2 ρ2 O2 G2 H2 e2 sa2 n2 f2 r2 => ⟨fun pins2 H1 s1 a' B s2 I1 g => ?_, fun z => z.elim⟩⟩) (fun f s1 hs => ?_) fun e s1 z => z
  · obtain ⟨hq, hsu⟩ := hh a' C fs ρ2 O2 r2
    have hg1 : Gone X.prog X.w (X.env :: X.outer) H1 H2 s1 s2 a' C od B := hst ▸ g
    obtain ⟨⟨t, fl⟩, hd⟩ := hg1.fly
    obtain ⟨n1, n3, n4⟩ := hg1.new
    have hfrm : X.A.frames = some (X.env :: X.outer) := hst ▸ I.ok.frames
    show wpAny (model X.prog X.w) X.A (noteFrame _ X.env) _ _ s2
    refine wpAny_mono (mild_note.any (wpAny_looks_onW (E := fun _ _ => False) (Q := fun _ s' => ∃ h', s' = { s2 with heap := h' } ∧ Heap.HeldW B (X.env :: X.outer) a' (.ref C) (.ref t) X.env.locals h' ∧ s2.heap.UpToSlots h') hfrm hfr fl fun h4 held4 sm4 => ⟨h4, rfl, held4, sm4⟩)) (fun _ s4 ⟨⟨h4, e4, held4, sm4⟩, dk4⟩ => ?_) fun _ _ z => z.1.elim
    subst e4
    refine wpAny_mono (mild_setFlight.any (wpAny_landsW (E := fun _ _ => False) (s := { s2 with heap := h4 }) (Q := fun _ s' => ∃ h', s' = { s2 with heap := h' } ∧ Heap.FlyingW B (X.env :: X.outer) a' (.ref C) (.ref t) h' ∧ h4.UpToSlots h') held4 fun h5 fl5 sm5 => ⟨h5, rfl, fl5, sm5⟩)) (fun _ s5 ⟨⟨h5, e5, fl5, sm5⟩, dk5⟩ => ?_) fun _ _ z => z.1.elim
    subst e5
    have g5 := hg1.on fl5 (sm4.trans sm5) (dk4.trans dk5)
    have J : ∀ (s' : Shared), Gone X.prog X.w (X.env :: X.outer) H1 H2 s1 s' a' C od B → L2.Inv X pins σ2 H2 s' := fun s' g' => by
      have := I1.call' (ch := []) g'.os (by show Un (frs X.stack) _ _ _ _ _; rw [hst]; exact g'.un) g'.hok g'.bare (fun b z => absurd z (by simp))
      exact this.asI I.ok.hd I.ok.frames fun p q => List.mem_append_left _ q
    have hmark : (X.A.mark (some (.ref a'))).frames = some X.stack := I.ok.frames
    have I5 := J _ g5
    have I5h : L2.Inv (X.held (.ref a')) pins σ2 H2 _ := I5.as (by intro z; cases z) hmark fun p q => q
    refine wpAny_handleBy_cons (codeAny_handlers_test (ld_glob (X := X.held (.ref a')) I5h hg hm ?_ hdb)) (by intro q; cases q)
    obtain ⟨ob, ho1, ho2⟩ := fl5.there
    have LT : PySem.W.Looks (model X.prog X.w) h5 (typeOf (.ref a')) (.ref C) := ho2 ▸ (PySem.W.Looks.ld ho1).andThen .now
    refine (PySem.W.exm_one I5.kIn LT hq).here (codeAny_handlers_suite_as ?_)
    refine wpAny_mono (mild_setFlight.any (lands_againW (E := fun _ _ => False) (Q := fun _ s' => ∃ h', s' = { s2 with heap := h' } ∧ Heap.FlyingW B (X.env :: X.outer) a' (.ref C) (.ref t) h' ∧ h5.UpToSlots h') fl5 fun h6 fl6 sm6 => ⟨h6, rfl, fl6, sm6⟩)) (fun _ s6 ⟨⟨h6, e6, fl6, sm6⟩, dk6⟩ => ?_) fun _ _ z => z.1.elim
    subst e6
    have g6 := g5.on fl6 sm6 dk6
    have I6 := J _ g6
    obtain ⟨ob6, ws, u1, u2, u3, u4⟩ := fl6.first
    obtain ⟨_, ob6', u1', hd6, hcx6⟩ := g6.fly
    cases Option.some.inj (u1.symm.trans u1')
    have hloc : a' ≠ X.env.locals := fun z => n3 (List.mem_filterMap.mpr ⟨X.env, List.mem_cons_self, by rw [hfr, z]⟩)
    have hs0 : X.s₀.heap.get? a' = none := by
      cases z : X.s₀.heap.get? a' with
      | none => rfl
      | some o =>
        have hu : Un X.fs X.ex X.H₀ H1 X.s₀.heap s1.heap := I1.base
        obtain ⟨o', z'⟩ := hu.there a' o z (by rw [hex]; simp)
        rw [n1] at z'
        cases z'
    have I7 := I6.tracked hex u1 n4 hs0 hloc (fun y c q z => by
      obtain ⟨v, o, z', _⟩ := I1.cell y c q
      rw [z, n1] at z'
      cases z') (fun p hp z => by
      obtain ⟨z', _⟩ := I1.pin p (List.mem_append_left _ hp)
      rw [z, n1] at z'
      cases z')
    have I7h : L2.Inv (X.held (.ref a')) pins σ2 _ _ := I7.as (by intro z; cases z) hmark fun p q => q
    have eG : Ext G2 ⟨G2.g, G2.l ++ [a']⟩ := ⟨Same.refl _, [a'], rfl⟩
    have hfd : fs = [] ∨ ∃ dx vs, ob6.dict = some dx ∧ G2.g dx = some (.xd vs) ∧ FsIs X.K ⟨G2.g, G2.l ++ [a']⟩ fs vs := by
      rcases f2 with z | ⟨dx, vs, z1, z2, z3⟩
      · exact .inl z
      · exact .inr ⟨dx, vs, hd6.trans z1, z2, FsIs.ext eG z3⟩
    obtain ⟨e3, sa3⟩ := sa2.new (p := a') (o := .ext fun h => h.get? a' = some ob6) (m := .exc C fs (some a')) n4 ⟨ob6, upd_same, ⟨u2, ws, u3⟩, hfd, fun a z => by cases z; exact ⟨rfl, hcx6⟩⟩
    have ia : Is X.K ⟨G2.g, G2.l ++ [a']⟩ (.ptr O2.length) (.ref a') := .ptr _ (by rw [← sa2.len, List.getElem?_append_right (Nat.le_refl _), Nat.sub_self]; rfl)
    refine store_ok (X := X.held (.ref a')) I7h hN hi (.inl hl) (v := .ref a') rfl (fun s8 I8 => ?_) (.inr hl)
    have e23 := e2.trans e3
    refine wpAny_mono (hsu _ pins s8 _ _ { nx := fun σ3 H3 => E.nx (σ3.set i none) H3, rt := E.rt, bk := fun σ3 H3 => E.bk (σ3.set i none) H3, ct := fun σ3 H3 => E.ct (σ3.set i none) H3 } I8 ⟨sa3, (n2.ext e3).set i ia, ?_⟩) (fun f s9 hs => ?_) fun _ _ z => z.elim
    · have dr : ∀ {K : PySem.W.Frag} {G : Wd} {σ : L2.St} {ρ : Rho}, EnvR K G σ ρ → EnvR K G (σ.set i none) (ρ.set i none) := fun {K G σ ρ} h => ⟨by simp [h.len], fun j d' hj => by
        by_cases hij : i = j
        · subst hij
          rw [List.getElem?_set] at hj
          simp at hj
        · rw [List.getElem?_set_ne hij] at hj ⊢
          exact h.get j d' hj⟩
      exact ⟨fun σ3 ρ3 O3 G3 H3 e4 s4 n4 q => h3.nx _ _ O3 G3 H3 (e23.trans e4) s4 (dr n4) q, fun v d' O3 G3 H3 e4 s4 i4 q => h3.rt v d' O3 G3 H3 (e23.trans e4) s4 i4 q, fun σ3 ρ3 O3 G3 H3 e4 s4 n4 q => h3.bk _ _ O3 G3 H3 (e23.trans e4) s4 (dr n4) q, fun σ3 ρ3 O3 G3 H3 e4 s4 n4 q => h3.ct _ _ O3 G3 H3 (e23.trans e4) s4 (dr n4) q⟩
    · have fin : ∀ {σ3 : L2.St} {H3 : Hp}, L2.Inv (X.held (.ref a')) pins σ3 H3 s9 → L2.Inv X pins σ3 H3 s9 := fun I9 => I9.asI I.ok.hd I.ok.frames fun p q => q
      cases f with
      | next =>
        obtain ⟨σ3, H3, I9, q⟩ := hs
        exact name_goes (fin I9) hN hi hl fun s' I' => ⟨_, _, I', q⟩
      | ret u =>
        obtain ⟨v, σ3, H3, I9, r, q⟩ := hs
        exact name_goes (fin I9) hN hi hl fun s' I' => ⟨v, _, _, I', r, q⟩
      | brk =>
        obtain ⟨σ3, H3, I9, q⟩ := hs
        exact name_goes (fin I9) hN hi hl fun s' I' => ⟨_, _, I', q⟩
      | cont =>
        obtain ⟨σ3, H3, I9, q⟩ := hs
        exact name_goes (fin I9) hN hi hl fun s' I' => ⟨_, _, I', q⟩
  · have fin : ∀ {σ3 : L2.St} {H3 : Hp}, L2.Inv (X.tried (X.pn ++ pins) (catchW X pins E x n np hpos b₀ suite)) [] σ3 H3 s1 → L2.Inv X pins σ3 H3 s1 :=
      fun I9 => I9.asI I.ok.hd I.ok.frames fun p q => by simpa using q
    cases f with
    | next =>
      obtain ⟨σ3, H3, I9, q⟩ := hs
      exact pss_nil pins s1 σ3 H3 E (fin I9) q
    | ret u =>
      obtain ⟨v, σ3, H3, I9, r, q⟩ := hs
      exact ⟨v, σ3, H3, fin I9, r, q⟩
    | brk =>
      obtain ⟨σ3, H3, I9, q⟩ := hs
      exact ⟨σ3, H3, fin I9, q⟩
    | cont =>
      obtain ⟨σ3, H3, I9, q⟩ := hs
      exact ⟨σ3, H3, fin I9, q⟩
end
end DL
set_option Elab.async false
set_option linter.all false
set_option maxRecDepth 100000
set_option maxHeartbeats 1000000
namespace L2
open PySem PySem.Spec PyProof.Rows Builtin.ObjectAttr Builtin.Getset_descriptor
structure ExcTy (K : PySem.W.Frag) (C : Addr) : Prop where
  ga : PySem.W.findIn K (.ref C) "__getattribute__" = some (some (.builtin "BaseException.__getattribute__"))
  hk : PySem.W.findIn K (.ref C) "__getattr__" = some none
  mb : PySem.W.mroIn K C (.type "BaseException") = some true
  mo : PySem.W.mroIn K C (.type "object") = some true
  ca : PySem.W.findIn K (.ref C) "__class__" = some (some (.builtin "object.__class__"))
  gn : PySem.W.specialIn K (.builtin "object.__class__") "__get__" = some (some (.builtin "getset_descriptor.__get__"))
  gt : PySem.W.takesIn K (.builtin "object.__class__") = some true
  hd : PySem.W.hasDictIn K C = true
section
variable {prog : Program} {w : World} {A : Around} {E : Value → Shared → Prop} {s : Shared} {K : PySem.W.Frag} {x C : Addr} {n : Str}
theorem exc_check {nv : Value} {Q : Unit → Shared → Prop} (T : ExcTy K C) (X : K.In s.heap) (LT : PySem.W.Looks (model prog w) s.heap (typeOf (.ref x)) (.ref C)) (h : Q () s) : wpAny (model prog w) A (checkBuiltinCall "BaseException.__getattribute__" ⟨[.ref x, nv], []⟩) Q E s := by
  have LI : PySem.W.Looks (model prog w) s.heap (isInstance (.ref x) (.type "BaseException")) true := LT.andThen (PySem.W.looks_mroIn X T.mb)
  exact @PySem.W.check_slot (model prog w) _ _ s "BaseException.__getattribute__" "BaseException" "__getattribute__" (.ref x) [nv] [] _ (by decide +kernel) (by decide +kernel) LI (F.args_bexc_ga (.ref x) nv) h
theorem exc_find (T : ExcTy K C) {h : Heap} {M : Model} (X : K.In h) : PySem.W.Looks M h (find (.ref x) (.ref C) "__class__") (.bind (.builtin "getset_descriptor.__get__") (.builtin "object.__class__")) := by
  have L1 := PySem.W.looks_findIn (M := M) X T.ca
  have L2 := PySem.W.looks_specialIn (M := M) X T.gn
  have L3 := PySem.W.looks_takesIn (M := M) X T.gt
  refine L1.andThen (PySem.W.Looks.andThen (t := getOf _) L2 ?_)
  refine PySem.W.Looks.andThen (t := dataDescriptor? _ _) (L3.andThen .now) ?_
  exact PySem.W.Looks.tag .now
theorem exc_cget {R : Result → Shared → Prop} {tp : Value} (T : ExcTy K C) (X : K.In s.heap) (LT : PySem.W.Looks (model prog w) s.heap (typeOf (.ref x)) (.ref C)) (h : R (.ok (.ret (.ref C))) s) :
    codeAny (model prog w) A (.call (.builtin "getset_descriptor.__get__") ⟨[.builtin "object.__class__", .ref x, tp], []⟩) R s := by
  have LS := PySem.W.looks_mroIn (M := model prog w) X T.mo
  cases s
  refine codeAny_call_builtin PySem.W.KF.slot_gs.plain PySem.W.KF.entry_gs (PySem.W.KF.slot_gs.check _ _ _ _ _ _ _ _ PySem.W.KF.type_class (PySem.W.KF.args_gs _ _ _) ?_)
  unfold Builtin.«getset_descriptor.__get__» descrGet descrGetter descrCheckInstance descrNameAndClass isInstance; rw [PySem.W.dga_obj]
  refine wpAny_bind (wpAny_pure ?_); simp only [PySem.W.KF.owner_class]; repeat lk
  refine ⟨Code.quiet_builtin _ (by decide +kernel), codeAny_builtin PySem.W.KF.entry_class ?_⟩; unfold Builtin.«object.__class__» shownTypeOf; repeat lk
  exact h
theorem exc_entry {tk : Tok} {P : Value → Shared → Prop} (T : ExcTy K C) (X : K.In s.heap) (LT : PySem.W.Looks (model prog w) s.heap (typeOf (.ref x)) (.ref C)) (h : P (.ref C) s) :
    wpAny (model prog w) A (Builtin.«object.__getattribute__» ⟨[.ref x, .str "__class__" tk], []⟩) (fun fin s' => match fin with | .done (.ret v) => P v s' | _ => False) E s := by
  have LF := exc_find (x := x) (M := model prog w) T X
  obtain ⟨hh, gg, d, t, os⟩ := s
  unfold Builtin.«object.__getattribute__» slotArgs
  refine wpAny_bind (wpAny_bind (wpAny_pure (wpAny_bind (wpAny_pure (wpAny_pure ?_)))))
  refine wpAny_bind (wpAny_pure (wpAny_bind (LT.at (wpAny_bind (LF.at ?_)))))
  show wpAny _ _ (holding [_] (call _ [_, .ref x, .ref C]) >>= ret) _ _ _
  exact wpAny_bind (wpAny_holding (wpAny_call (exc_cget T X LT (wpAny_pure h))))
theorem exc_class {Q : Option Value → Shared → Prop} (T : ExcTy K C) (X : K.In s.heap) (LT : PySem.W.Looks (model prog w) s.heap (typeOf (.ref x)) (.ref C)) (h : Q (some (.ref C)) { s with toks := s.toks + 1 }) :
    wpAny (model prog w) A (getAttr? (.ref x) "__class__") Q E s := by
  have LG := PySem.W.looks_findIn (M := model prog w) X T.ga
  have LH := PySem.W.looks_findIn (M := model prog w) X T.hk
  unfold getAttr? getAttrBy? getAttrBy
  refine wpAny_bind (wpAny_mkText (wpAny_bind (wpAny_attempt (wpAny_holding (wpAny_bind (LT.at (wpAny_bind (LG.at ?_))))))))
  show wpAny _ _ (getAttrByItsOwn _ _ _ _ _ _) _ _ _
  unfold getAttrByItsOwn
  refine wpAny_bind (LH.at (wpAny_bind (wpAny_attempt (wpAny_holding ?_))))
  show wpAny _ _ (boundAndCalled _ _ _) _ _ _
  unfold boundAndCalled
  rw [F.excAttr_ValueError.ga.bind]
  refine wpAny_bind (wpAny_pure (wpAny_call (codeAny_call_builtin F.excAttr_ValueError.ga.plain F.entry_bexc_ga (exc_check T X LT (wpAny_mono (exc_entry (s := { s with toks := s.toks + 1 }) (P := fun v s' => v = .ref C ∧ s' = { s with toks := s.toks + 1 }) T X LT ⟨rfl, rfl⟩) (fun fin s' z => ?_) fun _ _ z => z)))))
  rcases fin with (v | _ | _ | _) | _ <;> first | exact z.elim | skip
  obtain ⟨rfl, rfl⟩ := z
  exact PySem.W.handed_on rfl (wpAny_pure h)
theorem kitx_exc (T : ExcTy K C) : PySem.W.KitX K (.ref x) (.ref C) (fun h => ∀ M, PySem.W.Looks M h (typeOf (.ref x)) (.ref C)) where
  ty := fun M _ _ L => L M
  it := fun _ _ X _ => by
    obtain ⟨cd, hc, _⟩ := PySem.W.any_some T.hd
    unfold PySem.W.clsIn at hc; split at hc
    · rename_i ho
      intro _ _ _ _ k q
      exact wpAny_bind (wpAny_loadPart (k _ _ (X _ _ ho)) (wpAny_pure q))
    · cases hc
  ne := fun h tp dd its n sl X ht => by
    obtain ⟨cd, hc, _⟩ := PySem.W.any_some T.hd
    unfold PySem.W.clsIn at hc; split at hc
    · rename_i ho
      by_cases e : C = tp
      · subst e; cases (X _ _ ho).symm.trans ht
      · exact Bool.eq_false_iff.mpr fun q => e (Value.ref.inj (beq_iff_eq.mp q))
    · cases hc
  ca := fun X L k => exc_class T X (L _) k
end
end L2
namespace DL
open PySem PySem.Spec PyProof.Rows L2
section
variable {X : Cx} {ρ : Rho} {O : Sto} {e : Expr} {es : List Expr} {p p2 pos : Pos} {x : Str} {C C2 : Addr} {q : Nat} {fs : List (Str × D)} {k : Bool} {x1 : Nat}
theorem exc_looks {pins : List (Addr × Obj)} {σ : L2.St} {H : Hp} {s : Shared} {a : Addr} {ob : Obj} (I : L2.Inv X pins σ H s) (h : H a = some (.ext fun h => h.get? a = some ob)) (hc : ob.cls = .ref C) : ∀ M, PySem.W.Looks M s.heap (typeOf (.ref a)) (.ref C) := fun M => by
  obtain ⟨ho, _⟩ := I.hok a _ h
  exact hc ▸ (PySem.W.Looks.ld ho).andThen .now
def ExcAt (C : Addr) (v : V) (H : Hp) : Prop := ∃ a ob, v = .ref a ∧ H a = some (.ext fun h => h.get? a = some ob) ∧ ob.cls = .ref C
theorem exc_at {K : PySem.W.Frag} {G : Wd} {H : Hp} {v : V} (s : SA K G H O) (i : Is K G (.ptr q) v) {hx' : Option Addr} (hq : O[q]? = some (some (.exc C fs hx'))) : ExcAt C v H := by
  cases i with
  | ptr _ ha =>
    obtain ⟨a, h1, h2, ob, h3, ⟨h4, _⟩, _⟩ := s.mt q _ hq
    cases Option.some.inj (ha.symm.trans h1)
    exact ⟨_, ob, rfl, h3, h4⟩
theorem ev_isX (hm : X.mg "isinstance" = none) (he : EvP X ρ O e (.ptr q)) {hx' : Option Addr} (hq : O[q]? = some (some (.exc C fs hx'))) (T : ExcTy X.K C) (hx : X.mg x = some (.ref C2)) (hk : PySem.W.kitOne X.K (.ref C) (.ref C2) = some k)
    (hg : Gl X "isinstance" := by rfl) (hgx : Gl X x := by rfl) (hdx : (x == ("__debug__" : Str)) = false := by decide) (hs : starEach [e, .Name x p2] X.env = (false, eval e X.env) :: starEach [.Name x p2] X.env := by rfl) (hpl : (backTo pos (starEach [.Name x p2] X.env)).any (·.1) = false := by rfl) :
    EvP X ρ O (.Call (.Name "isinstance" p) [e, .Name x p2] [] pos) (.bl k) := fun G => by
  refine PE.imp (pe_callB (id := "isinstance") (r := fun vs H Q => ∃ v, vs = [v, .ref C2] ∧ ExcAt C v H ∧ Q (.bl k) H) (fun pins s σ H xs us Q I r h => ?_) hg hm (by first | rfl | decide +kernel) (pa_cons (he G) (pa_cons (pe_glob (v := .ref C2) hgx hx rfl hdx) pa_nil rfl) hs) (by decide) (by decide) hs hpl) fun σ H Q ⟨h1, h2, h3⟩ => ?_
  · obtain ⟨v, rfl, ⟨a, ob, rfl, ha, hc⟩, hQ⟩ := h
    obtain ⟨u, u', rfl, ru, ru'⟩ := vals2 r
    cases ru'; cases ru
    exact PySem.W.kia_one (kitx_exc T) I.kIn (exc_looks I ha hc) hk (by intro z; cases z) fun tk => ⟨.bl k, H, I.kept fun _ _ e => e, rfl, hQ⟩
  · exact ⟨h1, h2, fun v G1 H1 e1 s1 i1 => ⟨v, rfl, exc_at s1 i1 hq, h3 _ G1 H1 e1 s1 (.bl k)⟩⟩
abbrev EvCs (X : Cx) (es : List Expr) (cs : List Addr) : Prop := PA X es fun σ H Q => Q (cs.map V.ref) H
end
end DL
set_option Elab.async false
set_option linter.all false
set_option maxRecDepth 100000
set_option maxHeartbeats 1000000
namespace L2
open PySem PySem.Spec PyProof.Rows
def ItrS (lo : Int) (n : Nat) : It := ⟨fun i _ => i < n, fun i H x H' => H' = H ∧ x = .int (lo + (i : Nat) * 2), fun i _ => n ≤ i⟩
def halfUp (d : Int) : Int := if 0 < d then (d - 1) / 2 + 1 else 0
section
variable {X : Cx} {tg a b c : Expr} {p pos : Pos}
end
end L2
namespace DL
open PySem PySem.Spec PyProof.Rows L2
section
variable {X : Cx} {ρ : Rho} {O : Sto} {a b c : Expr} {p pos : Pos} {P : Post} {st : Stmt} {rest : List Stmt}
def rangeS (lo : Int) (n : Nat) : List D := (List.range n).map fun i => .int (lo + (i : Nat) * 2)
end
end DL
set_option Elab.async false
set_option linter.all false
set_option maxRecDepth 100000
set_option maxHeartbeats 1000000
namespace L2
open PySem PySem.Spec PyProof.Rows Builtin.ObjectAttr
open DL (bmV)
abbrev excArgs (vs : List Value) : Obj := { cls := .type "tuple", data := .seq vs.toArray }
abbrev excBare (C t : Addr) : Obj := { cls := .ref C, data := .fields #[.ref t, .none, .none, .none, .bool false, .none] }
abbrev excHeap (h : Heap) (C : Addr) (vs : List Value) : Heap := (h.push (excArgs vs)).push (excBare C h.objs.size)
section
variable {prog : Program} {w : World} {A : Around} {s : Shared} {K : PySem.W.Frag} {C f N : Addr} {nm q : Str} {bs bm : List Value} {hdct : Bool} {sn : List Str} {sub : List Value} {ab : Bool} {col : Option Bool} {dd : Option Addr} {k0 k1 k2 k3 k5 : Option Value}
theorem exc_makeI {vs : List Value} {R : Result → Shared → Prop} (X : K.In s.heap) (hC : s.heap.get? C = some (excClassObj nm q C N bs bm hdct sn sub ab col dd k0 k1 k2 k3 k5 "ValueError.__new__")) (T : OwnTail s.heap bmV bm)
    (hi : PySem.W.findIn K (.ref C) "__init__" = some (some (.ref f))) (hf : PySem.W.typeIn K (.ref f) = some (.type "function")) (hz : vs.length ≤ sizeLine)
    (h : codeAny (model prog w) (A.under (.builtin "type.__call__" ⟨.ref C :: vs, []⟩)) (.call (.ref f) ⟨.ref (s.heap.objs.size + 1) :: vs, []⟩) (PySem.W.InitBack (s.heap.objs.size + 1) R) { s with heap := excHeap s.heap C vs }) :
    codeAny (model prog w) A (.call (.ref C) ⟨vs, []⟩) R s := by
  obtain ⟨hp, g, d, t, os⟩ := s
  have f1 := tc_lookup
  have f2 := tc_bind (.ref C)
  have hT : (⟨hp, g, d, t, os⟩ : Shared).TypeIs (.ref C) "type" := ⟨_, hC, rfl⟩
  have kp : ∀ b o, hp.get? b = some o → (excHeap hp C vs).get? b = some o := fun b o e => Heap.get?_push_of_some _ (Heap.get?_push_of_some _ e)
  have X1 : K.In (excHeap hp C vs) := fun b o e => kp b o (X b o e)
  have LI := PySem.W.looks_findIn (M := model prog w) X1 hi
  have LB := PySem.W.bind_fn (M := model prog w) X1 (.ref (hp.objs.size + 1)) hf
  have hC1 := kp _ _ hC
  have hget : (excHeap hp C vs).get? (hp.objs.size + 1) = some (excBare C hp.objs.size) := by heap_get
  have hcC : (Value.ref C :: bm).contains (.ref C) = true := by simp
  refine codeAny_of_tree ?_
  show wpAny _ _ (callAny (.ref C) _) _ _ _
  repeat (any_goals (first | assumption | with_reducible refine wpAny_loadPart_at hC ?_ | wp_step))
  refine ⟨rfl, codeAny_call_builtin_at (Code.quiet_builtin _ (by decide +kernel)) entry_typeCall (wpAny_check_type_call_sub hC ?_)⟩
  repeat (first | with_reducible refine wpAny_loadPart_at hC ?_ | with_reducible refine wpAny_madeBy_exc hC ?_ | wp_step)
  refine codeAny_call_builtin_code (Code.quiet_builtin _ F.excBase_ValueError.quiet) (wpAny_check_new_subU F.excBase_ValueError (by decide +kernel) T hC (codeAny_exc_new_subU F.excBase_ValueError (by decide +kernel) F.excBase_ValueError T hC ?_ hz))
  show wpAny _ _ _ _ _ _
  have LT : PySem.W.Looks (model prog w) (excHeap hp C vs) (typeOf (.ref (hp.objs.size + 1))) (.ref C) := (PySem.W.Looks.ld hget).andThen .now
  have LS : PySem.W.Looks (model prog w) (excHeap hp C vs) (isSubtype (.ref C) (.ref C)) true := fun {_ _ _ s'} k z => by
    obtain ⟨h1, g1, d1, t1, o1⟩ := s'
    refine wpAny_isSubtype_exc (k _ _ hC1) ?_
    rw [hcC]
    exact z
  show wpAny _ _ _ _ _ ⟨excHeap hp C vs, g, d, t, os⟩
  unfold isInstance callSpecial? specialOf
  refine wpAny_bind (wpAny_bind (LT.at (LS.at ?_)))
  show wpAny _ _ (holding [_] _ >>= _) _ _ _
  refine wpAny_bind (wpAny_holding (wpAny_bind (wpAny_bind (LT.at (LI.at ?_)))))
  show wpAny _ _ (holding _ _) _ _ _
  refine wpAny_holding (wpAny_bind (LB.at (wpAny_bind (wpAny_call (codeAny_mono h fun r s' z => ?_)))))
  rcases r with e | (v | _ | _ | _) <;> first | exact z | exact z.elim | skip
  obtain ⟨rfl, z⟩ := z
  exact wpAny_pure (wpAny_pure z)
theorem refuse_tail {h : Heap} {tl : List Value} (T : OwnTail h bmV tl) (self : Value) : refuseLoop self "__setattr__" tl = pure () := by
  induction T with
  | base => exact F.store_ValueError.passes self
  | own _ _ _ _ ih => rw [refuseLoop_ref]; exact ih
theorem exc_store {E : Value → Shared → Prop} {a t : Addr} {name : Str} {v : Value} {Q : Unit → Shared → Prop} (X : K.In s.heap) (hC : s.heap.get? C = some (excClassObj nm q C N bs bm true sn sub ab col dd k0 k1 k2 k3 k5 "ValueError.__new__")) (T : OwnTail s.heap bmV bm)
    (ho : s.heap.get? a = some (excBare C t)) (sa : PySem.W.findIn K (.ref C) "__setattr__" = some (some (.builtin "object.__setattr__"))) (na : PySem.W.findIn K (.ref C) name = some none) (mo : PySem.W.mroIn K C (.type "object") = some true) (hd : PySem.W.hasDictIn K C = true)
    (h : ∀ h' tk, h'.get? a = some { excBare C t with dict := some s.heap.objs.size } → h'.Ns1 s.heap.objs.size (fun y => if y = name then some v else none) → (∀ b o, b ≠ a → s.heap.get? b = some o → h'.get? b = some o) → Q () { s with heap := h', toks := tk }) :
    wpAny (model prog w) A (setAttr (.ref a) name v) Q E s := by
  obtain ⟨hp, g, d, tk, os⟩ := s
  have LT : PySem.W.Looks (model prog w) hp (typeOf (.ref a)) (.ref C) := (PySem.W.Looks.ld ho).andThen .now
  have LS := PySem.W.looks_findIn (M := model prog w) X sa
  have LN := PySem.W.looks_findIn (M := model prog w) X na
  have LO : PySem.W.Looks (model prog w) hp (isInstance (.ref a) (.type "object")) true := LT.andThen (PySem.W.looks_mroIn X mo)
  have SF := F.store_ValueError
  have hxs : a ≠ hp.objs.size := Nat.ne_of_lt (Heap.lt_size ho)
  unfold setAttr callSpecial? specialOf
  refine wpAny_bind (wpAny_mkText (wpAny_bind (wpAny_bind (wpAny_bind (LT.at (LS.at (wpAny_holding ?_)))))))
  rw [SF.slot.bind]
  refine wpAny_bind (wpAny_pure (wpAny_bind (wpAny_call (codeAny_call_builtin SF.slot.plain SF.entry (@PySem.W.check_slot (model prog w) _ _ _ "object.__setattr__" "object" "__setattr__" (.ref a) [.str name tk, v] [] _ SF.kind SF.split LO (SF.args (.ref a) (.str name tk) v) ?_)))))
  show wpAny _ _ (Builtin.«object.__setattr__» ⟨[.ref a, .str name tk, v], []⟩) _ _ ⟨hp, g, d, tk + 1, os⟩
  rw [PySem.W.osa_eq, refuse_eq]
  refine wpAny_bind (wpAny_bind (LT.at (wpAny_bind (wpAny_mroOf_exc hC ?_))))
  rw [refuseLoop_ref, refuse_tail T]
  refine wpAny_pure (wpAny_bind (LT.at (wpAny_bind (LN.at (wpAny_bind (wpAny_pure ?_))))))
  show wpAny _ _ (storeInOwnDict _ _ _ _ _ _) _ _ _
  obtain ⟨cd, hc, hd'⟩ := PySem.W.any_some hd
  refine wpAny_bind (wpAny_pure (wpAny_bind (wpAny_bind (wpAny_loadPart ho (wpAny_bind ((PySem.W.looks_clsIn X hc).at ?_))))))
  rw [hd']
  have hx1 : (hp.push { cls := .type "dict", data := .dict #[] }).get? a = some (excBare C t) := Heap.get?_push_of_some _ ho
  generalize hH : ((hp.push { cls := .type "dict", data := .dict #[] }).update a fun o => { o with dict := some hp.objs.size }) = h1
  have ha1 : h1.get? a = some { excBare C t with dict := some hp.objs.size } := hH ▸ Heap.get?_update_self _ hx1 rfl
  have hd1 : h1.get? hp.objs.size = some { cls := .type "dict", data := .dict #[] } := hH ▸ (Heap.get?_update_ne _ _ _ _ (Ne.symm hxs)).trans (Heap.get?_push_at rfl rfl)
  have hk1 : ∀ b o, b ≠ a → hp.get? b = some o → h1.get? b = some o := fun b o n e => hH ▸ (Heap.get?_update_ne _ _ _ _ n).trans (Heap.get?_push_of_some _ e)
  have hn1 : h1.Ns hp.objs.size (fun _ => none) := ⟨_, #[], _, hd1, rfl, fun e he => absurd he (by simp), fun _ => rfl⟩
  show wpAny _ _ (alloc _ >>= fun d => update a (fun o => { o with dict := some d }) >>= fun _ => dictMade (.ref C) a d) _ _ _
  refine wpAny_bind (wpAny_alloc' (wpAny_bind (wpAny_update' hx1 (wpAny_pure ?_))))
  show wpAny _ _ (storeInDict hp.objs.size (.str name tk) name v) _ _ ⟨_, _, _, _, _⟩
  rw [show ((⟨hp, g, d, tk + 1, os⟩ : Shared).heap.push { cls := .type "dict", data := .dict #[] }) = hp.push { cls := .type "dict", data := .dict #[] } from rfl, hH]
  unfold storeInDict newKeyGuard
  refine wpAny_bind (wpAny_pure (wpAny_bind (wpAny_nsSet1 (Heap.Ns1.of_empty hn1) fun h' hn' hs => ?_)))
  obtain ⟨oD, esD, epD, hoD, hdD, hcD⟩ := hn'.count (Within.cons name v Within.nil)
  refine wpAny_bind (wpAny_lookBehind hoD (by rw [hdD]; exact pastItsLine_dict (Nat.le_trans hcD (by rw [List.length_cons, List.length_nil, sizeLine_eq]; omega))) ?_)
  refine wpAny_pure (wpAny_pure (wpAny_pure (h h' _ ((hs.2 a hxs).trans ha1) hn' fun b o n e => (hs.2 b (Nat.ne_of_lt (Heap.lt_size e))).trans (hk1 b o n e))))
end
end L2
namespace L2
open PySem PySem.Spec PyProof.Rows Builtin.ObjectAttr DL
structure ExcI (K : PySem.W.Frag) (C f : Addr) (name : Str) : Prop where
  cls : ∃ (nm q : Str) (N : Addr) (bs bm : List Value) (sn : List Str) (sub : List Value) (ab : Bool) (col : Option Bool) (dd : Option Addr) (k0 k1 k2 k3 k5 : Option Value),
    K.lookup C = some (excClassObj nm q C N bs bm true sn sub ab col dd k0 k1 k2 k3 k5 "ValueError.__new__") ∧ ∀ h, K.In h → OwnTail h bmV bm
  init : PySem.W.findIn K (.ref C) "__init__" = some (some (.ref f))
  fn : PySem.W.typeIn K (.ref f) = some (.type "function")
  sa : PySem.W.findIn K (.ref C) "__setattr__" = some (some (.builtin "object.__setattr__"))
  na : PySem.W.findIn K (.ref C) name = some none
  kp : PySem.W.keepIn K (.ref C) = true
section
variable {X : Cx} {pins : List (Addr × Obj)} {σ : St} {H : Hp} {s : Shared} {C f a t : Addr} {name : Str}
abbrev bareO (C a t : Addr) : HO := .ext fun h => h.get? a = some (excBare C t)
abbrev withO (C a t dx : Addr) : HO := .ext fun h => h.get? a = some { excBare C t with dict := some dx }
theorem Inv.track {b : Addr} {o : HO} (I : Inv X pins σ H s) (fp : FpOk X pins H b) (hs : X.s₀.heap.get? b = none) (new : ObjOk X.prog X.w (upd H b o) s.heap b o) : Inv X pins σ (upd H b o) s := by
  obtain ⟨h2, h4, _, _, h5, h6⟩ := fp
  refine ⟨I.ok, I.os, I.bare, ⟨I.base.keep, I.base.slot, fun c o q n hb => ?_, I.base.there, fun c xs q => ?_, fun c o u q => ?_, fun c ps q => ?_⟩, I.loc, I.cell, by rw [upd_ne (Ne.symm h4)]; exact I.free, fun x c q => by rw [upd_ne (h5 x c q)]; exact I.freeC x c q, fun p hp => ?_, fun c u q => ?_, I.len⟩
  · rw [upd_ne]
    · exact I.base.free c o q n hb
    · rintro rfl; rw [hs] at q; cases q
  · have := I.base.tups c xs q
    rw [upd_ne (ne_of_none this h2)]; exact this
  · have := I.base.frzs c o u q
    rw [upd_ne (ne_of_none this h2)]; exact this
  · obtain ⟨m, this⟩ := I.base.tbls c ps q
    exact ⟨m, by rw [upd_ne (ne_of_none this h2)]; exact this⟩
  · obtain ⟨e, n, r⟩ := I.pin p hp
    exact ⟨e, by rw [upd_ne (h6 p hp)]; exact n, r⟩
  · by_cases hb : c = b
    · subst hb
      rw [upd_same] at q
      cases q
      exact new
    · rw [upd_ne hb] at q
      exact (I.hok c u q).stay (fun _ _ _ e => e) (fun c e => by rw [upd_ne (ne_of_none e h2)]; exact e) fun c xs e => by rw [upd_ne (ne_of_none e h2)]; exact e
theorem exc_init_store {y : V} {u : Value} {A : Around} {E : Value → Shared → Prop} {Q : Unit → Shared → Prop} (Z : ExcI X.K C f name) (T : ExcTy X.K C) (I : Inv X pins σ H s) (e : H a = some (bareO C a t)) (ry : RelV y u)
    (h : ∀ s' dx, H dx = none → Inv X pins σ (upd (upd H a (withO C a t dx)) dx (.xd [(name, y)])) s' → Q () s') : wpAny (model X.prog X.w) A (setAttr (.ref a) name u) Q E s := by
  obtain ⟨nm, q, N, bs, bm, sn, sub, ab, col, dd, k0, k1, k2, k3, k5, hC, hT⟩ := Z.cls
  obtain ⟨ho, _⟩ := I.hok a _ e
  refine exc_store I.kIn (I.kIn _ _ hC) (hT _ I.kIn) ho Z.sa Z.na T.mo T.hd fun h' tk h1 h2 h3 => h _ s.heap.objs.size (I.hok.fresh (Nat.le_refl _)) ?_
  have hne : a ≠ s.heap.objs.size := Nat.ne_of_lt (Heap.lt_size ho)
  have hf : H s.heap.objs.size = none := I.hok.fresh (Nat.le_refl _)
  have I1 : Inv X pins σ (upd H a (withO C a t s.heap.objs.size)) { s with heap := h', toks := tk } :=
    I.write (x := a) (e := a) (by rw [e]; exact True.intro) (.inl rfl) (fun b u n z => h3 b u n z) ⟨_, h1⟩ ⟨h1, ⟨_, h1⟩, fun x y e k => k _ e⟩
  have fp := I.fpOk (b := s.heap.objs.size) (H' := upd H a (withO C a t s.heap.objs.size)) (Nat.le_refl _) (by rw [upd_ne (Ne.symm hne)]; exact hf)
  refine I1.track fp ?_ ⟨_, h2, fun g => ?_⟩
  · cases z : X.s₀.heap.get? s.heap.objs.size with
    | none => rfl
    | some o => exact absurd (Heap.lt_size z) (Nat.not_lt.mpr I.sz)
  · show RelO (List.lookup g [(name, y)]) (if g = name then some u else none)
    by_cases z : g = name
    · rw [if_pos z, z, List.lookup_cons, beq_self_eq_true]; exact ry
    · rw [if_neg z, List.lookup_cons, beq_eq_false_iff_ne.mpr z]; trivial
theorem Inv.forget {φ : Heap → Prop} (I : Inv X pins σ (upd H a (.ext φ)) s) (hn : H a = none) : Inv X pins σ H s := by
  have hs : ∀ b u, H b = some u → upd H a (.ext φ) b = some u := fun b u q => by rw [upd_ne (ne_of_none q hn)]; exact q
  have back : ∀ b u, upd H a (.ext φ) b = some u → u ≠ .ext φ → H b = some u := fun b u q n => by
    by_cases hb : b = a
    · subst hb; rw [upd_same] at q; exact absurd (Option.some.inj q).symm n
    · rw [upd_ne hb] at q; exact q
  have no : ∀ b, upd H a (.ext φ) b = none → H b = none := fun b q => by
    by_cases hb : b = a
    · subst hb; exact hn
    · rw [upd_ne hb] at q; exact q
  refine ⟨I.ok, I.os, I.bare, ⟨I.base.keep, I.base.slot, fun c o q n hb => no c (I.base.free c o q n hb), I.base.there, fun c xs q => back c _ (I.base.tups c xs q) (fun z => by cases z), fun c o u q => back c _ (I.base.frzs c o u q) (fun z => by cases z), fun c ps q => ?_⟩, I.loc, I.cell, no _ I.free, fun x c q => no _ (I.freeC x c q), fun p hp => ?_, fun c u q => ?_, I.len⟩
  · obtain ⟨m, z⟩ := I.base.tbls c ps q
    exact ⟨m, back c _ z (fun z => by cases z)⟩
  · obtain ⟨e, n, r⟩ := I.pin p hp
    exact ⟨e, no _ n, r⟩
  · refine (I.hok c u (hs c u q)).stay (fun _ _ _ e => e) (fun b e => back b _ e fun z => by cases z) fun b xs e => back b _ e fun z => by cases z
end
end L2
set_option Elab.async false
set_option linter.all false
set_option maxRecDepth 100000
set_option maxHeartbeats 1000000
namespace L2
open PySem PySem.Spec PyProof.Rows Builtin.ObjectAttr DL
def spI (C : Addr) (name : Str) : Sp := fun vs H Q _ => ∃ a t v, vs = [.ref a, v] ∧ H a = some (bareO C a t) ∧ ∀ dx, H dx = none → Q .non (upd (upd H a (withO C a t dx)) dx (.xd [(name, v)]))
section
variable {P : Program} {w : World} {K : PySem.W.Frag} {mg : Str → Option Value} {base : Heap} {C f : Addr} {name sn nn qual : Str} {st : Stmt} {fd : FuncData} {p1 p2 p3 p4 : Pos}
theorem ps_init {X : Cx} (Z : ExcI X.K C f name) (T : ExcTy X.K C) (h0 : X.N[0]? = some sn) (h1 : X.N[1]? = some nn) (v0 : Vis X.env.scope sn) (v1 : Vis X.env.scope nn) (d0 : (sn == ("__debug__" : Str)) = false) (d1 : (nn == ("__debug__" : Str)) = false) (c0 : (sn == ("__classdict__" : Str)) = false) (c1 : (nn == ("__classdict__" : Str)) = false)
    (hs : swapsWith (.Name nn p3) (some (.Attribute (.Name sn p1) name p2)) p4.line X.env = pure false) :
    PS X (.Assign [.Attribute (.Name sn p1) name p2] (.Name nn p3) p4) (fun D σ H => ∃ a t v, σ[0]? = some (some (.ref a)) ∧ σ[1]? = some (some v) ∧ H a = some (bareO C a t) ∧ ∀ dx, H dx = none → D.nx σ (upd (upd H a (withO C a t dx)) dx (.xd [(name, v)]))) := by
  intro pins s σ H D I ⟨a, t, v, q0, q1, ha, hD⟩
  refine plainObj_wpAny_Assign_Attribute (thn (pe_var h1 v1 d1 c1 pins s σ H (fun y H1 => y = v ∧ H1 = H) I ⟨v, q1, rfl, rfl⟩) fun u s1 ⟨y, H1, I1, ry, e1, e2⟩ => thn (pe_var h0 v0 d0 c0 pins s1 σ H1 (fun y H2 => y = .ref a ∧ H2 = H1) I1 ⟨_, q0, rfl, rfl⟩) fun ov s2 ⟨x, H2, I2, rx, e3, e4⟩ => ?_) hs
  subst e1 e2 e3 e4
  obtain rfl : ov = Value.ref a := rx
  exact exc_init_store Z T I2 ha ry fun s3 dx hn I3 => ⟨σ, _, I3, hD dx hn⟩
theorem okI (F : Fun K "__init__" qual st f fd) (S : FnScope [sn, nn] [sn, nn] (defScope st)) (Z : ExcI K C f name) (T : ExcTy K C) (hb : defBody st = [.Assign [.Attribute (.Name sn p1) name p2] (.Name nn p3) p4]) (d0 : (sn == ("__debug__" : Str)) = false) (d1 : (nn == ("__debug__" : Str)) = false) (c0 : (sn == ("__classdict__" : Str)) = false) (c1 : (nn == ("__classdict__" : Str)) = false)
    (v0 : Vis (defScope st) sn) (v1 : Vis (defScope st) nn) (hs : ∀ env, swapsWith (.Name nn p3) (some (.Attribute (.Name sn p1) name p2)) p4.line env = pure false) : FnOk P w K mg base CX0 1 f fd [sn, nn] (spI C name) := by
  refine F.ok (k := 0) S (fun vs H Q E h => ?_) (fun cdv A outer s H vs Q E hr h => ?_)
  · obtain ⟨_, _, _, rfl, _⟩ := h; rfl
  · obtain ⟨a, t, v, rfl, ha, hQ⟩ := h
    rw [hb]
    exact ⟨_, pss_cons (ps_init Z T rfl rfl v0 v1 d0 d1 c0 c1 (hs _)) pss_nil, a, t, v, rfl, rfl, ha, hQ⟩
theorem raise_with {M : Model} {A : Around} {E : Value → Shared → Prop} {s : Shared} {env : Env} {x : Sem Value} {Q : Flow → Shared → Prop} {nm q : Str} {N : Addr} {bs bm : List Value} {sn : List Str} {sub : List Value} {ab : Bool} {col : Option Bool} {dd : Option Addr} {k0 k1 k2 k3 k5 : Option Value} (hh : A.handled = none)
    (h : wpAny M A x (fun v s₁ => ∃ e t dx, v = .ref e ∧ s₁.heap.get? C = some (excClassObj nm q C N bs bm true sn sub ab col dd k0 k1 k2 k3 k5 "ValueError.__new__") ∧ OwnTail s₁.heap bmV bm ∧ s₁.heap.get? e = some { excBare C t with dict := some dx } ∧ E (.ref e) s₁) E s) :
    wpAny M A (raiseStmt env (some x) none) Q E s := by
  unfold raiseStmt
  refine wpAny_bind (wpAny_mono h (fun v s1 h1 => ?_) fun _ _ x => x)
  obtain ⟨e, t, dx, rfl, hC, T, he, hE⟩ := h1
  have hcB : (Value.ref C :: bm).contains (.type "BaseException") = true := by rw [List.contains_cons, T.hasType F.excBase_ValueError.hasBase, Bool.or_true]
  obtain ⟨hp, g, d, tk, os⟩ := s1
  repeat (first | with_reducible refine wpAny_loadPart_at he ?_ | with_reducible refine wpAny_loadPart_at hC ?_ | (with_reducible refine wpAny_isSubtype_exc hC ?_; rw [hcB]) | wp_step)
  exact wpAny_raiseNew_none hh hE
end
end L2
namespace DL
open PySem PySem.Spec PyProof.Rows L2
structure InitI (P : Program) (w : World) (K : PySem.W.Frag) (mg : Str → Option Value) (base : Heap) (C : Addr) (k : Nat) (x name : Str) : Prop where
  ex : ∃ f fd ps, FnOk P w K mg base CX0 k f fd ps (spI C name) ∧ ExcI K C f name ∧ Binds K fd ps []
  ty : ExcTy K C
  at_ : mg x = some (.ref C)
section
variable {X : Cx} {mk : Prop} {ρ : Rho} {O : Sto} {e : Expr} {d : D} {RX : XC} {pos np cpos : Pos} {x name : Str} {P : Post} {C : Addr} {k : Nat}
theorem xX_raiseI (M : InitI X.prog X.w X.K X.mg X.base C k x name) (hr : Room (k + 1) X.A) (ha : EvPs X ρ O [e] [d]) (hR : RX C [(name, d)] ρ O) (hmk : mk) (hc : X.calm = true := by rfl) (hex : X.ex = [] := by rfl) (hg : Gl X x := by rfl)
    (hdb : (x == ("__debug__" : Str)) = false := by decide) (he : starEach [e] X.env = (false, eval e X.env) :: starEach [] X.env := by rfl) (hpl : (backTo cpos (starEach [] X.env)).any (·.1) = false := by rfl) :
    ExX X mk ρ O (.Raise (some (.Call (.Name x np) [e] [] cpos)) none pos) P RX := fun G pins s σ H E I ⟨h1, h2, h3, h4⟩ => by
  obtain ⟨f, fd, ps, g1, g2, g3⟩ := M.ex
  obtain ⟨nm, q, N, bs, bm, sn, sub, ab, col, dd, k0, k1, k2, k3, k5, hC, hT⟩ := g2.cls
  rw [arm_exec_Raise]
  refine wpAny_bind (wpAny_standAt (raise_with (C := C) (nm := nm) (q := q) (N := N) (bs := bs) (bm := bm) (sn := sn) (sub := sub) (ab := ab) (col := col) (dd := dd) (k0 := k0) (k1 := k1) (k2 := k2) (k3 := k3) (k5 := k5) (I.ok.hd hc) (wpAny_bind (wpAny_mono (wpAny_Call_Name_kw (ld_glob I hg M.at_ ?_ hdb)) (fun v s3 h3 => wpAny_bind (wpAny_standAt (wpAny_pure h3))) fun _ _ z => z))))
  refine PySem.W.callWith_K (h₀ := X.base) I.ok.mod.kin g2.kp (thn (ha G cpos pins s σ H (fun vs H' => ∃ G', Ext G G' ∧ SA X.K G' H' O ∧ Iss X.K G' [d] vs) I ⟨h1, h2, fun vs G' H' e1 s1 i1 => ⟨G', e1, s1, i1⟩⟩) fun us s1 ⟨vs, H1, I1, r, G1, e1, sa, i1⟩ => ⟨I1.kIn, ?_⟩) he hpl
  obtain ⟨v, rfl, iv⟩ : ∃ v, vs = [v] ∧ Is X.K G1 d v := by
    cases i1 with | cons i r' => cases r' with | nil => exact ⟨_, rfl, i⟩
  have ul : us.length = 1 := r.length.symm
  have ha1 : H1 (s1.heap.objs.size + 1) = none := I1.hok.fresh (Nat.le_succ _)
  have kp : ∀ b o, s1.heap.get? b = some o → (excHeap s1.heap C us).get? b = some o := fun b o e => Heap.get?_push_of_some _ (Heap.get?_push_of_some _ e)
  have hget : (excHeap s1.heap C us).get? (s1.heap.objs.size + 1) = some (excBare C s1.heap.objs.size) := by heap_get
  have s0n : X.s₀.heap.get? (s1.heap.objs.size + 1) = none := by
    cases z : X.s₀.heap.get? (s1.heap.objs.size + 1) with
    | none => rfl
    | some o => exact absurd (Heap.lt_size z) (Nat.not_lt.mpr (Nat.le_succ_of_le I1.sz))
  have I2 : L2.Inv X pins σ (upd H1 (s1.heap.objs.size + 1) (bareO C (s1.heap.objs.size + 1) s1.heap.objs.size)) { s1 with heap := excHeap s1.heap C us } :=
    (I1.kept (t' := s1.toks) kp).track (I1.fpOk (Nat.le_succ _) ha1) s0n ⟨hget, ⟨_, hget⟩, fun _ _ e k => k _ e⟩
  generalize hH2 : upd H1 (s1.heap.objs.size + 1) (bareO C (s1.heap.objs.size + 1) s1.heap.objs.size) = H2 at I2
  have hsp : spI C name [V.ref (s1.heap.objs.size + 1), v] H2 (fun u H' => u = .non ∧ ∃ dx, H2 dx = none ∧ H' = upd (upd H2 (s1.heap.objs.size + 1) (withO C (s1.heap.objs.size + 1) s1.heap.objs.size dx)) dx (.xd [(name, v)])) (fun _ _ _ => False) :=
    ⟨_, _, v, rfl, by rw [← hH2]; exact upd_same, fun dx hn => ⟨rfl, dx, hn, rfl⟩⟩
  have r2 : Vals [V.ref (s1.heap.objs.size + 1), v] (Value.ref (s1.heap.objs.size + 1) :: us) := .cons rfl r
  have hl : (Value.ref (s1.heap.objs.size + 1) :: us).length = ps.length := by rw [← r2.length]; exact g1.len _ _ _ _ hsp
  have hb := g3 { s1 with heap := _ } (Value.ref (s1.heap.objs.size + 1) :: us) I2.kIn (by rw [List.append_nil]; exact hl)
  rw [List.append_nil] at hb
  refine wpAny_call (exc_makeI (f := f) I1.kIn (I1.kIn _ _ hC) (hT _ I1.kIn) g2.init g2.fn (by rw [List.nil_append, ul, sizeLine_eq]; decide) (codeAny_mono (g1.run _ X.stack _ _ ⟨Value.ref (s1.heap.objs.size + 1) :: us, []⟩ _ _ _ (fun _ _ _ => False) (hr.make C us []) (I2.env0.make C us []) hb r2 hsp) fun r s' hq' => ?_))
  match r, hq' with
  | .error e, hq' => exact hq'.elim
  | .ok (.ret u), hq' =>
    obtain ⟨v', H', I3, rv, ev, dx, hn, hH'⟩ := I2.after hq'
    subst ev
    refine ⟨rv, ?_⟩
    have h2a : H2 (s1.heap.objs.size + 1) = some (bareO C (s1.heap.objs.size + 1) s1.heap.objs.size) := by rw [← hH2]; exact upd_same
    have hne : s1.heap.objs.size + 1 ≠ dx := ne_of_none h2a hn
    have h1d : H1 dx = none := by rw [← hH2, upd_ne (Ne.symm hne)] at hn; exact hn
    have hcomm : H' = upd (upd H1 dx (.xd [(name, v)])) (s1.heap.objs.size + 1) (withO C (s1.heap.objs.size + 1) s1.heap.objs.size dx) := by
      rw [hH', ← hH2, upd_upd]
      funext b
      unfold upd
      by_cases hb : b = dx
      · subst hb; rw [if_pos rfl, if_neg (Ne.symm hne), if_pos rfl]
      · rw [if_neg hb, if_neg hb]
    have h3n : upd H1 dx (.xd [(name, v)]) (s1.heap.objs.size + 1) = none := by rw [upd_ne hne]; exact ha1
    obtain ⟨ho, _⟩ := I3.hok (s1.heap.objs.size + 1) (withO C (s1.heap.objs.size + 1) s1.heap.objs.size dx) (by rw [hcomm]; exact upd_same)
    have I4 : L2.Inv X pins σ (upd H1 dx (.xd [(name, v)])) s' := (hcomm ▸ I3).forget h3n
    obtain ⟨e2, sa2⟩ := sa.laid (o := .xd [(name, v)]) h1d
    exact ⟨_, _, dx, rfl, I3.kIn _ _ hC, hT _ I3.kIn, ho, (h4 C [(name, d)] (some dx) σ ρ O _ _ (e1.trans e2) sa2 (h2.ext (e1.trans e2)) (.inr ⟨dx, _, rfl, upd_same, .cons (iv.ext e2) .nil⟩) hR).2 hmk pins s' _ _ _ _ I4 h3n s0n ho rfl rfl rfl rfl rfl rfl⟩
end
end DL
set_option Elab.async false
set_option linter.all false
set_option maxRecDepth 100000
set_option maxHeartbeats 1000000
namespace L2
open PySem PySem.Spec PyProof.Rows Builtin.ObjectAttr
section
variable {prog : Program} {w : World} {A : Around} {E : Value → Shared → Prop} {s : Shared} {K : PySem.W.Frag} {x C : Addr} {n : Str} {ox od : Obj} {u : Value}
theorem exc_finds (T : ExcTy K C) (na : PySem.W.findIn K (.ref C) n = some none) (hl : PySem.W.lookIn n od = some (some u)) : PySem.W.findObj K C (some od) n = some (.value u) := by
  obtain ⟨cd, hc, hd⟩ := PySem.W.any_some T.hd
  have ho : PySem.W.ownOf cd (some od) n = some (some u) := by unfold PySem.W.ownOf; rw [if_pos hd]; exact hl
  unfold PySem.W.findObj
  rw [hc, Option.bind_some, na, Option.bind_some]
  dsimp only
  rw [Option.bind_some, Option.bind_some, ho]
  rfl
theorem exc_value {tk : Tok} {P : Value → Shared → Prop} (X : K.In s.heap) (I : PySem.W.InstAt s.heap x ox C (some od)) (hf : PySem.W.findObj K C (some od) n = some (.value u)) (h : P u s) :
    wpAny (model prog w) A (Builtin.«object.__getattribute__» ⟨[.ref x, .str n tk], []⟩) (fun fin s' => match fin with | .done (.ret v) => P v s' | _ => False) E s := by
  have LT := I.type (M := model prog w)
  have LF := PySem.W.looks_find (M := model prog w) X I hf
  obtain ⟨hh, gg, d, t, os⟩ := s
  unfold Builtin.«object.__getattribute__» slotArgs
  refine wpAny_bind (wpAny_bind (wpAny_pure (wpAny_bind (wpAny_pure (wpAny_pure ?_)))))
  exact wpAny_bind (wpAny_pure (wpAny_bind (LT.at (wpAny_bind (LF.at (wpAny_pure h))))))
theorem exc_get {b : Bool} {Q : Value → Shared → Prop} (T : ExcTy K C) (X : K.In s.heap) (I : PySem.W.InstAt s.heap x ox C (some od)) (na : PySem.W.findIn K (.ref C) n = some none) (hl : PySem.W.lookIn n od = some (some u)) (hu : PySem.W.handedIn u = true) (h : Q u { s with toks := s.toks + 1 }) :
    wpAny (model prog w) A (getAttr (.ref x) n b) Q E s := by
  have LT := I.type (M := model prog w)
  have LG := PySem.W.looks_findIn (M := model prog w) X T.ga
  have LH := PySem.W.looks_findIn (M := model prog w) X T.hk
  unfold getAttr getAttrBy
  refine wpAny_bind (wpAny_mkText (wpAny_holding (wpAny_bind (LT.at (wpAny_bind (LG.at ?_))))))
  show wpAny _ _ (getAttrByItsOwn _ _ _ _ _ _) _ _ _
  unfold getAttrByItsOwn
  refine wpAny_bind (LH.at (wpAny_bind (wpAny_attempt (wpAny_holding ?_))))
  have e0 : ∀ o nv, callGetattribute o nv (.builtin "BaseException.__getattribute__") b = boundAndCalled (.builtin "BaseException.__getattribute__") o nv := fun o nv => by cases b <;> rfl
  rw [e0]
  unfold boundAndCalled
  rw [F.excAttr_ValueError.ga.bind]
  refine wpAny_bind (wpAny_pure (wpAny_call (codeAny_call_builtin F.excAttr_ValueError.ga.plain F.entry_bexc_ga (exc_check T X LT (wpAny_mono (exc_value (s := { s with toks := s.toks + 1 }) (P := fun v s' => v = u ∧ s' = { s with toks := s.toks + 1 }) X I (exc_finds T na hl) ⟨rfl, rfl⟩) (fun fin s' z => ?_) fun _ _ z => z)))))
  rcases fin with (v | _ | _ | _) | _ <;> first | exact z.elim | skip
  obtain ⟨rfl, rfl⟩ := z
  exact PySem.W.handed_on hu h
end
end L2
namespace DL
open PySem PySem.Spec PyProof.Rows L2
section
variable {X : Cx} {ρ : Rho} {O : Sto} {e : Expr} {d : D} {pos : Pos} {f : Str} {C : Addr} {q : Nat} {fs : List (Str × D)}
theorem ev_fldX (he : EvP X ρ O e (.ptr q)) {hx' : Option Addr} (hq : O[q]? = some (some (.exc C fs hx'))) (T : ExcTy X.K C) (na : PySem.W.findIn X.K (.ref C) f = some none) (hl : fs.lookup f = some d) (hb : attributeBase e f X.env (eval e X.env) = eval e X.env := by rfl) :
    EvP X ρ O (.Attribute e f pos) d := fun G pins s σ H Q I ⟨h1, h2, h3⟩ => by
  refine attr_of hb (thn (he G pins s σ H (fun v H' => ∃ G', Ext G G' ∧ SA X.K G' H' O ∧ Is X.K G' (.ptr q) v) I ⟨h1, h2, fun v G' H' e1 s1 i1 => ⟨G', e1, s1, i1⟩⟩) fun u s1 ⟨y, H1, I1, ry, G1, e1, sa1, i1⟩ => ?_)
  cases i1 with
  | ptr _ ha =>
    obtain ⟨a, g1, g2, ob, g3, ⟨g4, ws, g5⟩, g6, _⟩ := sa1.mt q _ hq
    cases Option.some.inj (ha.symm.trans g1)
    obtain rfl : u = Value.ref _ := ry
    rcases g6 with z | ⟨dx, vs, k1, k2, k3⟩
    · subst z; cases hl
    obtain ⟨v, l, iv⟩ := k3.look hl
    obtain ⟨ho, _⟩ := I1.hok _ _ g3
    obtain ⟨mA, n1, r1⟩ := I1.hok dx _ (sa1.sub _ _ k2)
    obtain ⟨od, hod, hlk⟩ := lookIn_ns n1
    obtain ⟨u', hu, ru⟩ := RelO.some_of (v := v) (o := mA f) (by rw [← l]; exact r1 f)
    have J : PySem.W.InstAt s1.heap _ ob C (some od) := ⟨ho, g4, by obtain ⟨c0, d0, dt, sl⟩ := ob; subst g5; rfl, by rw [k1]; exact hod⟩
    exact exc_get T I1.kIn J na (by rw [hlk, hu]) (handed_of ru) ⟨v, H1, I1.tok _, ru, h3 v G1 H1 e1 sa1 iv⟩
theorem tail1 {K : PySem.W.Frag} {h : Heap} {Cb : Addr} (X : K.In h) (q : PySem.W.excIn K Cb bmV "ValueError.__new__" = true) : OwnTail h bmV (.ref Cb :: bmV) := by
  obtain ⟨tl, N, nm, q, bs, hdct, sn, sub, ab, col, dd, k0, k1, k2, k3, k5, mN, hC, hN, hni, T⟩ := (exc_cls X q).obj
  exact .own hC hN hni .base
end
end DL
set_option Elab.async false
set_option linter.all false
set_option maxRecDepth 100000
set_option maxHeartbeats 1000000
namespace DL
open PySem PySem.Spec PyProof.Rows L2
abbrev SpX.good (sp : SpX) : SpD := fun ds O R => sp ds O R fun _ _ _ => False
section
variable {P : Program} {w : World} {K : PySem.W.Frag} {mg : Str → Option Value} {base : Heap} {C : Addr} {k : Nat} {x m : Str} {sp : SpX}
end
end DL
set_option Elab.async false
set_option linter.all false
set_option maxRecDepth 100000
set_option maxHeartbeats 1000000
namespace L2
open PySem PySem.Spec PyProof.Rows
end L2
namespace DL
open PySem PySem.Spec PyProof.Rows L2
section
variable {X : Cx} {O : Sto}
end
end DL
set_option Elab.async false
set_option linter.all false
set_option maxRecDepth 100000
set_option maxHeartbeats 1000000
namespace DL
open PySem PySem.Spec PyProof.Rows L2
section
variable {X : Cx} {mk : Prop} {ρ : Rho} {O : Sto} {P : Post} {RX : XC} {pos : Pos}
end
end DL
set_option Elab.async false
set_option linter.all false
set_option maxRecDepth 100000
set_option maxHeartbeats 1000000
namespace DL
open PySem PySem.Spec PyProof.Rows L2
section
variable {X : Cx} {O : Sto} {da db ea eb : D} {k : Nat} {v : Value}
theorem cmp_eqH (hr : Room k X.A) (ha : RD O da ea) (hb : RD O db eb) (pa : plD ea = true) (pb : plD eb = true) (hd : min (dpD ea) (dpD eb) ≤ 60) : Op2 (X.held v) O (compareOp .Eq) da db (.bl (eqD ea eb)) := fun G pins s σ H x y v' u Q I rx ry ⟨h1, h2, h3, h4⟩ => by
  obtain ⟨as, ra⟩ := ha.reads I h1 h2 rx pa
  obtain ⟨bs, rb⟩ := hb.reads I h1 h3 ry pb
  have hu := hr.units
  exact PySem.SeqAt.compareEq_reads ra rb (pl_lay _ pa) (pl_lay _ pb) (by rw [dp_py, dp_py]; show X.A.units + _ < _; omega) ⟨.bl _, H, I, rfl, h4 _ G H (Ext.refl _) h1 (.bl _)⟩
end
section
variable {X : Cx} {ρ : Rho} {O : Sto} {value o ix : Expr} {P : Post} {pos tpos : Pos} {q j : Nat} {i : Int} {xs : List D}
theorem x_itemE (hv : Ev X ρ O value fun d O' => O' = O ∧ P.nx ρ (O.set q (some (.lst (xs.set j d))))) (ho : EvP X ρ O o (.ptr q)) (hq : O[q]? = some (some (.lst xs))) (hi : EvP X ρ O ix (.int i)) (hj : ixN xs.length i = some j)
    (hs : swapsWithSole [.Subscript o ix tpos] value pos.line X.env = pure false := by rfl) (hw : swappedStores [.Subscript o ix tpos] value X.env = pure none := by rfl) (h1 : (assignEach [.Subscript o ix tpos] X.env).map (·.2) = [assign (.Subscript o ix tpos) X.env] := by rfl)
    (ha : ∀ v, assign (.Subscript o ix tpos) X.env v = (do
      let ov ← holding [v] (eval o X.env)
      let iv ← holding [v, ov] (eval ix X.env)
      standAt tpos
      holding [v, ov, iv] (setItem ov iv v)
      release [v, ov, iv] []) := by intro _; rfl) : Ex X ρ O (.Assign [.Subscript o ix tpos] value pos) P := fun G => by
  refine PS.imp (ps_asg (hv G) (pg_sub (to := fun σ H Q => ∃ G1, SA X.K G1 H O ∧ EnvR X.K G1 σ ρ ∧ ∀ v G' H', Ext G1 G' → SA X.K G' H' O → Is X.K G' (.ptr q) v → Q v H') (ti := fun σ H Q => ∃ G1, SA X.K G1 H O ∧ EnvR X.K G1 σ ρ ∧ ∀ v G' H', Ext G1 G' → SA X.K G' H' O → Is X.K G' (.int i) v → Q v H')
    (fun pins s σ H Q I ⟨G1, z⟩ => ho G1 pins s σ H Q I z) (fun pins s σ H Q I ⟨G1, z⟩ => hi G1 pins s σ H Q I z) set_list ha) hs hw h1) fun E σ H ⟨q1, q2, q3⟩ => ?_
  refine ⟨q1, q2, fun y d O' G1 H1 e1 s1 i1 ⟨eO, h⟩ => ?_⟩
  subst eO
  refine ⟨G1, s1, q2.ext e1, fun ov G2 H2 e2 s2 i2 => ⟨G2, s2, q2.ext (e1.trans e2), fun iv G3 H3 e3 s3 i3 => ?_⟩⟩
  obtain ⟨ad, vs, rfl, g1, g3, g4⟩ := s3.lstAt (i2.ext e3) hq
  cases i3
  refine ⟨ad, vs, i, j, rfl, rfl, g3, by rw [← g4.length]; exact hj, ?_⟩
  exact q3.nx σ ρ _ G3 _ ((e1.trans e2).trans e3) (s3.put (m' := .lst (xs.set j d)) hq g1 ⟨_, upd_same, g4.set (i1.ext (e2.trans e3)) j⟩) (q2.ext ((e1.trans e2).trans e3)) h
end
end DL
set_option Elab.async false
set_option linter.all false
set_option maxRecDepth 100000
set_option maxHeartbeats 1000000
namespace L2
open PySem PySem.Spec PyProof.Rows
def zeros (n : Int) : Str := if n = 1 then "0" else ⟨(List.replicate n.toNat (("0" : Str).cps)).foldl (· ++ ·) #[]⟩
theorem fold_sz {α : Type} (a : Array α) : ∀ (k : Nat) (acc : Array α), ((List.replicate k a).foldl (· ++ ·) acc).size = acc.size + k * a.size
  | 0, acc => by simp
  | k + 1, acc => by
    rw [List.replicate_succ, List.foldl_cons, fold_sz a k, Array.size_append, Nat.succ_mul]
    omega
end L2
namespace DL
open PySem PySem.Spec PyProof.Rows L2
end DL
set_option Elab.async false
set_option linter.all false
set_option maxRecDepth 100000
set_option maxHeartbeats 1000000
namespace DL
open PySem PySem.Spec PyProof.Rows L2
section
variable {X : Cx} {ρ : Rho} {O : Sto} {a e : Expr} {d : D}
def rCntB (K : PySem.W.Frag) : V → List V → Hp → VK → Prop := fun x vs H Q => ∃ (p : Addr) (bs : List Bool) (k : Bool), x = .ref p ∧ vs = [.bl k] ∧ SqL K H p (bs.map V.bl) ∧ Q (.int ((bs.count k : Nat) : Int)) H
end
end DL
set_option Elab.async false
set_option linter.all false
set_option maxRecDepth 100000
set_option maxHeartbeats 1000000
namespace DL
open PySem PySem.Spec PyProof.Rows L2
section
variable {X : Cx} {ρ : Rho} {O : Sto} {elt tg iter : Expr} {ifs : List Expr} {scope : Scope} {pos : Pos} {xs : List D} {zs : List (Option D)}
theorem comp_coreG (N : List Str) (js : List Nat) (ρ0 : Rho) (hi : EvI X ρ O tg iter xs) (hc : X.calm = true) (hk : scope.kind = .function) (hfr : FreeOk X scope) (hnm : ∀ x ∈ scope.names, x.2 = .local → scope.names.lookup x.1 = some .local)
    (hl0 : ρ0.length = N.length)
    (h0 : ∀ (i : Nat) (d : D), ρ0[i]? = some (some d) → ∃ (x : Str) (j : Nat), N[i]? = some x ∧ scope.names.lookup x = some .free ∧ (∀ y ∈ scope.names, y.1 = x → y.2 ≠ .cell) ∧ X.N[j]? = some x ∧ ρ[j]? = some (some d) ∧ Vis X.env.scope x)
    (hzl : zs.length = xs.length) (hsz : xs.length ≤ sizeLine)
    (turn : ∀ (s : Shared) (H : Hp) (fp : List Addr) (i : Nat) (x : D) (z : Option D), xs[i]? = some x → zs[i]? = some z → ∃ ρ1, Tg (cxC X N scope s H fp) tg x ρ0 ρ1 ∧ ρ1.length = ρ0.length ∧ (∀ (j : Nat) (d : D), ρ0[j]? = some (some d) → ρ1[j]? = some (some d)) ∧ Kept (cxC X N scope s H fp) ρ1 O elt ifs z)
    {use : Option (Value → Sem Unit)} {pins : List (Addr × Obj)} {s : Shared} {σ : L2.St} {H : Hp} {G : Wd} {Q : Value → Shared → Prop} (I : L2.Inv X pins σ H s) (sa : SA X.K G H O) (en : EnvR X.K G σ ρ)
    (fin : ∀ (D C : Addr) (s' : Shared) (H5 : Hp) (G5 : Wd) (vs : List V), L2.Inv X pins σ (upd H5 D (.lst vs)) s' → Ext G G5 → SA X.K G5 H5 O → H5 D = none → Iss X.K G5 (zs.filterMap id) vs → FpOk X pins (upd H5 D (.lst vs)) C → (∃ m, s'.heap.Ns C m) → compPost (model X.prog X.w) X.A X.xe use Q (.ref D) C (.ok .next) s')
    (hs : ∀ x, foldedSetIterable iter X.env x = pure x := by intro _; rfl) :
    wpAny (model X.prog X.w) X.A (comprehension (.ListComp elt [⟨tg, iter, ifs, 0⟩] scope pos) scope X.env (firstIterPos [⟨tg, iter, ifs, 0⟩] pos) (newList []) false (eval iter X.env) use) Q X.xe s := by
  refine wpAny_comprehension_free rfl hs (clos_eq fun y hy e => I.ok.has _ (hfr y hy e)) hk hnm (thn (hi G pins s σ H (fun J H1 => ∃ G1, Ext G G1 ∧ SA X.K G1 H1 O ∧ Yields X.K G1 J xs) I ⟨sa, en, fun J G1 H1 e1 s1 y1 => ⟨G1, e1, s1, y1⟩⟩) fun v s1 h1 => thn h1 fun itv s2 h2 => ?_)
  obtain ⟨it, fp, tn, J, H2, e, I2, T, st2, f2, G2, e2, sa2, Yi⟩ := h2
  subst e
  have ho2 : ∀ b ∈ fp, ∃ o, s2.heap.get? b = some o := fun b hb => let ⟨o, q, _⟩ := T.obj 0 _ st2 b hb; ⟨o, q⟩
  have hlt : ∀ b ∈ fp, b < s2.heap.objs.size := fun b hb => let ⟨o, q⟩ := ho2 b hb; Heap.lt_size q
  unfold newList
  refine wpAny_newObj_type (newEnv_comp fun bb hbb => ?_)
  have hbb' : bb = X.env.builtins := hbb
  subst hbb'
  have hz1 : (s2.heap.push { cls := .type "list", dict := none, data := .seq ([] : List Value).toArray }).objs.size = s2.heap.objs.size + 1 := Heap.size_push ..
  dsimp only
  rw [hz1]
  generalize hD : s2.heap.objs.size = dd at hz1 ⊢
  -- the block's own context
  have en2 : EnvR X.K G2 σ ρ := en.ext e2
  obtain ⟨σ0, hσl, hσ0⟩ := ex_list (fun i (o : Option V) => (∀ d, ρ0[i]? = some (some d) → ∃ v, o = some v ∧ Is X.K G2 d v) ∧ ∀ v, o = some v → ∃ (x : Str) (j : Nat), N[i]? = some x ∧ scope.names.lookup x = some .free ∧ (∀ y ∈ scope.names, y.1 = x → y.2 ≠ .cell) ∧ X.N[j]? = some x ∧ σ[j]? = some (some v) ∧ Vis X.env.scope x) N.length (fun i hi => by
    cases q : ρ0[i]? with
    | none => exact ⟨none, And.intro (fun d z => nomatch z) (fun v z => nomatch z)⟩
    | some o =>
      cases o with
      | none => exact ⟨none, And.intro (fun d z => nomatch z) (fun v z => nomatch z)⟩
      | some d =>
        obtain ⟨x, j, q1, q2, q3, q4, q5, q6⟩ := h0 i d q
        obtain ⟨v, q7, q8⟩ := en2.get j d q5
        exact ⟨some v, And.intro (fun d' z => by cases z; exact ⟨v, rfl, q8⟩) (fun v' z => by cases z; exact ⟨x, j, q1, q2, q3, q4, q7, q6⟩)⟩)
  have en0 : EnvR X.K G2 σ0 ρ0 := ⟨hσl.trans hl0.symm, fun i d e => by
    have hi : i < σ0.length := by rw [hσl, ← hl0]; exact (List.getElem?_eq_some_iff.mp e).1
    obtain ⟨v, e1, e2⟩ := (hσ0 i σ0[i] (List.getElem?_eq_getElem hi)).1 d e
    exact ⟨v, by rw [List.getElem?_eq_getElem hi, e1], e2⟩⟩
  have I3 := inv_comp (N := N) (scope := scope) (fp := fp) (σ0 := σ0) I2 f2 ho2 hk hfr hσl (fun i v e => (hσ0 i _ e).2 v rfl) s2.toks { cls := .type "list", dict := none, data := .seq ([] : List Value).toArray }
  generalize hY : cxC X N scope s2 H2 fp = Y at I3
  have hD1 : (pushCells ((s2.heap.push { cls := .type "list", dict := none, data := .seq ([] : List Value).toArray }).push { cls := .type "dict", data := .dict #[] }) scope.names).get? dd = some (lstO []) := by
    refine pushCells_keeps _ _ _ _ (Heap.get?_push_of_some _ ?_)
    rw [← hD]
    exact Heap.get?_push_size _ rfl
  have hHD : H2 dd = none := I2.hok.fresh (by rw [hD]; exact Nat.le_refl _)
  have hsD : s2.heap.get? dd = none := Heap.get?_none_of_le (by rw [hD]; exact Nat.le_refl _)
  have hDC : dd ≠ Y.env.locals := by
    rw [← hY]; show dd ≠ s2.heap.objs.size + 1; rw [hD]; exact Nat.ne_of_lt (Nat.lt_succ_self _)
  have hfs : ∀ b ∈ frs X.stack, b < s2.heap.objs.size := fun b hb => by
    rcases List.mem_cons.mp (I2.stkSub b hb) with q | q
    · rw [q]; exact I2.lt
    · exact Nat.lt_of_not_le fun z => I2.nofs z q
  have hYfs : Y.fs = frs X.stack := by rw [← hY]; rfl
  have hDfs : dd ∉ Y.fs := fun z => by rw [hYfs] at z; have := hfs dd z; rw [hD] at this; exact Nat.lt_irrefl _ this
  have hYex : Y.ex = fp := by rw [← hY]; rfl
  have hYpn : Y.pn = [] := by rw [← hY]; rfl
  have hYxe : Y.xe = fun _ _ => False := by rw [← hY]; rfl
  have hYs : Y.s₀.heap.objs.size = dd := by rw [← hY]; exact hD
  have hYc : ∀ x c, Y.env.cells.lookup x = some c → c ≠ dd ∧ ∀ b ∈ fp, c ≠ b := fun x c e => by
    refine ⟨?_, fun b hb => ?_⟩
    · intro z
      subst z
      obtain ⟨v, o, q1, q2⟩ := I3.cell x c e
      rw [hD1] at q1; cases q1; cases q2
    · have := I3.ok.exf b (by rw [hYex]; exact hb)
      exact this.2 x c e
  have fpY : ∀ {H' : Hp} {pl : List (Addr × Obj)}, (∀ b ∈ fp, H' b = none) → (∀ p ∈ pl, p.1 = dd) → ∀ b ∈ fp, FpOk Y pl H' b := fun hn hp b hb => ⟨hn b hb, (I3.ok.exf b (by rw [hYex]; exact hb)).1, I3.ok.exfs b (by rw [hYex]; exact hb), .inl (by rw [hYex]; exact hb), fun x c e => (hYc x c e).2 b hb, fun p hq => by
    rw [hYpn, List.nil_append] at hq
    rw [hp p hq]
    exact Nat.ne_of_gt (by rw [← hD]; exact hlt b hb)⟩
  have I4 : L2.Inv Y [(dd, lstO [])] σ0 H2 { s2 with heap := pushCells ((s2.heap.push { cls := .type "list", dict := none, data := .seq ([] : List Value).toArray }).push { cls := .type "dict", data := .dict #[] }) scope.names, toks := s2.toks } := I3.pins_of fun p hp => by
    rw [List.mem_singleton.mp hp]
    exact ⟨hD1, hHD, hDC, hDfs, fun v z => by cases z⟩
  have st4 : tn 0 (pushCells ((s2.heap.push { cls := .type "list", dict := none, data := .seq ([] : List Value).toArray }).push { cls := .type "dict", data := .dict #[] }) scope.names) := T.keep 0 _ _ st2 fun b hb o e => pushCells_keeps _ _ b o (Heap.get?_push_of_some _ (Heap.get?_push_of_some _ e))
  have hYp : Y.prog = X.prog := by rw [← hY]; rfl
  have hYw : Y.w = X.w := by rw [← hY]; rfl
  have hYK : Y.K = X.K := by rw [← hY]; rfl
  have hYA : Y.A = X.A := by rw [← hY]; rfl
  have hYcm : Y.calm = true := by rw [← hY]; exact hc
  have loop : ∀ s3 : Shared, s3 = { s2 with heap := pushCells ((s2.heap.push { cls := .type "list", dict := none, data := .seq ([] : List Value).toArray }).push { cls := .type "dict", data := .dict #[] }) scope.names } →
      codeAny (model X.prog X.w) X.A (.compLoop (.ListComp elt [⟨tg, iter, ifs, 0⟩] scope pos) 0 (.ref it) (.ref dd) Y.env) (compPost (model X.prog X.w) X.A X.xe use Q (.ref dd) (dd + 1)) s3 := by
    rintro s3 rfl
    refine compLoop_any (fun n s' => ∃ (i : Nat) (G' : Wd) (σ' : L2.St) (H' : Hp) (vs : List V) (its : List Value), n = xs.length - i ∧ i ≤ xs.length ∧ L2.Inv Y [(dd, lstO its)] σ' H' s' ∧ tn i s'.heap ∧ (∀ b ∈ fp, H' b = none) ∧ Ext G2 G' ∧ SA X.K G' H' O ∧ EnvR X.K G' σ' ρ0 ∧
      Iss X.K G' ((zs.take i).filterMap id) vs ∧ Vals vs its ∧ its.length ≤ i) ?_ xs.length _ ⟨0, G2, σ0, H2, [], [], rfl, Nat.zero_le _, I4, st4, fun b hb => (f2 b hb).1, Ext.refl _, sa2, en0, .nil, .nil, Nat.le_refl _⟩
    rintro n s5 F ⟨i, G5, σ5, H5, vs, its, rfl, hil, I5, st5, fr5, e5, sa5, en5, is5, va5, hl5⟩
    by_cases hlt5 : i < xs.length
    · have hx : xs[i]? = some xs[i] := List.getElem?_eq_getElem hlt5
      have hzi : i < zs.length := by omega
      have hz : zs[i]? = some zs[i] := List.getElem?_eq_getElem hzi
      generalize xs[i] = x at hx
      generalize zs[i] = z at hz
      have it5 := T.item Y hYp hYw hYK hYcm i [(dd, lstO its)] s5 σ5 H5 F I5 (fpY fr5 (fun p hp => by rw [List.mem_singleton.mp hp])) st5 (Yi.go i H5 (e5.g.trans sa5.sub) hlt5)
      rw [hYA] at it5
      refine thn it5 fun r s6 ⟨u, hr, h6⟩ => ?_
      subst hr
      refine thn h6 fun _ s7 ⟨xv, H7, I7, r7, y7, st7, fr7⟩ => ?_
      obtain ⟨x', G7, hx', e7, sa7, ix⟩ := Yi.yld i xv H5 H7 G5 O e5 sa5 y7 hlt5
      have : x' = x := Option.some.inj (hx'.symm.trans hx)
      subst this
      have I7' := I7.pinned (fpY fr7 (fun p hp => by rw [List.mem_singleton.mp hp])) (T.obj _ _ st7)
      obtain ⟨ρ1, tg1, hl1, hs1, kp1⟩ := turn s2 H2 fp i x' z hx hz
      rw [hY] at tg1 kp1
      have xeF : ∀ {α : Type} {t : Sem α} {P : α → Shared → Prop} {q : Shared}, wpAny (model Y.prog Y.w) Y.A t P Y.xe q → wpAny (model X.prog X.w) X.A t P F q := fun h => by
        rw [hYp, hYw, hYA, hYxe] at h
        exact wpAny_mono h (fun _ _ q => q) fun _ _ q => q.elim
      refine thn (xeF (tg1 G7 _ s7 σ5 H7 xv u (fun σ' H' => EnvR X.K G7 σ' ρ1 ∧ H' = H7) I7' r7 (by
        rw [hYK]
        exact ⟨ix, sa7.sub, en5.ext e7, fun σ' q => ⟨q, rfl⟩⟩))) fun _ s8 ⟨σ8, H8, I8, en8, hH8⟩ => ?_
      subst hH8
      -- back to the invariant, with or without one more
      have again : ∀ {s9 : Shared} {H9 : Hp} {G9 : Wd} {its' : List Value} {vs' : List V}, L2.Inv Y ((dd, lstO its') :: pinsAt fp s7.heap) σ8 H9 s9 → Ext G7 G9 → SA X.K G9 H9 O → Iss X.K G9 ((zs.take (i + 1)).filterMap id) vs' → Vals vs' its' → its'.length ≤ i + 1 →
          ∃ m, m < xs.length - i ∧ ∃ (i : Nat) (G' : Wd) (σ' : L2.St) (H' : Hp) (vs : List V) (its : List Value), m = xs.length - i ∧ i ≤ xs.length ∧ L2.Inv Y [(dd, lstO its)] σ' H' s9 ∧ tn i s9.heap ∧ (∀ b ∈ fp, H' b = none) ∧ Ext G2 G' ∧ SA X.K G' H' O ∧ EnvR X.K G' σ' ρ0 ∧
            Iss X.K G' ((zs.take i).filterMap id) vs ∧ Vals vs its ∧ its.length ≤ i := fun {s9 H9 G9 its' vs'} I9 e9 sa9 is9 va9 hl9 => by
        refine ⟨xs.length - (i + 1), by omega, i + 1, G9, σ8, H9, vs', its', rfl, hlt5, I9.pins_of (fun p hp => I9.pin p (by rw [hYpn, List.nil_append]; rw [List.mem_singleton.mp hp]; exact List.mem_cons_self)), T.keep _ _ _ st7 fun b hb o e => (I9.pin (b, o) (by rw [hYpn, List.nil_append]; exact List.mem_cons_of_mem _ (mem_pinsAt hb e))).1, fun b hb => ?_, (e5.trans e7).trans e9, sa9, (en8.weak hl1.symm hs1).ext e9, is9, va9, hl9⟩
        obtain ⟨o, e, _⟩ := T.obj _ _ st7 b hb
        exact (I9.pin (b, o) (by rw [hYpn, List.nil_append]; exact List.mem_cons_of_mem _ (mem_pinsAt hb e))).2.1
      have more : ∀ {y : D} {s9 : Shared} {G9 : Wd} {H9 : Hp}, z = some y → L2.Inv Y ([(dd, lstO its)] ++ pinsAt fp s7.heap) σ8 H9 s9 → Ext G7 G9 → SA X.K G9 H9 O → EvP Y ρ1 O elt y → wpAny (model X.prog X.w) X.A (eval elt Y.env) (fun x s5 => wpAny (model X.prog X.w) X.A (call (.builtin "list.append") [.ref dd, x]) (fun _ s6 => ∃ m, m < xs.length - i ∧ ∃ (i : Nat) (G' : Wd) (σ' : L2.St) (H' : Hp) (vs : List V) (its : List Value), m = xs.length - i ∧ i ≤ xs.length ∧ L2.Inv Y [(dd, lstO its)] σ' H' s6 ∧ tn i s6.heap ∧ (∀ b ∈ fp, H' b = none) ∧ Ext G2 G' ∧ SA X.K G' H' O ∧ EnvR X.K G' σ' ρ0 ∧
            Iss X.K G' ((zs.take i).filterMap id) vs ∧ Vals vs its ∧ its.length ≤ i) F s5) F s9 := fun {y s9 G9 H9} hzy I9 e9 sa9 ev => by
        refine thn (xeF (ev G9 _ s9 σ8 H9 (fun v H' => ∃ G', Ext G9 G' ∧ SA X.K G' H' O ∧ Is X.K G' y v) I9 (by
          rw [hYK]
          exact ⟨sa9, en8.ext e9, fun v G' H' q1 q2 q3 => ⟨G', q1, q2, q3⟩⟩))) fun uy s10 ⟨vy, H10, I10, r10, G10, e10, sa10, iy⟩ => ?_
        have p10 := I10.pin (dd, lstO its) (by rw [hYpn, List.nil_append]; exact List.mem_append_left _ List.mem_cons_self)
        refine append_at (hsz := by show its.toArray.size ≤ sizeLine; rw [List.size_toArray]; omega) p10.1 fun h' hs' hD' => ?_
        have Ia : L2.Inv Y (pinsAt fp s7.heap) σ8 H10 s10 := I10.pins_of fun p hp => I10.pin p (by rw [hYpn, List.nil_append]; exact List.mem_append_right _ hp)
        have Ib : L2.Inv Y (pinsAt fp s7.heap) σ8 H10 { s10 with heap := h' } := Ia.turned (t' := s10.toks) (fun b o hb e => (hs'.2 b hb).trans e) p10.2.1 hDC (.inr (by rw [hYs]; exact Nat.le_refl _)) (fun x c e => (hYc x c e).1) (fun p hp => by
          rw [hYpn, List.nil_append] at hp
          obtain ⟨hb, _⟩ := of_pinsAt hp
          exact Nat.ne_of_lt (by rw [← hD]; exact hlt p.1 hb))
        have Ic : L2.Inv Y ((dd, lstO (its ++ [uy])) :: pinsAt fp s7.heap) σ8 H10 { s10 with heap := h' } := Ib.pins_of fun p hp => by
          rcases List.mem_cons.mp hp with q | q
          · rw [q]
            refine ⟨hD'.trans ?_, p10.2.1, hDC, hDfs, fun v z => by cases z⟩
            congr 1
            simp [lstO]
          · exact Ib.pin p (by rw [hYpn, List.nil_append]; exact q)
        refine again Ic (e9.trans e10) sa10 (vs' := vs ++ [vy]) ?_ (va5.append (.cons r10 .nil)) (by rw [List.length_append, List.length_singleton]; omega)
        rw [fm_take zs i z hz, hzy]
        exact (is5.ext ((e7.trans e9).trans e10)).append (.cons iy .nil)
      match ifs, kp1 with
      | [], kp1 =>
        obtain ⟨y, hzy, ev⟩ := kp1
        unfold compTests
        refine wpAny_bind (wpAny_tests_nil (wpAny_pure ?_))
        simp only [if_true]
        exact more hzy I8 (Ext.refl _) sa7 ev
      | [c], kp1 =>
        obtain ⟨k, tc, ht, hff⟩ := kp1
        unfold compTests
        refine wpAny_bind (wpAny_tests_one (thn (xeF (tc G7 _ s8 σ8 H8 (fun b H' => b = k ∧ ∃ G', Ext G7 G' ∧ SA X.K G' H' O) I8 (by
          rw [hYK]
          exact ⟨sa7, en8, fun G' H' q1 q2 => ⟨rfl, G', q1, q2⟩⟩))) fun b s9 ⟨H9, I9, hb, G9, e9, sa9⟩ => wpAny_pure ?_))
        subst hb
        cases b with
        | true =>
          obtain ⟨y, hzy, ev⟩ := ht rfl
          simp only [if_true]
          exact more hzy I9 e9 sa9 ev
        | false =>
          simp only [Bool.false_eq_true, if_false]
          refine again I9 e9 sa9 (vs' := vs) ?_ va5 (Nat.le_succ_of_le hl5)
          rw [fm_take zs i z hz, hff rfl]
          simpa using is5.ext (e7.trans e9)
      | _ :: _ :: _, kp1 => exact kp1.elim
    · have hie : i = xs.length := by omega
      subst hie
      have dn := T.done Y hYp hYw hYK hYcm xs.length [(dd, lstO its)] s5 σ5 H5 F I5 (fpY fr5 (fun p hp => by rw [List.mem_singleton.mp hp])) st5 (Yi.stop _ H5 (e5.g.trans sa5.sub) (Nat.le_refl _))
      rw [hYA] at dn
      refine thn dn fun r s6 ⟨hr, I6⟩ => ?_
      subst hr
      have p6 := I6.pin (dd, lstO its) (by rw [hYpn, List.nil_append]; exact List.mem_cons_self)
      rw [← hzl, List.take_length] at is5
      have vl : vs.length ≤ sizeLine := by rw [va5.length]; omega
      have Ix : L2.Inv X pins σ (upd H5 dd (.lst vs)) s6 := by
        have un := I6.base
        rw [hYfs, hYex, ← hY] at un
        have un : Un (frs X.stack) fp H2 H5 s2.heap s6.heap := un
        refine I2.call' (ch := fp) (I6.os.trans (by rw [← hY]; rfl)) (Un_more un hHD hsD) ?_ I6.bare fun b hb => ?_
        · have hk6 := I6.hok
          rw [hYp, hYw] at hk6
          exact HOk_more hk6 p6.2.1 ⟨vl, its, its.length, va5, p6.1⟩
        · obtain ⟨_, f1, _, f3, f4, f5⟩ := f2 b hb
          exact ⟨f3, f1, f4, f5⟩
      refine fin dd (dd + 1) s6 _ _ vs Ix (e2.trans e5) sa5 p6.2.1 is5 ?_ ?_
      · have hC : dd + 1 = Y.env.locals := by rw [← hY]; show dd + 1 = s2.heap.objs.size + 1; rw [hD]
        have ge : s2.heap.objs.size ≤ dd + 1 := by rw [hD]; exact Nat.le_succ _
        have := I2.fpOk (H' := upd H5 dd (.lst vs)) ge (by
          have q := I6.free
          rw [← hC] at q
          rw [upd_ne (show dd + 1 ≠ dd from Nat.succ_ne_self _)]
          exact q)
        exact this
      · obtain ⟨m, hn, _⟩ := I6.loc
        rw [← hY] at hn
        have hn : s6.heap.Ns (s2.heap.objs.size + 1) m := hn
        rw [hD] at hn
        exact ⟨m, hn⟩
  have eY : Y.env = { scope := relabel scope X.env, locals := dd + 1, globals := X.env.globals, cells := cellsFrom (dd + 1 + 1) scope.names (closOf X.env scope.names []), qual := X.env.qual, func := none, code := X.env.code, frame := X.env.frame, builtins := X.env.builtins } := by
    rw [← hY]
    show compEnvC _ _ _ _ = _
    rw [hD]
    rfl
  rw [← eY]
  exact codeAny_compStart_list (loop _ rfl) (T.self X.A 0 _ _ _ st4 (loop _ rfl))
theorem x_setCP {x : Str} {p spos : Pos} {P : Post} (k : Nat) (T F : List Str) (js : List Nat) (hi : EvI X ρ O tg iter xs) (hzl : zs.length = xs.length) (hsz : xs.length ≤ sizeLine) (turn : ∀ (i : Nat) (x : D) (z : Option D), xs[i]? = some x → zs[i]? = some z → CTurn X T F js ρ O scope tg elt ifs x z)
    (h : P.nx (ρ.set k (some (.ptr O.length))) (O ++ [some (.lst (zs.filterMap id))])) (hN : X.N.Nodup) (hx : X.N[k]? = some x) (hlc : Loc X.env.scope x) (hf : X.fn x = true ∨ X.env.scope.names.lookup x = some .local)
    (hfl : F.length = js.length) (hB : freeB X.N X.env.scope.names scope.names F js = true) (hc : X.calm = true) (hk : scope.kind = .function) (hs : ∀ x, foldedSetIterable iter X.env x = pure x)
    (hsw : swapsWith (.ListComp elt [⟨tg, iter, ifs, 0⟩] scope pos) (some (.Name x p)) spos.line X.env = pure true) : Ex X ρ O (.Assign [.Name x p] (.ListComp elt [⟨tg, iter, ifs, 0⟩] scope pos) spos) P := fun G pins s σ H E I ⟨h1, h2, h3⟩ => by
  rw [PySem.exec_Assign_Name_used _ _ _ _ hsw]
  refine wpAny_bind (wpAny_standAt (wpAny_bind ?_))
  show wpAny _ _ (do let _ ← comprehension (.ListComp elt [⟨tg, iter, ifs, 0⟩] scope pos) scope X.env _ (newList []) false (eval iter X.env) (some (assign (.Name x p) X.env))) _ _ s
  refine wpAny_bind (thn (comp_coreG (use := some (assign (.Name x p) X.env)) (Q := fun _ s' => SP X pins E .next s') (T ++ F) js (T.map (fun _ => (none : Option D)) ++ frOf ρ js) hi hc hk (freeB_free hB) (freeB_loc hB) (by simp [frOf, hfl]) (freeB_at hB) hzl hsz (fun s H fp i x z q1 q2 => ?_) I h1 h2 (fun dd C s' H5 G5 vs I' e' sa5 hd5 is5 fo ns => ?_) hs) fun _ s' hq => wpAny_pure (wpAny_pure hq))
  · obtain ⟨ts, t1, t2, t3⟩ := turn i x z q1 q2 s H fp
    obtain ⟨u1, u2⟩ := sub_fr (fr := frOf ρ js) t1
    exact ⟨_, t2, u1, u2, t3⟩
  · obtain ⟨m, hn⟩ := ns
    obtain ⟨f0, f1, f2, f3, f4, f5⟩ := fo
    refine wpAny_assign_Name (store_ok2 I' hN hx hlc (v := .ref dd) rfl (fun s2 I2 ⟨a, sb, ha⟩ => ?_) hf)
    have hCa : C ≠ a := by
      rcases ha with q | q
      · rw [q]; exact f1
      · exact Ne.symm (f4 _ _ q)
    refine ⟨m, hn.sameBut sb hCa, fun h' hs' => ?_⟩
    have eG : Ext G5 ⟨G5.g, G5.l ++ [dd]⟩ := ⟨Same.refl _, [dd], rfl⟩
    obtain ⟨e2, s2'⟩ := sa5.new (o := .lst vs) (m := .lst (zs.filterMap id)) hd5 ⟨vs, upd_same, is5.ext eG⟩
    have ip : Is X.K ⟨G5.g, G5.l ++ [dd]⟩ (.ptr O.length) (.ref dd) := .ptr _ (by rw [← sa5.len, List.getElem?_append_right (Nat.le_refl _), Nat.sub_self]; rfl)
    exact ⟨_, _, I2.turned (t' := s2.toks) (fun b o hb e => (hs'.2 b hb).trans e) f0 f1 f3 f4 f5, h3.nx _ _ _ _ _ (e'.trans e2) s2' ((h2.ext (e'.trans e2)).set k ip) h⟩
end
section
variable {X : Cx} {ρ : Rho} {O : Sto} {P : Post} {pos : Pos}
variable {α : Type} {ps : List α} {f g : α → D} {h : α → Option D} {tg iter elt : Expr} {ifs : List Expr} {scope : Scope}
theorem x_setFP {x : Str} {p spos : Pos} (k : Nat) (h : α → Option D) (T F : List Str) (js : List Nat) (hi : EvI X ρ O tg iter (ps.map f)) (hsz : ps.length ≤ sizeLine) (turn : ∀ q, q ∈ ps → CTurn X T F js ρ O scope tg elt ifs (f q) (h q))
    (hP : P.nx (ρ.set k (some (.ptr O.length))) (O ++ [some (.lst (ps.filterMap h))])) (hN : X.N.Nodup) (hx : X.N[k]? = some x := by rfl) (hlc : Loc X.env.scope x := by first | exact Or.inl rfl | exact Or.inr rfl) (hf : X.fn x = true ∨ X.env.scope.names.lookup x = some .local := by first | exact .inl rfl | exact .inr rfl | assumption)
    (hfl : F.length = js.length := by rfl) (hB : freeB X.N X.env.scope.names scope.names F js = true := by rfl) (hc : X.calm = true := by rfl) (hk : scope.kind = .function := by rfl) (hs : ∀ x, foldedSetIterable iter X.env x = pure x := by intro _; rfl)
    (hsw : swapsWith (.ListComp elt [⟨tg, iter, ifs, 0⟩] scope pos) (some (.Name x p)) spos.line X.env = pure true := by rfl) : Ex X ρ O (.Assign [.Name x p] (.ListComp elt [⟨tg, iter, ifs, 0⟩] scope pos) spos) P := by
  rw [← fm_map] at hP
  refine x_setCP k T F js hi (by rw [List.length_map, List.length_map]) (by rw [List.length_map]; exact hsz) (fun i x z h1 h2 => ?_) hP hN hx hlc hf hfl hB hc hk hs hsw
  rw [List.getElem?_map] at h1 h2
  cases e : ps[i]? with
  | none => rw [e] at h1; cases h1
  | some q => rw [e] at h1 h2; cases h1; cases h2; exact turn q (List.mem_of_getElem? e)
theorem x_setMP {x : Str} {p spos : Pos} (k : Nat) (g : α → D) (T F : List Str) (js : List Nat) (hi : EvI X ρ O tg iter (ps.map f)) (hsz : ps.length ≤ sizeLine) (turn : ∀ q, q ∈ ps → CTurn X T F js ρ O scope tg elt ifs (f q) (some (g q)))
    (hP : P.nx (ρ.set k (some (.ptr O.length))) (O ++ [some (.lst (ps.map g))])) (hN : X.N.Nodup) (hx : X.N[k]? = some x := by rfl) (hlc : Loc X.env.scope x := by first | exact Or.inl rfl | exact Or.inr rfl) (hf : X.fn x = true ∨ X.env.scope.names.lookup x = some .local := by first | exact .inl rfl | exact .inr rfl | assumption)
    (hfl : F.length = js.length := by rfl) (hB : freeB X.N X.env.scope.names scope.names F js = true := by rfl) (hc : X.calm = true := by rfl) (hk : scope.kind = .function := by rfl) (hs : ∀ x, foldedSetIterable iter X.env x = pure x := by intro _; rfl)
    (hsw : swapsWith (.ListComp elt [⟨tg, iter, ifs, 0⟩] scope pos) (some (.Name x p)) spos.line X.env = pure true := by rfl) : Ex X ρ O (.Assign [.Name x p] (.ListComp elt [⟨tg, iter, ifs, 0⟩] scope pos) spos) P := by
  rw [← fm_some, fm_map] at hP
  exact x_setFP k (fun q => some (g q)) T F js hi hsz turn hP hN hx hlc hf hfl hB hc hk hs hsw
end
end DL
set_option Elab.async false
set_option linter.all false
set_option maxRecDepth 100000
set_option maxHeartbeats 1000000
namespace DL
open PySem PySem.Spec PyProof.Rows L2
section
variable {P : Program} {w : World} {K : PySem.W.Frag} {mg : Str → Option Value} {base : Heap}
end
end DL
namespace DL
open PySem PySem.Spec PyProof.Rows L2
section
variable {prog : Program} {w : World} {A : Around} {E : Value → Shared → Prop} {s : Shared}
end
section
variable {X : Cx} {O : Sto}
end
end DL
namespace DL
open PySem PySem.Spec PyProof.Rows L2
section
variable {X : Cx} {mk : Prop} {ρ : Rho} {O : Sto} {value o : Expr} {RX : XC} {pos pos' : Pos} {f : Str} {P : Post} {C : Addr} {q : Nat} {fs : List (Str × D)}
end
end DL
set_option Elab.async false
set_option linter.all false
set_option maxRecDepth 100000
set_option maxHeartbeats 1000000
namespace DL
open PySem PySem.Spec PyProof.Rows L2 PySem.SeqAt PySem.MeetsSeq
section
variable {X : Cx} {ρ : Rho} {O : Sto} {a e : Expr} {d : D}
def rIdxI (K : PySem.W.Frag) : V → List V → Hp → VK → Prop := fun x vs H Q => ∃ (p : Addr) (ns : List Int) (k : Int), x = .ref p ∧ vs = [.int k] ∧ SqL K H p (ns.map V.int) ∧ k ∈ ns ∧ Q (.int ((ns.idxOf k : Nat) : Int)) H
def rIdxB (K : PySem.W.Frag) : V → List V → Hp → VK → Prop := fun x vs H Q => ∃ (p : Addr) (bs : List Bool) (k : Bool), x = .ref p ∧ vs = [.bl k] ∧ SqL K H p (bs.map V.bl) ∧ k ∈ bs ∧ Q (.int ((bs.idxOf k : Nat) : Int)) H
end
end DL
set_option Elab.async false
set_option linter.all false
set_option maxRecDepth 100000
set_option maxHeartbeats 1000000
namespace DL
open PySem PySem.Spec PyProof.Rows L2 PySem.W
section
variable {prog : Program} {w : World} {A : Around} {s : Shared} {E : Value → Shared → Prop} {it : Addr} {Ty : String}
end
section
variable {prog : Program} {w : World} {A : Around} {s : Shared} {E : Value → Shared → Prop} {it l : Addr} {i : Int}
end
def Itw (K : PySem.W.Frag) (l m : Nat) : It :=
  ⟨fun i H => ∃ xs x, SqL K H l xs ∧ xs.length = m ∧ xs.reverse[i]? = some x, fun i H x H' => H' = H ∧ ∀ xs, SqL K H l xs → xs.reverse[i]? = some x, fun i H => ∃ xs, SqL K H l xs ∧ xs.length = m ∧ m ≤ i⟩
section
variable {X : Cx} {ρ : Rho} {O : Sto} {a : Expr} {pos p pos2 p2 : Pos} {xs : List D}
end
end DL
set_option Elab.async false
set_option linter.all false
set_option maxRecDepth 100000
set_option maxHeartbeats 1000000
namespace L2
open PySem PySem.Spec PyProof.Rows
def ItrV (lo : Int) (n : Nat) : It := ⟨fun i _ => i < n, fun i H x H' => H' = H ∧ x = .int (lo + (i : Nat) * 7), fun i _ => n ≤ i⟩
def sevUp (d : Int) : Int := if 0 < d then (d - 1) / 7 + 1 else 0
section
variable {X : Cx} {tg a b c : Expr} {p pos : Pos}
end
end L2
namespace DL
open PySem PySem.Spec PyProof.Rows L2
section
variable {X : Cx} {ρ : Rho} {O : Sto} {a b c : Expr} {p pos : Pos} {P : Post} {st : Stmt} {rest : List Stmt}
def rangeV (lo : Int) (n : Nat) : List D := (List.range n).map fun i => .int (lo + (i : Nat) * 7)
end
section
variable {X : Cx} {ρ : Rho} {O : Sto} {a b e : Expr} {pos : Pos} {P : Post} {d da db ea eb : D} {k : Nat} {xs : List D}
end
end DL
set_option Elab.async false
set_option linter.all false
set_option maxRecDepth 100000
set_option maxHeartbeats 1000000
namespace DL
open PySem PySem.Spec PyProof.Rows L2
def Its (x : Str) : It := ⟨fun i _ => i < x.cps.size, fun i H v H' => H' = H ∧ ∃ c, x.cps[i]? = some c ∧ v = .str ⟨#[c]⟩, fun i _ => x.cps.size ≤ i⟩
theorem turn_signs {P : Program} {w : World} {K : PySem.W.Frag} {tg : Expr} (it : Addr) (x : Str) (t : Tok) (ty : String) (hty : ty = "str_ascii_iterator" ∨ ty = "str_iterator") : Turn P w K tg (Its x) [it] it (fun i h => h.IsStrIter it ty x t i) where
  mem := by simp
  obj := fun i h st b hb => by
    have e : b = it := by simpa using hb
    subst e
    obtain ⟨o, e, c, d⟩ := st
    exact ⟨o, e, fun v z => by rw [d] at z; cases z⟩
  keep := fun i h h' st k => let ⟨o, ho, r⟩ := st; ⟨o, k it (by simp) o ho, r⟩
  item := by
    intro X hP hw hK hc i pins s σ H E I hf st hg
    subst hP hw hK
    have hg : i < x.cps.size := hg
    have hx : x.cps[i]? = some x.cps[i] := by simp [hg]
    have fin : ∀ (h' : Heap) (tk : Nat) (u : Tok), h'.IsStrIter it ty x t (i + 1) → Heap.SameBut it s.heap h' → ∃ v, some (Value.str ⟨#[x.cps[i]]⟩ u) = some v ∧
        wpAny (model X.prog X.w) X.A (letOwnedTupleGo tg (.ref it) v) (fun _ s2 => ∃ y H', Inv X pins σ H' s2 ∧ RelV y v ∧ (Its x).yld i H y H' ∧ s2.heap.IsStrIter it ty x t (i + 1) ∧ ∀ b ∈ [it], H' b = none) E { s with heap := h', toks := tk } := fun h' tk u st' sb => by
      have I1 : Inv X pins σ H { s with heap := h', toks := tk } := Inv_tur5 I hf fun c o hc e => (sb.2 c (fun z => hc (by simp [z]))).trans e
      obtain ⟨o, e1, c1, d1⟩ := id st'
      exact ⟨_, rfl, go_of (s := { s with heap := h', toks := tk }) e1 c1 d1 (by rcases hty with rfl | rfl <;> decide) ⟨.str ⟨#[x.cps[i]]⟩, H, I1, ⟨_, rfl⟩, ⟨rfl, _, hx, rfl⟩, st', fun b hb => (hf b hb).1⟩⟩
    rcases hty with rfl | rfl
    · exact wpAny_pyNext_ascii_item st hx fun h' st' sb => fin h' _ _ st' sb
    · exact wpAny_pyNext_wide_item st hx fun h' st' sb => fin h' _ _ st' sb
  done := by
    intro X hP hw hK hc i pins s σ H E I hf st hg
    subst hP hw hK
    have hg : x.cps.size ≤ i := hg
    have hx : x.cps[i]? = none := by simp; omega
    rcases hty with rfl | rfl
    · exact wpAny_pyNext_ascii_end (I.ok.hd hc) st hx fun h' eb => ⟨rfl, Inv_tur5 (t' := s.toks) I hf fun c o hc e => eb c o (fun z => hc (by simp [z])) e⟩
    · exact wpAny_pyNext_wide_end (I.ok.hd hc) st hx fun h' eb => ⟨rfl, Inv_tur5 (t' := s.toks) I hf fun c o hc e => eb c o (fun z => hc (by simp [z])) e⟩
  self := fun _ _ _ _ _ st h => by
    rcases hty with rfl | rfl
    · exact wpAny_pyIter_striter_ascii st h
    · exact wpAny_pyIter_striter_wide st h
section
variable {X : Cx} {ρ : Rho} {O : Sto} {a b e : Expr} {pos p : Pos} {d : D} {x y : Str}
def sgD (c : Nat) : D := .str ⟨#[c]⟩
theorem its_yields {K : PySem.W.Frag} {G : Wd} : Yields K G (Its x) (x.cps.toList.map sgD) where
  go := fun i H _ hi => show i < x.cps.size by simpa using hi
  stop := fun i H _ hi => show x.cps.size ≤ i by simpa using hi
  yld := fun i v H H' G2 O2 e s y hi => by
    obtain ⟨rfl, c, hc, rfl⟩ := y
    exact ⟨sgD c, G2, by rw [List.getElem?_map]; simp [hc], Ext.refl _, s, .str _⟩
theorem ei_str {tg : Expr} (h : EvP X ρ O e (.str x)) : EvI X ρ O tg e (x.cps.toList.map sgD) := fun G pins s σ H R I ⟨h1, h2, h3⟩ =>
  thn (h G pins s σ H (fun v H' => ∃ G', Ext G G' ∧ SA X.K G' H' O ∧ Is X.K G' (.str x) v) I ⟨h1, h2, fun v G' H' e s i => ⟨G', e, s, i⟩⟩) fun u s1 ⟨v, H1, I1, r, G1, e1, sa1, i1⟩ => by
    cases i1
    obtain ⟨t, rfl⟩ := (show ∃ t, u = Value.str x t from r)
    have fin : ∀ (ty : String), (ty = "str_ascii_iterator" ∨ ty = "str_iterator") → PIE X pins σ tg R (.ref s1.heap.objs.size) { s1 with heap := s1.heap.push { cls := .type ty, data := .fields #[.str x t, .int ((0 : Nat) : Int) 0] } } := fun ty hty =>
      ⟨s1.heap.objs.size, [s1.heap.objs.size], _, _, H1, rfl, I1.kept (t' := s1.toks) fun _ _ e => Heap.get?_push_of_some _ e, turn_signs _ x t ty hty, ⟨_, Heap.get?_push_size _ rfl, rfl, rfl⟩, fun b hb => by
        have hb' : s1.heap.objs.size ≤ b := by cases List.mem_singleton.mp hb; exact Nat.le_refl _
        exact I1.fpOk hb' (I1.hok.fresh hb'), h3 _ G1 H1 e1 sa1 its_yields⟩
    cases ha : x.cps.all (· < 128)
    · exact wpAny_pyIter_wide ha (fin _ (.inr rfl))
    · exact wpAny_pyIter_ascii ha (fin _ (.inl rfl))
theorem o_addS (hz : x.length + y.length ≤ sizeLine) : Op2 X O (binaryOp .Add) (.str x) (.str y) (.str (x ++ y)) := .of op_add_str fun G v u H Q s h1 h2 k => by
  cases h1; cases h2; exact ⟨x, y, rfl, rfl, hz, k _ G H (Ext.refl _) s (.str _)⟩
theorem cmp_eqS : Op2 X O (compareOp .Eq) (.str x) (.str y) (.bl (x == y)) := .of op_eq fun G v u H Q s h1 h2 k => by
  cases h1; cases h2; exact ⟨rfl, by rw [dec_str]; exact k _ G H (Ext.refl _) s (.bl _)⟩
theorem cmp_neS : Op2 X O (compareOp .NotEq) (.str x) (.str y) (.bl (!(x == y))) := .of op_ne fun G v u H Q s h1 h2 k => by
  cases h1; cases h2; exact ⟨rfl, by rw [dec_str]; exact k _ G H (Ext.refl _) s (.bl _)⟩
theorem cmp_inS {c : Nat} : Op2 X O (compareOp .In) (sgD c) (.str y) (.bl (decide (c ∈ y.cps.toList))) := .of op_in_str fun G v u H Q s h1 h2 k => by
  cases h1; cases h2
  refine ⟨_, y, rfl, rfl, ?_⟩
  rw [StrLaws.found_one]
  exact k _ G H (Ext.refl _) s (.bl _)
theorem c_lenS (hz : x.length ≤ sizeLine) : CallD X O (.builtin "len") [.str x] (.int x.length) := .of call_len_str fun G vs H Q s is k => by
  cases is with | cons i r => cases r; cases i; exact ⟨x, rfl, hz, k _ G H (Ext.refl _) s (.int _)⟩
theorem c_strI {i : Int} (h : -(2 ^ 62) < i ∧ i < 2 ^ 62) : CallD X O (.type "str") [.int i] (.str (Str.ofString (toString i))) := fun G pins s σ H xs us Q I r ⟨h1, h2, h3⟩ => by
  cases h2 with
  | cons i2 r2 =>
    cases r2
    cases i2
    obtain ⟨u, rfl, t, rfl⟩ := vals1 r
    refine PySem.P.str_of_int ?_ ⟨.str _, H, I.tok _, ⟨_, rfl⟩, h3 _ G H (Ext.refl _) h1 (.str _)⟩
    have : i.natAbs < 2 ^ 62 := by omega
    by_cases h0 : i.natAbs = 0
    · rw [h0]; decide
    · exact (Nat.log2_lt h0).mpr (Nat.lt_of_lt_of_le (show i.natAbs < 2 ^ 62 by omega) (Nat.pow_le_pow_right (by decide) (by decide)))
theorem c_intS {n : Int} (h : PySem.intText? x = some n) (hl : x.length ≤ 640) : CallD X O (.type "int") [.str x] (.int n) := fun G pins s σ H xs us Q I r ⟨h1, h2, h3⟩ => by
  cases h2 with
  | cons i2 r2 =>
    cases r2
    cases i2
    obtain ⟨u, rfl, t, rfl⟩ := vals1 r
    exact PySem.W.KIN.call_text h hl ⟨.int _, H, I.tok _, ⟨_, rfl⟩, h3 _ G H (Ext.refl _) h1 (.int _)⟩
theorem ev_ixS {i c : Nat} (ha : EvP X ρ O a (.str x)) (hb : EvP X ρ O b (.int (i : Nat))) (hi : x.cps[i]? = some c) (hz : x.length ≤ sizeLine) (hs : PlainIxT b := by intro _ _; rfl) : EvP X ρ O (.Subscript a b pos) (sgD c) := fun G =>
  PE.imp (pe_item_str (ha G) (tb := fun σ H Q => ∃ G1, SA X.K G1 H O ∧ EnvR X.K G1 σ ρ ∧ ∀ v G' H', Ext G1 G' → SA X.K G' H' O → Is X.K G' (.int (i : Nat)) v → Q v H') (fun pins s σ H Q I ⟨G1, q⟩ => hb G1 pins s σ H Q I q) hs) fun σ H Q ⟨q1, q2, q3⟩ => ⟨q1, q2, fun v G1 H1 e1 s1 i1 => ⟨G1, s1, q2.ext e1, fun w G2 H2 e2 s2 i2 => by
    cases i1; cases i2
    have hl : i < x.length := (Array.getElem?_eq_some_iff.mp hi).1
    have hn := sizeLine_eq
    exact ⟨x, _, c, rfl, rfl, by omega, by omega, by omega, hi, q3 _ G2 H2 (e1.trans e2) s2 (.str _)⟩⟩⟩
end
end DL
set_option Elab.async false
set_option linter.all false
set_option maxRecDepth 100000
set_option maxHeartbeats 1000000
namespace DL
open PySem PySem.Spec PyProof.Rows L2
theorem strs_are : ∀ {ys : List Str} {us : List Value}, Vals (ys.map V.str) us → ∃ l : List (Str × Tok), us = strValues l ∧ l.map (·.1) = ys
  | [], _, .nil => ⟨[], rfl, rfl⟩
  | y :: ys, _, .cons r t => by
    obtain ⟨k, rfl⟩ := r
    obtain ⟨l, rfl, e⟩ := strs_are t
    exact ⟨(y, k) :: l, rfl, by rw [List.map_cons, e]⟩
theorem vals_strs : ∀ l : List (Str × Tok), Vals ((l.map (·.1)).map V.str) (strValues l)
  | [] => .nil
  | (y, k) :: l => .cons ⟨k, rfl⟩ (vals_strs l)
theorem Iss.strs {K : PySem.W.Frag} {G : Wd} : ∀ {ys : List Str}, Iss K G (ys.map D.str) (ys.map V.str)
  | [] => .nil
  | y :: ys => .cons (.str y) Iss.strs
theorem Iss.toStrs {K : PySem.W.Frag} {G : Wd} : ∀ {ys : List Str} {vs : List V}, Iss K G (ys.map D.str) vs → vs = ys.map V.str
  | [], _, .nil => rfl
  | y :: ys, _, .cons h r => by cases h; rw [Iss.toStrs r]; rfl
section
variable {X : Cx} {ρ : Rho} {O : Sto} {a b e : Expr} {pos p : Pos} {d : D} {x y sep : Str}
def rJoin (K : PySem.W.Frag) : V → List V → Hp → VK → Prop := fun x vs H Q => ∃ (sep : Str) (ys : List Str) (p : Addr), x = .str sep ∧ vs = [.ref p] ∧ SqL K H p (ys.map V.str) ∧ JoinOk sep ys = true ∧ Q (.str (Str.join sep ys)) H
theorem mt_join : MtR X "str.join" (rJoin X.K) := by
  intro pins s σ H x vs v us Q I rx rv h
  obtain ⟨sep, ys, p, rfl, rfl, hq, hok, q⟩ := h
  obtain ⟨t, rfl⟩ := rx
  obtain ⟨u, rfl, ru⟩ := rv.one
  cases ru
  obtain ⟨its, r, pl, hz⟩ := I.list hq
  obtain ⟨l, rfl, rfl⟩ := strs_are r
  have hok' : Builtin.Str.tooLong ((l.map (·.1)).toArray.foldl (· + ·.length + sep.length) 0) = false := by unfold JoinOk at hok; rw [Bool.not_eq_true'] at hok; exact hok
  refine call_meets PySem.F.slot_str_join (typeIs_str _ _ _) PySem.F.entry_str_join (PySem.F.args_str_join_2 _ _) (meets_str_join_list sep t p l hok') ⟨pl.isList, post_join l ⟨joinFit_length hok', fun t' k => ?_⟩⟩
  refine ⟨.str _, H, I.tok _, ⟨_, rfl⟩, ?_⟩
  rw [show Txt.join sep (l.map (·.1)) = Str.join sep (l.map (·.1)) from StrLaws.glued_eq_join sep _]
  exact q
theorem ev_join {ys : List Str} {apos cpos : Pos} (ho : EvP X ρ O a (.str sep)) (he : EvP X ρ O e d) (hl : LV O d (ys.map D.str)) (hok : JoinOk sep ys = true)
    (hbase : attributeBase a ("join" : Str) X.env (eval a X.env) = eval a X.env := by rfl) (hline : (apos.endLine == cpos.line) = true := by rfl) (hst : starEach [e] X.env = [(false, eval e X.env)] := by rfl) :
    EvP X ρ O (.Call (.Attribute a ("join" : Str) apos) [e] [] cpos) (.str (Str.join sep ys)) := fun G =>
  PE.imp (pe_bm PySem.F.plainAttrs_str PySem.F.slot_str_join PySem.F.type_str_join mt_join (ho G)
    (pa_cons (te := fun σ H Q => ∃ G1, SA X.K G1 H O ∧ EnvR X.K G1 σ ρ ∧ ∀ v G' H', Ext G1 G' → SA X.K G' H' O → Is X.K G' d v → Q v H') (fun pins s σ H Q I ⟨G1, q⟩ => he G1 pins s σ H Q I q) pa_nil hst) hbase
    (by rw [hst]; rfl) hline hst (by rfl)) fun σ H Q ⟨q1, q2, q3⟩ => ⟨q1, q2, fun v G1 H1 e1 s1 i1 => by
      cases i1
      refine ⟨rfl, G1, s1, q2.ext e1, fun w G2 H2 e2 s2 i2 => ?_⟩
      obtain ⟨p, vs, rfl, g1, g2⟩ := hl.sq s2 i2
      have := g2.toStrs
      subst this
      exact ⟨sep, ys, p, rfl, rfl, g1, hok, q3 _ G2 H2 (e1.trans e2) s2 (.str _)⟩⟩
def rSplit : V → List V → Hp → VK → Prop := fun x vs H Q => ∃ t y : Str, x = .str t ∧ vs = [.str y] ∧ (y.length == 0) = false ∧ t.length ≤ 1000000 ∧ ∀ l, H l = none → Q (.ref l) (upd H l (.lst ((Txt.split t y).map V.str)))
theorem mt_split : MtR X "str.split" rSplit := by
  intro pins s σ H x vs v us Q I rx rv h
  obtain ⟨z, y, rfl, rfl, hy, hz, q⟩ := h
  obtain ⟨t, rfl⟩ := rx
  obtain ⟨u, rfl, ru⟩ := rv.one
  obtain ⟨tu, rfl⟩ := ru
  have hn := sizeLine_eq
  have hle := split_le z y
  have fin : ∀ (l : List (Str × Tok)) (tk : Nat), l.map (·.1) = Txt.split z y → EP X pins σ Q (.ref s.heap.objs.size) { s with heap := s.heap.push { cls := .type "list", data := .seq (strValues l).toArray }, toks := tk } := fun l tk e => by
    have hl : l.length = (Txt.split z y).length := by rw [← e, List.length_map]
    refine ⟨.ref s.heap.objs.size, upd H s.heap.objs.size (.lst ((Txt.split z y).map V.str)), I.laid (fun b o e => Heap.get?_push_of_some _ e) (Nat.le_refl _) ⟨by rw [List.length_map]; omega, strValues l, 0, by rw [← e]; exact vals_strs l, Heap.get?_push_size _ rfl⟩, rfl, q _ (I.hok.fresh (Nat.le_refl _))⟩
  cases h1 : (decide (z.length < y.length) || decide (Builtin.Str.strKind z < Builtin.Str.strKind y))
  · cases hf : (Builtin.Str.occurrences z y 0 z.length (z.length + 1)).isEmpty
    · have es : Txt.split z y = Builtin.Str.partsBetween z (Builtin.Str.occurrences z y 0 z.length (z.length + 1)) y.length := by
        unfold Txt.split
        rw [if_neg (by rw [h1]; exact Bool.false_ne_true), if_neg (by rw [hf]; exact Bool.false_ne_true)]
      refine call_meets PySem.F.slot_str_split (typeIs_str _ _ _) PySem.F.entry_str_split (PySem.F.args_str_split_2 _ _) (meets_str_split_sep z y t tu h1 hy hf (by omega) (by rw [← es]; omega)) ?_
      show wants _ _ _ { s with toks := _, heap := s.heap.push { cls := .type "list", data := .seq (strsFrom s.toks _).toArray } }
      rw [strsFrom_eq]
      exact fin _ _ ((numbered_texts _ _).trans es.symm)
    · have es : Txt.split z y = [z] := by
        unfold Txt.split
        rw [if_neg (by rw [h1]; exact Bool.false_ne_true), if_pos hf]
      exact call_meets PySem.F.slot_str_split (typeIs_str _ _ _) PySem.F.entry_str_split (PySem.F.args_str_split_2 _ _) (meets_str_split_not_found z y t tu h1 hy hf) (fin [(z, t)] s.toks es.symm)
  · have es : Txt.split z y = [z] := by
      unfold Txt.split
      rw [if_pos h1]
    exact call_meets PySem.F.slot_str_split (typeIs_str _ _ _) PySem.F.entry_str_split (PySem.F.args_str_split_2 _ _) (meets_str_split_cannot_occur z y t tu h1) (fin [(z, t)] s.toks es.symm)
theorem ev_split {apos cpos : Pos} (ho : EvP X ρ O a (.str x)) (he : EvP X ρ O e (.str y)) (hy : (y.length == 0) = false) (hz : x.length ≤ 1000000)
    (hbase : attributeBase a ("split" : Str) X.env (eval a X.env) = eval a X.env := by rfl) (hline : (apos.endLine == cpos.line) = true := by rfl) (hst : starEach [e] X.env = [(false, eval e X.env)] := by rfl) :
    EvP X ρ O (.Call (.Attribute a ("split" : Str) apos) [e] [] cpos) (.lst ((Txt.split x y).map D.str)) := fun G =>
  PE.imp (pe_bm PySem.F.plainAttrs_str PySem.F.slot_str_split PySem.F.type_str_split mt_split (ho G)
    (pa_cons (te := fun σ H Q => ∃ G1, SA X.K G1 H O ∧ EnvR X.K G1 σ ρ ∧ ∀ v G' H', Ext G1 G' → SA X.K G' H' O → Is X.K G' (.str y) v → Q v H') (fun pins s σ H Q I ⟨G1, q⟩ => he G1 pins s σ H Q I q) pa_nil hst) hbase
    (by rw [hst]; rfl) hline hst (by rfl)) fun σ H Q ⟨q1, q2, q3⟩ => ⟨q1, q2, fun v G1 H1 e1 s1 i1 => by
      cases i1
      refine ⟨rfl, G1, s1, q2.ext e1, fun w G2 H2 e2 s2 i2 => ?_⟩
      cases i2
      refine ⟨x, y, rfl, rfl, hy, hz, fun l hl => ?_⟩
      obtain ⟨e3, s3⟩ := s2.laid (o := .lst ((Txt.split x y).map V.str)) hl
      exact q3 _ _ _ (e1.trans (e2.trans e3)) s3 (.lst upd_same Iss.strs)⟩
end
theorem join_toList (c : Nat) : ∀ (w : Str) (ws : List Str), (Str.join ⟨#[c]⟩ (w :: ws)).cps.toList = w.cps.toList ++ (ws.map fun v => c :: v.cps.toList).flatten
  | w, [] => by show w.cps.toList = w.cps.toList ++ []; rw [List.append_nil]
  | w, v :: ws => by
    show (w ++ ⟨#[c]⟩ ++ Str.join ⟨#[c]⟩ (v :: ws)).cps.toList = _
    rw [Str.cps_append, Str.cps_append, Array.toList_append, Array.toList_append, join_toList c v ws, List.map_cons, List.flatten_cons]
    simp
theorem cut_unique {c : Nat} : ∀ {a b : List Nat} {x y : List (List Nat)}, c ∉ a → c ∉ b → (∀ v ∈ x, c ∉ v) → (∀ v ∈ y, c ∉ v) → a ++ (x.map fun v => c :: v).flatten = b ++ (y.map fun v => c :: v).flatten → a = b ∧ x = y
  | [], [], [], [], _, _, _, _, _ => ⟨rfl, rfl⟩
  | [], [], [], v :: y, _, _, _, _, h => by simp at h
  | [], [], v :: x, [], _, _, _, _, h => by simp at h
  | [], [], v :: x, u :: y, _, _, hx, hy, h => by
    have h : v ++ (x.map fun v => c :: v).flatten = u ++ (y.map fun v => c :: v).flatten := by simpa using h
    obtain ⟨e1, e2⟩ := cut_unique (hx v List.mem_cons_self) (hy u List.mem_cons_self) (fun z hz => hx z (List.mem_cons_of_mem _ hz)) (fun z hz => hy z (List.mem_cons_of_mem _ hz)) h
    exact ⟨rfl, by rw [e1, e2]⟩
  | [], q :: b, [], y, _, _, _, _, h => by simp at h
  | [], q :: b, v :: x, y, _, hb, _, _, h => by
    simp at h
    exact absurd (h.1 ▸ List.mem_cons_self) hb
  | p :: a, [], x, [], _, _, _, _, h => by simp at h
  | p :: a, [], x, v :: y, ha, _, _, _, h => by
    simp at h
    exact absurd (h.1 ▸ List.mem_cons_self) ha
  | p :: a, q :: b, x, y, ha, hb, hx, hy, h => by
    have h1 : p = q ∧ a ++ (x.map fun v => c :: v).flatten = b ++ (y.map fun v => c :: v).flatten := by simpa using h
    obtain ⟨e1, e2⟩ := cut_unique (fun z => ha (List.mem_cons_of_mem _ z)) (fun z => hb (List.mem_cons_of_mem _ z)) hx hy h1.2
    exact ⟨by rw [h1.1, e1], e2⟩
theorem split_join (c : Nat) (w : Str) (ws : List Str) (h : ∀ v ∈ w :: ws, c ∉ v.cps.toList) : Txt.split (Str.join ⟨#[c]⟩ (w :: ws)) ⟨#[c]⟩ = w :: ws := by
  have e := StrLaws.join_split (Str.join ⟨#[c]⟩ (w :: ws)) ⟨#[c]⟩
  have f := StrLaws.split_free (Str.join ⟨#[c]⟩ (w :: ws)) c
  have p := split_pos (Str.join ⟨#[c]⟩ (w :: ws)) ⟨#[c]⟩
  generalize Txt.split (Str.join ⟨#[c]⟩ (w :: ws)) ⟨#[c]⟩ = vs at e f p
  cases vs with
  | nil => simp at p
  | cons v vs =>
    have e2 := congrArg (fun s : Str => s.cps.toList) e
    rw [join_toList, join_toList] at e2
    have m : ∀ l : List Str, (l.map fun v => c :: v.cps.toList) = (l.map fun v => v.cps.toList).map fun v => c :: v := fun l => by rw [List.map_map]; rfl
    rw [m, m] at e2
    obtain ⟨e3, e4⟩ := cut_unique (f v List.mem_cons_self) (h w List.mem_cons_self) (fun z hz => by obtain ⟨u, hu, rfl⟩ := List.mem_map.mp hz; exact f u (List.mem_cons_of_mem _ hu)) (fun z hz => by obtain ⟨u, hu, rfl⟩ := List.mem_map.mp hz; exact h u (List.mem_cons_of_mem _ hu)) e2
    have inj : ∀ a b : Str, a.cps.toList = b.cps.toList → a = b := fun a b z => Str.ext' (Array.toList_inj.mp z)
    have inj2 : ∀ {a b : List Str}, (a.map fun v => v.cps.toList) = (b.map fun v => v.cps.toList) → a = b := fun {a} => by
      induction a with
      | nil => intro b z; cases b with
        | nil => rfl
        | cons _ _ => simp at z
      | cons u a ih => intro b z; cases b with
        | nil => simp at z
        | cons u' b =>
          simp only [List.map_cons, List.cons.injEq] at z
          rw [inj _ _ z.1, ih z.2]
    rw [inj _ _ e3, inj2 e4]
end DL
set_option Elab.async false
set_option linter.all false
set_option maxRecDepth 100000
set_option maxHeartbeats 1000000
namespace DL
open PySem PySem.Spec PyProof.Rows L2
section
variable {X : Cx} {ρ : Rho} {O : Sto} {pos : Pos} {x y : Str}
theorem ev_gstr {t : Tok} (hm : X.mg x = some (.str y t)) (hg : Gl X x := by rfl) (hd : (x == ("__debug__" : Str)) = false := by decide) : EvP X ρ O (.Name x pos) (.str y) := fun G =>
  PE.imp (pe_glob (v := .str y) hg hm ⟨t, rfl⟩ hd) fun σ H Q ⟨h1, h2, h3⟩ => h3 _ G H (Ext.refl _) h1 (.str y)
end
theorem joinOk_of {sep : Str} {ys : List Str} (h : (ys.map (·.length)).sum + ys.length * sep.length ≤ 1000000) : JoinOk sep ys = true := by
  unfold JoinOk
  rw [Bool.not_eq_true', StrLaws.joinTotal]
  show decide (_ > sizeLine) = false
  rw [sizeLine_eq]
  exact decide_eq_false (by omega)
theorem join_len (sep : Str) (ys : List Str) : (Str.join sep ys).length ≤ (ys.map (·.length)).sum + ys.length * sep.length := StrLaws.join_length_le sep ys
theorem sum_le {α : Type} {g : α → Nat} {B : Nat} : ∀ {l : List α}, (∀ a ∈ l, g a ≤ B) → (l.map g).sum ≤ l.length * B
  | [], _ => by simp
  | a :: l, h => by
    rw [List.map_cons, List.sum_cons, List.length_cons, Nat.succ_mul]
    have h1 := h a List.mem_cons_self
    have h2 := sum_le (l := l) fun b hb => h b (List.mem_cons_of_mem _ hb)
    omega
end DL
namespace DL
open PySem PySem.Spec PyProof.Rows L2
theorem c_strN {X : Cx} {O : Sto} : CallD X O (.type "str") [.non] (.str "None") := fun G pins s σ H xs us Q I r ⟨h1, h2, h3⟩ => by
  cases h2 with
  | cons i2 r2 =>
    cases r2
    cases i2
    obtain ⟨u, rfl, ru⟩ := vals1 r
    cases ru
    exact PySem.P.str_of_none ⟨.str _, H, I.tok _, ⟨_, rfl⟩, h3 _ G H (Ext.refl _) h1 (.str _)⟩
end DL
set_option Elab.async false
set_option linter.all false
set_option maxRecDepth 100000
set_option maxHeartbeats 1000000
namespace L2
open PySem PySem.Spec PyProof.Rows
structure RoomH (k : Nat) (A : Around) : Prop where
  dp : A.depth + 3 * k + 5 < recursionLimit
  un : A.units + 16 * k + 200 < cLine
abbrev cxH (P : Program) (w : World) (K : PySem.W.Frag) (mg : Str → Option Value) (base : Heap) (N : List Str) (qual : Str) (scope : Scope) (f : Addr) (cd : Value) (A : Around) (outer : List Env) (s : Shared) (H : Hp) : Cx :=
  (cxOf CX0 P w K mg base N qual scope f cd { A with handled := none } outer s H fun _ _ _ => False).as (A.deeper (envOfC qual scope s.heap.objs.size f cd)) false [] fun _ _ => False
structure FnH (P : Program) (w : World) (K : PySem.W.Frag) (mg : Str → Option Value) (base : Heap) (k : Nat) (f : Addr) (fd : FuncData) (ps : List Str) (sp : Sp) : Prop where
  len : ∀ vs H Q E, sp vs H Q E → vs.length = ps.length
  run : ∀ (A : Around) (outer : List Env) (s : Shared) (H : Hp) (args : Args) (us : List Value) (vs : List V) (Q : VK) (E : XK), RoomH k A → Env0 P w K mg base A outer s H → BindsTo s fd args (ps.zip us) → Vals vs us → sp vs H Q E →
    codeAny (model P w) A (.call (.ref f) args) (CR CX0 outer P w H s Q E) s
section
variable {prog : Program} {w : World} {A : Around} {E : Value → Shared → Prop}
end
end L2
namespace DL
open PySem PySem.Spec PyProof.Rows L2
structure DefH (P : Program) (w : World) (K : PySem.W.Frag) (mg : Str → Option Value) (base : Heap) (k : Nat) (x : Str) (sp : SpD) : Prop where
  ex : ∃ f fd ps, FnH P w K mg base k f fd ps (toSp K sp) ∧ mg x = some (.ref f) ∧ PySem.W.keepIn K (.ref f) = true ∧ Binds K fd ps []
section
variable {X : Cx} {ρ ρ1 : Rho} {O : Sto} {e a b : Expr} {es : List Expr} {d da : D} {ds xs : List D} {R : D → Sto → Prop} {P : Post} {pos p : Pos} {x : Str} {q : Nat} {v : Value}
end
end DL
set_option Elab.async false
set_option linter.all false
set_option maxRecDepth 100000
set_option maxHeartbeats 1000000
namespace DL
open PySem PySem.Spec PyProof.Rows L2
def kD : Key → D
  | .inl i => .int i
  | .inr x => .str x
def DV (O : Sto) (d : D) (ks : List Key) (xs : List D) : Prop := d = .dct ks xs ∨ ∃ n, d = .ptr n ∧ O[n]? = some (some (.dct ks xs))
def atK {α : Type} (ks : List Key) (xs : List α) (k : Key) : Option α := ((ks.zip xs).find? fun p => decide (p.1 = k)).map (·.2)
def hasK (ks : List Key) (k : Key) : Bool := ks.any fun a => decide (a = k)
def putKs (ks : List Key) (k : Key) : List Key := if hasK ks k = true then ks else ks ++ [k]
def putXs {α : Type} (ks : List Key) (xs : List α) (k : Key) (y : α) : List α := if hasK ks k = true then (ks.zip xs).map fun p => if p.1 = k then y else p.2 else xs ++ [y]
def popKs (ks : List Key) (k : Key) : List Key := ks.filter fun a => decide (a ≠ k)
def popXs {α : Type} (ks : List Key) (xs : List α) (k : Key) : List α := ((ks.zip xs).filter fun p => decide (p.1 ≠ k)).map (·.2)
section
variable {X : Cx} {ρ : Rho} {O : Sto} {e a b c : Expr} {d da db y : D} {ks : List Key} {xs : List D} {k : Key} {j q : Nat} {R : D → Sto → Prop} {P : Post} {pos apos cpos tpos : Pos}
end
end DL
set_option Elab.async false
set_option linter.all false
set_option maxRecDepth 100000
set_option maxHeartbeats 1000000
namespace DL
open PySem PySem.Spec PyProof.Rows L2
def Itk (a : Addr) (ob : Obj) (kvs : List (Key × V)) : It := ⟨fun i H => H a = some (.frz ob (.dK kvs)) ∧ i < kvs.length, fun i H x H' => H' = H ∧ ∃ k v, kvs[i]? = some (k, v) ∧ x = kV k, fun i H => H a = some (.frz ob (.dK kvs)) ∧ kvs.length ≤ i⟩
section
variable {X : Cx} {ρ : Rho} {O : Sto} {a b e : Expr} {pos p : Pos} {d : D} {ks : List Key} {xs : List D}
end
end DL
set_option Elab.async false
set_option linter.all false
set_option maxRecDepth 100000
set_option maxHeartbeats 1000000
namespace DL
open PySem PySem.Spec PyProof.Rows L2
def Iti (a : Addr) (ob : Obj) (kvs : List (Key × V)) : It := ⟨fun i H => H a = some (.frz ob (.dK kvs)) ∧ i < kvs.length, fun i H x H' => ∃ T k v, H T = none ∧ kvs[i]? = some (k, v) ∧ H' = upd H T (.tup [kV k, v]) ∧ x = .ref T, fun i H => H a = some (.frz ob (.dK kvs)) ∧ kvs.length ≤ i⟩
section
variable {X : Cx} {ρ : Rho} {O : Sto} {a b e : Expr} {elts : List Expr} {x1 : Nat} {pos p tp apos cpos : Pos} {d : D} {ks : List Key} {xs : List D}
end
end DL
set_option Elab.async false
set_option linter.all false
set_option maxRecDepth 100000
set_option maxHeartbeats 1000000
namespace DL
open PySem PySem.Spec PyProof.Rows L2
mutual
def sbD (n : Nat) (e : D) : D → D
  | .ptr m => if m = n then e else .ptr m
  | .tup xs => .tup (sbDs n e xs)
  | .non => .non | .bl b => .bl b | .int i => .int i | .str x => .str x | .lst xs => .lst xs | .scr xs => .scr xs | .ty t => .ty t | .fn a => .fn a | .dct ks xs => .dct ks xs
def sbDs (n : Nat) (e : D) : List D → List D
  | [] => []
  | x :: xs => sbD n e x :: sbDs n e xs
end
section
variable {X : Cx} {ρ : Rho} {O : Sto} {rest : List Stmt} {P : Post} {n q : Nat} {ks : List Key} {xs : List D} {d : D} {C : Addr} {fs : List (Str × D)} {f : Str}
end
end DL
set_option Elab.async false
set_option linter.all false
set_option maxRecDepth 100000
set_option maxHeartbeats 1000000
namespace DL
open PySem PySem.Spec PyProof.Rows L2 PySem.W
section
variable {prog : Program} {w : World} {A : Around} {s : Shared} {E : Value → Shared → Prop} {T : String} {r d : Addr} {n : Nat} {P : Nat → Value → Prop} {OK : Heap → Prop}
end
section
variable {X : Cx} {ρ : Rho} {O : Sto} {a b e : Expr} {pos p apos cpos : Pos} {d da : D} {ks : List Key} {xs : List D} {R : D → Sto → Prop}
def ValsAt (X : Cx) (pins : List (Addr × Obj)) (σ : L2.St) (O : Sto) (ks : List Key) (xs : List D) (G : Wd) (u : Value) (s : Shared) : Prop :=
  ∃ (v q : Addr) (us : List V) (vs : List (Key × Value)) (ep : Nat) (H : Hp) (G1 : Wd), u = .ref v ∧ L2.Inv X pins σ H s ∧ Ext G G1 ∧ SA X.K G1 H O ∧ Iss X.K G1 xs us ∧ ks.length = us.length ∧ KV (ks.zip us) vs ∧ (ks.zip us).length ≤ sizeLine ∧ s.heap.IsValuesView v q ∧ s.heap.DictAt (mixKind X.prog X.w) q vs ep
end
end DL
set_option Elab.async false
set_option linter.all false
set_option maxRecDepth 100000
set_option maxHeartbeats 1000000
namespace DL
open PySem PySem.Spec PyProof.Rows L2 PySem.W
def ltS (x y : Str) : Bool := decide (x.cps.toList < y.cps.toList)
instance : Inhabited Str := ⟨⟨#[]⟩⟩
section
variable {X : Cx} {ρ : Rho} {O : Sto} {e : Expr} {pos p : Pos} {da : D} {ps : List Str} {xs : List D}
end
end DL
set_option Elab.async false
set_option linter.all false
set_option maxRecDepth 100000
set_option maxHeartbeats 1000000
namespace DL
open PySem PySem.Spec PyProof.Rows L2 PySem.W
def isStr (x : Str) : Value → Bool
  | .str y _ => y.cps.toList == x.cps.toList
  | _ => false
def rRemS : V → List V → Hp → VK → Prop := fun v vs H Q => ∃ (l : Addr) (ps : List Str) (x : Str), v = .ref l ∧ vs = [.str x] ∧ H l = some (.lst (ps.map V.str)) ∧ x ∈ ps ∧ Q .non (upd H l (.lst ((ps.eraseIdx (ps.idxOf x)).map V.str)))
section
variable {X : Cx} {ρ : Rho} {O : Sto} {a e : Expr} {pos apos cpos : Pos} {q : Nat} {ps : List Str} {x : Str} {P : Post} {ks : List Key} {xs : List D}
end
end DL
set_option Elab.async false
set_option linter.all false
set_option maxRecDepth 100000
set_option maxHeartbeats 1000000
namespace DL
open PySem PySem.Spec PyProof.Rows L2 PySem.W
section
variable {X : Cx} {ρ : Rho} {O : Sto} {value o : Expr} {pos pos' : Pos} {q : Nat} {C : Addr} {fs : List (Str × D)} {f : Str} {P : Post}
end
end DL
namespace DL
open PySem PySem.Spec PyProof.Rows L2 PySem.W
section
variable {X : Cx} {ρ : Rho} {O : Sto} {e : Expr} {qs : List Str} {xs : List D}
end
def atS {α : Type} (ps : List Str) (ws : List α) (x : Str) : Option α := atK (ps.map Sum.inr) ws (.inr x)
end DL
set_option Elab.async false
set_option linter.all false
set_option maxRecDepth 100000
set_option maxHeartbeats 1000000
namespace DL
open PySem PySem.Spec PyProof.Rows L2 PySem.W
section
variable {X : Cx} {ρ : Rho} {O : Sto}
end
end DL
set_option Elab.async false
set_option linter.all false
set_option maxRecDepth 100000
set_option maxHeartbeats 1000000
namespace DL
open PySem PySem.Spec PyProof.Rows L2 PySem.W
section
variable {X : Cx} {ρ : Rho} {O : Sto} {a : Expr} {pos apos cpos : Pos} {q : Nat} {ks : List Key} {xs : List D} {P : Post}
end
end DL
namespace L2
open PySem PySem.Spec PyProof.Rows
end L2
namespace DL
open PySem PySem.Spec PyProof.Rows L2
end DL
set_option Elab.async false
set_option linter.all false
set_option maxRecDepth 100000
set_option maxHeartbeats 1000000
namespace DL
open PySem PySem.Spec PyProof.Rows L2 PySem.W
section
variable {X : Cx} {O : Sto} {da db ea : D} {k : Nat} {xs : List D}
end
end DL
namespace DL
open PySem PySem.Spec PyProof.Rows L2 PySem.W
section
variable {X : Cx} {ρ : Rho} {O : Sto} {a e : Expr} {pos apos cpos : Pos} {q : Nat} {xs : List D} {P : Post}
end
end DL
set_option Elab.async false
set_option linter.all false
set_option maxRecDepth 100000
set_option maxHeartbeats 1000000
namespace DL
open PySem PySem.Spec PyProof.Rows L2 PySem.W
section
variable {X : Cx} {ρ : Rho} {O : Sto} {e a b c : Expr} {body : List Stmt} {d da db : D} {xs : List D} {ks : List Key} {ps : List Str} {R : D → Sto → Prop} {P : Post} {pos p : Pos} {j n : Nat}
end
end DL
set_option Elab.async false
set_option linter.all false
set_option maxRecDepth 100000
set_option maxHeartbeats 1000000
namespace DL
open PySem PySem.Spec PyProof.Rows L2 PySem.W
def DW (O : Sto) (d : D) (ks : List Key) (xs : List D) : Prop := DV O d ks xs ∨ ∃ n ob vs, d = .ptr n ∧ O[n]? = some (some (.pin ob vs ks xs))
section
variable {X : Cx} {ρ : Rho} {O : Sto} {e a b c iter tg : Expr} {st : Stmt} {body rest : List Stmt} {d da db : D} {xs : List D} {ks : List Key} {k : Key} {ob : Obj} {vs : List V} {ps : List Str} {R : D → Sto → Prop} {P : Post} {pos p : Pos} {j n : Nat}
end
section
variable {X : Cx} {O : Sto} {da db : D} {ks : List Key} {ns : List Int} {j : Nat}
end
end DL
set_option Elab.async false
set_option linter.all false
set_option maxRecDepth 100000
set_option maxHeartbeats 1000000
namespace DL
open PySem PySem.Spec PyProof.Rows L2 PySem.W
section
variable {X : Cx} {ρ : Rho} {O : Sto} {a : Expr} {da : D} {xs : List D} {ks : List Key} {pos : Pos}
end
end DL
set_option Elab.async false
set_option linter.all false
set_option maxRecDepth 100000
set_option maxHeartbeats 1000000
namespace DL
open PySem PySem.Spec PyProof.Rows L2 PySem.W
mutual
def ndD : D → Bool
  | .dct _ _ => false
  | .tup xs => ndDs xs
  | .lst xs => ndDs xs
  | .scr xs => ndDs xs
  | .non => true | .bl _ => true | .int _ => true | .str _ => true | .ptr _ => true | .ty _ => true | .fn _ => true
def ndDs : List D → Bool
  | [] => true
  | x :: xs => ndD x && ndDs xs
end
def ndF (fs : List (Str × D)) : Bool := fs.all fun p => ndD p.2
def ndM : MO → Bool
  | .lst xs => ndDs xs
  | .ins _ fs => ndF fs
  | .exc _ fs _ => ndF fs
  | .dct _ xs => ndDs xs
  | .pin _ _ _ xs => ndDs xs
def NdS (O : Sto) : Prop := ∀ (k : Nat) (m : MO), O[k]? = some (some m) → ndM m = true
def outG (p : Addr) (G : Wd) : Wd := ⟨fun a => if a = p then none else G.g a, G.l⟩
section
variable {K : PySem.W.Frag} {G : Wd} {p : Addr} {ob : Obj} {kvs : List (Key × V)}
end
section
variable {X : Cx} {ρ : Rho} {O : Sto} {e a b : Expr} {d d0 : D} {xs : List D} {ks : List Key} {k : Key} {R : D → Sto → Prop} {pos : Pos} {n : Nat}
end
def spLaw0 : SpD := fun ds O R => ∃ ns : List Int, ds = [.scr (ns.map D.int)] ∧ ns.length ≤ 63 ∧ O = [] ∧ ∀ O', R (.bl true) O'
end DL
set_option Elab.async false
set_option linter.all false
set_option maxRecDepth 100000
set_option maxHeartbeats 1000000
namespace DL
open PySem PySem.Spec PyProof.Rows L2 PySem.W
section
variable {X : Cx} {ρ : Rho} {O : Sto} {a b : Expr} {d da db : D} {ks : List Key} {k : Key} {ns : List Int} {R : D → Sto → Prop} {pos : Pos} {j : Nat}
end
end DL
set_option Elab.async false
set_option linter.all false
set_option maxRecDepth 100000
set_option maxHeartbeats 1000000
namespace DL
open PySem PySem.Spec PyProof.Rows L2 PySem.W
section
variable {X : Cx} {ρ : Rho} {O : Sto} {e a b : Expr} {d : D} {xs : List D} {ks : List Key} {R : D → Sto → Prop} {RT : Bool → Sto → Prop} {pos : Pos} {n : Nat}
def EvWE (X : Cx) (ρ : Rho) (O : Sto) (e : Expr) (RT : Bool → Sto → Prop) : Prop :=
  ∀ G, PW X e (fun σ H Q => SA X.K G H O ∧ EnvR X.K G σ ρ ∧ ∀ k O' G' H', Ext G G' → SA X.K G' H' O' → RT k O' → Q k H')
end
end DL
set_option Elab.async false
set_option linter.all false
set_option maxRecDepth 100000
set_option maxHeartbeats 1000000
namespace L2
open PySem PySem.Spec PyProof.Rows
def Fl0 (B : Heap) (l : List Env) (a : Addr) (cls a0 : Value) (h : Heap) : Prop :=
  B.StaysIn h ∧ B.get? a = none ∧ h.FunFrames B l ∧ ∃ fl, h.TracedAtW B a cls a0 fl
section
variable {M : Model} {A : Around} {E : Value → Shared → Prop} {s : Shared} {B : Heap} {l : List Env} {a : Addr} {cls a0 : Value}
theorem flight_any {fo : Option Addr} {Q : Unit → Shared → Prop} (R : Fl0 B l a cls a0 s.heap) (h : ∀ h', Fl0 B l a cls a0 h' → s.heap.UpToSlots h' → Q () { s with heap := h' }) : wpAny M A (setFlight (.ref a) fo) Q E s := by
  obtain ⟨r1, r2, r3, fl, oe, vs, T, oT, ts, q1, q2, q3, q4, q5, q6, q7, q8, q9⟩ := R
  have hz : 3 < ts.size := (Array.getElem?_eq_some_iff.mp q9).1
  generalize hv : fo.elim Value.none (fun f => rawInt f) = v
  have far : ∀ b, b ≠ T → (s.heap.update T (Obj.mapFields (·.setIfInBounds 3 v))).get? b = s.heap.get? b := fun b hb => Heap.get?_update_other _ _ (Ne.symm hb)
  have ne : ∀ b o, s.heap.get? b = some o → (∀ vs, o.data ≠ .fields vs) → b ≠ T := fun b o e n z => by
    subst z
    rw [q7] at e
    cases e
    exact n _ q8
  unfold setFlight
  refine wpAny_bind (wpAny_field q1 q3 q4 ?_)
  rw [if_pos (show (Value.ref T != Value.none) = true from by simp), hv]
  refine wpAny_setField q7 q8 hz (h _ ⟨fun b o e => (far b fun z => by rw [z, q5] at e; cases e).trans (r1 b o e), r2, r3.of_keeps fun b o e n => ⟨o, (far b (ne b o e n)).trans e, rfl⟩, v, oe, vs, T, _, _, (far a (Ne.symm q6)).trans q1, q2, q3, q4, q5, q6, Heap.get?_update_self _ q7 (Obj.isFreed_of_fields (Obj.data_mapFields q8 _)), Obj.data_mapFields q8 _, ?_⟩ fun b o e n => ⟨o.slots, (far b (ne b o e n)).trans e⟩)
  simp [hz]
theorem leaving_any {env : Env} {outer : List Env} {L : Addr} {Q : Unit → Shared → Prop} (hfr : A.frames = some (env :: outer)) (hf : env.frame = some L) (R : Fl0 B (env :: outer) a cls a0 s.heap)
    (h : ∀ h', Heap.FlyingW B outer a cls a0 h' → s.heap.UpToSlots h' → Q () { s with heap := h' }) : wpAny M A (leaving env (.ref a)) Q E s := by
  obtain ⟨r1, r2, r3, fl, ht⟩ := R
  have fin : ∀ {h'}, Heap.FlyingW B (env :: outer) a cls a0 h' → Heap.FlyingW B outer a cls a0 h' := fun {h'} ⟨k1, k2, ⟨_, _, k3⟩, k4⟩ => ⟨k1, k2, k3, k4⟩
  by_cases hL : fl = rawInt L
  · subst hL
    unfold leaving
    refine wpAny_bind (wpAny_noteFrame_againW hf ht ?_)
    exact wpAny_landsW ⟨r1, r2, r3, ht⟩ fun h' k sm => h h' (fin k) sm
  · obtain ⟨oe, vs, T, oT, ts, q1, ⟨q2, q0⟩, q3, q4, q5, q6, q7, q8, q9⟩ := ht
    subst q2
    have far : ∀ b, b ≠ T → (s.heap.update T (Obj.mapFields (·.setIfInBounds 3 Value.none))).get? b = s.heap.get? b := fun b hb => Heap.get?_update_other _ _ (Ne.symm hb)
    have ne : ∀ b o, s.heap.get? b = some o → (∀ vs, o.data ≠ .fields vs) → b ≠ T := fun b o e n z => by
      subst z
      rw [q7] at e
      cases e
      exact n _ q8
    unfold leaving noteFrame
    simp only [hf]
    refine wpAny_bind (wpAny_bind (wpAny_field q1 q3 q4 ?_))
    rw [if_pos (show (Value.ref T != Value.none) = true from by simp)]
    refine wpAny_bind (wpAny_field q7 q8 q9 ?_)
    rw [if_neg (show ¬ ((fl == rawInt L) = true) from by simpa using hL)]
    refine wpAny_bind (wpAny_setField q7 q8 (Array.getElem?_eq_some_iff.mp q9).1 ?_)
    refine wpAny_newEntryW hfr (r3.of_keeps fun b o e n => ⟨o, (far b (ne b o e n)).trans e, rfl⟩) hf ((far a (Ne.symm q6)).trans q1) (fun b o e => (far b fun z => by rw [z, q5] at e; cases e).trans (r1 b o e)) r2 q3 (Array.getElem?_eq_some_iff.mp q4).1 q0
      fun h' ⟨x1, x2, x3, x4⟩ => h h' (fin ⟨x1, r2, x2, x3⟩) fun b o e n => x4 b o ((far b (ne b o e n)).trans e) n
theorem passOn_any {what : String} {env : Env} (R : Fl0 B l a cls a0 s.heap) (h : ∀ h', Fl0 B l a cls a0 h' → s.heap.UpToSlots h' → DK s.heap h' → E (.ref a) { s with heap := h' }) : wpAny M A (PySem.passOn what (.ref a) env : Sem Value) (fun _ _ => False) E s := by
  obtain ⟨r1, r2, r3, fl, oe, vs, T, oT, ts, q1, q2, q3, q4, q5⟩ := id R
  have k := mild_setFlight.any (flight_any (M := M) (A := A) (E := fun _ _ => False) (fo := env.frame) (Q := fun _ s' => ∃ h', s' = { s with heap := h' } ∧ Fl0 B l a cls a0 h' ∧ s.heap.UpToSlots h') R fun h' f u => ⟨h', rfl, f, u⟩)
  have k2 : wpAny M A (setFlight (.ref a) env.frame) (fun _ s' => E (.ref a) s') E s := wpAny_mono k (fun _ s' ⟨⟨h', e, f, u⟩, d⟩ => by subst e; exact h h' f u d) fun _ _ z => z.1.elim
  unfold PySem.passOn
  refine wpAny_bind (wpAny_field q1 q3 q4 ?_)
  rw [if_neg (show ¬ ((Value.ref T == Value.none) = true) from by simp)]
  first
    | exact wpAny_bind (wpAny_pure (wpAny_bind (thn k2 fun _ s' q => wpAny_throw q)))
    | exact wpAny_bind (thn k2 fun _ s' q => wpAny_throw q)
end
theorem frames_same {B h h' : Heap} : ∀ {l : List Env}, (∀ b ∈ frs l, h'.get? b = h.get? b) → h.FunFrames B l → h'.FunFrames B l
  | [], _, _ => trivial
  | env :: l, k, ⟨hk, ⟨L, o, hf, hn, ho, hd⟩, hr⟩ => by
    have hL : L ∈ frs (env :: l) := List.mem_filterMap.mpr ⟨env, List.mem_cons_self, hf⟩
    refine ⟨hk, ⟨L, o, hf, hn, (k L hL).trans ho, hd⟩, frames_same (fun b hb => k b ?_) hr⟩
    obtain ⟨e, he, hb⟩ := List.mem_filterMap.mp hb
    exact List.mem_filterMap.mpr ⟨e, List.mem_cons_of_mem _ he, hb⟩
section
variable {CX : CXT} {P : Program} {w : World} {K : PySem.W.Frag} {mg : Str → Option Value} {base : Heap} {N : List Str} {qual : Str} {scope : Scope} {f : Addr} {cd : Value} {A : Around} {outer : List Env} {s : Shared} {H : Hp} {E : XK}
theorem passH {pins : List (Addr × Obj)} {σ : St} {H1 : Hp} {s1 : Shared} {a C t : Addr} {od : Option Addr} {B : Heap} (I : Inv (cxOf (CX1 P w) P w K mg base N qual scope f cd A outer s H E) pins σ H1 s1) (fl : Fl0 B (envOfC qual scope s.heap.objs.size f cd :: outer) a (.ref C) (.ref t) s1.heap)
    (hd : ∃ oe, s1.heap.get? a = some oe ∧ oe.dict = od ∧ ctxOf oe = some .none) (old : ∀ b o, s.heap.get? b = some o → b ∉ frs outer → ∃ o', B.get? b = some o') (trk : ∀ b u, H1 b = some u → ∃ o', B.get? b = some o') (he : E (.ref C) od H1) :
    (cxOf (CX1 P w) P w K mg base N qual scope f cd A outer s H E).xe (.ref a) s1 := by
  show wpAny _ _ (leaving _ _) _ _ s1
  obtain ⟨oe, ho0, ho1⟩ := hd
  have hin : ∀ b, b ∈ frs outer → b ∈ frs (envOfC qual scope s.heap.objs.size f cd :: outer) := fun b z => by
    unfold frs at z ⊢
    rw [List.filterMap_cons]
    exact List.mem_cons_of_mem _ z
  refine wpAny_mono (mild_leaving.any (leaving_any (E := fun _ _ => False) (Q := fun _ s' => ∃ h', s' = { s1 with heap := h' } ∧ Heap.FlyingW B outer a (.ref C) (.ref t) h' ∧ s1.heap.UpToSlots h') I.ok.frames rfl fl fun h' fl' sm => ⟨h', rfl, fl', sm⟩)) (fun _ s3 ⟨⟨h', e3, fl', sm⟩, dk⟩ => ?_) fun _ _ z => z.1.elim
  subst e3
  obtain ⟨oe', ho2, ho3⟩ := dk a oe ho0
  have hu : Un (frs outer) [] H H1 s.heap s1.heap := I.base
  refine ⟨a, C, od, B, H1, rfl, ⟨I.os, I.bare, ⟨⟨t, fl'⟩, oe', ho2, ho3.1.trans ho1.1, ho3.2.trans ho1.2⟩, ⟨fun b o q n hb _ => ?_, fun b o q n hb _ => ?_, fun b o q n _ => hu.free b o q n (by simp), fun b o q _ => ?_, hu.tups, hu.frzs, hu.tbls⟩, hok_in I.hok fl.1 fl'.1 trk, old, trk⟩, he⟩
  · obtain ⟨o', ho⟩ := old b o q hb
    have h2 := fl.1 b o' ho
    rw [hu.keep b o q n hb (by simp)] at h2
    cases h2
    exact fl'.1 b _ ho
  · obtain ⟨sl, q1⟩ := hu.slot b o q n hb (by simp)
    obtain ⟨_, oo, ho, hnf⟩ := fl.2.2.1.mem (hin b hb)
    rw [q1] at ho
    cases ho
    obtain ⟨sl3, q3⟩ := sm b _ q1 hnf
    exact ⟨sl3, q3⟩
  · by_cases hb : b ∈ frs outer
    · obtain ⟨_, oo, ho, hnf⟩ := fl.2.2.1.mem (hin b hb)
      obtain ⟨sl3, q3⟩ := sm b _ ho hnf
      exact ⟨_, q3⟩
    · obtain ⟨o', ho⟩ := old b o q hb
      exact ⟨o', fl'.1 b _ ho⟩
end
end L2
namespace DL
open PySem PySem.Spec PyProof.Rows L2
def ThrH (X : Cx) (C : Addr) (od : Option Addr) (σ : L2.St) (H' : Hp) : Prop := ∀ pins s1 a t B, L2.Inv X pins σ H' s1 → Fl0 B X.stack a (.ref C) (.ref t) s1.heap → (∃ oe, s1.heap.get? a = some oe ∧ oe.dict = od ∧ ctxOf oe = some .none) →
  (∀ b o, X.s₀.heap.get? b = some o → b ∉ X.fs → ∃ o', B.get? b = some o') → (∀ b u, H' b = some u → ∃ o', B.get? b = some o') → X.xe (.ref a) s1
def ContH (X : Cx) (G : Wd) (RX : XC) : Prop := ∀ C fs od σ ρ O' G' H', Ext G G' → SA X.K G' H' O' → EnvR X.K G' σ ρ → Fds X.K G' od fs → RX C fs ρ O' → ThrH X C od σ H'
theorem ContH.ext {X : Cx} {G G' : Wd} {RX : XC} (h : ContH X G RX) (e : Ext G G') : ContH X G' RX := fun C fs od σ ρ O' G2 H' e2 => h C fs od σ ρ O' G2 H' (e.trans e2)
def EvH (X : Cx) (ρ : Rho) (O : Sto) (e : Expr) (R : D → Sto → Prop) (RX : XC) : Prop :=
  ∀ G, PE X e (fun σ H Q => SA X.K G H O ∧ EnvR X.K G σ ρ ∧ (∀ v d O' G' H', Ext G G' → SA X.K G' H' O' → Is X.K G' d v → R d O' → Q v H') ∧ ContH X G RX)
def ExH (X : Cx) (ρ : Rho) (O : Sto) (st : Stmt) (P : Post) (RX : XC) : Prop := ∀ G, PS X st (fun E σ H => SA X.K G H O ∧ EnvR X.K G σ ρ ∧ Conts X.K G P E ∧ ContH X G RX)
def ExsH (X : Cx) (ρ : Rho) (O : Sto) (st : List Stmt) (P : Post) (RX : XC) : Prop := ∀ G, PSs X st (fun E σ H => SA X.K G H O ∧ EnvR X.K G σ ρ ∧ Conts X.K G P E ∧ ContH X G RX)
abbrev cxE (X : Cx) (N : List Str) (scope : Scope) (s : Shared) (H : Hp) (fp : List Addr) (F : Value → Shared → Prop) : Cx := (cxC X N scope s H fp).as X.A X.calm [] F
section
variable {X : Cx} {N : List Str} {scope : Scope} {s2 s9 s10 : Shared} {H2 H9 H' : Hp} {fp : List Addr} {F : Value → Shared → Prop} {pins pinsY : List (Addr × Obj)} {σ σ9 : L2.St} {a C : Addr} {od : Option Addr} {B : Heap} {Q : Value → Shared → Prop} {acc : Value}
theorem comp_throw (hst : X.stack = X.env :: X.outer) (hfr : X.env.frame = some X.env.locals) (hex : X.ex = []) (I2 : L2.Inv X pins σ H2 s2) (f2 : ∀ b ∈ fp, FpOk X pins H2 b) (th : ThrH X C od σ H')
    (I9 : L2.Inv (cxE X N scope s2 H2 fp F) pinsY σ9 H9 s9) (g : Gone X.prog X.w X.stack H9 H' s9 s10 a C od B) :
    notedBy (model X.prog X.w) X.A (cxE X N scope s2 H2 fp F).env (fun x s' => compPost (model X.prog X.w) X.A X.xe none Q acc (s2.heap.objs.size + 1) (.error x) s') (.ref a) s10 := by
  have hg1 : Gone X.prog X.w (X.env :: X.outer) H9 H' s9 s10 a C od B := hst ▸ g
  obtain ⟨⟨t, fl⟩, oe, hd0, hd1⟩ := hg1.fly
  have hfrm : X.A.frames = some (X.env :: X.outer) := hst ▸ I2.ok.frames
  have I10 : L2.Inv (cxE X N scope s2 H2 fp F) pinsY σ9 H' s10 := I9.call' (ch := []) g.os g.un g.hok g.bare (fun b z => absurd z (by simp))
  have hCn : H' (s2.heap.objs.size + 1) = none := I10.free
  obtain ⟨m, hn, _⟩ := I10.loc
  have hn : s10.heap.Ns (s2.heap.objs.size + 1) m := hn
  have un9 : Un (frs X.stack) fp H2 H9 s2.heap s9.heap := I9.base
  have os9 : s9.os = s2.os := I9.os
  have fC := I2.fpOk (H' := H') (b := s2.heap.objs.size + 1) (Nat.le_succ _) hCn
  have bC : ∀ b, b < s2.heap.objs.size → b ≠ s2.heap.objs.size + 1 := fun b hb z => by omega
  have stC : s2.heap.objs.size + 1 ∉ frs X.stack := fun z => by
    rcases List.mem_cons.mp (I2.stkSub _ z) with q | q
    · exact fC.2.1 q
    · exact fC.2.2.1 q
  generalize s2.heap.objs.size + 1 = Cl at hCn hn fC bC stC ⊢
  have stX : frs (X.env :: X.outer) = frs X.stack := by rw [hst]
  show wpAny (model X.prog X.w) X.A (noteFrame (.ref a) X.env) _ _ s10
  refine wpAny_mono (mild_note.any (wpAny_looks_onW (E := fun _ _ => False) (Q := fun _ s' => ∃ h', s' = { s10 with heap := h' } ∧ Heap.HeldW B (X.env :: X.outer) a (.ref C) (.ref t) X.env.locals h' ∧ s10.heap.UpToSlots h') hfrm hfr fl fun h4 held4 sm4 => ⟨h4, rfl, held4, sm4⟩)) (fun _ s4 ⟨⟨h4, e4, held4, sm4⟩, dk4⟩ => ?_) fun _ _ z => z.1.elim
  subst e4
  have hn4 : h4.Ns Cl m := sm4.ns hn
  refine ⟨m, hn4, fun h5 hs5 cenv _ => ?_⟩
  have far5 : ∀ b, b ≠ Cl → h5.get? b = h4.get? b := hs5.2
  have k' : (PySem.W.hideAll B [Cl]).StaysIn B := fun b o q => PySem.W.of_hideAll _ q
  have to : ∀ b o, B.get? b = some o → b ≠ Cl → (PySem.W.hideAll B [Cl]).get? b = some o := fun b o q n => hide_get q (by simpa using n)
  have bn : (PySem.W.hideAll B [Cl]).get? Cl = none := PySem.W.hideAll_none _ List.mem_cons_self
  generalize PySem.W.hideAll B [Cl] = B' at k' to bn
  have nC : ∀ b o vs, h4.get? b = some o → o.data = .fields vs → b ≠ Cl := fun b o vs q d z => by
    subst z
    obtain ⟨o', es, ep, q', d', _⟩ := hn4
    rw [q] at q'
    cases q'
    rw [d] at d'
    cases d'
  have hl4 := PySem.W.heldW_base k' held4
  obtain ⟨u1, u2, u3, oa, va, T, oT, ts, v1, v2, v3, v4, v5, v6, v7, v8, v9⟩ := hl4
  have ha : a ≠ Cl := nC a oa va v1 v3
  have hT : T ≠ Cl := nC T oT ts v7 v8
  have fl5 : Fl0 B' X.stack a (.ref C) (.ref t) h5 := by
    refine ⟨fun b o q => (far5 b fun z => by rw [z, bn] at q; cases q).trans (u1 b o q), u2, ?_, _, oa, va, T, oT, ts, (far5 a ha).trans v1, v2, v3, v4, v5, v6, (far5 T hT).trans v7, v8, v9⟩
    rw [hst]
    exact frames_same (fun b hb => far5 b fun z => stC (by rw [← z, ← stX]; exact hb)) u3
  refine passOn_any (s := { s10 with heap := h5 }) fl5 fun h6 fl6 sm6 dk6 => ?_
  have trk' : ∀ b u, H' b = some u → ∃ o', B'.get? b = some o' := fun b u q => by
    obtain ⟨o', ho⟩ := g.trk b u q
    exact ⟨o', to b o' ho fun z => by rw [z, hCn] at q; cases q⟩
  have frm : ∀ b o, b ∈ frs X.stack → s10.heap.get? b = some o → ∃ sl, h6.get? b = some { o with slots := sl } := fun b o hb q => by
    obtain ⟨_, oo, ho, hnf⟩ := fl.2.2.1.mem (show b ∈ frs (X.env :: X.outer) by rw [stX]; exact hb)
    rw [q] at ho
    cases ho
    obtain ⟨s4', q4⟩ := sm4 b _ q hnf
    have q5 := (far5 b fun z => stC (by rw [← z]; exact hb)).trans q4
    obtain ⟨s6', q6⟩ := sm6 b _ q5 hnf
    exact ⟨s6', q6⟩
  have lt2 : ∀ {b o}, s2.heap.get? b = some o → b ≠ Cl := fun {b o} q => bC b (Heap.lt_size q)
  have un : Un (frs X.stack) fp H2 H' s2.heap h6 := by
    refine ⟨fun b o q n hb hx => ?_, fun b o q n hb hx => ?_, fun b o q n hx => ?_, fun b o q hx => ?_, fun b xs q => g.un.tups b xs (un9.tups b xs q), fun b o u q => g.un.frzs b o u (un9.frzs b o u q), fun b ps q => ?_⟩
    · have q1 := un9.keep b o q n hb hx
      obtain ⟨o', ho⟩ := g.old b o q1 hb
      have q2 := g.un.keep b o q1 (un9.free b o q n hx) hb (by simp)
      have q3 := fl.1 b o' ho
      rw [q2] at q3
      cases q3
      exact fl6.1 b _ (to b _ ho (lt2 q))
    · obtain ⟨sl, q1⟩ := un9.slot b o q n hb hx
      obtain ⟨sl2, q2⟩ := g.un.slot b _ q1 (un9.free b o q n hx) hb (by simp)
      obtain ⟨sl3, q3⟩ := frm b _ hb q2
      exact ⟨sl3, q3⟩
    · obtain ⟨o1, q1⟩ := un9.there b o q hx
      exact g.un.free b o1 q1 (un9.free b o q n hx) (by simp)
    · obtain ⟨o1, q1⟩ := un9.there b o q hx
      by_cases hb : b ∈ frs X.stack
      · obtain ⟨o2, q2⟩ := g.un.there b o1 q1 (by simp)
        obtain ⟨sl3, q3⟩ := frm b _ hb q2
        exact ⟨_, q3⟩
      · obtain ⟨o', ho⟩ := g.old b o1 q1 hb
        exact ⟨o', fl6.1 b _ (to b _ ho (lt2 q))⟩
    · obtain ⟨m1, e1⟩ := un9.tbls b ps q
      obtain ⟨m2, e2⟩ := g.un.tbls b _ e1
      exact ⟨m1 ++ m2, by rw [e2, Array.append_assoc]⟩
  have I13 : L2.Inv X pins σ H' { s10 with heap := h6 } := I2.call' (ch := fp) (g.os.trans os9) un (hok_in g.hok (fun b o q => fl.1 b o (k' b o q)) fl6.1 trk') g.bare fun b hb => by
    obtain ⟨_, f1, _, f3, f4, f5⟩ := f2 b hb
    exact ⟨f3, f1, f4, f5⟩
  refine th pins _ a t B' I13 fl6 ?_ (fun b o q hb => ?_) trk'
  · obtain ⟨o4, w1, w2⟩ := dk4 a oe hd0
    obtain ⟨o6, w3, w4⟩ := dk6 a o4 ((far5 a ha).trans w1)
    exact ⟨o6, w3, (w4.1.trans w2.1).trans hd1.1, (w4.2.trans w2.2).trans hd1.2⟩
  · have hlt : b < X.s₀.heap.objs.size := Heap.lt_size q
    obtain ⟨o1, q1⟩ := I2.base.there b o q (by rw [hex]; simp)
    have hfp : b ∉ fp := fun z => by
      rcases (f2 b z).2.2.2.1 with y | y
      · rw [hex] at y; cases y
      · exact absurd hlt (Nat.not_lt.mpr y)
    obtain ⟨o2, q2⟩ := un9.there b o1 q1 hfp
    obtain ⟨o', ho⟩ := g.old b o2 q2 fun z => by
      rcases List.mem_cons.mp (I2.stkSub b z) with y | y
      · exact absurd hlt (Nat.not_lt.mpr (y ▸ I2.ok.above))
      · exact hb y
    exact ⟨o', to b o' ho (lt2 q1)⟩
end
end DL
namespace DL
open PySem PySem.Spec PyProof.Rows L2
theorem compLoop_anyX {prog : Program} {w : World} {A : Around} {R : Result → Shared → Prop} {elt tg iter : Expr} {ifs : List Expr} {scope : Scope} {pos : Pos} {it acc : Value} {env : Env} (V : Nat → Shared → Prop)
    (turn : ∀ (n : Nat) (s : Shared), V n s → wpAny (model prog w) A (pyNext it) (fun r s1 => match r with
      | none => R (.ok .next) s1
      | some v => wpAny (model prog w) A (letOwnedTupleGo tg it v) (fun _ s2 => wpAny (model prog w) A (assign tg env v) (fun _ s3 =>
          wpAny (model prog w) A (compTests ifs env) (fun ok s4 => if ok = true then wpAny (model prog w) A (eval elt env) (fun x s5 => wpAny (model prog w) A (call (.builtin "list.append") [acc, x]) (fun _ s6 => ∃ m, m < n ∧ V m s6) (notedBy (model prog w) A env fun x s' => R (.error x) s') s5) (notedBy (model prog w) A env fun x s' => R (.error x) s') s4
            else ∃ m, m < n ∧ V m s4) (notedBy (model prog w) A env fun x s' => R (.error x) s') s3) (notedBy (model prog w) A env fun x s' => R (.error x) s') s2) (notedBy (model prog w) A env fun x s' => R (.error x) s') s1) (notedBy (model prog w) A env fun x s' => R (.error x) s') s) :
    ∀ (n : Nat) (s : Shared), V n s → codeAny (model prog w) A (.compLoop (.ListComp elt [⟨tg, iter, ifs, 0⟩] scope pos) 0 it acc env) R s := fun n s h => by
  refine codeAny_loop rfl V (fun n s hV => ?_) n h
  refine wpAny_noted ?_
  rw [compTurn_list]
  refine wpAny_bind (wpAny_standAt (wpAny_bind (thn (turn n s hV) fun r s1 h1 => ?_)))
  cases r with
  | none => exact wpAny_pure h1
  | some v =>
    refine wpAny_bind (thn h1 fun _ s2 h2 => wpAny_bind (thn h2 fun _ s3 h3 => ?_))
    have h3 : wpAny (model prog w) A (compTests ifs env) _ _ s3 := h3
    unfold compTests at h3
    rw [show ∀ x : Sem Bool, (x >>= fun q => pure q) = x from fun x => bind_pure x] at h3
    refine wpAny_bind (thn h3 fun ok s4 h4 => ?_)
    cases ok with
    | false => exact wpAny_pure ⟨rfl, h4⟩
    | true => exact wpAny_bind (wpAny_bind (thn h4 fun x s5 h5 => wpAny_bind (thn h5 fun _ s6 h6 => wpAny_pure (wpAny_pure ⟨rfl, h6⟩))))
section
variable {X : Cx} {ρ : Rho} {O : Sto} {elt tg iter : Expr} {scope : Scope} {pos : Pos} {xs zs : List D} {RX : XC}
theorem comp_coreX (N : List Str) (js : List Nat) (ρ0 : Rho) (ok : Nat → Prop) (hst : X.stack = X.env :: X.outer) (hfr' : X.env.frame = some X.env.locals) (hex : X.ex = []) (hi : EvI X ρ O tg iter xs) (hc : X.calm = true) (hk : scope.kind = .function) (hfr : FreeOk X scope) (hnm : ∀ x ∈ scope.names, x.2 = .local → scope.names.lookup x.1 = some .local)
    (hl0 : ρ0.length = N.length)
    (h0 : ∀ (i : Nat) (d : D), ρ0[i]? = some (some d) → ∃ (x : Str) (j : Nat), N[i]? = some x ∧ scope.names.lookup x = some .free ∧ (∀ y ∈ scope.names, y.1 = x → y.2 ≠ .cell) ∧ X.N[j]? = some x ∧ ρ[j]? = some (some d) ∧ Vis X.env.scope x)
    (hzl : zs.length = xs.length) (hsz : xs.length ≤ sizeLine)
    (turn : ∀ (s : Shared) (H : Hp) (fp : List Addr) (F : Value → Shared → Prop) (i : Nat) (x z : D), xs[i]? = some x → zs[i]? = some z → (∀ k, k < i → ok k) → ∃ ρ1, Tg (cxE X N scope s H fp F) tg x ρ0 ρ1 ∧ ρ1.length = ρ0.length ∧ (∀ (j : Nat) (d : D), ρ0[j]? = some (some d) → ρ1[j]? = some (some d)) ∧ EvX (cxE X N scope s H fp F) False ρ1 O elt (fun d O' => ok i ∧ d = z ∧ O' = O) fun C fs _ O' => RX C fs ρ O')
    {pins : List (Addr × Obj)} {s : Shared} {σ : L2.St} {H : Hp} {G : Wd} {Q : Value → Shared → Prop} (I : L2.Inv X pins σ H s) (sa : SA X.K G H O) (en : EnvR X.K G σ ρ) (ch : ContH X G RX)
    (fin : ∀ (D C : Addr) (s' : Shared) (H5 : Hp) (G5 : Wd) (vs : List V), (∀ k, k < xs.length → ok k) → L2.Inv X pins σ (upd H5 D (.lst vs)) s' → Ext G G5 → SA X.K G5 H5 O → H5 D = none → Iss X.K G5 zs vs → FpOk X pins (upd H5 D (.lst vs)) C → (∃ m, s'.heap.Ns C m) → compPost (model X.prog X.w) X.A X.xe none Q (.ref D) C (.ok .next) s')
    (hs : ∀ x, foldedSetIterable iter X.env x = pure x := by intro _; rfl) :
    wpAny (model X.prog X.w) X.A (comprehension (.ListComp elt [⟨tg, iter, [], 0⟩] scope pos) scope X.env (firstIterPos [⟨tg, iter, [], 0⟩] pos) (newList []) false (eval iter X.env) none) Q X.xe s := by
  refine wpAny_comprehension_free rfl hs (clos_eq fun y hy e => I.ok.has _ (hfr y hy e)) hk hnm (thn (hi G pins s σ H (fun J H1 => ∃ G1, Ext G G1 ∧ SA X.K G1 H1 O ∧ Yields X.K G1 J xs) I ⟨sa, en, fun J G1 H1 e1 s1 y1 => ⟨G1, e1, s1, y1⟩⟩) fun v s1 h1 => thn h1 fun itv s2 h2 => ?_)
  obtain ⟨it, fp, tn, J, H2, e, I2, T, st2, f2, G2, e2, sa2, Yi⟩ := h2
  subst e
  have ho2 : ∀ b ∈ fp, ∃ o, s2.heap.get? b = some o := fun b hb => let ⟨o, q, _⟩ := T.obj 0 _ st2 b hb; ⟨o, q⟩
  have hlt : ∀ b ∈ fp, b < s2.heap.objs.size := fun b hb => let ⟨o, q⟩ := ho2 b hb; Heap.lt_size q
  unfold newList
  refine wpAny_newObj_type (newEnv_comp fun bb hbb => ?_)
  have hbb' : bb = X.env.builtins := hbb
  subst hbb'
  have hz1 : (s2.heap.push { cls := .type "list", dict := none, data := .seq ([] : List Value).toArray }).objs.size = s2.heap.objs.size + 1 := Heap.size_push ..
  dsimp only
  rw [hz1]
  generalize hD : s2.heap.objs.size = dd at hz1 ⊢
  -- the block's own context
  have en2 : EnvR X.K G2 σ ρ := en.ext e2
  obtain ⟨σ0, hσl, hσ0⟩ := ex_list (fun i (o : Option V) => (∀ d, ρ0[i]? = some (some d) → ∃ v, o = some v ∧ Is X.K G2 d v) ∧ ∀ v, o = some v → ∃ (x : Str) (j : Nat), N[i]? = some x ∧ scope.names.lookup x = some .free ∧ (∀ y ∈ scope.names, y.1 = x → y.2 ≠ .cell) ∧ X.N[j]? = some x ∧ σ[j]? = some (some v) ∧ Vis X.env.scope x) N.length (fun i hi => by
    cases q : ρ0[i]? with
    | none => exact ⟨none, And.intro (fun d z => nomatch z) (fun v z => nomatch z)⟩
    | some o =>
      cases o with
      | none => exact ⟨none, And.intro (fun d z => nomatch z) (fun v z => nomatch z)⟩
      | some d =>
        obtain ⟨x, j, q1, q2, q3, q4, q5, q6⟩ := h0 i d q
        obtain ⟨v, q7, q8⟩ := en2.get j d q5
        exact ⟨some v, And.intro (fun d' z => by cases z; exact ⟨v, rfl, q8⟩) (fun v' z => by cases z; exact ⟨x, j, q1, q2, q3, q4, q7, q6⟩)⟩)
  have en0 : EnvR X.K G2 σ0 ρ0 := ⟨hσl.trans hl0.symm, fun i d e => by
    have hi : i < σ0.length := by rw [hσl, ← hl0]; exact (List.getElem?_eq_some_iff.mp e).1
    obtain ⟨v, e1, e2⟩ := (hσ0 i σ0[i] (List.getElem?_eq_getElem hi)).1 d e
    exact ⟨v, by rw [List.getElem?_eq_getElem hi, e1], e2⟩⟩
  have I3 := inv_comp (N := N) (scope := scope) (fp := fp) (σ0 := σ0) I2 f2 ho2 hk hfr hσl (fun i v e => (hσ0 i _ e).2 v rfl) s2.toks { cls := .type "list", dict := none, data := .seq ([] : List Value).toArray }
  have I3 : L2.Inv (cxE X N scope s2 H2 fp (notedBy (model X.prog X.w) X.A (cxC X N scope s2 H2 fp).env fun x s' => compPost (model X.prog X.w) X.A X.xe none Q (.ref dd) (dd + 1) (.error x) s')) [] σ0 H2 _ := I3.as (E := notedBy (model X.prog X.w) X.A (cxC X N scope s2 H2 fp).env fun x s' => compPost (model X.prog X.w) X.A X.xe none Q (.ref dd) (dd + 1) (.error x) s') (by intro _; exact I2.ok.hd hc) I2.ok.frames (fun p hp => by simp at hp)
  generalize hY : cxE X N scope s2 H2 fp (notedBy (model X.prog X.w) X.A (cxC X N scope s2 H2 fp).env fun x s' => compPost (model X.prog X.w) X.A X.xe none Q (.ref dd) (dd + 1) (.error x) s') = Y at I3
  have hD1 : (pushCells ((s2.heap.push { cls := .type "list", dict := none, data := .seq ([] : List Value).toArray }).push { cls := .type "dict", data := .dict #[] }) scope.names).get? dd = some (lstO []) := by
    refine pushCells_keeps _ _ _ _ (Heap.get?_push_of_some _ ?_)
    rw [← hD]
    exact Heap.get?_push_size _ rfl
  have hHD : H2 dd = none := I2.hok.fresh (by rw [hD]; exact Nat.le_refl _)
  have hsD : s2.heap.get? dd = none := Heap.get?_none_of_le (by rw [hD]; exact Nat.le_refl _)
  have hDC : dd ≠ Y.env.locals := by
    rw [← hY]; show dd ≠ s2.heap.objs.size + 1; rw [hD]; exact Nat.ne_of_lt (Nat.lt_succ_self _)
  have hfs : ∀ b ∈ frs X.stack, b < s2.heap.objs.size := fun b hb => by
    rcases List.mem_cons.mp (I2.stkSub b hb) with q | q
    · rw [q]; exact I2.lt
    · exact Nat.lt_of_not_le fun z => I2.nofs z q
  have hYfs : Y.fs = frs X.stack := by rw [← hY]; rfl
  have hDfs : dd ∉ Y.fs := fun z => by rw [hYfs] at z; have := hfs dd z; rw [hD] at this; exact Nat.lt_irrefl _ this
  have hYex : Y.ex = fp := by rw [← hY]; rfl
  have hYpn : Y.pn = [] := by rw [← hY]
  have hYxe : Y.xe = notedBy (model X.prog X.w) X.A Y.env fun x s' => compPost (model X.prog X.w) X.A X.xe none Q (.ref dd) (dd + 1) (.error x) s' := by rw [← hY]
  have hYs : Y.s₀.heap.objs.size = dd := by rw [← hY]; exact hD
  have hYc : ∀ x c, Y.env.cells.lookup x = some c → c ≠ dd ∧ ∀ b ∈ fp, c ≠ b := fun x c e => by
    refine ⟨?_, fun b hb => ?_⟩
    · intro z
      subst z
      obtain ⟨v, o, q1, q2⟩ := I3.cell x c e
      rw [hD1] at q1; cases q1; cases q2
    · have := I3.ok.exf b (by rw [hYex]; exact hb)
      exact this.2 x c e
  have fpY : ∀ {H' : Hp} {pl : List (Addr × Obj)}, (∀ b ∈ fp, H' b = none) → (∀ p ∈ pl, p.1 = dd) → ∀ b ∈ fp, FpOk Y pl H' b := fun hn hp b hb => ⟨hn b hb, (I3.ok.exf b (by rw [hYex]; exact hb)).1, I3.ok.exfs b (by rw [hYex]; exact hb), .inl (by rw [hYex]; exact hb), fun x c e => (hYc x c e).2 b hb, fun p hq => by
    rw [hYpn, List.nil_append] at hq
    rw [hp p hq]
    exact Nat.ne_of_gt (by rw [← hD]; exact hlt b hb)⟩
  have I4 : L2.Inv Y [(dd, lstO [])] σ0 H2 { s2 with heap := pushCells ((s2.heap.push { cls := .type "list", dict := none, data := .seq ([] : List Value).toArray }).push { cls := .type "dict", data := .dict #[] }) scope.names, toks := s2.toks } := I3.pins_of fun p hp => by
    rw [List.mem_singleton.mp hp]
    exact ⟨hD1, hHD, hDC, hDfs, fun v z => by cases z⟩
  have st4 : tn 0 (pushCells ((s2.heap.push { cls := .type "list", dict := none, data := .seq ([] : List Value).toArray }).push { cls := .type "dict", data := .dict #[] }) scope.names) := T.keep 0 _ _ st2 fun b hb o e => pushCells_keeps _ _ b o (Heap.get?_push_of_some _ (Heap.get?_push_of_some _ e))
  have hYp : Y.prog = X.prog := by rw [← hY]; rfl
  have hYw : Y.w = X.w := by rw [← hY]; rfl
  have hYK : Y.K = X.K := by rw [← hY]; rfl
  have hYA : Y.A = X.A := by rw [← hY]
  have hYcm : Y.calm = true := by rw [← hY]; exact hc
  have loop : ∀ s3 : Shared, s3 = { s2 with heap := pushCells ((s2.heap.push { cls := .type "list", dict := none, data := .seq ([] : List Value).toArray }).push { cls := .type "dict", data := .dict #[] }) scope.names } →
      codeAny (model X.prog X.w) X.A (.compLoop (.ListComp elt [⟨tg, iter, [], 0⟩] scope pos) 0 (.ref it) (.ref dd) Y.env) (compPost (model X.prog X.w) X.A X.xe none Q (.ref dd) (dd + 1)) s3 := by
    rintro s3 rfl
    refine compLoop_anyX (fun n s' => ∃ (i : Nat) (G' : Wd) (σ' : L2.St) (H' : Hp) (vs : List V) (its : List Value), (∀ k, k < i → ok k) ∧ n = xs.length - i ∧ i ≤ xs.length ∧ L2.Inv Y [(dd, lstO its)] σ' H' s' ∧ tn i s'.heap ∧ (∀ b ∈ fp, H' b = none) ∧ Ext G2 G' ∧ SA X.K G' H' O ∧ EnvR X.K G' σ' ρ0 ∧
      Iss X.K G' (zs.take i) vs ∧ Vals vs its ∧ its.length ≤ i) ?_ xs.length _ ⟨0, G2, σ0, H2, [], [], fun k z => absurd z (Nat.not_lt_zero k), rfl, Nat.zero_le _, I4, st4, fun b hb => (f2 b hb).1, Ext.refl _, sa2, en0, .nil, .nil, Nat.le_refl _⟩
    rintro n s5 ⟨i, G5, σ5, H5, vs, its, okI, rfl, hil, I5, st5, fr5, e5, sa5, en5, is5, va5, hl5⟩
    by_cases hlt5 : i < xs.length
    · have hx : xs[i]? = some xs[i] := List.getElem?_eq_getElem hlt5
      have hzi : i < zs.length := by omega
      have hz : zs[i]? = some zs[i] := List.getElem?_eq_getElem hzi
      generalize xs[i] = x at hx
      generalize zs[i] = z at hz
      have it5 := T.item Y hYp hYw hYK hYcm i [(dd, lstO its)] s5 σ5 H5 (notedBy (model X.prog X.w) X.A Y.env fun x s' => compPost (model X.prog X.w) X.A X.xe none Q (.ref dd) (dd + 1) (.error x) s') I5 (fpY fr5 (fun p hp => by rw [List.mem_singleton.mp hp])) st5 (Yi.go i H5 (e5.g.trans sa5.sub) hlt5)
      rw [hYA] at it5
      refine thn it5 fun r s6 ⟨u, hr, h6⟩ => ?_
      subst hr
      refine thn h6 fun _ s7 ⟨xv, H7, I7, r7, y7, st7, fr7⟩ => ?_
      obtain ⟨x', G7, hx', e7, sa7, ix⟩ := Yi.yld i xv H5 H7 G5 O e5 sa5 y7 hlt5
      have : x' = x := Option.some.inj (hx'.symm.trans hx)
      subst this
      have I7' := I7.pinned (fpY fr7 (fun p hp => by rw [List.mem_singleton.mp hp])) (T.obj _ _ st7)
      obtain ⟨ρ1, tg1, hl1, hs1, kp1⟩ := turn s2 H2 fp (notedBy (model X.prog X.w) X.A (cxC X N scope s2 H2 fp).env fun x s' => compPost (model X.prog X.w) X.A X.xe none Q (.ref dd) (dd + 1) (.error x) s') i x' z hx hz okI
      rw [hY] at tg1 kp1
      have xeF : ∀ {α : Type} {t : Sem α} {P : α → Shared → Prop} {q : Shared}, wpAny (model Y.prog Y.w) Y.A t P Y.xe q → wpAny (model X.prog X.w) X.A t P (notedBy (model X.prog X.w) X.A Y.env fun x s' => compPost (model X.prog X.w) X.A X.xe none Q (.ref dd) (dd + 1) (.error x) s') q := fun h => by
        rw [hYp, hYw, hYA, hYxe] at h
        exact h
      refine thn (xeF (tg1 G7 _ s7 σ5 H7 xv u (fun σ' H' => EnvR X.K G7 σ' ρ1 ∧ H' = H7) I7' r7 (by
        rw [hYK]
        exact ⟨ix, sa7.sub, en5.ext e7, fun σ' q => ⟨q, rfl⟩⟩))) fun _ s8 ⟨σ8, H8, I8, en8, hH8⟩ => ?_
      subst hH8
      -- back to the invariant, with or without one more
      have again : ∀ {s9 : Shared} {H9 : Hp} {G9 : Wd} {its' : List Value} {vs' : List V}, L2.Inv Y ((dd, lstO its') :: pinsAt fp s7.heap) σ8 H9 s9 → Ext G7 G9 → SA X.K G9 H9 O → Iss X.K G9 (zs.take (i + 1)) vs' → Vals vs' its' → its'.length ≤ i + 1 → ok i →
          ∃ m, m < xs.length - i ∧ ∃ (i : Nat) (G' : Wd) (σ' : L2.St) (H' : Hp) (vs : List V) (its : List Value), (∀ k, k < i → ok k) ∧ m = xs.length - i ∧ i ≤ xs.length ∧ L2.Inv Y [(dd, lstO its)] σ' H' s9 ∧ tn i s9.heap ∧ (∀ b ∈ fp, H' b = none) ∧ Ext G2 G' ∧ SA X.K G' H' O ∧ EnvR X.K G' σ' ρ0 ∧
            Iss X.K G' (zs.take i) vs ∧ Vals vs its ∧ its.length ≤ i := fun {s9 H9 G9 its' vs'} I9 e9 sa9 is9 va9 hl9 oki => by
        refine ⟨xs.length - (i + 1), by omega, i + 1, G9, σ8, H9, vs', its', fun k z => by rcases Nat.lt_succ_iff_lt_or_eq.mp z with y | y; exact okI k y; exact y ▸ oki, rfl, hlt5, I9.pins_of (fun p hp => I9.pin p (by rw [hYpn, List.nil_append]; rw [List.mem_singleton.mp hp]; exact List.mem_cons_self)), T.keep _ _ _ st7 fun b hb o e => (I9.pin (b, o) (by rw [hYpn, List.nil_append]; exact List.mem_cons_of_mem _ (mem_pinsAt hb e))).1, fun b hb => ?_, (e5.trans e7).trans e9, sa9, (en8.weak hl1.symm hs1).ext e9, is9, va9, hl9⟩
        obtain ⟨o, e, _⟩ := T.obj _ _ st7 b hb
        exact (I9.pin (b, o) (by rw [hYpn, List.nil_append]; exact List.mem_cons_of_mem _ (mem_pinsAt hb e))).2.1
      unfold compTests
      refine wpAny_bind (wpAny_tests_nil (wpAny_pure ?_))
      simp only [if_true]
      refine thn (xeF (kp1 G7 _ s8 σ8 H8 (fun v H' => ok i ∧ ∃ G', Ext G7 G' ∧ SA X.K G' H' O ∧ Is X.K G' z v) I8 (by
        rw [hYK]
        refine ⟨sa7, en8, fun v d O' G' H' q1 q2 q3 q4 => ?_, ?_⟩
        · obtain ⟨p1, rfl, rfl⟩ := q4
          exact ⟨p1, G', q1, q2, q3⟩
        · intro C fs od σ9 ρ9 O' G' H' q1 q2 q3 q4 q5
          refine ⟨?_, fun z => z.elim⟩
          rw [← hY]
          intro pins9 H9 s9 a9 B9 s10 I9 g9
          rw [hYK] at q2 q4
          have := comp_throw (Q := Q) (acc := .ref dd) hst hfr' hex I2 f2 (ch C fs od σ ρ O' G' H' ((e2.trans (e5.trans e7)).trans q1) q2 (en.ext ((e2.trans (e5.trans e7)).trans q1)) q4 q5) I9 g9
          rw [hD] at this
          exact this))) fun uy s10 ⟨vy, H10, I10, r10, oki, G10, e10, sa10, iy⟩ => ?_
      have p10 := I10.pin (dd, lstO its) (by rw [hYpn, List.nil_append]; exact List.mem_append_left _ List.mem_cons_self)
      refine append_at (hsz := by show its.toArray.size ≤ sizeLine; rw [List.size_toArray]; omega) p10.1 fun h' hs' hD' => ?_
      have Ia : L2.Inv Y (pinsAt fp s7.heap) σ8 H10 s10 := I10.pins_of fun p hp => I10.pin p (by rw [hYpn, List.nil_append]; exact List.mem_append_right _ hp)
      have Ib : L2.Inv Y (pinsAt fp s7.heap) σ8 H10 { s10 with heap := h' } := Ia.turned (t' := s10.toks) (fun b o hb e => (hs'.2 b hb).trans e) p10.2.1 hDC (.inr (by rw [hYs]; exact Nat.le_refl _)) (fun x c e => (hYc x c e).1) (fun p hp => by
        rw [hYpn, List.nil_append] at hp
        obtain ⟨hb, _⟩ := of_pinsAt hp
        exact Nat.ne_of_lt (by rw [← hD]; exact hlt p.1 hb))
      have Ic : L2.Inv Y ((dd, lstO (its ++ [uy])) :: pinsAt fp s7.heap) σ8 H10 { s10 with heap := h' } := Ib.pins_of fun p hp => by
        rcases List.mem_cons.mp hp with q | q
        · rw [q]
          refine ⟨hD'.trans ?_, p10.2.1, hDC, hDfs, fun v z => by cases z⟩
          congr 1
          simp [lstO]
        · exact Ib.pin p (by rw [hYpn, List.nil_append]; exact q)
      refine again Ic e10 sa10 (vs' := vs ++ [vy]) ?_ (va5.append (.cons r10 .nil)) (by rw [List.length_append, List.length_singleton]; omega) oki
      rw [List.take_add_one, hz]
      exact (is5.ext (e7.trans e10)).append (.cons iy .nil)
    · have hie : i = xs.length := by omega
      subst hie
      have dn := T.done Y hYp hYw hYK hYcm xs.length [(dd, lstO its)] s5 σ5 H5 (notedBy (model X.prog X.w) X.A Y.env fun x s' => compPost (model X.prog X.w) X.A X.xe none Q (.ref dd) (dd + 1) (.error x) s') I5 (fpY fr5 (fun p hp => by rw [List.mem_singleton.mp hp])) st5 (Yi.stop _ H5 (e5.g.trans sa5.sub) (Nat.le_refl _))
      rw [hYA] at dn
      refine thn dn fun r s6 ⟨hr, I6⟩ => ?_
      subst hr
      have p6 := I6.pin (dd, lstO its) (by rw [hYpn, List.nil_append]; exact List.mem_cons_self)
      rw [← hzl, List.take_length] at is5
      have vl : vs.length ≤ sizeLine := by rw [va5.length]; omega
      have Ix : L2.Inv X pins σ (upd H5 dd (.lst vs)) s6 := by
        have un := I6.base
        rw [hYfs, hYex, ← hY] at un
        have un : Un (frs X.stack) fp H2 H5 s2.heap s6.heap := un
        refine I2.call' (ch := fp) (I6.os.trans (by rw [← hY]; rfl)) (Un_more un hHD hsD) ?_ I6.bare fun b hb => ?_
        · have hk6 := I6.hok
          rw [hYp, hYw] at hk6
          exact HOk_more hk6 p6.2.1 ⟨vl, its, its.length, va5, p6.1⟩
        · obtain ⟨_, f1, _, f3, f4, f5⟩ := f2 b hb
          exact ⟨f3, f1, f4, f5⟩
      refine fin dd (dd + 1) s6 _ _ vs okI Ix (e2.trans e5) sa5 p6.2.1 is5 ?_ ?_
      · have hC : dd + 1 = Y.env.locals := by rw [← hY]; show dd + 1 = s2.heap.objs.size + 1; rw [hD]
        have ge : s2.heap.objs.size ≤ dd + 1 := by rw [hD]; exact Nat.le_succ _
        have := I2.fpOk (H' := upd H5 dd (.lst vs)) ge (by
          have q := I6.free
          rw [← hC] at q
          rw [upd_ne (show dd + 1 ≠ dd from Nat.succ_ne_self _)]
          exact q)
        exact this
      · obtain ⟨m, hn, _⟩ := I6.loc
        rw [← hY] at hn
        have hn : s6.heap.Ns (s2.heap.objs.size + 1) m := hn
        rw [hD] at hn
        exact ⟨m, hn⟩
  have eY : Y.env = { scope := relabel scope X.env, locals := dd + 1, globals := X.env.globals, cells := cellsFrom (dd + 1 + 1) scope.names (closOf X.env scope.names []), qual := X.env.qual, func := none, code := X.env.code, frame := X.env.frame, builtins := X.env.builtins } := by
    rw [← hY]
    show compEnvC _ _ _ _ = _
    rw [hD]
    rfl
  rw [← eY]
  exact codeAny_compStart_list (loop _ rfl) (T.self X.A 0 _ _ _ st4 (loop _ rfl))
end
end DL
namespace DL
open PySem PySem.Spec PyProof.Rows L2
section
variable {X : Cx} {ρ : Rho} {O : Sto} {e c elt tg iter : Expr} {scope : Scope} {pos p : Pos} {xs : List D} {RX : XC} {st : Stmt} {rest body orelse : List Stmt} {P : Post} {R : D → Sto → Prop}
theorem evH_comp (T F : List Str) (js : List Nat) (zs : List D) (ok : Nat → Prop) (hi : EvI X ρ O tg iter xs) (hzl : zs.length = xs.length) (hsz : xs.length ≤ sizeLine)
    (turn : ∀ (i : Nat) (x z : D), xs[i]? = some x → zs[i]? = some z → (∀ k, k < i → ok k) → ∀ (s : Shared) (H : Hp) (fp : List Addr) (Fx : Value → Shared → Prop), ∃ ts : Rho, ts.length = T.length ∧ Tg (cxE X (T ++ F) scope s H fp Fx) tg x (T.map (fun _ => (none : Option D)) ++ frOf ρ js) (ts ++ frOf ρ js) ∧
      EvX (cxE X (T ++ F) scope s H fp Fx) False (ts ++ frOf ρ js) O elt (fun d O' => ok i ∧ d = z ∧ O' = O) fun C fs _ O' => RX C fs ρ O')
    (hst : X.stack = X.env :: X.outer := by rfl) (hfr' : X.env.frame = some X.env.locals := by rfl) (hex : X.ex = [] := by rfl)
    (hfl : F.length = js.length := by rfl) (hB : freeB X.N X.env.scope.names scope.names F js = true := by rfl) (hc : X.calm = true := by rfl) (hk : scope.kind = .function := by rfl) (hs : ∀ x, foldedSetIterable iter X.env x = pure x := by intro _; rfl) :
    EvH X ρ O (.ListComp elt [⟨tg, iter, [], 0⟩] scope pos) (fun d O' => (∀ k, k < xs.length → ok k) ∧ d = .lst zs ∧ O' = O) RX := fun G pins s σ H Q I ⟨h1, h2, h3, h4⟩ => by
  rw [eval_ListComp]
  refine comp_coreX (T ++ F) js (T.map (fun _ => (none : Option D)) ++ frOf ρ js) ok hst hfr' hex hi hc hk (freeB_free hB) (freeB_loc hB) (by simp [frOf, hfl]) (freeB_at hB) hzl hsz (fun s H fp Fx i x z q1 q2 q3 => ?_) I h1 h2 h4 (fun dd C s' H5 G5 vs okA I' e' sa5 hd5 is5 fo ns => ?_) hs
  · obtain ⟨ts, t1, t2, t3⟩ := turn i x z q1 q2 q3 s H fp Fx
    obtain ⟨u1, u2⟩ := sub_fr (fr := frOf ρ js) t1
    exact ⟨_, t2, u1, u2, t3⟩
  · obtain ⟨m, hn⟩ := ns
    refine ⟨m, hn, fun h' hs' => ?_⟩
    obtain ⟨f0, f1, f2, f3, f4, f5⟩ := fo
    obtain ⟨e4, s4⟩ := sa5.laid (o := .lst vs) hd5
    exact ⟨.ref dd, _, I'.turned (t' := s'.toks) (fun b o hb e => (hs'.2 b hb).trans e) f0 f1 f3 f4 f5, rfl, h3 _ _ O _ _ (e'.trans e4) s4 (.lst upd_same (is5.ext e4)) ⟨okA, rfl, rfl⟩⟩
theorem evH_tuple {zs : List D} {k : Prop} (hm : X.mg "tuple" = none) (h : EvH X ρ O e (fun d O' => k ∧ d = .lst zs ∧ O' = O) RX) (hg : Gl X "tuple" := by rfl)
    (he : starEach [e] X.env = (false, eval e X.env) :: starEach [] X.env := by rfl) (hpl : (backTo pos (starEach [] X.env)).any (·.1) = false := by rfl) : EvH X ρ O (.Call (.Name "tuple" p) [e] [] pos) (fun d O' => k ∧ d = .tup zs ∧ O' = O) RX := fun G =>
  PE.imp (pe_callTy (T := "tuple") (r := fun vs H Q => ∃ G1, SA X.K G1 H O ∧ Iss X.K G1 [.lst zs] vs ∧ ∀ w G' H', Ext G1 G' → SA X.K G' H' O → Is X.K G' (.tup zs) w → Q w H') (fun pins s σ H xs us Q I r ⟨G1, q⟩ => (c_tuple (X := X) (O := O) (d := .lst zs) (xs := zs) (.inl (.inl rfl))) G1 pins s σ H xs us Q I r q) hg hm (by first | rfl | decide +kernel) (pa_cons (h G) pa_nil he) (by decide) (by decide) he hpl)
    fun σ H Q ⟨h1, h2, h3, h4⟩ => ⟨h1, h2, fun v d O' G1 H1 e1 s1 i1 r1 => by
      obtain ⟨r, rfl, rfl⟩ := r1
      exact ⟨G1, s1, .cons i1 .nil, fun w G2 H2 e2 s2 i2 => h3 w _ _ G2 H2 (e1.trans e2) s2 i2 ⟨r, rfl, rfl⟩⟩, h4⟩
theorem _root_.DL.Ex.h_ (h : Ex X ρ O st P) : ExH X ρ O st P RX := fun G => PS.imp (h G) fun E σ H ⟨h1, h2, h3, _⟩ => ⟨h1, h2, h3⟩
theorem _root_.DL.Exs.h_ (h : Exs X ρ O rest P) : ExsH X ρ O rest P RX := fun G => PSs.imp (h G) fun E σ H ⟨h1, h2, h3, _⟩ => ⟨h1, h2, h3⟩
theorem xH_cons (h : ExH X ρ O st { P with nx := fun ρ' O' => ExsH X ρ' O' rest P RX } RX) : ExsH X ρ O (st :: rest) P RX := fun G =>
  PSs.imp (pss_cons (h G) (u := fun E σ H => ∃ G1 ρ1 O1, SA X.K G1 H O1 ∧ EnvR X.K G1 σ ρ1 ∧ ExsH X ρ1 O1 rest P RX ∧ Conts X.K G1 P E ∧ ContH X G1 RX) (fun pins s σ H E I ⟨G1, ρ1, O1, q1, q2, q3, q4, q5⟩ => q3 G1 pins s σ H E I ⟨q1, q2, q4, q5⟩)) fun E σ H ⟨h1, h2, h3, h4⟩ =>
    ⟨h1, h2, ⟨fun σ1 ρ1 O1 G1 H1 e1 s1 n1 q1 => ⟨G1, ρ1, O1, s1, n1, q1, h3.ext e1, h4.ext e1⟩, h3.rt, h3.bk, h3.ct⟩, h4⟩
theorem xH_ret (h : EvH X ρ O e P.rt RX) : ExH X ρ O (.Return (some e) pos) P RX := fun G => PS.imp (ps_ret (h G)) fun E σ H ⟨h1, h2, h3, h4⟩ => ⟨h1, h2, fun v d O' G' H' e1 s1 i1 r1 => h3.rt v d O' G' H' e1 s1 i1 r1, h4⟩
theorem EvH.imp {R' : D → Sto → Prop} (h : EvH X ρ O e R RX) (k : ∀ d O', R d O' → R' d O') : EvH X ρ O e R' RX := fun G => PE.imp (h G) fun σ H Q ⟨h1, h2, h3, h4⟩ => ⟨h1, h2, fun v d O' G' H' e1 s1 i1 r1 => h3 v d O' G' H' e1 s1 i1 (k d O' r1), h4⟩
end
section
variable {P : Program} {w : World} {K : PySem.W.Frag} {mg : Str → Option Value} {base : Heap}
theorem okXH {x qual : Str} {st : Stmt} {f : Addr} {fd : FuncData} {N ps : List Str} {k : Nat} {sp : SpX} (F : Fun K x qual st f fd) (S : FnScope N ps (defScope st)) (len : ∀ ds O R RX, sp ds O R RX → ds.length = ps.length)
    (hbody : ∀ (cdv : Value) (A : Around) (outer : List Env) (s : Shared) (H : Hp) (E : XK) (ds : List D) (O : Sto) (R : D → Sto → Prop) (RX : XR), Room k (A.deeper (envOfC qual (defScope st) s.heap.objs.size f cdv)) → sp ds O R RX →
      ExsH (cxOf (CX1 P w) P w K mg base N qual (defScope st) f cdv A outer s H E) (startD N ds) O (defBody st) { nx := fun _ O' => R .non O', rt := R } fun C fs _ O' => RX C fs O') : FnOk P w K mg base (CX1 P w) (k + 1) f fd ps (toSpX K sp) := by
  obtain ⟨oc, od, kV, doc, pm, an, cdv, ct, osl, rfl, lk, hcd⟩ := F.ex
  refine fn_of lk hcd S (fun vs H Q E h => ?_) fun A outer s H vs Q E hr h => ?_
  · obtain ⟨G, O, ds, R, RX, h1, h2, h3, h4⟩ := h
    rw [← h2.length]
    exact len _ _ _ _ h3
  · obtain ⟨G, O, ds, R, RX, h1, h2, h3, h4, h5⟩ := h
    refine ⟨_, hbody cdv A outer s H E ds O R RX hr h3 G, h1, start_env h2, ⟨fun σ ρ O' G' H' e1 s1 n1 q => h4 _ _ O' G' H' e1 s1 .non q, fun v d O' G' H' e1 s1 i1 q => h4 v d O' G' H' e1 s1 i1 q, fun σ ρ O' G' H' e1 s1 n1 q => q.elim, fun σ ρ O' G' H' e1 s1 n1 q => q.elim⟩, ?_⟩
    intro C fs od σ ρ O' G' H' e1 s1 n1 f1 r1
    have hE := h5 C fs od O' G' H' e1 s1 f1 r1
    exact fun pins s1 a t B I fl hd old trk => passH I fl hd old trk hE
end
end DL
set_option Elab.async false
set_option linter.all false
set_option maxRecDepth 100000
set_option maxHeartbeats 1000000
namespace DL
open PySem PySem.Spec PyProof.Rows L2
section
variable {prog : Program} {w : World} {A : Around} {E : Value → Shared → Prop} {s : Shared}
theorem entry_unchain : entryFor table "proto.unchain" = some Builtin.«proto.unchain» := entryFor_of_fast (by kernel_rfl)
theorem unchain_none {e : Value} {a : Addr} {oa : Obj} {va : Array Value} {Q : Value → Shared → Prop} (ho : s.heap.get? a = some oa) (hd : oa.data = .fields va) (h2 : va[2]? = some .none) (hQ : Q .none s) :
    wpAny (model prog w) A (runValue (.builtin "proto.unchain" ⟨[e, .ref a, .ref a, .bool false], []⟩)) Q E s := by
  refine runValue_entry entry_unchain ?_
  unfold Builtin.«proto.unchain»
  dsimp only
  refine wpAny_bind (wpAny_field ho hd h2 ?_)
  rw [if_pos (by rfl)]
  exact wpAny_bind (wpAny_pure (wpAny_pure ⟨.none, rfl, hQ⟩))
theorem list_endH {it l a : Addr} {i : Nat} {items : Array Value} {oa : Obj} {va : Array Value} {Q : Option Value → Shared → Prop} (hh : A.handled = some (.ref a)) (ho2 : s.heap.get? a = some oa) (hda : oa.data = .fields va) (h2 : va[2]? = some .none) (hne : a ≠ it)
    (hit : s.heap.IsListIter it l i) (hl : s.heap.IsList l items) (hx : items[i]? = none) (hQ : ∀ h', Heap.ExtBut it s.heap h' → Q none { s with heap := h' }) : wpAny (model prog w) A (pyNext (.ref it)) Q E s := by
  obtain ⟨o, ho, hc, hd⟩ := id hit
  obtain ⟨ol, hol, _, nl, hdl⟩ := hl
  unfold pyNext
  refine wpAny_bind (wpAny_attempt (wpAny_callSpecial?_slot (name := Str.ofString "__next__") hit.typeIs slot_listiter_next (wpAny_call_entry slot_listiter_next hit.typeIs entry_listiter_next ?_ (args_listiter_next _))))
  show wpAny _ _ (field (.ref it) 0 >>= _) _ _ s
  refine wpAny_bind (wpAny_field ho hd (x := .ref l) rfl ?_)
  show wpAny _ _ (if (Value.ref l == Value.none) = true then _ else _) _ _ s
  rw [if_neg (show ¬ ((Value.ref l == Value.none) = true) from Bool.false_ne_true)]
  show wpAny _ _ (field (.ref it) 1 >>= _) _ _ s
  refine wpAny_bind (wpAny_field ho hd (x := .int i 0) rfl ?_)
  show wpAny _ _ (seqItems? (.ref l) >>= _) _ _ s
  refine wpAny_bind (wpAny_seqItems hol hdl ?_)
  simp only [Int.toNat_natCast, hx]
  refine wpAny_bind (wpAny_rule (wpAny_bind (wpAny_setField ho hd (by simp) ?_)))
  show wpAny _ _ (newExc (.type "StopIteration") [] >>= _) _ _ _
  refine wpAny_bind ?_
  simp only [newExc, newTuple]
  refine wpAny_bind (wpAny_newObj_type ?_ (by size_fits))
  refine wpAny_bind (m := firstArgMember _ _) (wpAny_of_eq (a := Value.none) (by first | rfl | (simp only [firstArgMember]; rfl)) ?_)
  refine wpAny_newObj_type ?_ (by size_fits)
  have eb := ((Heap.SameBut.update s.heap it (Obj.mapFields fun vs => vs.setIfInBounds 0 Value.none)).extBut.push { cls := .type "tuple", data := .seq ([] : List Value).toArray })
  simp only [raiseNew]
  refine wpAny_bind (wpAny_handled ?_)
  rw [show A.in1.handled = some (.ref a) from hh]
  dsimp only
  have hlt : a < s.heap.objs.size := Heap.lt_size ho2
  rw [if_pos (by
    rw [bne_iff_ne]
    intro z
    injection z with z
    rw [z] at hlt
    simp [Heap.size_push, Heap.size_update] at hlt
    exact absurd hlt (Nat.not_lt.mpr (Nat.le_succ _)))]
  refine wpAny_bind (wpAny_holding (unchain_none (a := a) (oa := oa) (va := va) (Heap.get?_push_of_some _ (Heap.get?_push_of_some _ ((Heap.get?_update_other _ _ (Ne.symm hne)).trans ho2))) hda h2 ?_))
  refine wpAny_bind ?_
  show wpAny _ _ (setField (.ref _) 2 (.ref a)) _ _ _
  refine wpAny_setField (Heap.get?_push_size _ rfl) rfl (by simp; omega) ?_
  refine wpAny_throw ?_
  refine wpAny_bind (wpAny_isInstance (T := "StopIteration") (b := true) ⟨_, Heap.get?_update_self _ (Heap.get?_push_size _ rfl) rfl, rfl⟩ isSubtype_stop ?_)
  refine wpAny_pure (hQ _ ?_)
  have eb2 := eb.push { cls := .type "StopIteration", data := .fields (#[.ref (s.heap.update it (Obj.mapFields fun vs => vs.setIfInBounds 0 Value.none)).objs.size, .none, .none, .none, .bool false, .none] ++ ownMembersOf (.type "StopIteration") []) }
  intro b o' hb e
  refine (Heap.get?_update_other _ _ ?_).trans (eb2 b o' hb e)
  have hlb : b < s.heap.objs.size := Heap.lt_size e
  intro z
  rw [← z] at hlb
  simp [Heap.size_push, Heap.size_update] at hlb
  exact absurd hlb (Nat.not_lt.mpr (Nat.le_succ _))
theorem walks_listH {a : Addr} {oa : Obj} {va : Array Value} (hh : A.handled = some (.ref a)) (hda : oa.data = .fields va) (h2 : va[2]? = some .none) (I ax : Addr) (hne : ax ≠ I) (ha : a ≠ I) (items : Array Value) :
    Walks prog w A I [I, ax, a] [I] items.size (fun i v => items[i]? = some v) (fun i h => h.IsListIter I ax i ∧ h.IsList ax items ∧ h.get? a = some oa) where
  sub := fun b hb => by rw [List.mem_singleton.mp hb]; exact List.mem_cons_self
  frame := fun _ _ _ st hk => ⟨st.1.at fun o e => hk I (by simp) o e, st.2.1.at fun o e => hk ax (by simp) o e, hk a (by simp) _ st.2.2⟩
  item := fun i s Q E hi st hQ => by
    refine wpAny_pyNext_list_item st.1 st.2.1 (x := items[i]) (by simp [hi]) fun h' hit' hs' => ?_
    exact hQ _ h' s.toks (by simp [hi]) ⟨hit', st.2.1.extBut hs'.extBut hne, hs'.extBut a _ ha st.2.2⟩ fun b o hb e => hs'.extBut b o (fun h => hb (by simp [h])) e
  done := fun s Q E st hQ => list_endH hh st.2.2 hda h2 ha st.1 st.2.1 (by simp) fun h' he' => hQ h' s.toks fun b o hb e => he' b o (fun h => hb (by simp [h])) e
  self := fun _ _ _ _ st hQ => wpAny_pyIter_listiter st.1 hQ
end
section
variable {X : Cx} {O : Sto} {d : D} {q : Nat} {C ah : Addr} {fs : List (Str × D)}
theorem c_anyH {bs : List Bool} (hq : O[q]? = some (some (.exc C fs (some ah)))) (h : LV O d (bs.map D.bl)) (hh : X.A.handled = some (.ref ah)) : CallD X O (.builtin "any") [d] (.bl (bs.any id)) := fun G pins s σ H vs us Q I r ⟨h1, h2, h3⟩ => by
  cases h2 with | cons i r2 =>
  cases r2
  obtain ⟨ad, ws, rfl, q1, is⟩ := h.sq h1 i
  obtain ⟨u, rfl, ru⟩ := vals1 r
  cases ru
  obtain ⟨its, va, sq, _⟩ := Inv_sq (k := true) I q1
  have sq : s.heap.IsList ad its.toArray := sq
  have e1 := is.length
  have e2 := va.length
  rw [List.length_map] at e1
  obtain ⟨a', g1, g2, ob, g3, ⟨_, ww, g5⟩, _, g7⟩ := h1.mt q _ hq
  obtain ⟨rfl, g8⟩ := g7 ah rfl
  obtain ⟨ho, _⟩ := I.hok _ _ g3
  have hx2 : ww[2]? = some .none := by
    unfold L2.ctxOf at g8
    rw [g5] at g8
    exact g8
  have hv : ∀ (i : Nat) (v : Value), its[i]? = some v → v = .bool (bs.getD i true) := fun i v hv => by
    have hi : i < bs.length := by rw [e1, e2]; exact (List.getElem?_eq_some_iff.mp hv).1
    obtain ⟨w, hw, iw⟩ := is.get (i := i) (d := .bl bs[i]) (by simp [hi])
    obtain ⟨z, hz, rz⟩ := va.get hw
    rw [hv] at hz
    cases hz
    cases iw
    rw [getD_in hi]
    exact rz
  have hl : ad < s.heap.objs.size := ssq_lt (k := true) sq
  have ha : a' < s.heap.objs.size := Heap.lt_size ho
  have eb : (List.range its.toArray.size).any (fun i => bs.getD i true) = bs.any id := by
    have : bs = (List.range bs.length).map fun i => bs.getD i true := by
      apply List.ext_getElem
      · simp
      · intro i h1 h2; simp; rw [List.getElem?_eq_getElem h1]; rfl
    conv => rhs; rw [this, List.any_map]
    rw [show its.toArray.size = bs.length by rw [List.size_toArray]; omega]
    rfl
  have tr : TruthOf X.prog X.w X.A.in1 (fun i v => its.toArray[i]? = some v) (fun i => bs.getD i true) := fun i v s Q E hP hQ => by
    rw [hv i v (by simpa using hP)]; exact wpAny_truthy_bool hQ
  refine call_any_walk (wpAny_pyIter_list sq ⟨_, _, _, _, _, _, _, rfl, walks_listH (A := X.A.in1) hh g5 hx2 s.heap.objs.size ad (Nat.ne_of_lt hl) (Nat.ne_of_lt ha) its.toArray, ⟨⟨_, Heap.get?_push_size _ rfl, rfl, rfl⟩, Heap.IsList.push sq _, Heap.get?_push_of_some _ ho⟩, tr, fun h' tk kp => ?_⟩)
  rw [eb]
  exact ⟨.bl _, H, I.kept fun b o e => kp b o (by simpa using Nat.ne_of_lt (Heap.lt_size e)) (Heap.get?_push_of_some _ e), rfl, h3 _ G H (Ext.refl _) h1 (.bl _)⟩
end
end DL
set_option Elab.async false
set_option linter.all false
set_option maxRecDepth 100000
set_option maxHeartbeats 1000000
namespace L2
open PySem PySem.Spec PyProof.Rows
def repS (x : Str) (n : Int) : Str := ⟨(List.replicate n.toNat x.cps).foldl (· ++ ·) #[]⟩
theorem repS_len {x : Str} (hx : x.length = 1) (n : Int) : (repS x n).length = n.toNat := by
  show ((List.replicate n.toNat x.cps).foldl (· ++ ·) #[]).size = _
  rw [fold_sz]
  have : x.cps.size = 1 := hx
  rw [this]
  simp
theorem fold_mem {α : Type} (a : Array α) (c : α) : ∀ (k : Nat) (acc : Array α), c ∈ ((List.replicate k a).foldl (· ++ ·) acc).toList → c ∈ acc.toList ∨ c ∈ a.toList
  | 0, acc, h => .inl h
  | k + 1, acc, h => by
    rw [List.replicate_succ, List.foldl_cons] at h
    rcases fold_mem a c k _ h with h | h
    · rw [Array.toList_append] at h
      exact List.mem_append.mp h
    · exact .inr h
theorem repS_mem {x : Str} {n : Int} {c : Nat} (h : c ∈ (repS x n).cps.toList) : c ∈ x.cps.toList := (fold_mem x.cps c n.toNat #[] h).resolve_left (by simp)
theorem op_repS1 {X : Cx} : OpR X (binaryOp .Mult) (fun v y H Q => ∃ (x : Str) (n : Int), v = .str x ∧ y = .int n ∧ x.length = 1 ∧ (2 ≤ n ∧ n ≤ 10000) ∧ Q (.str (repS x n)) H) := by
  intro pins s σ H x y v u Q I rx ry ⟨x', n, ex, ey, hl, hn, q⟩
  subst ex ey
  obtain ⟨t, rfl⟩ := (show ∃ t, v = Value.str x' t from rx)
  obtain ⟨t', rfl⟩ := (show ∃ t', u = Value.int n t' from ry)
  refine P.mul_str (by rw [decide_eq_false (by omega), decide_eq_false (by omega)]; rfl) (fun _ _ => ?_) (fun _ _ => ?_) ?_
  · rw [hl]
    have h : (1 : Int) ≤ (2 ^ 63 - 1) / n := (Int.le_ediv_iff_mul_le (by omega)).mpr (by omega)
    omega
  · rw [hl]
    exact decide_eq_false (by rw [sizeLine_eq]; omega)
  · rw [if_neg (by omega)]
    rw [if_neg (by rw [hl]; simp; omega)]
    refine ⟨?_, ⟨.str _, H, I.tok _, ⟨_, rfl⟩, q⟩⟩
    have := repS_len hl n
    show (repS x' n).length ≤ _
    rw [this, sizeLine_eq]
    omega
end L2
namespace DL
open PySem PySem.Spec PyProof.Rows L2
theorem o_repS1 {X : Cx} {O : Sto} {x : Str} {n : Int} (hl : x.length = 1) (hn : 2 ≤ n ∧ n ≤ 10000) : Op2 X O (binaryOp .Mult) (.str x) (.int n) (.str (repS x n)) := .of op_repS1 fun G v u H Q s h1 h2 k => by
  cases h1; cases h2
  exact ⟨x, n, rfl, rfl, hl, hn, k _ G H (Ext.refl _) s (.str _)⟩
theorem o_catP {X : Cx} {O : Sto} {q : Nat} {xs ys : List D} (hq : O[q]? = some (some (.lst xs))) (hz : xs.length + ys.length ≤ sizeLine) : Op2 X O (binaryOp .Add) (.ptr q) (.lst ys) (.lst (xs ++ ys)) := .of op_cat fun G v u H Q s h1 h2 k => by
  cases h1 with
  | ptr _ ha =>
    cases h2 with
    | lst g2 r2 =>
      obtain ⟨a, g1, _, vs, h3, r1⟩ := s.mt q _ hq
      cases Option.some.inj (ha.symm.trans g1)
      refine ⟨_, _, _, _, rfl, rfl, h3, s.sub _ _ g2, by rw [← r1.length, ← r2.length]; exact hz, fun p hp => ?_⟩
      obtain ⟨e4, s4⟩ := s.laid (o := .lst _) hp
      exact k _ _ _ e4 s4 (.lst upd_same ((r1.append r2).ext e4))
theorem npDs_strs (l : List Str) : npDs (l.map D.str) = true := npDs_map (fun _ => rfl) l
end DL
set_option Elab.async false
set_option linter.all false
set_option maxRecDepth 100000
set_option maxHeartbeats 4000000
namespace My
open PySem PySem.Spec PyProof.Rows L2 DL
def top (i : Nat) : Stmt := PySem.Challenge.pw_heedwise_k15_first_bad_row.main.body.getD i (.Pass ⟨0, 0, 0, 0⟩)
abbrev s_NoRow___init__ : Stmt := inClass (top 3) 0
abbrev N_NoRow___init__ : List Str := ["self", "number"]
theorem sc_NoRow___init__ : FnScope N_NoRow___init__ ["self", "number"] (defScope s_NoRow___init__) := ⟨rfl, rfl, rfl, by decide +kernel, rfl, by decide +kernel, by decide +kernel⟩
abbrev s_is_in_figures : Stmt := top 12
abbrev N_is_in_figures : List Str := ["most", "word"]
theorem sc_is_in_figures : FnScope N_is_in_figures ["most", "word"] (defScope s_is_in_figures) := ⟨rfl, rfl, rfl, by decide +kernel, rfl, by decide +kernel, by decide +kernel⟩
abbrev s_is_number : Stmt := top 13
abbrev N_is_number : List Str := ["scale", "word"]
theorem sc_is_number : FnScope N_is_number ["scale", "word"] (defScope s_is_number) := ⟨rfl, rfl, rfl, by decide +kernel, rfl, by decide +kernel, by decide +kernel⟩
abbrev s_are_words : Stmt := top 14
abbrev N_are_words : List Str := ["many", "scale", "words"]
theorem sc_are_words : FnScope N_are_words ["many", "scale", "words"] (defScope s_are_words) := ⟨rfl, rfl, rfl, by decide +kernel, rfl, by decide +kernel, by decide +kernel⟩
abbrev s_what_of : Stmt := top 15
abbrev N_what_of : List Str := ["word"]
theorem sc_what_of : FnScope N_what_of ["word"] (defScope s_what_of) := ⟨rfl, rfl, rfl, by decide +kernel, rfl, by decide +kernel, by decide +kernel⟩
abbrev s_read_row : Stmt := top 16
abbrev N_read_row : List Str := ["many", "scale", "number", "row", "words"]
theorem sc_read_row : FnScope N_read_row ["many", "scale", "number", "row"] (defScope s_read_row) := ⟨rfl, rfl, rfl, by decide +kernel, rfl, by decide +kernel, by decide +kernel⟩
abbrev s_read : Stmt := top 17
abbrev N_read : List Str := ["many", "scale", "text"]
theorem sc_read : FnScope N_read ["many", "scale", "text"] (defScope s_read) := ⟨rfl, rfl, rfl, by decide +kernel, rfl, by decide +kernel, by decide +kernel⟩
abbrev s_l_cell_at : Stmt := top 19
abbrev N_l_cell_at : List Str := ["_law_script", "_law_k"]
theorem sc_l_cell_at : FnScope N_l_cell_at ["_law_script", "_law_k"] (defScope s_l_cell_at) := ⟨rfl, rfl, rfl, by decide +kernel, rfl, by decide +kernel, by decide +kernel⟩
abbrev s_l_stream : Stmt := top 20
abbrev N_l_stream : List Str := ["_law_cell", "_law_many_here", "_law_found", "_law_number", "_law_k"]
theorem sc_l_stream : FnScope N_l_stream ["_law_cell", "_law_many_here"] (defScope s_l_stream) := ⟨rfl, rfl, rfl, by decide +kernel, rfl, by decide +kernel, by decide +kernel⟩
abbrev s_l_many : Stmt := top 21
abbrev N_l_many : List Str := ["_law_script", "_law_many_here", "_law_scale"]
theorem sc_l_many : FnScope N_l_many ["_law_script"] (defScope s_l_many) := ⟨rfl, rfl, rfl, by decide +kernel, rfl, by decide +kernel, by decide +kernel⟩
abbrev s_l_cells : Stmt := top 22
abbrev N_l_cells : List Str := ["_law_script", "_law_first", "_law_cell"]
theorem sc_l_cells : FnScope N_l_cells ["_law_script", "_law_first"] (defScope s_l_cells) := ⟨rfl, rfl, rfl, by decide +kernel, rfl, by decide +kernel, by decide +kernel⟩
abbrev s_l_turn : Stmt := top 23
abbrev N_l_turn : List Str := ["_law_cell", "_law_many_here", "_law_scale", "_law_numbers", "_law_said", "_law_number"]
theorem sc_l_turn : FnScope N_l_turn ["_law_cell", "_law_many_here", "_law_scale"] (defScope s_l_turn) := ⟨rfl, rfl, rfl, by decide +kernel, rfl, by decide +kernel, by decide +kernel⟩
abbrev s_l_turns : Stmt := top 24
abbrev N_l_turns : List Str := ["_law_cells_here", "_law_many_here", "_law_scale"]
theorem sc_l_turns : FnScope N_l_turns ["_law_cells_here", "_law_many_here", "_law_scale"] (defScope s_l_turns) := ⟨rfl, rfl, rfl, by decide +kernel, rfl, by decide +kernel, by decide +kernel⟩
abbrev s_l_row : Stmt := top 25
abbrev N_l_row : List Str := ["_law_turn_here", "_law_words", "_law_what"]
theorem sc_l_row : FnScope N_l_row ["_law_turn_here"] (defScope s_l_row) := ⟨rfl, rfl, rfl, by decide +kernel, rfl, by decide +kernel, by decide +kernel⟩
abbrev s_l_bad : Stmt := top 26
abbrev N_l_bad : List Str := ["_law_words", "_law_scale", "_law_cell", "_law_odd", "_law_way", "_law_at"]
theorem sc_l_bad : FnScope N_l_bad ["_law_words", "_law_scale", "_law_cell"] (defScope s_l_bad) := ⟨rfl, rfl, rfl, by decide +kernel, rfl, by decide +kernel, by decide +kernel⟩
abbrev s_l_told : Stmt := top 27
abbrev N_l_told : List Str := ["_law_many_here", "_law_scale", "_law_text", "_law_found", "e", "_law_some"]
theorem sc_l_told : FnScope N_l_told ["_law_many_here", "_law_scale", "_law_text"] (defScope s_l_told) := ⟨rfl, rfl, rfl, by decide +kernel, rfl, by decide +kernel, by decide +kernel⟩
abbrev s_law : Stmt := top 28
abbrev N_law : List Str := ["_law_script", "_law_many_here", "_law_scale", "_law_rows", "_law_lines", "_law_text", "_law_bad_here", "_law_k", "_law_at", "_law_found"]
theorem sc_law : FnScope N_law ["_law_script"] (defScope s_law) := ⟨rfl, rfl, rfl, by decide +kernel, rfl, by decide +kernel, by decide +kernel⟩
structure Txt (K : PySem.W.Frag) (mg : Str → Option Value) (C_HeedError C_NoRow C_NoTurn C_NoRule C_NoWay C_NoName C_Twice : Addr) : Prop where
  b_len : mg "len" = none
  b_tuple : mg "tuple" = none
  b_range : mg "range" = none
  b_isinstance : mg "isinstance" = none
  b_int : mg "int" = none
  b_bool : mg "bool" = none
  b_str : mg "str" = none
  b_all : mg "all" = none
  b_any : mg "any" = none
  b_enumerate : mg "enumerate" = none
  b_min : mg "min" = none
  g_FIGURES : ∃ t, mg "FIGURES" = some (.str "0123456789" t)
  g_ASLEEP : ∃ t, mg "ASLEEP" = some (.str "-" t)
  g_COLON : ∃ t, mg "COLON" = some (.str ":" t)
  m_HeedError : mg "HeedError" = some (.ref C_HeedError)
  e_HeedError : PySem.W.excIn K C_HeedError bmV "ValueError.__new__" = true
  m_NoRow : mg "NoRow" = some (.ref C_NoRow)
  t_NoRow : ExcTy K C_NoRow
  n_NoRow_number : PySem.W.findIn K (.ref C_NoRow) "number" = some none
  x_NoRow_HeedError : PySem.W.exmOne K (.ref C_NoRow) (.ref C_HeedError) = some true
  i_NoRow_NoRow : PySem.W.kitOne K (.ref C_NoRow) (.ref C_NoRow) = some true
  i_NoRow_NoTurn : PySem.W.kitOne K (.ref C_NoRow) (.ref C_NoTurn) = some false
  i_NoRow_NoRule : PySem.W.kitOne K (.ref C_NoRow) (.ref C_NoRule) = some false
  i_NoRow_NoWay : PySem.W.kitOne K (.ref C_NoRow) (.ref C_NoWay) = some false
  i_NoRow_NoName : PySem.W.kitOne K (.ref C_NoRow) (.ref C_NoName) = some false
  i_NoRow_Twice : PySem.W.kitOne K (.ref C_NoRow) (.ref C_Twice) = some false
  m_NoTurn : mg "NoTurn" = some (.ref C_NoTurn)
  m_NoRule : mg "NoRule" = some (.ref C_NoRule)
  m_NoWay : mg "NoWay" = some (.ref C_NoWay)
  m_NoName : mg "NoName" = some (.ref C_NoName)
  m_Twice : mg "Twice" = some (.ref C_Twice)
def od : Option Int → D
  | none => .non
  | some i => .int i
abbrev Tn := List (Option Int) × Int
def tD (t : Tn) : D := .tup [.tup (t.1.map od), .int t.2]
def ab (i : Int) : Int := if i < 0 then -i else i
def chg : Option Int → Int → Int
  | none, _ => 0
  | some w, z => ab (w - z)
def sat (t : Tn) (k : Nat) : Option Int := (t.1[k]?).getD none
def chgAt (k : Nat) (t : Tn) : Int := chg (sat t k) t.2
theorem od_np (o : Option Int) : npD (od o) = true := by cases o <;> rfl
theorem tD_np (t : Tn) : npD (tD t) = true := by
  show (npDs (t.1.map od) && (true && true)) = true
  rw [npDs_map od_np]
  rfl
def Len (m : Nat) (ts : List Tn) : Prop := ts.length ≤ 63 ∧ ∀ t ∈ ts, t.1.length = m
def spCharge : List D → D → Prop := fun ds d => ∃ (w : Option Int) (z : Int), ds = [od w, .int z] ∧ d = .int (chg w z)
def spCount : List D → D → Prop := fun ds d => ∃ xs : List Int, ds = [.lst (xs.map D.int)] ∧ xs.length ≤ 63 ∧ d = .int ((xs.filter fun i => decide (0 < i)).length : Nat)
def MM : Int := 2305843009213693951
def stp (x : Int) (k : Nat) : Int := (x * x + 48271 * x + 7 * (k : Int) + 3) % 2305843009213693951
def run (k : Nat) (x : Int) : Nat → List Int
  | 0 => []
  | n + 1 => stp x k :: run (k + 1) (stp x k) n
theorem run_len : ∀ (n k : Nat) (x : Int), (run k x n).length = n
  | 0, _, _ => rfl
  | n + 1, k, x => by unfold run; rw [List.length_cons, run_len n]
def strm (c : Int) (n : Nat) : List Int := (run 0 (c % 2305843009213693951) (n + 1)).drop 1
theorem strm_len (c : Int) (n : Nat) : (strm c n).length = n := by unfold strm; rw [List.length_drop, run_len]; omega
def spStream : List D → D → Prop := fun ds d => ∃ (c : Int) (n : Nat), ds = [.int c, .int (n : Nat)] ∧ n ≤ 200 ∧ d = .lst ((strm c n).map D.int)
def cellAt (ns : List Int) (k : Int) : Int := (ns[k.toNat]?).getD 0
def spCell : List D → D → Prop := fun ds d => ∃ (ns : List Int) (k : Int), ds = [.scr (ns.map D.int), .int k] ∧ 0 ≤ k ∧ d = .int (cellAt ns k)
def preMany : List D → Prop := fun ds => ∃ ns : List Int, ds = [.scr (ns.map D.int)] ∧ ns.length ≤ 63
def relMany : List D → D → Prop := fun _ d => ∃ (m : Nat) (s : Int), d = .tup [.int (m : Nat), .int s] ∧ 1 ≤ m ∧ m ≤ 24 ∧ 1 ≤ s ∧ s ≤ 10
def sayF (s x : Int) : Option Int := if 1 < x % 8 then some (x / 8 % (s + 1)) else none
def turnF (m : Nat) (s c : Int) : Tn := (((strm c (m + 1)).drop 1).map (sayF s), ((strm c (m + 1))[0]?).getD 0 % (s + 1))
theorem turnF_len (m : Nat) (s c : Int) : (turnF m s c).1.length = m := by
  show (((strm c (m + 1)).drop 1).map (sayF s)).length = m
  rw [List.length_map, List.length_drop, strm_len]
  omega
def spTurn : List D → D → Prop := fun ds d => ∃ (c : Int) (m : Nat) (s : Int), ds = [.int c, .int (m : Nat), .int s] ∧ m ≤ 24 ∧ 1 ≤ s ∧ d = tD (turnF m s c)
def spTurns : List D → D → Prop := fun ds d => ∃ (cs : List Int) (m : Nat) (s : Int), ds = [.lst (cs.map D.int), .int (m : Nat), .int s] ∧ cs.length ≤ 63 ∧ m ≤ 24 ∧ 1 ≤ s ∧ d = .tup ((cs.map (turnF m s)).map tD)
def spRight : List D → D → Prop := fun ds d => ∃ a b : List Int, ds = [.tup (a.map D.int), .lst (b.map D.int)] ∧ d = .bl (decide (a = b))
def cells (ns : List Int) : List Int := if cellAt ns 1 / 20 % 8 = 5 then strm (cellAt ns 1 / 160) 60 else cutA ns (some 4) (some (4 + 60))
def spCells : List D → D → Prop := fun ds d => ∃ ns : List Int, ds = [.scr (ns.map D.int), .int 4] ∧ d = .lst ((cells ns).map D.int)
theorem cells_len {ns : List Int} (h : ns.length ≤ 63) : (cells ns).length ≤ 63 := by
  unfold cells
  split
  · rw [strm_len]; decide
  · exact Nat.le_trans (cutA_le _ _ _) h
abbrev sgS (c : Nat) : Str := ⟨#[c]⟩
def nS (i : Int) : Str := Str.ofString (toString i)
def wS : Option Int → Str
  | none => "-"
  | some i => nS i
def wsF (t : Tn) : List Str := t.1.map wS ++ [(":" : Str), nS t.2]
def rowS (t : Tn) : Str := Str.join " " (wsF t)
def txtS (ts : List Tn) : Str := Str.join "\n" (ts.map rowS)
def figs : List Nat := (Str.ofString "0123456789").cps.toList
def figF (most : Int) (x : Str) : Bool := if (decide ((x.length : Int) = 0) || decide (most < (x.length : Int))) = true then false else if (!((x.cps.toList.map fun c => decide (c ∈ figs)).all id)) = true then false else (!(sgS ((x.cps[0]?).getD 0) == "0") || decide ((x.length : Int) = 1))
def valF (x : Str) : Int := (PySem.intText? x).getD 0
def numF (s : Int) (x : Str) : Bool := figF ((nS s).length : Nat) x && decide (valF x ≤ s)
def awF (m : Nat) (s : Int) (ws : List Str) : Bool := if (!decide ((ws.length : Int) = (m : Nat) + 2) || !(ws.getD m "" == ":")) = true then false else if (!(((ws.take m).map fun w : Str => (w == ("-" : Str)) || numF s w).all id)) = true then false else numF s (ws.getD (m + 1) "")
def whF (x : Str) : Option Int := if (x == "-") = true then none else some (valF x)
theorem nS_len : ∀ k : Nat, k ≤ 10 → (nS k).length = (if k < 10 then 1 else 2) := by decide +kernel
theorem nS_fig2 : ∀ k : Nat, k ≤ 10 → figF 2 (nS k) = true := by decide +kernel
theorem nS_fig1 : ∀ k : Nat, k ≤ 9 → figF 1 (nS k) = true := by decide +kernel
theorem nS_val : ∀ k : Nat, k ≤ 10 → valF (nS k) = (k : Nat) := by decide +kernel
theorem nS_dash : ∀ k : Nat, k ≤ 10 → (nS k == ("-" : Str)) = false := by decide +kernel
theorem nS_free : ∀ k : Nat, k ≤ 10 → ∀ c ∈ (nS k).cps.toList, c ≠ 32 ∧ c ≠ 10 := by decide +kernel
theorem nS_num {i s : Int} (h0 : 0 ≤ i) (h1 : i ≤ s) (h2 : s ≤ 10) : numF s (nS i) = true := by
  obtain ⟨k, rfl⟩ := Int.eq_ofNat_of_zero_le h0
  obtain ⟨j, rfl⟩ := Int.eq_ofNat_of_zero_le (show 0 ≤ s by omega)
  unfold numF
  have hl := nS_len j (by omega)
  have hf : figF ((nS (j : Nat)).length : Nat) (nS (k : Nat)) = true := by
    rw [hl]
    by_cases hj : j < 10
    · rw [if_pos hj]; exact nS_fig1 k (by omega)
    · rw [if_neg hj]; exact nS_fig2 k (by omega)
  rw [hf, nS_val k (by omega), decide_eq_true (show ((k : Nat) : Int) ≤ (j : Nat) from h1)]
  rfl
theorem fig_len {most : Int} {x : Str} (h : figF most x = true) : (x.length : Int) ≠ 0 ∧ (x.length : Int) ≤ most ∧ ∀ c ∈ x.cps.toList, c ∈ figs := by
  unfold figF at h
  split at h
  · cases h
  · rename_i h1
    rw [Bool.or_eq_true, decide_eq_true_eq, decide_eq_true_eq] at h1
    split at h
    · cases h
    · rename_i h2
      refine ⟨fun z => h1 (.inl z), Int.not_lt.mp fun z => h1 (.inr z), fun c hc => ?_⟩
      have h3 : (x.cps.toList.map fun c => decide (c ∈ figs)).all id = true := by
        cases e : (x.cps.toList.map fun c => decide (c ∈ figs)).all id with
        | true => rfl
        | false => rw [e] at h2; exact absurd rfl h2
      rw [List.all_map, List.all_eq_true] at h3
      exact of_decide_eq_true (h3 c hc)
theorem fig_int {most : Int} {x : Str} (h : figF most x = true) (hm : most ≤ 600) : PySem.intText? x = some (valF x) ∧ x.length ≤ 640 := by
  obtain ⟨h1, h2, h3⟩ := fig_len h
  have hd : ∀ c ∈ figs, 48 ≤ c ∧ c ≤ 57 := by decide +kernel
  have hne : x.cps.toList ≠ [] := fun e => h1 (by
    have : x.cps.size = 0 := by rw [← Array.length_toList, e]; rfl
    show ((x.cps.size : Nat) : Int) = 0
    omega)
  have e := PySem.intText_digits (x := x) (fun c hc => hd c (h3 c hc)) hne (by omega)
  refine ⟨?_, by omega⟩
  unfold valF
  rw [e]
  rfl
theorem nS_le {s : Int} (h0 : 0 ≤ s) (h1 : s ≤ 10) : (nS s).length ≤ 2 ∧ 1 ≤ (nS s).length := by
  obtain ⟨k, rfl⟩ := Int.eq_ofNat_of_zero_le h0
  have := nS_len k (by omega)
  show (nS (k : Nat)).length ≤ 2 ∧ 1 ≤ (nS (k : Nat)).length
  rw [this]
  split <;> decide
structure GT (m : Nat) (s : Int) (t : Tn) : Prop where
  len : t.1.length = m
  say : ∀ w ∈ t.1, ∀ i, w = some i → 0 ≤ i ∧ i ≤ s
  so0 : 0 ≤ t.2
  so1 : t.2 ≤ s
theorem wS_num {s : Int} {w : Option Int} (h : ∀ i, w = some i → 0 ≤ i ∧ i ≤ s) (hs : s ≤ 10) : ((wS w == "-") || numF s (wS w)) = true ∧ whF (wS w) = w ∧ (wS w).length ≤ 2 ∧ (∀ c ∈ (wS w).cps.toList, c ≠ 32 ∧ c ≠ 10) ∧ wS w = Str.ofString (match w with | none => "-" | some i => toString i) := by
  cases w with
  | none => exact ⟨by show ((wS none == (("-" : Str))) || numF s (wS none)) = true; rw [show (wS none == (("-" : Str))) = true by decide +kernel]; rfl, by decide +kernel, by decide +kernel, by decide +kernel, rfl⟩
  | some i =>
    obtain ⟨h0, h1⟩ := h i rfl
    obtain ⟨k, rfl⟩ := Int.eq_ofNat_of_zero_le h0
    have hd := nS_dash k (by omega)
    refine ⟨by show ((nS (k : Nat) == "-") || numF s (nS (k : Nat))) = true; rw [nS_num (by omega) h1 hs, Bool.or_true], ?_, (nS_le (by omega) (by omega)).1, nS_free k (by omega), rfl⟩
    show whF (nS (k : Nat)) = some ((k : Nat) : Int)
    unfold whF
    rw [if_neg (by rw [hd]; exact Bool.false_ne_true), nS_val k (by omega)]
theorem wsF_len (t : Tn) : (wsF t).length = t.1.length + 2 := by unfold wsF; rw [List.length_append, List.length_map]; rfl
theorem aw_good {m : Nat} {s : Int} {t : Tn} (h : GT m s t) (hs : s ≤ 10) : awF m s (wsF t) = true := by
  have hl := h.len
  unfold awF
  have e1 : (wsF t).length = m + 2 := by rw [wsF_len, hl]
  have e2 : (wsF t).getD m "" = ":" := by
    unfold wsF
    rw [List.getD_eq_getElem?_getD, List.getElem?_append_right (by rw [List.length_map]; omega), List.length_map, hl, Nat.sub_self]
    rfl
  have e3 : (wsF t).getD (m + 1) "" = nS t.2 := by
    unfold wsF
    rw [List.getD_eq_getElem?_getD, List.getElem?_append_right (by rw [List.length_map]; omega), List.length_map, hl, show m + 1 - m = 1 by omega]
    rfl
  have e4 : (wsF t).take m = t.1.map wS := by
    unfold wsF
    rw [List.take_append_of_le_length (by rw [List.length_map]; omega), List.take_of_length_le (by rw [List.length_map]; omega)]
  rw [e1, e2, e3, e4, decide_eq_true (by omega), nS_num h.so0 h.so1 hs]
  have e5 : ((t.1.map wS).map fun w : Str => (w == ("-" : Str)) || numF s w).all id = true := by
    rw [List.map_map, List.all_map, List.all_eq_true]
    exact fun w hw => (wS_num (h.say w hw) hs).1
  rw [e5]
  rfl
theorem row_free {m : Nat} {s : Int} {t : Tn} (h : GT m s t) (hs : s ≤ 10) : ∀ w ∈ wsF t, (∀ c ∈ w.cps.toList, c ≠ 32 ∧ c ≠ 10) ∧ w.length ≤ 2 := by
  intro w hw
  rcases List.mem_append.mp hw with hw | hw
  · obtain ⟨o, ho, rfl⟩ := List.mem_map.mp hw
    have := wS_num (h.say o ho) hs
    exact ⟨this.2.2.2.1, this.2.2.1⟩
  · rcases List.mem_cons.mp hw with rfl | hw
    · exact ⟨by decide +kernel, by decide +kernel⟩
    · rw [List.mem_singleton.mp hw]
      have := wS_num (w := some t.2) (s := s) (fun i e => by cases e; exact ⟨h.so0, h.so1⟩) hs
      exact ⟨this.2.2.2.1, this.2.2.1⟩
theorem wsF_ne (t : Tn) : ∃ w ws, wsF t = w :: ws := by
  have := wsF_len t
  cases h : wsF t with
  | nil => rw [h] at this; cases this
  | cons w ws => exact ⟨w, ws, rfl⟩
theorem row_no {m : Nat} {s : Int} {t : Tn} (h : GT m s t) (hs : s ≤ 10) : 10 ∉ (rowS t).cps.toList ∧ (rowS t).cps.toList ≠ [] := by
  obtain ⟨w, ws, e⟩ := wsF_ne t
  have hf := row_free h hs
  unfold rowS
  rw [e] at hf ⊢
  rw [show ((" " : Str)) = ⟨#[32]⟩ by decide +kernel, join_toList]
  refine ⟨fun hc => ?_, fun hn => ?_⟩
  · rcases List.mem_append.mp hc with hc | hc
    · exact ((hf w List.mem_cons_self).1 10 hc).2 rfl
    · obtain ⟨l, hl, hc⟩ := List.mem_flatten.mp hc
      obtain ⟨v, hv, rfl⟩ := List.mem_map.mp hl
      rcases List.mem_cons.mp hc with z | hc
      · cases z
      · exact ((hf v (List.mem_cons_of_mem _ hv)).1 10 hc).2 rfl
  · have h1 := wsF_len t
    rw [e] at h1
    cases ws with
    | nil => simp at h1
    | cons v vs => simp at hn
theorem txt_ne {m : Nat} {s : Int} {ts : List Tn} (h : ∀ t ∈ ts, GT m s t) (hs : s ≤ 10) (hne : ts ≠ []) : (txtS ts == "") = false := by
  cases ts with
  | nil => exact absurd rfl hne
  | cons t ts =>
    have h1 := (row_no (h t List.mem_cons_self) hs).2
    have e : (txtS (t :: ts)).cps.toList ≠ [] := by
      unfold txtS
      rw [List.map_cons, show (("\n" : Str)) = ⟨#[10]⟩ by decide +kernel, join_toList]
      intro z
      exact h1 (List.append_eq_nil_iff.mp z).1
    rw [beq_eq_false_iff_ne]
    intro z
    exact e (by rw [z]; decide +kernel)
def rdT (m : Nat) (x : Str) : Tn := (((Txt.split x " ").take m).map whF, valF ((Txt.split x " ").getD (m + 1) ""))
def sgsD (ws : List Str) : List D := ws.map D.str
def spWord : List D → D → Prop := fun ds d => ∃ w : Option Int, ds = [od w] ∧ (∀ i, w = some i → 0 ≤ i ∧ i ≤ 10) ∧ d = .str (wS w)
def spRow : List D → D → Prop := fun ds d => ∃ (m : Nat) (s : Int) (t : Tn), ds = [.tup (t.1.map od), .int t.2] ∧ GT m s t ∧ m ≤ 24 ∧ s ≤ 10 ∧ d = .str (rowS t)
def spWritten : List D → D → Prop := fun ds d => ∃ (m : Nat) (s : Int) (ts : List Tn), ds = [.tup (ts.map tD)] ∧ (∀ t ∈ ts, GT m s t) ∧ m ≤ 24 ∧ s ≤ 10 ∧ ts.length ≤ 63 ∧ d = .str (txtS ts)
def spFig : List D → D → Prop := fun ds d => ∃ (most : Int) (x : Str), ds = [.int most, .str x] ∧ x.length ≤ 1000000 ∧ d = .bl (figF most x)
def spNum : List D → D → Prop := fun ds d => ∃ (s : Int) (x : Str), ds = [.int s, .str x] ∧ (0 ≤ s ∧ s ≤ 10) ∧ x.length ≤ 1000000 ∧ d = .bl (numF s x)
def spAre : List D → D → Prop := fun ds d => ∃ (m : Nat) (s : Int) (ws : List Str), ds = [.int (m : Nat), .int s, .lst (ws.map D.str)] ∧ m ≤ 24 ∧ (0 ≤ s ∧ s ≤ 10) ∧ (∀ w ∈ ws, w.length ≤ 1000000) ∧ d = .bl (awF m s ws)
def spWhat : List D → D → Prop := fun ds d => ∃ (s : Int) (x : Str), ds = [.str x] ∧ s ≤ 10 ∧ 0 ≤ s ∧ ((x == "-") || numF s x) = true ∧ d = od (whF x)
def spReadRow : List D → D → Prop := fun ds d => ∃ (m : Nat) (s k : Int) (t : Tn), ds = [.int (m : Nat), .int s, .int k, .str (rowS t)] ∧ GT m s t ∧ m ≤ 24 ∧ (0 ≤ s ∧ s ≤ 10) ∧ d = tD t
def spRead : List D → D → Prop := fun ds d => ∃ (m : Nat) (s : Int) (ts : List Tn), ds = [.int (m : Nat), .int s, .str (txtS ts)] ∧ (∀ t ∈ ts, GT m s t) ∧ m ≤ 24 ∧ (0 ≤ s ∧ s ≤ 10) ∧ ts.length ≤ 63 ∧ d = .tup (ts.map tD)
theorem w_at {ws : List Str} {k : Nat} (h : k < ws.length) : atI (ws.map D.str) (k : Int) = some (.str (ws.getD k "")) := by
  refine atI_nat ?_
  rw [List.getElem?_map, List.getElem?_eq_getElem h]
  simp [List.getD, h]
theorem sayF_ok {s x i : Int} (hs : 1 ≤ s) (h : sayF s x = some i) : 0 ≤ i ∧ i ≤ s := by
  unfold sayF at h
  split at h
  · cases h
    have h1 := Int.emod_nonneg (x / 8) (show s + 1 ≠ 0 by omega)
    have h2 := Int.emod_lt_of_pos (x / 8) (show 0 < s + 1 by omega)
    omega
  · cases h
theorem turnF_gt {m : Nat} {s : Int} (hs : 1 ≤ s) (c : Int) : GT m s (turnF m s c) := by
  refine ⟨turnF_len m s c, fun w hw i e => ?_, ?_, ?_⟩
  · obtain ⟨x, _, rfl⟩ := List.mem_map.mp (show w ∈ ((strm c (m + 1)).drop 1).map (sayF s) from hw)
    exact sayF_ok hs e
  · exact Int.emod_nonneg _ (show s + 1 ≠ 0 by omega)
  · have := Int.emod_lt_of_pos (((strm c (m + 1))[0]?).getD 0) (show 0 < s + 1 by omega)
    show ((strm c (m + 1))[0]?).getD 0 % (s + 1) ≤ s
    omega
def wt (ws : List Str) : Nat := (ws.map (·.length)).sum
theorem wt_app (a b : List Str) : wt (a ++ b) = wt a + wt b := by unfold wt; rw [List.map_append, List.sum_append]
theorem wt_take (a : List Str) (k : Nat) : wt (a.take k) ≤ wt a := by
  have := wt_app (a.take k) (a.drop k)
  rw [List.take_append_drop] at this
  omega
theorem wt_drop (a : List Str) (k : Nat) : wt (a.drop k) ≤ wt a := by
  have := wt_app (a.take k) (a.drop k)
  rw [List.take_append_drop] at this
  omega
theorem wt_mem {w : Str} : ∀ {ws : List Str}, w ∈ ws → w.length ≤ wt ws
  | v :: ws, h => by
    show _ ≤ v.length + wt ws
    rcases List.mem_cons.mp h with rfl | h
    · exact Nat.le_add_right _ _
    · exact Nat.le_trans (wt_mem h) (Nat.le_add_left _ _)
def Clean (w : Str) : Prop := ∀ c ∈ w.cps.toList, c ≠ 32 ∧ c ≠ 10
structure Wd (ws : List Str) : Prop where
  ne : ws ≠ []
  len : ws.length ≤ 28
  cl : ∀ w ∈ ws, Clean w
  wt : wt ws ≤ 5200
def rowW (ws : List Str) : Str := Str.join " " ws
def txtW (W : List (List Str)) : Str := Str.join "\n" (W.map rowW)
def rdW (m : Nat) (ws : List Str) : Tn := ((ws.take m).map whF, valF (ws.getD (m + 1) ""))
theorem sp1 : ((" " : Str)).length = 1 := by decide +kernel
theorem nl1 : (("\n" : Str)).length = 1 := by decide +kernel
theorem Wd.split {ws : List Str} (h : Wd ws) : Txt.split (rowW ws) " " = ws := by
  cases ws with
  | nil => exact absurd rfl h.ne
  | cons w ws => exact split_join 32 w ws fun v hv hc => (h.cl v hv 32 hc).1 rfl
theorem Wd.rlen {ws : List Str} (h : Wd ws) : (rowW ws).length ≤ 5230 := by
  have h1 := join_len " " ws
  have h2 := h.len
  have h3 := h.wt
  unfold My.wt at h3
  rw [sp1] at h1
  show (Str.join " " ws).length ≤ 5230
  omega
theorem Wd.no {ws : List Str} (h : Wd ws) : 10 ∉ (rowW ws).cps.toList := by
  cases ws with
  | nil => exact absurd rfl h.ne
  | cons w ws =>
    unfold rowW
    rw [show ((" " : Str)) = ⟨#[32]⟩ by decide +kernel, join_toList]
    intro hc
    rcases List.mem_append.mp hc with hc | hc
    · exact (h.cl w List.mem_cons_self 10 hc).2 rfl
    · obtain ⟨l, hl, hc⟩ := List.mem_flatten.mp hc
      obtain ⟨v, hv, rfl⟩ := List.mem_map.mp hl
      rcases List.mem_cons.mp hc with z | hc
      · cases z
      · exact (h.cl v (List.mem_cons_of_mem _ hv) 10 hc).2 rfl
theorem txtW_split {W : List (List Str)} (h : ∀ ws ∈ W, Wd ws) (hne : W ≠ []) : Txt.split (txtW W) "\n" = W.map rowW := by
  unfold txtW
  cases W with
  | nil => exact absurd rfl hne
  | cons ws W =>
    rw [List.map_cons]
    refine split_join 10 (rowW ws) (W.map rowW) fun v hv => ?_
    rw [← List.map_cons] at hv
    obtain ⟨u, hu, rfl⟩ := List.mem_map.mp hv
    exact (h u hu).no
theorem rows_sum {W : List (List Str)} (h : ∀ ws ∈ W, Wd ws) (hl : W.length ≤ 64) : ((W.map rowW).map (·.length)).sum + (W.map rowW).length * (("\n" : Str)).length ≤ 400000 := by
  have h2 := sum_le (g := fun w : Str => w.length) (B := 5230) (l := W.map rowW) fun w hw => by obtain ⟨u, hu, rfl⟩ := List.mem_map.mp hw; exact (h u hu).rlen
  rw [List.length_map] at h2 ⊢
  rw [nl1]
  have : W.length * 5230 ≤ 64 * 5230 := Nat.mul_le_mul_right _ hl
  omega
theorem txtW_len {W : List (List Str)} (h : ∀ ws ∈ W, Wd ws) (hl : W.length ≤ 64) : (txtW W).length ≤ 400000 := Nat.le_trans (join_len "\n" (W.map rowW)) (rows_sum h hl)
theorem aw_true {m : Nat} {s : Int} {ws : List Str} (h : awF m s ws = true) : ws.length = m + 2 ∧ (ws.getD m "" == (":" : Str)) = true ∧ (∀ w ∈ ws.take m, ((w == ("-" : Str)) || numF s w) = true) ∧ numF s (ws.getD (m + 1) "") = true := by
  unfold awF at h
  split at h
  · cases h
  · rename_i h1
    rw [Bool.or_eq_true, not_or] at h1
    split at h
    · cases h
    · rename_i h2
      refine ⟨?_, ?_, fun w hw => ?_, h⟩
      · have : decide ((ws.length : Int) = (m : Nat) + 2) = true := by
          cases e : decide ((ws.length : Int) = (m : Nat) + 2) with
          | true => rfl
          | false => rw [e] at h1; exact absurd rfl h1.1
        have := of_decide_eq_true this
        omega
      · cases e : (ws.getD m "" == (":" : Str)) with
        | true => rfl
        | false => rw [e] at h1; exact absurd rfl h1.2
      · have h3 : ((ws.take m).map fun w : Str => (w == ("-" : Str)) || numF s w).all id = true := by
          cases e : ((ws.take m).map fun w : Str => (w == ("-" : Str)) || numF s w).all id with
          | true => rfl
          | false => rw [e] at h2; exact absurd rfl h2
        rw [List.all_map, List.all_eq_true] at h3
        exact h3 w hw
theorem aw_no {m : Nat} {s : Int} {ws : List Str} (h : awF m s ws = true → False) : awF m s ws = false := by
  cases e : awF m s ws with
  | true => exact (h e).elim
  | false => rfl
theorem fig_long {most : Int} {x : Str} (h : most < (x.length : Int)) : figF most x = false := by
  unfold figF
  rw [decide_eq_true h, Bool.or_true, if_pos rfl]
def NoW (s : Int) (w : Str) : Prop := (w == ("-" : Str)) = false ∧ numF s w = false ∧ Clean w ∧ w.length ≤ 5000
theorem nS_two {s : Int} (h : 1 ≤ s ∧ s ≤ 10) : (nS s).length = 1 ∨ (nS s).length = 2 := by
  have := nS_le (show 0 ≤ s by omega) h.2
  omega
theorem num_fig {s : Int} {w : Str} (h : 1 ≤ s ∧ s ≤ 10) (h1 : figF 1 w = false) (h2 : figF 2 w = false) : numF s w = false := by
  unfold numF
  rcases nS_two h with e | e <;> rw [e]
  · show (figF 1 w && _) = false
    rw [h1]; rfl
  · show (figF 2 w && _) = false
    rw [h2]; rfl
theorem num_long {s : Int} {w : Str} (h : 1 ≤ s ∧ s ≤ 10) (hl : 3 ≤ w.length) : numF s w = false := num_fig h (fig_long (by omega)) (fig_long (by omega))
theorem no_next : ∀ k : Nat, k ≤ 10 → 1 ≤ k → (nS ((k : Nat) + 1) == ("-" : Str)) = false ∧ numF (k : Nat) (nS ((k : Nat) + 1)) = false ∧ (nS ((k : Nat) + 1)).cps.toList.all (fun c => !(c == 32) && !(c == 10)) = true ∧ (nS ((k : Nat) + 1)).length ≤ 5000 := by decide +kernel
theorem clean_of {w : Str} (h : w.cps.toList.all (fun c => !(c == 32) && !(c == 10)) = true) : Clean w := fun c hc => by
  have := List.all_eq_true.mp h c hc
  simpa using this
theorem no_str {s : Int} (h : 1 ≤ s ∧ s ≤ 10) : NoW s (nS (s + 1)) := by
  obtain ⟨k, rfl⟩ := Int.eq_ofNat_of_zero_le (show 0 ≤ s by omega)
  have := no_next k (by omega) (by omega)
  exact ⟨this.1, this.2.1, clean_of this.2.2.1, this.2.2.2⟩
def constN (w : Str) : Bool := !(w == ("-" : Str)) && (!(figF 1 w) && (!(figF 2 w) && (w.cps.toList.all (fun c => !(c == 32) && !(c == 10)) && decide (w.length ≤ 5000))))
theorem no_const {s : Int} {w : Str} (h : 1 ≤ s ∧ s ≤ 10) (hc : constN w = true) : NoW s w := by
  unfold constN at hc
  simp only [Bool.and_eq_true, Bool.not_eq_true', decide_eq_true_eq] at hc
  exact ⟨hc.1, num_fig h hc.2.1 hc.2.2.1, clean_of hc.2.2.2.1, hc.2.2.2.2⟩
theorem no_rep {s : Int} {x : Str} {n : Int} (h : 1 ≤ s ∧ s ≤ 10) (hx : x.length = 1) (hc : Clean x) (hn : 3 ≤ n ∧ n ≤ 5000) : NoW s (L2.repS x n) := by
  have hl := L2.repS_len hx n
  refine ⟨?_, num_long h (by omega), fun c z => hc c (L2.repS_mem z), by omega⟩
  rw [beq_eq_false_iff_ne]
  intro z
  rw [z] at hl
  have : (("-" : Str)).length = 1 := by decide +kernel
  omega
def farS (j : Int) : Str := if j = 0 then "1" ++ L2.repS "0" 59 else if j = 1 then L2.repS "9" 61 else if j = 2 then L2.repS "9" 5000 else L2.repS "0" 61
theorem no_far {s : Int} (h : 1 ≤ s ∧ s ≤ 10) (j : Int) : NoW s (farS j) := by
  unfold farS
  have c0 : Clean "0" := clean_of (by decide +kernel)
  have c9 : Clean "9" := clean_of (by decide +kernel)
  have c1 : Clean "1" := clean_of (by decide +kernel)
  have l0 : (("0" : Str)).length = 1 := by decide +kernel
  have l9 : (("9" : Str)).length = 1 := by decide +kernel
  have l1 : (("1" : Str)).length = 1 := by decide +kernel
  split
  · have hl : (("1" : Str) ++ L2.repS "0" 59).length = 60 := by rw [Str.length_append, L2.repS_len l0, l1]; rfl
    refine ⟨?_, num_long h (by omega), fun c z => ?_, by omega⟩
    · rw [beq_eq_false_iff_ne]
      intro z
      rw [z] at hl
      exact absurd hl (by decide +kernel)
    · rw [Str.cps_append, Array.toList_append] at z
      rcases List.mem_append.mp z with z | z
      · exact c1 c z
      · exact c0 c (L2.repS_mem z)
  split
  · exact no_rep h l9 c9 (by decide)
  split
  · exact no_rep h l9 c9 (by decide)
  · exact no_rep h l0 c0 (by decide)
def oddL (s j : Int) : List Str := [nS (s + 1), "00", "01", "+0", "-0", "-1", "--", "", "a", "1_0", "0.0", farS j, "0\t", ":"]
theorem odd_no {s j : Int} (h : 1 ≤ s ∧ s ≤ 10) : ∀ w ∈ oddL s j, NoW s w := by
  intro w hw
  unfold oddL at hw
  simp only [List.mem_cons, List.not_mem_nil, or_false] at hw
  rcases hw with rfl | rfl | rfl | rfl | rfl | rfl | rfl | rfl | rfl | rfl | rfl | rfl | rfl | rfl
  · exact no_str h
  all_goals first | exact no_far h j | exact no_const h (by decide +kernel)
theorem wsF_wd {m : Nat} {s : Int} {t : Tn} (h : GT m s t) (hs : s ≤ 10) (hm : m ≤ 24) : Wd (wsF t) ∧ wt (wsF t) ≤ 52 := by
  have hl := wsF_len t
  have hw : wt (wsF t) ≤ (wsF t).length * 2 := sum_le (g := fun w : Str => w.length) (B := 2) fun w hw => (row_free h hs w hw).2
  have hml := h.len
  refine ⟨⟨(fun e => by rw [e] at hl; cases hl), by omega, fun w hw => (row_free h hs w hw).1, by omega⟩, by omega⟩
theorem bad_mid {m a : Nat} {s : Int} {ws : List Str} {w : Str} (hl : ws.length = m + 2) (ha : a ≤ m + 1) (hne : a ≠ m) (hw : NoW s w) : awF m s (ws.take a ++ [w] ++ ws.drop (a + 1)) = false := aw_no fun h => by
  obtain ⟨h1, h2, h3, h4⟩ := aw_true h
  have hta : (ws.take a).length = a := by rw [List.length_take]; omega
  have hat : (ws.take a ++ [w] ++ ws.drop (a + 1))[a]? = some w := by
    rw [List.append_assoc, List.getElem?_append_right (by omega), hta, Nat.sub_self]
    rfl
  by_cases h : a < m
  · have : w ∈ (ws.take a ++ [w] ++ ws.drop (a + 1)).take m := List.mem_of_getElem? (by rw [List.getElem?_take_of_lt h]; exact hat)
    have := h3 w this
    rw [hw.1, hw.2.1] at this
    cases this
  · have e : a = m + 1 := by omega
    subst e
    rw [List.getD_eq_getElem?_getD, hat] at h4
    have h4 : numF s w = true := h4
    rw [hw.2.1] at h4
    cases h4
theorem mid_wd {a : Nat} {s : Int} {ws : List Str} {w : Str} (h : Wd ws) (hwt : wt ws ≤ 52) (hl : ws.length ≤ 26) (hw : NoW s w) : Wd (ws.take a ++ [w] ++ ws.drop (a + 1)) := by
  refine ⟨by simp, ?_, fun v hv => ?_, ?_⟩
  · rw [List.length_append, List.length_append, List.length_take, List.length_drop]
    show _ + 1 + _ ≤ 28
    omega
  · rcases List.mem_append.mp hv with hv | hv
    · rcases List.mem_append.mp hv with hv | hv
      · exact h.cl v (List.mem_of_mem_take hv)
      · rw [List.mem_singleton.mp hv]; exact hw.2.2.1
    · exact h.cl v (List.mem_of_mem_drop hv)
  · rw [wt_app, wt_app]
    have h1 := wt_take ws a
    have h2 := wt_drop ws (a + 1)
    have h3 : wt [w] = w.length := by show w.length + 0 = _; omega
    have h4 := hw.2.2.2
    omega
theorem few_wd {ws vs : List Str} (h : Wd ws) (hwt : wt ws ≤ 52) (hne : vs ≠ []) (hl : vs.length ≤ 28) (hv : ∀ v ∈ vs, v ∈ ws ∨ v ∈ ([("0" : Str), "-", ":"] : List Str)) : Wd vs := by
  have hz : ∀ v ∈ ([("0" : Str), "-", ":"] : List Str), Clean v ∧ v.length ≤ 52 := fun v hv => by
    simp only [List.mem_cons, List.not_mem_nil, or_false] at hv
    rcases hv with rfl | rfl | rfl <;> exact ⟨clean_of (by decide +kernel), by decide +kernel⟩
  refine ⟨hne, hl, fun v z => (hv v z).elim (h.cl v) fun y => (hz v y).1, ?_⟩
  have := sum_le (g := fun w : Str => w.length) (B := 52) (l := vs) fun v z => (hv v z).elim (fun y => Nat.le_trans (wt_mem y) hwt) fun y => (hz v y).2
  show (vs.map _).sum ≤ _
  have h2 : vs.length * 52 ≤ 28 * 52 := Nat.mul_le_mul_right _ hl
  omega
theorem num_sign {s : Int} (h : 1 ≤ s ∧ s ≤ 10) : numF s "-" = false ∧ numF s ":" = false := ⟨num_fig h (by decide +kernel) (by decide +kernel), num_fig h (by decide +kernel) (by decide +kernel)⟩
def Fst (m : Nat) (s : Int) (W : List (List Str)) (k : Nat) : Prop := (∃ ws, W[k]? = some ws ∧ awF m s ws = false) ∧ ∀ i, i < k → ∀ ws, W[i]? = some ws → awF m s ws = true
theorem fst_one {m : Nat} {s : Int} {W : List (List Str)} {j k : Nat} (h1 : Fst m s W j) (h2 : Fst m s W k) : j = k := by
  obtain ⟨⟨ws, a1, a2⟩, a3⟩ := h1
  obtain ⟨⟨vs, b1, b2⟩, b3⟩ := h2
  rcases Nat.lt_trichotomy j k with h | h | h
  · have := b3 j h ws a1
    rw [a2] at this
    cases this
  · exact h
  · have := a3 k h vs b1
    rw [b2] at this
    cases this
theorem fst_not {m : Nat} {s : Int} {W : List (List Str)} {k : Nat} (h1 : Fst m s W k) (h2 : ∀ ws ∈ W, awF m s ws = true) : False := by
  obtain ⟨⟨ws, a1, a2⟩, _⟩ := h1
  have := h2 ws (List.mem_of_getElem? a1)
  rw [a2] at this
  cases this
theorem nS_colon : ∀ k : Nat, k ≤ 10 → (nS k == (":" : Str)) = false := by decide +kernel
theorem wS_colon {s : Int} {w : Option Int} (h : ∀ i, w = some i → 0 ≤ i ∧ i ≤ s) (hs : s ≤ 10) : (wS w == (":" : Str)) = false := by
  cases w with
  | none => decide +kernel
  | some i =>
    obtain ⟨h0, h1⟩ := h i rfl
    obtain ⟨k, rfl⟩ := Int.eq_ofNat_of_zero_le h0
    exact nS_colon k (by omega)
theorem colon_at {m a : Nat} {s : Int} {t : Tn} (h : GT m s t) (hs : s ≤ 10) (ha : a < m + 2) : ((wsF t).getD a "" == (":" : Str)) = decide (a = m) := by
  have hl := h.len
  unfold wsF
  rw [List.getD_eq_getElem?_getD]
  by_cases h1 : a < m
  · rw [List.getElem?_append_left (by rw [List.length_map]; omega), List.getElem?_map, List.getElem?_eq_getElem (by omega), decide_eq_false (by omega)]
    exact wS_colon (h.say _ (List.getElem_mem _)) hs
  · rw [List.getElem?_append_right (by rw [List.length_map]; omega), List.length_map, hl]
    by_cases h2 : a = m
    · subst h2
      rw [Nat.sub_self, decide_eq_true rfl]
      show ((":" : Str) == (":" : Str)) = true
      decide +kernel
    · rw [show a - m = 1 by omega, decide_eq_false h2]
      exact wS_colon (w := some t.2) (s := s) (fun i e => by cases e; exact ⟨h.so0, h.so1⟩) hs
theorem cutA_neg {α : Type} (a : List α) (k : Nat) (hk : 1 ≤ k) : cutA a none (some (-(k : Int))) = a.take (a.length - k) := by
  unfold cutA
  have e1 : HT.sIx a.length 0 none = 0 := rfl
  have e2 : HT.sIx a.length a.length (some (-(k : Int))) = a.length - k := by
    show (if (-(k : Int)) < 0 then ((-(k : Int)) + (a.length : Int)).toNat else min (-(k : Int)).toNat a.length) = _
    rw [if_pos (by omega)]
    omega
  rw [e1, e2, List.drop_zero, Nat.sub_zero]
theorem cutA_end {α : Type} (a : List α) : cutA a (some (-1)) none = a.drop (a.length - 1) := by
  unfold cutA
  have e1 : HT.sIx a.length a.length none = a.length := rfl
  have e2 : HT.sIx a.length 0 (some (-1)) = a.length - 1 := by
    show (if (-1 : Int) < 0 then ((-1 : Int) + (a.length : Int)).toNat else min (-1 : Int).toNat a.length) = _
    rw [if_pos (by decide)]
    omega
  rw [e1, e2, List.take_of_length_le (by rw [List.length_drop]; omega)]
theorem far_at (j : Int) : atI [D.str ("1" ++ L2.repS "0" 59), .str (L2.repS "9" 61), .str (L2.repS "9" 5000), .str (L2.repS "0" 61)] (j % 4) = some (.str (farS (j % 4))) := by
  unfold farS
  have h : j % 4 = 0 ∨ j % 4 = 1 ∨ j % 4 = 2 ∨ j % 4 = 3 := by omega
  rcases h with h | h | h | h <;> rw [h] <;> rfl
theorem odd_at {s j : Int} {k : Nat} (h : k < 14) : ∃ w ∈ oddL s j, atI ((oddL s j).map D.str) ((k : Nat) : Int) = some (.str w) := by
  have hl : (oddL s j).length = 14 := rfl
  refine ⟨(oddL s j)[k]'(by omega), List.getElem_mem _, ?_⟩
  refine atI_nat ?_
  rw [List.getElem?_map, List.getElem?_eq_getElem (by omega)]
  rfl
theorem few_ok {sep : Str} {vs : List Str} (hs : sep.length = 1) (h : Wd vs) : JoinOk sep vs = true := by
  refine DL.joinOk_of ?_
  rw [hs]
  have h1 := h.len
  have h2 := h.wt
  unfold My.wt at h2
  omega
def spReadRowX (C_NoRow : Addr) : SpX := fun ds O R RX => ∃ (m : Nat) (s k : Int) (ws : List Str), ds = [.int (m : Nat), .int s, .int k, .str (rowW ws)] ∧ m ≤ 24 ∧ (0 ≤ s ∧ s ≤ 10) ∧ Wd ws ∧ (awF m s ws = true → R (tD (rdW m ws)) O) ∧ (awF m s ws = false → RX C_NoRow [("number", .int k)] O)
def spReadX (C_NoRow : Addr) : SpX := fun ds O R RX => ∃ (m : Nat) (s : Int) (W : List (List Str)), ds = [.int (m : Nat), .int s, .str (txtW W)] ∧ m ≤ 24 ∧ (0 ≤ s ∧ s ≤ 10) ∧ (∀ ws ∈ W, Wd ws) ∧ W.length ≤ 64 ∧ (W ≠ [] → (txtW W == "") = false) ∧ ((∀ ws ∈ W, awF m s ws = true) → ∀ d, R d O) ∧ ∀ k, Fst m s W k → RX C_NoRow [("number", .int (k : Nat))] O
def resD : Option Nat → D
  | none => .lst []
  | some k => .lst [.int (k : Nat)]
def ResOk (m : Nat) (s : Int) (W : List (List Str)) : Option Nat → Prop
  | none => ∀ ws ∈ W, awF m s ws = true
  | some k => Fst m s W k
def spTold : List D → D → Prop := fun ds d => ∃ (m : Nat) (s : Int) (W : List (List Str)) (r : Option Nat), ds = [.int (m : Nat), .int s, .str (txtW W)] ∧ m ≤ 24 ∧ (0 ≤ s ∧ s ≤ 10) ∧ (∀ ws ∈ W, Wd ws) ∧ W.length ≤ 64 ∧ (W ≠ [] → (txtW W == "") = false) ∧ ResOk m s W r ∧ d = resD r
def spRowL : List D → D → Prop := fun ds d => ∃ (m : Nat) (s : Int) (t : Tn), ds = [tD t] ∧ GT m s t ∧ m ≤ 24 ∧ s ≤ 10 ∧ d = .lst ((wsF t).map D.str)
def spBad : SpD := fun ds O R => ∃ (m : Nat) (s c : Int) (t : Tn), ds = [.lst ((wsF t).map D.str), .int s, .int c] ∧ GT m s t ∧ (1 ≤ m ∧ m ≤ 24) ∧ (1 ≤ s ∧ s ≤ 10) ∧ ∀ ws, Wd ws → awF m s ws = false → R (.str (rowW ws)) O
theorem ixN_at {xs : List D} {k : Nat} (h : k < xs.length) : ixN xs.length ((k : Nat) : Int) = some k := by
  unfold ixN
  rw [if_pos (by omega), if_pos (by omega), Int.toNat_natCast]
theorem nS_low : ∀ k : Nat, k ≤ 10 → (nS k).cps.toList.all (fun c => decide (c < 1114112)) = true := by decide +kernel
theorem wS_low {s : Int} {w : Option Int} (h : ∀ i, w = some i → 0 ≤ i ∧ i ≤ s) (hs : s ≤ 10) : (wS w).cps.toList.all (fun c => decide (c < 1114112)) = true := by
  cases w with
  | none => decide +kernel
  | some i =>
    obtain ⟨h0, h1⟩ := h i rfl
    obtain ⟨k, rfl⟩ := Int.eq_ofNat_of_zero_le h0
    exact nS_low k (by omega)
theorem low_join {ws : List Str} (h : ∀ w ∈ ws, w.cps.toList.all (fun c => decide (c < 1114112)) = true) (hne : ws ≠ []) : PyData.strOk (rowW ws) = true := by
  unfold PyData.strOk
  rw [← Array.all_toList, List.all_eq_true]
  intro c hc
  cases ws with
  | nil => exact absurd rfl hne
  | cons w ws =>
    unfold rowW at hc
    rw [show ((" " : Str)) = ⟨#[32]⟩ by decide +kernel, join_toList] at hc
    rcases List.mem_append.mp hc with hc | hc
    · exact List.all_eq_true.mp (h w List.mem_cons_self) c hc
    · obtain ⟨l, hl, hc⟩ := List.mem_flatten.mp hc
      obtain ⟨v, hv, rfl⟩ := List.mem_map.mp hl
      rcases List.mem_cons.mp hc with z | hc
      · rw [z]; rfl
      · exact List.all_eq_true.mp (h v (List.mem_cons_of_mem _ hv)) c hc
theorem row_pl {m : Nat} {s : Int} {t : Tn} (h : GT m s t) (hs : s ≤ 10) : PyData.strOk (rowW (wsF t)) = true := by
  refine low_join (fun w hw => ?_) (fun e => by have := wsF_len t; rw [e] at this; cases this)
  rcases List.mem_append.mp (show w ∈ t.1.map wS ++ [(":" : Str), nS t.2] from hw) with hw | hw
  · obtain ⟨o, ho, rfl⟩ := List.mem_map.mp hw
    exact wS_low (h.say o ho) hs
  · rcases List.mem_cons.mp hw with rfl | hw
    · decide +kernel
    · rw [List.mem_singleton.mp hw]
      exact wS_low (w := some t.2) (s := s) (fun i e => by cases e; exact ⟨h.so0, h.so1⟩) hs
structure Spo (m : Nat) (s : Int) (n : Nat) (W : List (List Str)) (b : Nat) : Prop where
  len : W.length = n
  wd : ∀ ws ∈ W, Wd ws
  le : b ≤ n
  bad : b < n → ∃ ws, W[b]? = some ws ∧ awF m s ws = false
  ok : ∀ i, i < b → ∀ ws, W[i]? = some ws → awF m s ws = true
theorem Spo.next {m n a b : Nat} {s : Int} {W : List (List Str)} {ws : List Str} (h : Spo m s n W b) (ha : a < n) (hw : Wd ws) (hb : awF m s ws = false) : Spo m s n (W.set a ws) (min b a) := by
  have hl := h.len
  refine ⟨by rw [List.length_set]; exact hl, fun v hv => ?_, Nat.le_trans (Nat.min_le_left _ _) h.le, fun hlt => ?_, fun i hi v hv => ?_⟩
  · rcases List.mem_or_eq_of_mem_set hv with h1 | h1
    · exact h.wd v h1
    · rw [h1]; exact hw
  · by_cases hab : a ≤ b
    · rw [Nat.min_eq_right hab]
      exact ⟨ws, by rw [List.getElem?_set_self (by omega)], hb⟩
    · rw [Nat.min_eq_left (by omega)]
      obtain ⟨v, h1, h2⟩ := h.bad (by omega)
      exact ⟨v, by rw [List.getElem?_set_ne (by omega)]; exact h1, h2⟩
  · rw [List.getElem?_set_ne (by omega)] at hv
    exact h.ok i (by omega) v hv
theorem Spo.fst {m n b : Nat} {s : Int} {W : List (List Str)} (h : Spo m s n W b) (hb : b < n) : Fst m s W b := ⟨h.bad hb, h.ok⟩
theorem one_wd : Wd [("" : Str)] := ⟨by simp, by decide, fun w hw => by rw [List.mem_singleton.mp hw]; exact clean_of (by decide +kernel), by decide +kernel⟩
theorem Spo.cap {m n : Nat} {s : Int} {W : List (List Str)} (h : Spo m s n W n) : Fst m s (W ++ [[("" : Str)]]) n ∧ ∀ ws ∈ W ++ [[("" : Str)]], Wd ws := by
  have hl := h.len
  refine ⟨⟨⟨[("" : Str)], by rw [List.getElem?_append_right (by omega), hl, Nat.sub_self]; rfl, aw_no fun z => ?_⟩, fun i hi ws hws => ?_⟩, fun ws hws => ?_⟩
  · have := (aw_true z).1
    have : 1 = m + 2 := this
    omega
  · rw [List.getElem?_append_left (by omega)] at hws
    exact h.ok i hi ws hws
  · rcases List.mem_append.mp hws with h1 | h1
    · exact h.wd ws h1
    · rw [List.mem_singleton.mp h1]; exact one_wd
theorem txt_some {W : List (List Str)} (h : ¬ (W.length = 1 ∧ ((W.map rowW).getD 0 "" == ("" : Str)) = true)) (hne : W ≠ []) : (txtW W == "") = false := by
  rw [beq_eq_false_iff_ne]
  intro z
  match W, h, hne, z with
  | [ws], h, _, z =>
    refine h ⟨rfl, ?_⟩
    have z : rowW ws = "" := z
    show (rowW ws == "") = true
    rw [z]
    decide +kernel
  | ws :: vs :: W, _, _, z =>
    have e : (txtW (ws :: vs :: W)).cps.toList ≠ [] := by
      unfold txtW
      rw [List.map_cons, List.map_cons, show (("\n" : Str)) = ⟨#[10]⟩ by decide +kernel, join_toList]
      intro q
      have := (List.append_eq_nil_iff.mp q).2
      simp at this
    exact e (by rw [z]; decide +kernel)
theorem eqD_nilL : ∀ xs : List D, eqD (.lst xs) (.lst []) = decide (xs = [])
  | [] => rfl
  | x :: xs => by rw [decide_eq_false (by simp)]; rfl
theorem eq_res (k : Nat) : eqD (resD (some k)) (.lst [.int ((k : Nat) : Int)]) = true := by
  have := eqD_ints [((k : Nat) : Int)] [((k : Nat) : Int)]
  rw [decide_eq_true rfl] at this
  exact this
seal EvP Ev EvPs Ex Exs EvT EvI EvX ExX ExsX
section
variable {P : Program} {w : World} {K : PySem.W.Frag} {mg : Str → Option Value} {base : Heap} {C_HeedError C_NoRow C_NoTurn C_NoRule C_NoWay C_NoName C_Twice : Addr}
theorem ok_NoRow___init__ {f : Addr} {fd : FuncData} (T : Txt K mg C_HeedError C_NoRow C_NoTurn C_NoRule C_NoWay C_NoName C_Twice) (Fn : Fun K "__init__" "NoRow.__init__" s_NoRow___init__ f fd) (Z : ExcI K C_NoRow f "number") : FnOk P w K mg base CX0 1 f fd ["self", "number"] (spI C_NoRow "number") :=
  L2.okI Fn sc_NoRow___init__ Z T.t_NoRow rfl (by decide) (by decide) (by decide) (by decide) (by first | exact Or.inl rfl | exact Or.inr rfl) (by first | exact Or.inl rfl | exact Or.inr rfl) (fun _ => rfl)
theorem ok_is_in_figures {f : Addr} {fd : FuncData} (T : Txt K mg C_HeedError C_NoRow C_NoTurn C_NoRule C_NoWay C_NoName C_Twice) (Fn : Fun K "is_in_figures" "is_in_figures" s_is_in_figures f fd) (hm : mg "is_in_figures" = some (.ref f)) (hb : Binds K fd ["most", "word"] []) : DefOk P w K mg base 1 "is_in_figures" (pureSp spFig) := by
  refine okD (k := 0) Fn sc_is_in_figures hm hb (fun ds O R h => ?_) (fun cdv A outer s H E ds O R hr h => ?_)
  · obtain ⟨_, ⟨_, _, rfl, _⟩, _⟩ := h; rfl
  · obtain ⟨d, ⟨most, x, rfl, hz, rfl⟩, hR⟩ := h
    have hn := sizeLine_eq
    have hz' : x.length ≤ sizeLine := by omega
    unfold figF at hR
    refine xs_cons (x_if (EvW.t (ew_or (et_cmp (ev_callB T.b_len (es_cons (ev_var 1) es_nil) (c_lenS hz')) ev_int cmp_eqI) (fun hbb => (ew_or1 (et_cmp (ev_callB T.b_len (es_cons (ev_var 1) es_nil) (c_lenS hz')) (ev_var 0) cmp_gt))))) (fun hk => ?_) (fun hk => xs_nil ?_))
    · rw [if_pos hk] at hR
      exact xs_cons (x_ret (EvP.ev ev_bl hR))
    rw [if_neg (by rw [hk]; exact Bool.false_ne_true)] at hR
    refine xs_cons (x_if (et_not (et_bl (ev_callB T.b_all (es_cons (ev_compM (fun c : Nat => .bl (decide (c ∈ figs))) ["sign"] [] [] (ei_str (ev_var 1)) (by rw [Array.length_toList]; show x.length ≤ _; exact hz') (by exact fun q hq s H fp => ⟨[some _], rfl, (tg_name 0 (show List.Nodup (["sign"] : List Str) by decide +kernel)), ⟨_, rfl, (ev_cmp (ev_var 0) (ev_gstr T.g_FIGURES.choose_spec) cmp_inS)⟩⟩)) es_nil) (c_all (bs := x.cps.toList.map fun c => decide (c ∈ figs)) (Or.inl (Or.inl (by rw [List.map_map]; rfl))))))) (fun hk2 => ?_) (fun hk2 => xs_nil ?_))
    · rw [if_pos hk2] at hR
      exact xs_cons (x_ret (EvP.ev ev_bl hR))
    rw [if_neg (by rw [hk2]; exact Bool.false_ne_true)] at hR
    have hp : 0 < x.cps.size := by
      rw [Bool.or_eq_false_iff] at hk
      have := of_decide_eq_false hk.1
      show 0 < x.length
      omega
    have h0 : x.cps[0]? = some ((x.cps[0]?).getD 0) := by rw [Array.getElem?_eq_getElem hp]; rfl
    generalize (x.cps[0]?).getD 0 = c0 at hR h0
    exact xs_cons (x_ret (EvP.ev (ev_or (ev_cmp (ev_ixS (i := 0) (ev_var 1) ev_int h0 hz') ev_str cmp_neS) (fun _ => ev_one (ev_cmp (ev_callB T.b_len (es_cons (ev_var 1) es_nil) (c_lenS hz')) ev_int cmp_eqI))) hR))
theorem ok_is_number {f : Addr} {fd : FuncData} (T : Txt K mg C_HeedError C_NoRow C_NoTurn C_NoRule C_NoWay C_NoName C_Twice) (Fn : Fun K "is_number" "is_number" s_is_number f fd) (hm : mg "is_number" = some (.ref f)) (hb : Binds K fd ["scale", "word"] []) (F_is_in_figures : DefOk P w K mg base 1 "is_in_figures" (pureSp spFig)) : DefOk P w K mg base 2 "is_number" (pureSp spNum) := by
  refine okD (k := 1) Fn sc_is_number hm hb (fun ds O R h => ?_) (fun cdv A outer s H E ds O R hr h => ?_)
  · obtain ⟨_, ⟨_, _, rfl, _⟩, _⟩ := h; rfl
  · obtain ⟨d, ⟨s, x, rfl, hs, hz, rfl⟩, hR⟩ := h
    have hn := sizeLine_eq
    have hl := nS_le hs.1 hs.2
    exact xs_cons (x_ret (EvP.ev (ev_and (ev_callP F_is_in_figures (hr.mono (by decide)) (es_cons (ev_callB T.b_len (es_cons (ev_callTy T.b_str (es_cons (ev_var 0) es_nil) (c_strI ⟨by omega, by omega⟩)) es_nil) (c_lenS (by show (nS s).length ≤ _; omega))) (es_cons (ev_var 1) es_nil)) ⟨_, x, rfl, hz, rfl⟩) (fun hbb => (ev_one (ev_cmp (ev_callTy T.b_int (es_cons (ev_var 1) es_nil) (c_intS (fig_int (most := ((nS s).length : Nat)) hbb (by omega)).1 (fig_int (most := ((nS s).length : Nat)) hbb (by omega)).2)) (ev_var 0) cmp_le)))) hR))
theorem ok_are_words {f : Addr} {fd : FuncData} (T : Txt K mg C_HeedError C_NoRow C_NoTurn C_NoRule C_NoWay C_NoName C_Twice) (Fn : Fun K "are_words" "are_words" s_are_words f fd) (hm : mg "are_words" = some (.ref f)) (hb : Binds K fd ["many", "scale", "words"] []) (F_is_number : DefOk P w K mg base 2 "is_number" (pureSp spNum)) : DefOk P w K mg base 3 "are_words" (pureSp spAre) := by
  refine okD (k := 2) Fn sc_are_words hm hb (fun ds O R h => ?_) (fun cdv A outer s H E ds O R hr h => ?_)
  · obtain ⟨_, ⟨_, _, _, rfl, _⟩, _⟩ := h; rfl
  · obtain ⟨d, ⟨m, sc, ws, rfl, hm, hs, hz, rfl⟩, hR⟩ := h
    have hn := sizeLine_eq
    unfold awF at hR
    have hlt : decide ((((ws.map D.str).length : Nat) : Int) = (m : Nat) + 2) = true → m + 1 < ws.length := fun h => by
      have := of_decide_eq_true h
      rw [List.length_map] at this
      omega
    have hb1 : ∀ {b : Bool}, (!decide ((((ws.map D.str).length : Nat) : Int) = (m : Nat) + 2)) = false → m + 1 < ws.length := fun h => hlt (by
      cases e : decide ((((ws.map D.str).length : Nat) : Int) = (m : Nat) + 2) with
      | true => rfl
      | false => rw [e] at h; cases h)
    refine xs_cons (x_if (EvT.cast (EvW.t (ew_or (et_cmp (ev_callB T.b_len (es_cons (ev_var 2) es_nil) (c_len (by first | exact Or.inr rfl | exact Or.inl (Or.inl rfl) | exact Or.inl (Or.inr (Or.inl rfl)) | exact Or.inl (Or.inr (Or.inr ⟨_, rfl, by first | assumption | rfl⟩))))) (ev_bin (ev_var 0) ev_int o_add) cmp_neI) (fun hbb => (ew_or1 (et_cmp (ev_ixL (ev_var 2) (by first | exact Or.inl rfl | exact Or.inr (Or.inl rfl) | exact Or.inr (Or.inr ⟨_, rfl, by first | assumption | rfl⟩)) (ev_var 0) (w_at (by have := hb1 (b := true) hbb; omega))) (ev_gstr T.g_COLON.choose_spec) cmp_neS))))) (show (!decide ((((ws.map D.str).length : Nat) : Int) = (m : Nat) + 2) || !(ws.getD m "" == ":")) = (!decide ((ws.length : Int) = (m : Nat) + 2) || !(ws.getD m "" == ":")) by rw [List.length_map])) (fun hk => ?_) (fun hk => xs_nil ?_))
    · rw [if_pos hk] at hR
      exact xs_cons (x_ret (EvP.ev ev_bl hR))
    rw [if_neg (by rw [hk]; exact Bool.false_ne_true)] at hR
    have hwl : ws.length = m + 2 := by
      rw [Bool.or_eq_false_iff] at hk
      have h1 : decide ((ws.length : Int) = (m : Nat) + 2) = true := by
        cases e : decide ((ws.length : Int) = (m : Nat) + 2) with
        | true => rfl
        | false => rw [e] at hk; cases hk.1
      have := of_decide_eq_true h1
      omega
    have hct : cutA ws none (some ((m : Nat) : Int)) = ws.take m := cutA_take ws m
    have htl : (cutA ws none (some ((m : Nat) : Int))).length ≤ sizeLine := by rw [hct, List.length_take]; omega
    have hin : ∀ q, q ∈ cutA ws none (some ((m : Nat) : Int)) → q.length ≤ 1000000 := fun q hq => hz q (cutA_mem hq)
    refine xs_cons (x_if (et_not (et_bl (ev_callB T.b_all (es_cons (ev_compM (fun w : Str => .bl ((w == ("-" : Str)) || numF sc w)) ["word"] ["scale"] [1] (ei_LF (ev_slLA (ev_var 2) (by first | exact Or.inl rfl | exact Or.inr (Or.inl rfl) | exact Or.inr (Or.inr ⟨_, rfl, by first | assumption | rfl⟩)) eo_none (eo_some (ev_var 0))) (by first | exact Or.inl rfl | exact Or.inr (Or.inl rfl) | exact Or.inr (Or.inr rfl) | assumption)) htl (by exact fun q hq s H fp => ⟨[some _], rfl, (tg_name 0 (show List.Nodup (["word", "scale"] : List Str) by decide +kernel)), ⟨_, rfl, (ev_or (ev_cmp (ev_var 0) (ev_gstr T.g_ASLEEP.choose_spec) cmp_eqS) (fun hbb => (ev_one (ev_callP F_is_number (hr.mono (by decide)) (es_cons (ev_var 1) (es_cons (ev_var 0) es_nil)) ⟨sc, q, rfl, hs, hin q hq, rfl⟩))))⟩⟩)) es_nil) (c_all (bs := (cutA ws none (some ((m : Nat) : Int))).map fun w : Str => (w == ("-" : Str)) || numF sc w) (Or.inl (Or.inl (by rw [List.map_map]; rfl))))))) (fun hk2 => ?_) (fun hk2 => xs_nil ?_))
    · rw [hct] at hk2
      rw [if_pos hk2] at hR
      exact xs_cons (x_ret (EvP.ev ev_bl hR))
    rw [hct] at hk2
    rw [if_neg (by rw [hk2]; exact Bool.false_ne_true)] at hR
    have hat : atI (ws.map D.str) (((m : Nat) : Int) + 1) = some (.str (ws.getD (m + 1) "")) := by
      rw [show ((m : Nat) : Int) + 1 = ((m + 1 : Nat) : Int) by omega]
      exact w_at (by omega)
    have hw1 : (ws.getD (m + 1) "").length ≤ 1000000 := by
      rw [List.getD_eq_getElem?_getD, List.getElem?_eq_getElem (by omega)]
      exact hz _ (List.getElem_mem _)
    exact xs_cons (x_ret (EvP.ev (ev_callP F_is_number (hr.mono (by decide)) (es_cons (ev_var 1) (es_cons (ev_ixL (ev_var 2) (by first | exact Or.inl rfl | exact Or.inr (Or.inl rfl) | exact Or.inr (Or.inr ⟨_, rfl, by first | assumption | rfl⟩)) (ev_bin (ev_var 0) ev_int o_add) hat) es_nil)) ⟨sc, _, rfl, hs, hw1, rfl⟩) hR))
theorem ok_what_of {f : Addr} {fd : FuncData} (T : Txt K mg C_HeedError C_NoRow C_NoTurn C_NoRule C_NoWay C_NoName C_Twice) (Fn : Fun K "what_of" "what_of" s_what_of f fd) (hm : mg "what_of" = some (.ref f)) (hb : Binds K fd ["word"] []) : DefOk P w K mg base 1 "what_of" (pureSp spWhat) := by
  refine okD (k := 0) Fn sc_what_of hm hb (fun ds O R h => ?_) (fun cdv A outer s H E ds O R hr h => ?_)
  · obtain ⟨_, ⟨_, _, rfl, _⟩, _⟩ := h; rfl
  · obtain ⟨d, ⟨s, x, rfl, hs, hs0, hx, rfl⟩, hR⟩ := h
    unfold whF at hR
    refine xs_cons (x_if (et_cmp (ev_var 0) (ev_gstr T.g_ASLEEP.choose_spec) cmp_eqS) (fun hk => ?_) (fun hk => xs_nil ?_))
    · rw [if_pos hk] at hR
      exact xs_cons (x_ret (EvP.ev ev_non hR))
    rw [if_neg (by rw [hk]; exact Bool.false_ne_true)] at hR
    rw [hk, Bool.false_or] at hx
    unfold numF at hx
    rw [Bool.and_eq_true] at hx
    have hl := nS_le hs0 hs
    have hf := fig_int hx.1 (by omega)
    exact xs_cons (x_ret (EvP.ev (ev_callTy T.b_int (es_cons (ev_var 0) es_nil) (c_intS hf.1 hf.2)) hR))
theorem ok_read_row {f : Addr} {fd : FuncData} (T : Txt K mg C_HeedError C_NoRow C_NoTurn C_NoRule C_NoWay C_NoName C_Twice) (Fn : Fun K "read_row" "read_row" s_read_row f fd) (hm : mg "read_row" = some (.ref f)) (hb : Binds K fd ["many", "scale", "number", "row"] []) (F_are_words : DefOk P w K mg base 3 "are_words" (pureSp spAre)) (F_what_of : DefOk P w K mg base 1 "what_of" (pureSp spWhat)) (J_NoRow : InitI P w K mg base C_NoRow 1 "NoRow" "number") : DefX P w K mg base 4 "read_row" (spReadRowX C_NoRow) := by
  refine ⟨f, fd, _, okX (k := 3) Fn sc_read_row (fun ds O R RX h => ?_) (fun cdv A outer s H E ds O R RX hr h => ?_), hm, Fn.kp, hb⟩
  · obtain ⟨_, _, _, _, rfl, _⟩ := h; rfl
  · obtain ⟨m, sc, k, ws, rfl, hm, hs, hW, h1, h2⟩ := h
    have hn := sizeLine_eq
    have hrl := hW.rlen
    have hwt := hW.wt
    refine xX_cons (Ex.x_ (x_set 4 (EvP.ev (ev_split (ev_var 3) ev_str (by decide +kernel) (by omega)) ?_) sc_read_row.nd))
    rw [hW.split]
    have hwl : ∀ w ∈ ws, w.length ≤ 1000000 := fun w hw => Nat.le_trans (wt_mem hw) (by omega)
    cases e : awF m sc ws with
    | false =>
      refine xX_cons (xX_if (EvT.cast (k' := true) (et_not (et_bl (ev_callP F_are_words (hr.mono (by decide)) (es_cons (ev_var 0) (es_cons (ev_var 1) (es_cons (ev_var 4) es_nil))) ⟨m, sc, ws, rfl, hm, hs, hwl, rfl⟩))) (by rw [e]; rfl)) (fun _ => ?_) (fun hk => by cases hk))
      exact xX_cons (xX_raiseI J_NoRow (hr.mono (by decide)) (es_cons (ev_var 2) es_nil) (h2 e) trivial)
    | true =>
      refine xX_cons (xX_if (EvT.cast (k' := false) (et_not (et_bl (ev_callP F_are_words (hr.mono (by decide)) (es_cons (ev_var 0) (es_cons (ev_var 1) (es_cons (ev_var 4) es_nil))) ⟨m, sc, ws, rfl, hm, hs, hwl, rfl⟩))) (by rw [e]; rfl)) (fun hk => by cases hk) (fun _ => xX_nil ?_))
      obtain ⟨a1, a2, a3, a4⟩ := aw_true e
      have hct : cutA ws none (some ((m : Nat) : Int)) = ws.take m := cutA_take ws m
      have hq2 : ∀ q, q ∈ cutA ws none (some ((m : Nat) : Int)) → ((q == ("-" : Str)) || numF sc q) = true := fun q hq => a3 q (by rw [← hct]; exact hq)
      have hat : atI (ws.map D.str) (((m : Nat) : Int) + 1) = some (.str (ws.getD (m + 1) "")) := by
        rw [show ((m : Nat) : Int) + 1 = ((m + 1 : Nat) : Int) by omega]
        exact w_at (by omega)
      have hit : PySem.intText? (ws.getD (m + 1) "") = some (valF (ws.getD (m + 1) "")) ∧ (ws.getD (m + 1) "").length ≤ 640 := by
        unfold numF at a4
        rw [Bool.and_eq_true] at a4
        exact fig_int a4.1 (by have := nS_le hs.1 hs.2; omega)
      refine Exs.x_ (xs_cons (x_ret (EvP.ev (ev_tup (es_cons (ev_callTy T.b_tuple (es_cons (ev_compM (fun w : Str => od (whF w)) ["word"] [] [] (ei_LF (ev_slLA (ev_var 4) (by first | exact Or.inl rfl | exact Or.inr (Or.inl rfl) | exact Or.inr (Or.inr ⟨_, rfl, by first | assumption | rfl⟩)) eo_none (eo_some (ev_var 0))) (by first | exact Or.inl rfl | exact Or.inr (Or.inl rfl) | exact Or.inr (Or.inr rfl) | assumption)) (by rw [hct, List.length_take]; omega) (by exact fun q hq s H fp => ⟨[some _], rfl, (tg_name 0 (show List.Nodup (["word"] : List Str) by decide +kernel)), ⟨_, rfl, (ev_callP F_what_of (hr.mono (by decide)) (es_cons (ev_var 0) es_nil) ⟨sc, q, rfl, hs.2, hs.1, hq2 q hq, rfl⟩)⟩⟩)) es_nil) (c_tuple (by first | exact Or.inr rfl | exact Or.inl (Or.inl rfl) | exact Or.inl (Or.inr (Or.inl rfl)) | exact Or.inl (Or.inr (Or.inr ⟨_, rfl, by first | assumption | rfl⟩))))) (es_cons (ev_callTy T.b_int (es_cons (ev_ixL (ev_var 4) (by first | exact Or.inl rfl | exact Or.inr (Or.inl rfl) | exact Or.inr (Or.inr ⟨_, rfl, by first | assumption | rfl⟩)) (ev_bin (ev_var 0) ev_int o_add) hat) es_nil) (c_intS hit.1 hit.2)) es_nil))) ?_)))
      have e2 : ((cutA ws none (some ((m : Nat) : Int))).map fun w : Str => od (whF w)) = ((ws.take m).map whF).map od := by rw [hct, List.map_map]; rfl
      rw [e2]
      exact h1 e
theorem ok_read {f : Addr} {fd : FuncData} (T : Txt K mg C_HeedError C_NoRow C_NoTurn C_NoRule C_NoWay C_NoName C_Twice) (Fn : Fun K "read" "read" s_read f fd) (hm : mg "read" = some (.ref f)) (hb : Binds K fd ["many", "scale", "text"] []) (F_read_row : DefX P w K mg base 4 "read_row" (spReadRowX C_NoRow)) : DefX P w K mg base 5 "read" (spReadX C_NoRow) := by
  refine ⟨f, fd, _, okXH (k := 4) Fn sc_read (fun ds O R RX h => ?_) (fun cdv A outer s H E ds O R RX hr h => ?_), hm, Fn.kp, hb⟩
  · obtain ⟨_, _, _, rfl, _⟩ := h; rfl
  · obtain ⟨m, sc, W, rfl, hm, hs, hW, hl, hne, h1, h2⟩ := h
    have hn := sizeLine_eq
    by_cases hW0 : W = []
    · subst hW0
      refine Exs.h_ ?_
      refine xs_cons (x_if (EvT.cast (k' := true) (et_cmp (ev_var 2) ev_str cmp_eqS) (by decide +kernel)) (fun _ => ?_) (fun hk => by cases hk))
      exact xs_cons (x_ret (EvP.ev (ev_tup es_nil) (h1 (fun ws z => by cases z) _)))
    refine xH_cons (Ex.h_ (x_if (EvT.cast (k' := false) (et_cmp (ev_var 2) ev_str cmp_eqS) (hne hW0)) (fun hk => by cases hk) (fun _ => xs_nil ?_)))
    have hl2 := txtW_len hW hl
    have es := txtW_split hW hW0
    have hxl : ((Txt.split (txtW W) "\n").zipIdx.map fun p : Str × Nat => D.tup [.int (p.2 : Nat), .str p.1]).length = W.length := by rw [List.length_map, List.length_zipIdx, es, List.length_map]
    refine xH_cons (xH_ret ?_)
    refine EvH.imp (evH_tuple T.b_tuple (evH_comp ["number", "row"] ["many", "scale"] [0, 1] (W.map fun ws => tD (rdW m ws)) (fun i => ∀ ws, W[i]? = some ws → awF m sc ws = true) (ei_Z (ez_enumM (f := D.str) (as := Txt.split (txtW W) "\n") (ev_split (ev_var 2) ev_str (by decide +kernel) (by omega)) (by first | exact Or.inl rfl | exact Or.inr (Or.inl rfl) | exact Or.inr (Or.inr rfl) | assumption) T.b_enumerate)) (by rw [List.length_map]; exact hxl.symm) (by rw [hxl]; omega) (fun i x z hx hz hok s H fp Fx => ?_))) fun d O' hd => ?_
    · rw [es, List.getElem?_map, List.getElem?_zipIdx, List.getElem?_map] at hx
      rw [List.getElem?_map] at hz
      cases hi : W[i]? with
      | none => rw [hi] at hz; cases hz
      | some ws =>
        rw [hi] at hx hz
        cases hz
        have hx : some (D.tup [.int ((0 + i : Nat) : Int), .str (rowW ws)]) = some x := hx
        rw [Nat.zero_add] at hx
        cases hx
        refine ⟨[some _, some _], rfl, (tg_tup (tgs_cons (tg_name 0 (show List.Nodup (["number", "row", "many", "scale"] : List Str) by decide +kernel)) (tgs_cons (tg_name 1 (show List.Nodup (["number", "row", "many", "scale"] : List Str) by decide +kernel)) tgs_nil))), ?_⟩
        refine evX_call F_read_row (hr.mono (by decide)) (es_cons (ev_var 2) (es_cons (ev_var 3) (es_cons (ev_var 0) (es_cons (ev_var 1) es_nil)))) ⟨m, sc, (i : Nat), ws, rfl, hm, hs, hW ws (List.mem_of_getElem? hi), fun e => ⟨fun v hv => ?_, rfl, rfl⟩, fun e => h2 i ⟨⟨ws, hi, e⟩, hok⟩⟩
        cases hv
        exact e
    · obtain ⟨hok, rfl, rfl⟩ := hd
      refine h1 (fun ws hws => ?_) _
      obtain ⟨i, hi, e⟩ := List.getElem_of_mem hws
      exact hok i (by rw [hxl]; exact hi) ws (by rw [List.getElem?_eq_getElem hi, e])
theorem ok_l_cell_at {f : Addr} {fd : FuncData} (T : Txt K mg C_HeedError C_NoRow C_NoTurn C_NoRule C_NoWay C_NoName C_Twice) (Fn : Fun K "_law_cell_at" "_law_cell_at" s_l_cell_at f fd) (hm : mg "_law_cell_at" = some (.ref f)) (hb : Binds K fd ["_law_script", "_law_k"] []) : DefOk P w K mg base 1 "_law_cell_at" (pureSp spCell) := by
  refine okD (k := 0) Fn sc_l_cell_at hm hb (fun ds O R h => ?_) (fun cdv A outer s H E ds O R hr h => ?_)
  · obtain ⟨_, ⟨_, _, rfl, _⟩, _⟩ := h; rfl
  · obtain ⟨d, ⟨ns, k, rfl, hk0, rfl⟩, hR⟩ := h
    refine xs_cons (x_if (et_cmp (ev_var 1) (ev_callB T.b_len (es_cons (ev_var 0) es_nil) (c_len (by first | exact Or.inr rfl | exact Or.inl (Or.inl rfl) | exact Or.inl (Or.inr (Or.inl rfl)) | exact Or.inl (Or.inr (Or.inr ⟨_, rfl, by first | assumption | rfl⟩))))) cmp_lt) (fun hk => ?_) (fun hk => ?_))
    · have hk := of_decide_eq_true hk
      rw [List.length_map] at hk
      have hi : k.toNat < ns.length := by omega
      have hz : atI (ns.map D.int) k = some (.int ns[k.toNat]) := atI_map hk0 (List.getElem?_eq_getElem hi)
      refine xs_cons (x_ret (EvP.ev (ev_ixL (ev_var 0) (by first | exact Or.inl rfl | exact Or.inr (Or.inl rfl) | exact Or.inr (Or.inr ⟨_, rfl, by first | assumption | rfl⟩)) (ev_var 1) hz) ?_))
      unfold cellAt at hR
      rw [List.getElem?_eq_getElem hi] at hR
      exact hR
    · have hk := of_decide_eq_false hk
      rw [List.length_map] at hk
      refine xs_nil ?_
      refine xs_cons (x_ret (EvP.ev ev_int ?_))
      unfold cellAt at hR
      rw [List.getElem?_eq_none (by omega)] at hR
      exact hR
theorem ok_l_stream {f : Addr} {fd : FuncData} (T : Txt K mg C_HeedError C_NoRow C_NoTurn C_NoRule C_NoWay C_NoName C_Twice) (Fn : Fun K "_law_stream" "_law_stream" s_l_stream f fd) (hm : mg "_law_stream" = some (.ref f)) (hb : Binds K fd ["_law_cell", "_law_many_here"] []) : DefOk P w K mg base 1 "_law_stream" (pureSp spStream) := by
  refine okD (k := 0) Fn sc_l_stream hm hb (fun ds O R h => ?_) (fun cdv A outer s H E ds O R hr h => ?_)
  · obtain ⟨_, ⟨_, _, rfl, _⟩, _⟩ := h; rfl
  · obtain ⟨d, ⟨c, n, rfl, hn, rfl⟩, hR⟩ := h
    refine xs_keep ?_
    refine xs_cons (x_set 2 (ev_lstM es_nil ?_) sc_l_stream.nd)
    refine xs_cons (x_set 3 (EvP.ev (ev_bin (ev_var 0) ev_int (o_mod (by first | decide | omega))) ?_) sc_l_stream.nd)
    unfold strm at hR
    have hx0 : 0 ≤ c % 2305843009213693951 ∧ c % 2305843009213693951 < 2305843009213693951 := by omega
    generalize c % 2305843009213693951 = x0 at hR hx0
    refine xs_cons (x_for (ei_range1 (ev_bin (ev_var 1) ev_int o_add) T.b_range (by first | decide | omega) (by first | decide | omega)) (fun i ρ O' => ∃ (L : List Int) (y : Int) (u : Option D), ρ = [some (.int c), some (.int (n : Nat)), some (.ptr O.length), some (.int y), u] ∧ O' = O ++ [some (.lst (L.map D.int))] ∧ L.length = i ∧ (0 ≤ y ∧ y < 2305843009213693951) ∧ run 0 x0 (n + 1) = L ++ run i y (n + 1 - i)) ⟨[], x0, _, rfl, rfl, rfl, hx0, rfl⟩ ?_ ?_)
    · rintro i x ρ O' hx ⟨L, y, u, rfl, rfl, hL, hy, hrun⟩
      obtain ⟨hi, rfl⟩ := rangeD_at hx
      have hi' : i < n + 1 := by omega
      refine ⟨_, tg_name 4 sc_l_stream.nd, ?_⟩
      have b61 : (2305843009213693951 : Int) < 2 ^ 70 := by decide
      have m1 : IntMulOk y y := mulP (m := 70) (n := 70) hy.1 (by omega) hy.1 (by omega)
      have m2 : IntMulOk 48271 y := mulP (m := 20) (n := 70) (by decide) (by decide) hy.1 (by omega)
      have m3 : IntMulOk 7 (0 + (i : Nat)) := mulP (m := 20) (n := 70) (by decide) (by decide) (by omega) (by omega)
      refine xs_cons (x_set 3 (EvP.ev (ev_bin (ev_bin (ev_bin (ev_bin (ev_bin (ev_var 3) (ev_var 3) (o_mul m1)) (ev_bin ev_int (ev_var 3) (o_mul m2)) o_add) (ev_bin ev_int (ev_var 4) (o_mul m3)) o_add) ev_int o_add) ev_int (o_mod (by first | decide | omega))) ?_) sc_l_stream.nd)
      have hst : (y * y + 48271 * y + 7 * (0 + ((i : Nat) : Int)) + 3) % 2305843009213693951 = stp y i := by unfold stp; rw [Int.zero_add]
      have hb : 0 ≤ stp y i ∧ stp y i < 2305843009213693951 := by unfold stp; omega
      rw [hst]
      refine xs_cons (x_append (ev_var 2) st0 (ev_var 3) (by rw [sizeLine_eq, List.length_map]; omega) ?_)
      rw [ss0]
      refine xs_nil ⟨L ++ [stp y i], _, _, rfl, by rw [List.map_append]; rfl, by rw [List.length_append, hL]; rfl, hb, ?_⟩
      rw [hrun, show n + 1 - i = (n + 1 - (i + 1)) + 1 by omega, List.append_assoc]
      rfl
    · rintro ρ O' ⟨L, y, u, rfl, rfl, hL, hy, hrun⟩
      rw [rangeD_len] at hrun
      have q0 : (O ++ [some (MO.lst (L.map D.int))])[O.length]? = some (some (.lst (L.map D.int))) := st0
      refine xs_cons (x_ret (EvP.ev (ev_slLA (ev_var 2) (by first | exact Or.inl rfl | exact Or.inr (Or.inl rfl) | exact Or.inr (Or.inr ⟨_, rfl, by first | assumption | rfl⟩)) (eo_some ev_int) eo_none) ?_))
      rw [show n + 1 - ((n : Int) + 1).toNat = 0 by omega] at hrun
      have e : run 0 x0 (n + 1) = L := by rw [hrun]; exact List.append_nil _
      have e2 : cutA L (some 1) none = L.drop 1 := cutA_drop L 1
      rw [e] at hR
      rw [e2]
      exact ⟨⟨_, rfl⟩, npDs_ints _, hR⟩
theorem ok_l_many {f : Addr} {fd : FuncData} (T : Txt K mg C_HeedError C_NoRow C_NoTurn C_NoRule C_NoWay C_NoName C_Twice) (Fn : Fun K "_law_many" "_law_many" s_l_many f fd) (hm : mg "_law_many" = some (.ref f)) (hb : Binds K fd ["_law_script"] []) (F_l_cell_at : DefOk P w K mg base 1 "_law_cell_at" (pureSp spCell)) : DefOk P w K mg base 2 "_law_many" (relSp preMany relMany) := by
  refine okD (k := 1) Fn sc_l_many hm hb (fun ds O R h => ?_) (fun cdv A outer s H E ds O R hr h => ?_)
  · obtain ⟨⟨_, rfl, _⟩, _⟩ := h; rfl
  · obtain ⟨⟨ns, rfl, hl⟩, hR⟩ := h
    have hnat : ∀ i : Int, 0 ≤ i → ∃ m : Nat, i = (m : Int) := fun i h => Int.eq_ofNat_of_zero_le h
    refine xs_cons (x_set 1 (EvP.ev (ev_bin ev_int (ev_bin (ev_callP F_l_cell_at (hr.mono (by decide)) (es_cons (ev_var 0) (es_cons ev_int es_nil)) ⟨_, _, rfl, by first | decide | omega, rfl⟩) ev_int (o_mod (by first | decide | omega))) o_add) ?_) sc_l_many.nd)
    refine xs_seq (fun ρ' O' => (∃ m : Nat, ρ' = [some (.scr (ns.map D.int)), some (.int (m : Nat)), none] ∧ 1 ≤ m ∧ m ≤ 24) ∧ O' = O) (x_if (et_cmp (ev_bin (ev_bin (ev_callP F_l_cell_at (hr.mono (by decide)) (es_cons (ev_var 0) (es_cons ev_int es_nil)) ⟨_, _, rfl, by first | decide | omega, rfl⟩) ev_int (o_div ⟨(by first | decide | omega), (by first | decide | omega)⟩)) ev_int (o_mod (by first | decide | omega))) ev_int cmp_eqI) (fun hk => ?_) (fun hk => ?_)) ?_
    · refine xs_cons (x_set 1 (EvP.ev (ev_bin ev_int (ev_bin (ev_bin (ev_callP F_l_cell_at (hr.mono (by decide)) (es_cons (ev_var 0) (es_cons ev_int es_nil)) ⟨_, _, rfl, by first | decide | omega, rfl⟩) ev_int (o_div ⟨(by first | decide | omega), (by first | decide | omega)⟩)) ev_int (o_mod (by first | decide | omega))) o_add) ?_) sc_l_many.nd)
      obtain ⟨m, hm⟩ := hnat (1 + cellAt ns 0 / 56 % 24) (by omega)
      exact xs_nil ⟨⟨m, by rw [hm]; rfl, by omega, by omega⟩, rfl⟩
    · obtain ⟨m, hm⟩ := hnat (1 + cellAt ns 0 % 7) (by omega)
      exact xs_nil ⟨⟨m, by rw [hm]; rfl, by omega, by omega⟩, rfl⟩
    rintro _ O ⟨⟨m, rfl, hm1, hm2⟩, rfl⟩
    refine xs_cons (x_set 2 (EvP.ev ev_int ?_) sc_l_many.nd)
    refine xs_seq (fun ρ' O' => (∃ s : Int, ρ' = [some (.scr (ns.map D.int)), some (.int (m : Nat)), some (.int s)] ∧ 1 ≤ s ∧ s ≤ 10) ∧ O' = O) (x_if (et_cmp (ev_bin (ev_callP F_l_cell_at (hr.mono (by decide)) (es_cons (ev_var 0) (es_cons ev_int es_nil)) ⟨_, _, rfl, by first | decide | omega, rfl⟩) ev_int (o_mod (by first | decide | omega))) ev_int cmp_eqI) (fun hk => ?_) (fun hk => xs_nil ⟨⟨_, rfl, by decide, by decide⟩, rfl⟩)) ?_
    · refine xs_cons (x_set 2 (EvP.ev (ev_bin ev_int (ev_bin (ev_bin (ev_callP F_l_cell_at (hr.mono (by decide)) (es_cons (ev_var 0) (es_cons ev_int es_nil)) ⟨_, _, rfl, by first | decide | omega, rfl⟩) ev_int (o_div ⟨(by first | decide | omega), (by first | decide | omega)⟩)) ev_int (o_mod (by first | decide | omega))) o_add) ?_) sc_l_many.nd)
      exact xs_nil ⟨⟨_, rfl, by omega, by omega⟩, rfl⟩
    rintro _ O ⟨⟨s, rfl, hs1, hs2⟩, rfl⟩
    refine xs_cons (x_ret (EvP.ev (ev_tup (es_cons (ev_var 1) (es_cons (ev_var 2) es_nil))) ?_))
    exact hR _ ⟨m, s, rfl, hm1, hm2, hs1, hs2⟩
theorem ok_l_cells {f : Addr} {fd : FuncData} (T : Txt K mg C_HeedError C_NoRow C_NoTurn C_NoRule C_NoWay C_NoName C_Twice) (Fn : Fun K "_law_cells" "_law_cells" s_l_cells f fd) (hm : mg "_law_cells" = some (.ref f)) (hb : Binds K fd ["_law_script", "_law_first"] []) (F_l_cell_at : DefOk P w K mg base 1 "_law_cell_at" (pureSp spCell)) (F_l_stream : DefOk P w K mg base 1 "_law_stream" (pureSp spStream)) : DefOk P w K mg base 2 "_law_cells" (pureSp spCells) := by
  refine okD (k := 1) Fn sc_l_cells hm hb (fun ds O R h => ?_) (fun cdv A outer s H E ds O R hr h => ?_)
  · obtain ⟨_, ⟨_, rfl, _⟩, _⟩ := h; rfl
  · obtain ⟨d, ⟨ns, rfl, rfl⟩, hR⟩ := h
    refine xs_cons (x_set 2 (EvP.ev (ev_callP F_l_cell_at (hr.mono (by decide)) (es_cons (ev_var 0) (es_cons ev_int es_nil)) ⟨_, _, rfl, by first | decide | omega, rfl⟩) ?_) sc_l_cells.nd)
    unfold cells at hR
    refine xs_cons (x_if (et_cmp (ev_bin (ev_bin (ev_var 2) ev_int (o_div ⟨(by first | decide | omega), (by first | decide | omega)⟩)) ev_int (o_mod (by first | decide | omega))) ev_int cmp_eqI) (fun hk => ?_) (fun hk => ?_))
    · have hk := of_decide_eq_true hk
      rw [if_pos hk] at hR
      exact xs_cons (x_ret (EvP.ev (ev_callP F_l_stream (hr.mono (by decide)) (es_cons (ev_bin (ev_var 2) ev_int (o_div ⟨(by first | decide | omega), (by first | decide | omega)⟩)) (es_cons ev_int es_nil)) ⟨_, 60, rfl, by decide, rfl⟩) hR))
    · have hk := of_decide_eq_false hk
      rw [if_neg hk] at hR
      exact xs_nil (xs_cons (x_ret (EvP.ev (ev_slLA (ev_var 0) (by first | exact Or.inl rfl | exact Or.inr (Or.inl rfl) | exact Or.inr (Or.inr ⟨_, rfl, by first | assumption | rfl⟩)) (eo_some (ev_var 1)) (eo_some (ev_bin (ev_var 1) ev_int o_add))) hR)))
theorem ok_l_turn {f : Addr} {fd : FuncData} (T : Txt K mg C_HeedError C_NoRow C_NoTurn C_NoRule C_NoWay C_NoName C_Twice) (Fn : Fun K "_law_turn" "_law_turn" s_l_turn f fd) (hm : mg "_law_turn" = some (.ref f)) (hb : Binds K fd ["_law_cell", "_law_many_here", "_law_scale"] []) (F_l_stream : DefOk P w K mg base 1 "_law_stream" (pureSp spStream)) : DefOk P w K mg base 2 "_law_turn" (pureSp spTurn) := by
  refine okD (k := 1) Fn sc_l_turn hm hb (fun ds O R h => ?_) (fun cdv A outer s H E ds O R hr h => ?_)
  · obtain ⟨_, ⟨_, _, _, rfl, _⟩, _⟩ := h; rfl
  · obtain ⟨d, ⟨c, m, s, rfl, hm, hs, rfl⟩, hR⟩ := h
    refine xs_keep ?_
    have hm1 : m + 1 ≤ 200 := by omega
    refine xs_cons (x_set 3 (EvP.ev (ev_callP F_l_stream (hr.mono (by decide)) (es_cons (ev_var 0) (es_cons (ev_bin (ev_var 1) ev_int o_add) es_nil)) ⟨_, m + 1, rfl, hm1, rfl⟩) ?_) sc_l_turn.nd)
    have hsl := strm_len c (m + 1)
    unfold turnF at hR
    generalize strm c (m + 1) = ss at hR hsl
    refine xs_cons (x_set 4 (ev_lstM es_nil ?_) sc_l_turn.nd)
    have ec : cutA ss (some 1) none = ss.drop 1 := cutA_drop ss 1
    have hdl : (ss.drop 1).length = m := by rw [List.length_drop, hsl]; omega
    refine xs_cons (x_for (ei_LF (ev_slLA (ev_var 3) (by first | exact Or.inl rfl | exact Or.inr (Or.inl rfl) | exact Or.inr (Or.inr ⟨_, rfl, by first | assumption | rfl⟩)) (eo_some ev_int) eo_none) (by first | exact Or.inl rfl | exact Or.inr (Or.inl rfl) | exact Or.inr (Or.inr rfl) | assumption)) (fun i ρ O' => ∃ u : Option D, ρ = [some (.int c), some (.int (m : Nat)), some (.int s), some (.lst (ss.map D.int)), some (.ptr O.length), u] ∧ O' = O ++ [some (.lst ((((ss.drop 1).take i).map (sayF s)).map od))]) ⟨_, rfl, rfl⟩ ?_ ?_)
    · rintro i x ρ O' hx ⟨u, rfl, rfl⟩
      rw [ec, List.getElem?_map] at hx
      cases hp : (ss.drop 1)[i]? with
      | none => rw [hp] at hx; cases hx
      | some y =>
        rw [hp] at hx
        cases hx
        have hi : i < m := by have := (List.getElem?_eq_some_iff.mp hp).1; omega
        refine ⟨_, tg_name 5 sc_l_turn.nd, ?_⟩
        have hz : atI [D.non, .int (y / 8 % (s + 1))] (if decide (1 < y % 8) = true then 1 else 0) = some (od (sayF s y)) := by
          unfold sayF
          by_cases h : 1 < y % 8
          · rw [decide_eq_true h, if_pos rfl, if_pos h]; rfl
          · rw [decide_eq_false h, if_neg Bool.false_ne_true, if_neg h]; rfl
        refine xs_cons (x_append (ev_var 4) st0 (ev_ixL (ev_lst (es_cons ev_non (es_cons (ev_bin (ev_bin (ev_var 5) ev_int (o_div ⟨(by first | decide | omega), (by first | decide | omega)⟩)) (ev_bin (ev_var 2) ev_int o_add) (o_mod (by omega))) es_nil))) (by first | exact Or.inl rfl | exact Or.inr (Or.inl rfl) | exact Or.inr (Or.inr ⟨_, rfl, by first | assumption | rfl⟩)) (ev_callTy T.b_int (es_cons (ev_cmp (ev_bin (ev_var 5) ev_int (o_mod (by first | decide | omega))) ev_int cmp_gt) es_nil) c_intB) hz) (by rw [sizeLine_eq, List.length_map, List.length_map, List.length_take]; omega) ?_)
        rw [ss0]
        refine xs_nil ⟨_, rfl, ?_⟩
        rw [List.take_add_one, hp, List.map_append, List.map_append]
        rfl
    · rintro ρ O' ⟨u, rfl, rfl⟩
      rw [ec, List.length_map, List.take_of_length_le (Nat.le_refl _)]
      have q0 : (O ++ [some (MO.lst (((ss.drop 1).map (sayF s)).map od))])[O.length]? = some (some (.lst (((ss.drop 1).map (sayF s)).map od))) := st0
      have h0 : 0 < ss.length := by omega
      have hz : atI (ss.map D.int) 0 = some (.int ss[0]) := atI_map (by decide) (List.getElem?_eq_getElem h0)
      refine xs_cons (x_ret (EvP.ev (ev_tup (es_cons (ev_callTy T.b_tuple (es_cons (ev_var 4) es_nil) (c_tuple (by first | exact Or.inr rfl | exact Or.inl (Or.inl rfl) | exact Or.inl (Or.inr (Or.inl rfl)) | exact Or.inl (Or.inr (Or.inr ⟨_, rfl, by first | assumption | rfl⟩))))) (es_cons (ev_bin (ev_ixL (ev_var 3) (by first | exact Or.inl rfl | exact Or.inr (Or.inl rfl) | exact Or.inr (Or.inr ⟨_, rfl, by first | assumption | rfl⟩)) ev_int hz) (ev_bin (ev_var 2) ev_int o_add) (o_mod (by omega))) es_nil))) ?_))
      rw [List.getElem?_eq_getElem h0] at hR
      exact ⟨⟨_, rfl⟩, tD_np (((ss.drop 1).map (sayF s)), ss[0] % (s + 1)), hR⟩
theorem ok_l_turns {f : Addr} {fd : FuncData} (T : Txt K mg C_HeedError C_NoRow C_NoTurn C_NoRule C_NoWay C_NoName C_Twice) (Fn : Fun K "_law_turns" "_law_turns" s_l_turns f fd) (hm : mg "_law_turns" = some (.ref f)) (hb : Binds K fd ["_law_cells_here", "_law_many_here", "_law_scale"] []) (F_l_turn : DefOk P w K mg base 2 "_law_turn" (pureSp spTurn)) : DefOk P w K mg base 3 "_law_turns" (pureSp spTurns) := by
  refine okD (k := 2) Fn sc_l_turns hm hb (fun ds O R h => ?_) (fun cdv A outer s H E ds O R hr h => ?_)
  · obtain ⟨_, ⟨_, _, _, rfl, _⟩, _⟩ := h; rfl
  · obtain ⟨d, ⟨cs, m, s, rfl, hl, hm, hs, rfl⟩, hR⟩ := h
    refine xs_cons (x_ret (EvP.ev (ev_callTy T.b_tuple (es_cons (ev_compM (fun q => tD (turnF m s q)) ["_law_cell"] ["_law_many_here", "_law_scale"] [1, 2] (ei_LF (ev_var 0) (by first | exact Or.inl rfl | exact Or.inr (Or.inl rfl) | exact Or.inr (Or.inr rfl) | assumption)) (by rw [sizeLine_eq]; omega) (by exact fun q hq s H fp => ⟨[some _], rfl, (tg_name 0 (show List.Nodup (["_law_cell", "_law_many_here", "_law_scale"] : List Str) by decide +kernel)), ⟨_, rfl, (ev_callP F_l_turn (hr.mono (by decide)) (es_cons (ev_var 0) (es_cons (ev_var 1) (es_cons (ev_var 2) es_nil))) ⟨_, _, _, rfl, by assumption, by assumption, rfl⟩)⟩⟩)) es_nil) (c_tuple (by first | exact Or.inr rfl | exact Or.inl (Or.inl rfl) | exact Or.inl (Or.inr (Or.inl rfl)) | exact Or.inl (Or.inr (Or.inr ⟨_, rfl, by first | assumption | rfl⟩))))) ?_))
    rw [List.map_map] at hR
    exact hR
theorem ok_l_row {f : Addr} {fd : FuncData} (T : Txt K mg C_HeedError C_NoRow C_NoTurn C_NoRule C_NoWay C_NoName C_Twice) (Fn : Fun K "_law_row" "_law_row" s_l_row f fd) (hm : mg "_law_row" = some (.ref f)) (hb : Binds K fd ["_law_turn_here"] []) : DefOk P w K mg base 1 "_law_row" (pureSp spRowL) := by
  refine okD (k := 0) Fn sc_l_row hm hb (fun ds O R h => ?_) (fun cdv A outer s H E ds O R hr h => ?_)
  · obtain ⟨_, ⟨_, _, _, rfl, _⟩, _⟩ := h; rfl
  · obtain ⟨d, ⟨m, sc, t, rfl, hG, hm, hs, rfl⟩, hR⟩ := h
    refine xs_keep ?_
    have hn := sizeLine_eq
    have hl := hG.len
    refine xs_cons (x_set 1 (ev_lstM es_nil ?_) sc_l_row.nd)
    refine xs_cons (x_for (ei_LF (xs := t.1.map od) (ev_ixT (ev_var 0) ev_int rfl) (Or.inr (Or.inr rfl))) (fun i ρ O' => ∃ u : Option D, ρ = [some (tD t), some (.ptr O.length), u] ∧ O' = O ++ [some (.lst (((t.1.take i).map wS).map D.str))]) ⟨_, rfl, rfl⟩ ?_ ?_)
    · rintro i x ρ O' hx ⟨u, rfl, rfl⟩
      rw [List.getElem?_map] at hx
      cases hp : t.1[i]? with
      | none => rw [hp] at hx; cases hx
      | some o =>
        rw [hp] at hx
        cases hx
        have hi := (List.getElem?_eq_some_iff.mp hp).1
        have hso := hG.say o (List.mem_of_getElem? hp)
        refine ⟨_, tg_name 2 sc_l_row.nd, ?_⟩
        have hll : (((t.1.take i).map wS).map D.str).length < sizeLine := by rw [List.length_map, List.length_map, List.length_take]; omega
        have hfin : ((t.1.take i).map wS).map D.str ++ [D.str (wS o)] = ((t.1.take (i + 1)).map wS).map D.str := by
          rw [List.take_add_one, hp, List.map_append, List.map_append]
          rfl
        cases o with
        | none =>
          refine xs_cons (x_append (ev_var 1) st0 (ev_ixL (ev_lst (es_cons ev_str (es_cons (ev_callTy T.b_str (es_cons (ev_var 2) es_nil) c_strN) es_nil))) (by first | exact Or.inl rfl | exact Or.inr (Or.inl rfl) | exact Or.inr (Or.inr ⟨_, rfl, by first | assumption | rfl⟩)) (ev_callTy T.b_int (es_cons (ev_cmp (ev_var 2) ev_non cmp_isnot) es_nil) c_intB) (show atI [D.str "-", D.str "None"] _ = some (.str "-") from rfl)) hll ?_)
          rw [ss0]
          exact xs_nil ⟨_, rfl, by rw [← hfin]; rfl⟩
        | some n =>
          obtain ⟨h0, h1⟩ := hso n rfl
          refine xs_cons (x_append (ev_var 1) st0 (ev_ixL (ev_lst (es_cons ev_str (es_cons (ev_callTy T.b_str (es_cons (ev_var 2) es_nil) (c_strI ⟨by omega, by omega⟩)) es_nil))) (by first | exact Or.inl rfl | exact Or.inr (Or.inl rfl) | exact Or.inr (Or.inr ⟨_, rfl, by first | assumption | rfl⟩)) (ev_callTy T.b_int (es_cons (ev_cmp (ev_var 2) ev_non cmp_isnot) es_nil) c_intB) (show atI [D.str "-", D.str (nS n)] _ = some (.str (nS n)) from rfl)) hll ?_)
          rw [ss0]
          exact xs_nil ⟨_, rfl, by rw [← hfin]; rfl⟩
    · rintro ρ O' ⟨u, rfl, rfl⟩
      rw [List.length_map, List.take_length]
      have h0 := hG.so0
      have h1 := hG.so1
      have q0 : (O ++ [some (MO.lst ((t.1.map wS).map D.str))])[O.length]? = some (some (.lst ((t.1.map wS).map D.str))) := st0
      refine xs_cons (x_ret (EvP.ev (ev_bin (ev_var 1) (ev_lst (es_cons ev_str (es_cons (ev_callTy T.b_str (es_cons (ev_ixT (ev_var 0) ev_int rfl) es_nil) (c_strI ⟨by omega, by omega⟩)) es_nil))) (o_catP q0 (by rw [List.length_map, List.length_map]; show _ + 2 ≤ _; omega))) ?_))
      have e : (t.1.map wS).map D.str ++ [D.str ":", .str (nS t.2)] = (wsF t).map D.str := by unfold wsF; rw [List.map_append]; rfl
      rw [show ([D.str ((":" : Str)), D.str (Str.ofString (toString t.2))] : List D) = [D.str ":", .str (nS t.2)] from rfl, e]
      exact ⟨⟨_, rfl⟩, npDs_strs _, hR⟩
theorem ok_l_told {f : Addr} {fd : FuncData} (T : Txt K mg C_HeedError C_NoRow C_NoTurn C_NoRule C_NoWay C_NoName C_Twice) (Fn : Fun K "_law_told" "_law_told" s_l_told f fd) (hm : mg "_law_told" = some (.ref f)) (hb : Binds K fd ["_law_many_here", "_law_scale", "_law_text"] []) (F_read : DefX P w K mg base 5 "read" (spReadX C_NoRow)) : DefOk P w K mg base 7 "_law_told" (pureSp spTold) := by
  refine okD (k := 6) Fn sc_l_told hm hb (fun ds O R h => ?_) (fun cdv A outer s H E ds O R hr h => ?_)
  · obtain ⟨_, ⟨_, _, _, _, rfl, _⟩, _⟩ := h; rfl
  · obtain ⟨d, ⟨m, sc, W, r, rfl, hm, hs, hW, hl, hne, hres, rfl⟩, hR⟩ := h
    refine xs_keep ?_
    refine xs_cons (x_set 3 (EvP.ev (ev_lst es_nil) ?_) sc_l_told.nd)
    cases r with
    | none =>
      refine xs_cons (x_tryA 4 sc_l_told.nd T.m_HeedError (RX := fun C fs ρ O' => False) (fun pn E => ?_) (fun ah C fs ρ' O' hx => hx.elim))
      refine xX_cons (xX_expr (evX_call F_read (hr.mono (by decide)) (es_cons (ev_var 0) (es_cons (ev_var 1) (es_cons (ev_var 2) es_nil))) ⟨m, sc, W, rfl, hm, hs, hW, hl, hne, fun _ d => xX_nil ?_, fun k hk => fst_not hk hres⟩))
      refine xs_cons (x_ret (EvP.ev (ev_var 3) ?_))
      exact ⟨⟨[], (List.append_nil _).symm⟩, rfl, hR⟩
    | some k =>
      refine xs_cons (x_tryA 4 sc_l_told.nd T.m_HeedError (RX := fun C fs ρ O' => C = C_NoRow ∧ fs = [(("number" : Str), D.int (k : Nat))] ∧ ρ = [some (.int (m : Nat)), some (.int sc), some (.str (txtW W)), some (.lst []), none, none] ∧ O' = O) (fun pn E => ?_) (fun ah C fs ρ' O' hx => ?_))
      · exact xX_cons (xX_expr (evX_call F_read (hr.mono (by decide)) (es_cons (ev_var 0) (es_cons (ev_var 1) (es_cons (ev_var 2) es_nil))) ⟨m, sc, W, rfl, hm, hs, hW, hl, hne, fun hall d => (fst_not hres hall).elim, fun j hj => by cases fst_one hj hres; exact ⟨rfl, rfl, rfl, rfl⟩⟩))
      · obtain ⟨rfl, rfl, rfl, rfl⟩ := hx
        refine ⟨T.x_NoRow_HeedError, ?_⟩
        refine xs_cons (x_set 5 (EvP.ev (ev_lst (es_cons (ev_isX T.b_isinstance (ev_var 4) st0 T.t_NoRow T.m_NoTurn T.i_NoRow_NoTurn) (es_cons (ev_isX T.b_isinstance (ev_var 4) st0 T.t_NoRow T.m_NoRule T.i_NoRow_NoRule) (es_cons (ev_isX T.b_isinstance (ev_var 4) st0 T.t_NoRow T.m_NoWay T.i_NoRow_NoWay) (es_cons (ev_isX T.b_isinstance (ev_var 4) st0 T.t_NoRow T.m_NoName T.i_NoRow_NoName) es_nil))))) ?_) sc_l_told.nd)
        refine xs_cons (x_set 3 (EvP.ev (ev_lst (es_cons (ev_and (ev_isX T.b_isinstance (ev_var 4) st0 T.t_NoRow T.m_NoRow T.i_NoRow_NoRow) (fun _ => ev_one (ev_not (ev_callB T.b_any (es_cons (ev_bin (ev_var 5) (ev_lst (es_cons (ev_isX T.b_isinstance (ev_var 4) st0 T.t_NoRow T.m_Twice T.i_NoRow_Twice) es_nil)) (o_cat (Nat.le_of_ble_eq_true rfl))) es_nil) (c_anyH (bs := [false, false, false, false, false]) st0 (Or.inl rfl) rfl))))) es_nil)) ?_) sc_l_told.nd)
        refine xs_cons (x_if (et_cmp (ev_var 3) (ev_lst (es_cons ev_bl es_nil)) (cmp_eqH hr (Or.inl rfl) (Or.inl rfl) rfl rfl (by decide))) (fun hk => ?_) (fun hk => by cases hk))
        refine xs_cons (x_set 3 (EvP.ev (ev_lst (es_cons (ev_fldX (ev_var 4) st0 T.t_NoRow T.n_NoRow_number rfl) es_nil)) ?_) sc_l_told.nd)
        refine xs_nil (xs_nil ?_)
        refine xs_cons (x_ret (EvP.ev (ev_var 3) ?_))
        exact ⟨⟨_, rfl⟩, rfl, hR⟩
theorem ok_l_bad {f : Addr} {fd : FuncData} (T : Txt K mg C_HeedError C_NoRow C_NoTurn C_NoRule C_NoWay C_NoName C_Twice) (Fn : Fun K "_law_bad" "_law_bad" s_l_bad f fd) (hm : mg "_law_bad" = some (.ref f)) (hb : Binds K fd ["_law_words", "_law_scale", "_law_cell"] []) : DefOk P w K mg base 3 "_law_bad" spBad := by
  refine okD (k := 2) Fn sc_l_bad hm hb (fun ds O R h => ?_) (fun cdv A outer s H E ds O R hr h => ?_)
  · obtain ⟨_, _, _, _, rfl, _⟩ := h; rfl
  · obtain ⟨m, sc, c, t, rfl, hG, hm, hs, hR⟩ := h
    refine xs_keep ?_
    have hn := sizeLine_eq
    obtain ⟨hW, hwt⟩ := wsF_wd hG hs.2 hm.2
    have hl : (wsF t).length = m + 2 := by rw [wsF_len, hG.len]
    have hsg := num_sign hs
    have l0 : (("0" : Str)).length = 1 := by decide +kernel
    have l9 : (("9" : Str)).length = 1 := by decide +kernel
    have l1 : (("1" : Str)).length = 1 := by decide +kernel
    have hR' : ∀ ws, Wd ws → awF m sc ws = false → npD (D.str (rowW ws)) = true ∧ R (.str (rowW ws)) O := fun ws h1 h2 => ⟨rfl, hR ws h1 h2⟩
    refine xs_cons (x_set 3 (ev_lstM (es_cons (ev_callTy T.b_str (es_cons (ev_bin (ev_var 1) ev_int o_add) es_nil) (c_strI ⟨by omega, by omega⟩)) (es_cons ev_str (es_cons ev_str (es_cons ev_str (es_cons ev_str (es_cons ev_str (es_cons ev_str (es_cons ev_str (es_cons ev_str (es_cons ev_str (es_cons ev_str (es_cons ev_str (es_cons ev_str (es_cons ev_str es_nil)))))))))))))) ?_) sc_l_bad.nd)
    refine xs_cons (x_item (j := 11) (ev_ixL (ev_lst (es_cons (ev_bin ev_str (ev_bin ev_str ev_int (o_repS1 l0 (by decide))) (o_addS (by rw [l1, L2.repS_len l0]; show 1 + 59 ≤ _; omega))) (es_cons (ev_bin ev_str ev_int (o_repS1 l9 (by decide))) (es_cons (ev_bin ev_str ev_int (o_repS1 l9 (by decide))) (es_cons (ev_bin ev_str ev_int (o_repS1 l0 (by decide))) es_nil))))) (by first | exact Or.inl rfl | exact Or.inr (Or.inl rfl) | exact Or.inr (Or.inr ⟨_, rfl, by first | assumption | rfl⟩)) (ev_bin (ev_bin (ev_var 2) ev_int (o_div ⟨(by first | decide | omega), (by first | decide | omega)⟩)) ev_int (o_mod (by first | decide | omega))) (far_at (c / 4000))) (ev_var 3) st0 ev_int rfl ?_)
    rw [ss0]
    have hod : (O ++ [some (MO.lst ((oddL sc (c / 4000 % 4)).map D.str))])[O.length]? = some (some (.lst ((oddL sc (c / 4000 % 4)).map D.str))) := st0
    show Exs _ _ (O ++ [some (MO.lst ((oddL sc (c / 4000 % 4)).map D.str))]) _ _
    refine xs_cons (x_set 4 (EvP.ev (ev_bin (ev_var 2) ev_int (o_mod (by first | decide | omega))) ?_) sc_l_bad.nd)
    refine xs_cons (x_set 5 (EvP.ev (ev_bin (ev_bin (ev_var 2) ev_int (o_div ⟨(by first | decide | omega), (by first | decide | omega)⟩)) (ev_callB T.b_len (es_cons (ev_var 0) es_nil) (c_len (by first | exact Or.inr rfl | exact Or.inl (Or.inl rfl) | exact Or.inl (Or.inr (Or.inl rfl)) | exact Or.inl (Or.inr (Or.inr ⟨_, rfl, by first | assumption | rfl⟩))))) (o_mod (by rw [List.length_map]; omega))) ?_) sc_l_bad.nd)
    have hat : ∃ a : Nat, c / 20 % ((((wsF t).map D.str).length : Nat) : Int) = (a : Nat) ∧ a < m + 2 := by
      rw [List.length_map, hl]
      have h1 := Int.emod_nonneg (c / 20) (show ((m + 2 : Nat) : Int) ≠ 0 by omega)
      have h2 := Int.emod_lt_of_pos (c / 20) (show (0 : Int) < ((m + 2 : Nat) : Int) by omega)
      exact ⟨(c / 20 % ((m + 2 : Nat) : Int)).toNat, by omega, by omega⟩
    obtain ⟨a, ha, hal⟩ := hat
    rw [ha]
    have hw : ∃ k : Nat, c % 20 = (k : Nat) ∧ k < 20 := ⟨(c % 20).toNat, by omega, by omega⟩
    obtain ⟨k, hk, hk20⟩ := hw
    rw [hk]
    have hct : ∀ b : Nat, cutA (wsF t) none (some ((b : Nat) : Int)) = (wsF t).take b := fun b => cutA_take _ b
    have hcd : ∀ b : Nat, cutA (wsF t) (some (((b : Nat) : Int) + 1)) none = (wsF t).drop (b + 1) := fun b => by rw [show ((b : Nat) : Int) + 1 = ((b + 1 : Nat) : Int) by omega]; exact cutA_drop _ _
    refine xs_cons (x_if (et_cmp (ev_var 4) ev_int cmp_lt) (fun hk => ?_) (fun hk => xs_nil ?_))
    · have hk := of_decide_eq_true hk
      refine xs_seq (fun ρ' O' => ∃ b : Nat, b ≤ m + 1 ∧ b ≠ m ∧ ρ' = [some (.lst ((wsF t).map D.str)), some (.int sc), some (.int c), some (.ptr O.length), some (.int (k : Nat)), some (.int (b : Nat))] ∧ O' = O ++ [some (MO.lst ((oddL sc (c / 4000 % 4)).map D.str))]) (x_if (et_cmp (ev_ixL (ev_var 0) (by first | exact Or.inl rfl | exact Or.inr (Or.inl rfl) | exact Or.inr (Or.inr ⟨_, rfl, by first | assumption | rfl⟩)) (ev_var 5) (w_at (by omega))) ev_str cmp_eqS) (fun h => ?_) (fun h => xs_nil ⟨a, by omega, fun z => ?_, rfl, rfl⟩)) ?_
      · rw [colon_at hG hs.2 hal] at h
        have h := of_decide_eq_true h
        refine xs_cons (x_set 5 (EvP.ev (ev_bin (ev_var 5) ev_int o_add) ?_) sc_l_bad.nd)
        exact xs_nil ⟨a + 1, by omega, by omega, rfl, rfl⟩
      · rw [colon_at hG hs.2 hal] at h
        exact of_decide_eq_false h z
      rintro _ _ ⟨b, hb1, hb2, rfl, rfl⟩
      obtain ⟨w, hwm, hwa⟩ := odd_at (s := sc) (j := c / 4000 % 4) (k := k) (by omega)
      have hno := odd_no hs w hwm
      have hwd := mid_wd (a := b) hW hwt (by omega) hno
      have e : D.lst ((cutA (wsF t) none (some ((b : Nat) : Int))).map D.str ++ [.str w] ++ (cutA (wsF t) (some (((b : Nat) : Int) + 1)) none).map D.str) = D.lst (((wsF t).take b ++ [w] ++ (wsF t).drop (b + 1)).map D.str) := by rw [hct, hcd, List.map_append, List.map_append]; rfl
      have z1 : ((cutA (wsF t) none (some ((b : Nat) : Int))).map D.str).length ≤ m + 2 := by rw [List.length_map]; exact Nat.le_trans (cutA_le _ _ _) (by omega)
      have z2 : ((cutA (wsF t) (some (((b : Nat) : Int) + 1)) none).map D.str).length ≤ m + 2 := by rw [List.length_map]; exact Nat.le_trans (cutA_le _ _ _) (by omega)
      refine xs_cons (x_ret (EvP.ev (ev_join (ys := (wsF t).take b ++ [w] ++ (wsF t).drop (b + 1)) ev_str (EvP.cast (ev_bin (ev_bin (ev_slLA (ev_var 0) (by first | exact Or.inl rfl | exact Or.inr (Or.inl rfl) | exact Or.inr (Or.inr ⟨_, rfl, by first | assumption | rfl⟩)) eo_none (eo_some (ev_var 5))) (ev_lst (es_cons (ev_ixL (ev_var 3) (by first | exact Or.inl rfl | exact Or.inr (Or.inl rfl) | exact Or.inr (Or.inr ⟨_, rfl, by first | assumption | rfl⟩)) (ev_var 4) hwa) es_nil)) (o_cat (by show _ + 1 ≤ _; omega))) (ev_slLA (ev_var 0) (by first | exact Or.inl rfl | exact Or.inr (Or.inl rfl) | exact Or.inr (Or.inr ⟨_, rfl, by first | assumption | rfl⟩)) (eo_some (ev_bin (ev_var 5) ev_int o_add)) eo_none) (o_cat (by rw [List.length_append]; show _ + 1 + _ ≤ _; omega))) e) (Or.inl rfl) (few_ok sp1 hwd)) ?_))
      exact ⟨⟨_, rfl⟩, hR' _ hwd (bad_mid hl hb1 hb2 hno)⟩
    have hnat : (k : Int) = ((k : Nat) : Int) := rfl
    refine xs_cons (x_if (et_cmp (ev_var 4) ev_int cmp_eqI) (fun hk => ?_) (fun hk => xs_nil ?_))
    · have hwd : Wd (wsF t ++ [("0" : Str)]) := few_wd hW hwt (by simp) (by rw [List.length_append]; show _ + 1 ≤ 28; omega) (fun v hv => by rcases List.mem_append.mp hv with h | h; exact .inl h; rw [List.mem_singleton.mp h]; exact .inr (by simp))
      refine xs_cons (x_ret (EvP.ev (ev_join (ys := wsF t ++ [("0" : Str)]) ev_str (EvP.cast (ev_bin (ev_var 0) (ev_lst (es_cons ev_str es_nil)) (o_cat (by rw [List.length_map]; show _ + 1 ≤ _; omega))) (by rw [List.map_append]; rfl)) (Or.inl rfl) (few_ok sp1 hwd)) ?_))
      exact ⟨⟨_, rfl⟩, hR' _ hwd (aw_no fun h => by have := (aw_true h).1; rw [List.length_append, hl] at this; simp at this)⟩
    refine xs_cons (x_if (et_cmp (ev_var 4) ev_int cmp_eqI) (fun hk => ?_) (fun hk => xs_nil ?_))
    · have hlen : ((wsF t).take a ++ (wsF t).drop (a + 1)).length = m + 1 := by rw [List.length_append, List.length_take, List.length_drop, hl]; omega
      have hwd : Wd ((wsF t).take a ++ (wsF t).drop (a + 1)) := few_wd hW hwt (fun z => by rw [z] at hlen; cases hlen) (by omega) (fun v hv => .inl ((List.mem_append.mp hv).elim List.mem_of_mem_take List.mem_of_mem_drop))
      have e : D.lst ((cutA (wsF t) none (some ((a : Nat) : Int))).map D.str ++ (cutA (wsF t) (some (((a : Nat) : Int) + 1)) none).map D.str) = D.lst (((wsF t).take a ++ (wsF t).drop (a + 1)).map D.str) := by rw [hct, hcd, List.map_append]
      have z1 : ((cutA (wsF t) none (some ((a : Nat) : Int))).map D.str).length ≤ m + 2 := by rw [List.length_map]; exact Nat.le_trans (cutA_le _ _ _) (by omega)
      have z2 : ((cutA (wsF t) (some (((a : Nat) : Int) + 1)) none).map D.str).length ≤ m + 2 := by rw [List.length_map]; exact Nat.le_trans (cutA_le _ _ _) (by omega)
      refine xs_cons (x_ret (EvP.ev (ev_join (ys := (wsF t).take a ++ (wsF t).drop (a + 1)) ev_str (EvP.cast (ev_bin (ev_slLA (ev_var 0) (by first | exact Or.inl rfl | exact Or.inr (Or.inl rfl) | exact Or.inr (Or.inr ⟨_, rfl, by first | assumption | rfl⟩)) eo_none (eo_some (ev_var 5))) (ev_slLA (ev_var 0) (by first | exact Or.inl rfl | exact Or.inr (Or.inl rfl) | exact Or.inr (Or.inr ⟨_, rfl, by first | assumption | rfl⟩)) (eo_some (ev_bin (ev_var 5) ev_int o_add)) eo_none) (o_cat (by omega))) e) (Or.inl rfl) (few_ok sp1 hwd)) ?_))
      exact ⟨⟨_, rfl⟩, hR' _ hwd (aw_no fun h => by have := (aw_true h).1; omega)⟩
    refine xs_cons (x_if (et_cmp (ev_var 4) ev_int cmp_eqI) (fun hk => ?_) (fun hk => xs_nil ?_))
    · have hwd : Wd ([("0" : Str)] ++ wsF t) := few_wd hW hwt (by simp) (by rw [List.length_append]; show 1 + _ ≤ 28; omega) (fun v hv => by rcases List.mem_append.mp hv with h | h; rw [List.mem_singleton.mp h]; exact .inr (by simp); exact .inl h)
      refine xs_cons (x_ret (EvP.ev (ev_join (ys := [("0" : Str)] ++ wsF t) ev_str (EvP.cast (ev_bin (ev_lst (es_cons ev_str es_nil)) (ev_var 0) (o_cat (by rw [List.length_map]; show 1 + _ ≤ _; omega))) (by rw [List.map_append]; rfl)) (Or.inl rfl) (few_ok sp1 hwd)) ?_))
      exact ⟨⟨_, rfl⟩, hR' _ hwd (aw_no fun h => by have := (aw_true h).1; rw [List.length_append, hl] at this; simp at this)⟩
    have c1 : cutA (wsF t) none (some (-1)) = (wsF t).take (m + 1) := by rw [show (-1 : Int) = -((1 : Nat) : Int) from rfl, cutA_neg _ 1 (by decide), hl]; rfl
    have c2 : cutA (wsF t) none (some (-2)) = (wsF t).take m := by rw [show (-2 : Int) = -((2 : Nat) : Int) from rfl, cutA_neg _ 2 (by decide), hl]; rfl
    have c3 : cutA (wsF t) (some (-1)) none = (wsF t).drop (m + 1) := by rw [cutA_end, hl]; rfl
    have t1 : ((wsF t).take (m + 1)).length = m + 1 := by rw [List.length_take]; omega
    have t2 : ((wsF t).take m).length = m := by rw [List.length_take]; omega
    have t3 : ((wsF t).drop (m + 1)).length = 1 := by rw [List.length_drop]; omega
    refine xs_cons (x_if (et_cmp (ev_var 4) ev_int cmp_eqI) (fun hk => ?_) (fun hk => xs_nil ?_))
    · have hwd : Wd ((wsF t).take (m + 1) ++ [("-" : Str)]) := few_wd hW hwt (by simp) (by rw [List.length_append, t1]; show _ + 1 ≤ 28; omega) (fun v hv => by rcases List.mem_append.mp hv with h | h; exact .inl (List.mem_of_mem_take h); rw [List.mem_singleton.mp h]; exact .inr (by simp))
      refine xs_cons (x_ret (EvP.ev (ev_join (ys := (wsF t).take (m + 1) ++ [("-" : Str)]) ev_str (EvP.cast (ev_bin (ev_slLA (ev_var 0) (by first | exact Or.inl rfl | exact Or.inr (Or.inl rfl) | exact Or.inr (Or.inr ⟨_, rfl, by first | assumption | rfl⟩)) eo_none (eo_some (ev_neg ev_int))) (ev_lst (es_cons ev_str es_nil)) (o_cat (by rw [List.length_map, c1, t1]; show _ + 1 ≤ _; omega))) (by rw [c1, List.map_append]; rfl)) (Or.inl rfl) (few_ok sp1 hwd)) ?_))
      exact ⟨⟨_, rfl⟩, hR' _ hwd (aw_no fun h => by
        have := (aw_true h).2.2.2
        rw [List.getD_eq_getElem?_getD, List.getElem?_append_right (by omega), t1, Nat.sub_self] at this
        have this : numF sc "-" = true := this
        rw [hsg.1] at this
        cases this)⟩
    refine xs_cons (x_if (et_cmp (ev_var 4) ev_int cmp_eqI) (fun hk => ?_) (fun hk => xs_nil ?_))
    · have hwd : Wd ((wsF t).take m ++ (wsF t).drop (m + 1) ++ [(":" : Str)]) := few_wd hW hwt (by simp) (by rw [List.length_append, List.length_append, t2, t3]; show _ + 1 + 1 ≤ 28; omega) (fun v hv => by
        rcases List.mem_append.mp hv with h | h
        · exact .inl ((List.mem_append.mp h).elim List.mem_of_mem_take List.mem_of_mem_drop)
        · rw [List.mem_singleton.mp h]; exact .inr (by simp))
      refine xs_cons (x_ret (EvP.ev (ev_join (ys := (wsF t).take m ++ (wsF t).drop (m + 1) ++ [(":" : Str)]) ev_str (EvP.cast (ev_bin (ev_bin (ev_slLA (ev_var 0) (by first | exact Or.inl rfl | exact Or.inr (Or.inl rfl) | exact Or.inr (Or.inr ⟨_, rfl, by first | assumption | rfl⟩)) eo_none (eo_some (ev_neg ev_int))) (ev_slLA (ev_var 0) (by first | exact Or.inl rfl | exact Or.inr (Or.inl rfl) | exact Or.inr (Or.inr ⟨_, rfl, by first | assumption | rfl⟩)) (eo_some (ev_neg ev_int)) eo_none) (o_cat (by rw [List.length_map, List.length_map, c2, c3, t2, t3]; omega))) (ev_lst (es_cons ev_str es_nil)) (o_cat (by rw [List.length_append, List.length_map, List.length_map, c2, c3, t2, t3]; show _ + 1 + 1 ≤ _; omega))) (by rw [c2, c3, List.map_append, List.map_append]; rfl)) (Or.inl rfl) (few_ok sp1 hwd)) ?_))
      exact ⟨⟨_, rfl⟩, hR' _ hwd (aw_no fun h => by
        have := (aw_true h).2.2.2
        rw [List.getD_eq_getElem?_getD, List.getElem?_append_right (by rw [List.length_append]; omega), List.length_append, t2, t3, Nat.sub_self] at this
        have this : numF sc ":" = true := this
        rw [hsg.2] at this
        cases this)⟩
    have hlast : atI ((wsF t).map D.str) (-1) = some (.str (nS t.2)) := by
      have : (wsF t).map D.str = (t.1.map wS ++ [(":" : Str)]).map D.str ++ [.str (nS t.2)] := by unfold wsF; rw [show t.1.map wS ++ [(":" : Str), nS t.2] = (t.1.map wS ++ [(":" : Str)]) ++ [nS t.2] by rw [List.append_assoc]; rfl, List.map_append]; rfl
      rw [this]
      exact atI_last _ _
    have hwd : Wd ((wsF t).take m ++ [("0" : Str), nS t.2]) := few_wd hW hwt (by simp) (by rw [List.length_append, t2]; show _ + 2 ≤ 28; omega) (fun v hv => by
      rcases List.mem_append.mp hv with h | h
      · exact .inl (List.mem_of_mem_take h)
      · rcases List.mem_cons.mp h with rfl | h
        · exact .inr (by simp)
        · rw [List.mem_singleton.mp h]; exact .inl (by unfold wsF; simp))
    refine xs_cons (x_ret (EvP.ev (ev_join (ys := (wsF t).take m ++ [("0" : Str), nS t.2]) ev_str (EvP.cast (ev_bin (ev_slLA (ev_var 0) (by first | exact Or.inl rfl | exact Or.inr (Or.inl rfl) | exact Or.inr (Or.inr ⟨_, rfl, by first | assumption | rfl⟩)) eo_none (eo_some (ev_neg ev_int))) (ev_lst (es_cons ev_str (es_cons (ev_ixL (ev_var 0) (by first | exact Or.inl rfl | exact Or.inr (Or.inl rfl) | exact Or.inr (Or.inr ⟨_, rfl, by first | assumption | rfl⟩)) (ev_neg ev_int) hlast) es_nil))) (o_cat (by rw [List.length_map, c2, t2]; show _ + 2 ≤ _; omega))) (by rw [c2, List.map_append]; rfl)) (Or.inl rfl) (few_ok sp1 hwd)) ?_))
    refine ⟨⟨_, rfl⟩, hR' _ hwd (aw_no fun h => ?_)⟩
    have := (aw_true h).2.1
    rw [List.getD_eq_getElem?_getD, List.getElem?_append_right (by omega), t2, Nat.sub_self] at this
    exact absurd this (by show ¬ ((("0" : Str) == ":") = true); decide +kernel)
theorem ok_law {f : Addr} {fd : FuncData} (T : Txt K mg C_HeedError C_NoRow C_NoTurn C_NoRule C_NoWay C_NoName C_Twice) (Fn : Fun K "law" "law" s_law f fd)  (F_l_many : DefOk P w K mg base 2 "_law_many" (relSp preMany relMany)) (F_l_cells : DefOk P w K mg base 2 "_law_cells" (pureSp spCells)) (F_l_turns : DefOk P w K mg base 3 "_law_turns" (pureSp spTurns)) (F_l_row : DefOk P w K mg base 1 "_law_row" (pureSp spRowL)) (F_l_told : DefOk P w K mg base 7 "_law_told" (pureSp spTold)) (F_l_bad : DefOk P w K mg base 3 "_law_bad" spBad) (F_l_cell_at : DefOk P w K mg base 1 "_law_cell_at" (pureSp spCell)) : FnOk P w K mg base CX0 10 f fd ["_law_script"] (toSp K spLaw) := by
  refine okF (k := 9) Fn sc_law (fun ds O R h => ?_) (fun cdv A outer s H E ds O R hr h => ?_)
  · obtain ⟨_, rfl, _⟩ := h; rfl
  · obtain ⟨ns, rfl, hl, hR⟩ := h
    refine xs_keep ?_
    have hn := sizeLine_eq
    refine xs_cons (x_asgE (ev_call F_l_many (hr.mono (by decide)) (es_cons (ev_var 0) es_nil) ⟨⟨ns, rfl, hl⟩, fun d hd => ?_⟩))
    obtain ⟨m, sc, rfl, hm1, hm2, hs1, hs2⟩ := hd
    refine ⟨_, tg_tup (tgs_cons (tg_name 1 sc_law.nd) (tgs_cons (tg_name 2 sc_law.nd) tgs_nil)), ?_⟩
    have hcl := cells_len hl
    have hts : ∀ t ∈ (cells ns).map (turnF m sc), GT m sc t := fun t ht => by obtain ⟨c, _, rfl⟩ := List.mem_map.mp ht; exact turnF_gt hs1 c
    have htl : ((cells ns).map (turnF m sc)).length ≤ 63 := by rw [List.length_map]; exact hcl
    refine xs_cons (x_setM 3 (fun t : Tn => .lst ((wsF t).map D.str)) ["_law_turn_here"] [] [] (ei_LF (ev_callP F_l_turns (hr.mono (by decide)) (es_cons (ev_callP F_l_cells (hr.mono (by decide)) (es_cons (ev_var 0) (es_cons ev_int es_nil)) ⟨ns, rfl, rfl⟩) (es_cons (ev_var 1) (es_cons (ev_var 2) es_nil))) ⟨cells ns, m, sc, rfl, hcl, hm2, hs1, rfl⟩) (by first | exact Or.inl rfl | exact Or.inr (Or.inl rfl) | exact Or.inr (Or.inr rfl) | assumption)) (by omega) (by exact fun q hq s H fp => ⟨[some _], rfl, (tg_name 0 (show List.Nodup (["_law_turn_here"] : List Str) by decide +kernel)), ⟨_, rfl, (ev_callP F_l_row (hr.mono (by decide)) (es_cons (ev_var 0) es_nil) ⟨m, sc, q, rfl, hts q hq, hm2, hs2, rfl⟩)⟩⟩) ?_ sc_law.nd)
    generalize (cells ns).map (turnF m sc) = ts at hts htl
    have hs0 : 0 ≤ sc ∧ sc ≤ 10 := ⟨by omega, hs2⟩
    have hwd : ∀ t ∈ ts, Wd (wsF t) := fun t ht => (wsF_wd (hts t ht) hs2 hm2).1
    refine xs_cons (x_setMP 4 (fun t : Tn => .str (rowW (wsF t))) ["_law_row_here"] [] [] (ei_LF (ev_var 3) (by first | exact Or.inl rfl | exact Or.inr (Or.inl rfl) | exact Or.inr (Or.inr rfl) | assumption)) (by omega) (by exact fun q hq s H fp => ⟨[some _], rfl, (tg_name 0 (show List.Nodup (["_law_row_here"] : List Str) by decide +kernel)), ⟨_, rfl, (ev_join ev_str (ev_var 0) (by first | exact Or.inl rfl | exact Or.inr (Or.inl rfl) | exact Or.inr (Or.inr ⟨_, rfl, by first | assumption | rfl⟩)) (few_ok sp1 (hwd q hq)))⟩⟩) ?_ sc_law.nd)
    have eL : ts.map (fun t => D.str (rowW (wsF t))) = ((ts.map wsF).map rowW).map D.str := by rw [List.map_map, List.map_map]; rfl
    rw [eL]
    have hW0 : ∀ ws ∈ ts.map wsF, Wd ws := fun ws h => by obtain ⟨t, ht, rfl⟩ := List.mem_map.mp h; exact hwd t ht
    have hg0 : ∀ ws ∈ ts.map wsF, awF m sc ws = true := fun ws h => by obtain ⟨t, ht, rfl⟩ := List.mem_map.mp h; exact aw_good (hts t ht) hs2
    have hl0 : (ts.map wsF).length = ts.length := List.length_map ..
    have q0 : (O ++ [some (MO.lst (((ts.map wsF).map rowW).map D.str))])[O.length]? = some (some (.lst (((ts.map wsF).map rowW).map D.str))) := st0
    refine xs_cons (x_set 5 (EvP.ev (ev_join (ys := (ts.map wsF).map rowW) ev_str (ev_var 4) (Or.inr (Or.inr ⟨_, rfl, q0⟩)) (DL.joinOk_of (by have := rows_sum hW0 (by omega); omega))) ?_) sc_law.nd)
    have eT : txtW (ts.map wsF) = txtS ts := by unfold txtW txtS; rw [List.map_map]; rfl
    have hne0 : ts.map wsF ≠ [] → (txtW (ts.map wsF) == "") = false := fun h => by rw [eT]; exact txt_ne hts hs2 fun e => h (by rw [e]; rfl)
    have hpl : plD (.lst (((ts.map wsF).map rowW).map D.str)) = true := by
      refine plDs_map fun x hx => ?_
      obtain ⟨ws, hws, rfl⟩ := List.mem_map.mp hx
      obtain ⟨t, ht, rfl⟩ := List.mem_map.mp hws
      exact row_pl (hts t ht) hs2
    refine xs_cons (x_if (EvT.cast (k' := false) (et_cmp (ev_callP F_l_told (hr.mono (by decide)) (es_cons (ev_var 1) (es_cons (ev_var 2) (es_cons (ev_var 5) es_nil))) ⟨m, sc, ts.map wsF, none, rfl, hm2, hs0, hW0, by omega, hne0, hg0, rfl⟩) (ev_lst es_nil) (cmp_neD hr (Or.inl rfl) (Or.inl rfl) rfl rfl (by decide))) rfl) (fun hk => by cases hk) (fun _ => xs_nil ?_))
    refine xs_cons (x_set 6 (EvP.ev (ev_callB T.b_len (es_cons (ev_var 4) es_nil) (c_len (by first | exact Or.inr rfl | exact Or.inl (Or.inl rfl) | exact Or.inl (Or.inr (Or.inl rfl)) | exact Or.inl (Or.inr (Or.inr ⟨_, rfl, by first | assumption | rfl⟩))))) ?_) sc_law.nd)
    rw [List.length_map, List.length_map, hl0]
    have hS0 : Spo m sc ts.length (ts.map wsF) ts.length := ⟨hl0, hW0, Nat.le_refl _, fun h => absurd h (Nat.lt_irrefl _), fun i _ ws hws => hg0 ws (List.mem_of_getElem? hws)⟩
    have hgt := hts
    refine xs_seq (fun ρ' O' => ∃ (W : List (List Str)) (b : Nat) (u v : Option D), ρ' = [some (.scr (ns.map D.int)), some (.int (m : Nat)), some (.int sc), some (.lst (ts.map fun t => .lst ((wsF t).map D.str))), some (.ptr O.length), some (.str (txtW (ts.map wsF))), some (.int (b : Nat)), u, v, none] ∧ O' = O ++ [some (MO.lst ((W.map rowW).map D.str))] ∧ Spo m sc ts.length W b) (x_if (EvW.t (ew_and (et_cmp (ev_var 4) (ev_lst es_nil) (cmp_neD hr (Or.inr ⟨_, _, rfl, q0, rfl⟩) (Or.inl rfl) hpl rfl (Nat.le_trans (Nat.min_le_right _ _) (by decide)))) (fun hbb => (ew_and1 (EvW.t (ew_or (et_cmp (ev_bin (ev_bin (ev_callP F_l_cell_at (hr.mono (by decide)) (es_cons (ev_var 0) (es_cons ev_int es_nil)) ⟨_, _, rfl, by first | decide | omega, rfl⟩) ev_int (o_div ⟨(by first | decide | omega), (by first | decide | omega)⟩)) ev_int (o_mod (by first | decide | omega))) ev_int cmp_gt) (fun hbb => (ew_or1 (et_cmp (ev_bin (ev_callP F_l_cell_at (hr.mono (by decide)) (es_cons (ev_var 0) (es_cons ev_int es_nil)) ⟨_, _, rfl, by first | decide | omega, rfl⟩) ev_int (o_mod (by first | decide | omega))) ev_int cmp_eqI))))))))) (fun hk => ?_) (fun _ => xs_nil ⟨ts.map wsF, ts.length, none, none, rfl, rfl, hS0⟩)) ?_
    · rw [Bool.and_eq_true, eqD_nilL] at hk
      have hne : ts ≠ [] := fun z => by
        have := hk.1
        rw [z] at this
        cases this
      have hpos : 0 < ts.length := List.length_pos_iff.mpr hne
      refine xs_cons (x_for (ei_LF (xs := (cutA ([2, 3] : List Int) none (some (1 + cellAt ns 3 % 2))).map D.int) (ev_slLA (f := D.int) (as := ([2, 3] : List Int)) (ev_lst (es_cons ev_int (es_cons ev_int es_nil))) (Or.inl rfl) eo_none (eo_some (ev_bin ev_int (ev_bin (ev_callP F_l_cell_at (hr.mono (by decide)) (es_cons (ev_var 0) (es_cons ev_int es_nil)) ⟨_, _, rfl, by first | decide | omega, rfl⟩) ev_int (o_mod (by first | decide | omega))) o_add))) (Or.inl rfl)) (fun i ρ O' => ∃ (W : List (List Str)) (b : Nat) (u v : Option D), ρ = [some (.scr (ns.map D.int)), some (.int (m : Nat)), some (.int sc), some (.lst (ts.map fun t => .lst ((wsF t).map D.str))), some (.ptr O.length), some (.str (txtW (ts.map wsF))), some (.int (b : Nat)), u, v, none] ∧ O' = O ++ [some (MO.lst ((W.map rowW).map D.str))] ∧ Spo m sc ts.length W b) ⟨ts.map wsF, ts.length, none, none, rfl, rfl, hS0⟩ ?_ ?_)
      · rintro i x ρ O' hx ⟨W, b, u, v, rfl, rfl, hS⟩
        have hx : ∃ j : Int, x = .int j ∧ 0 ≤ j := by
          have := List.mem_of_getElem? hx
          obtain ⟨j, hj, rfl⟩ := List.mem_map.mp this
          have := cutA_mem hj
          simp only [List.mem_cons, List.not_mem_nil, or_false] at this
          rcases this with rfl | rfl
          · exact ⟨2, rfl, by decide⟩
          · exact ⟨3, rfl, by decide⟩
        obtain ⟨j, rfl, hj⟩ := hx
        have hWl := hS.len
        have qW : (O ++ [some (MO.lst ((W.map rowW).map D.str))])[O.length]? = some (some (.lst ((W.map rowW).map D.str))) := st0
        have hll : ((W.map rowW).map D.str).length = ts.length := by rw [List.length_map, List.length_map, hWl]
        refine ⟨_, tg_name 7 sc_law.nd, ?_⟩
        refine xs_cons (x_set 8 (EvP.ev (ev_bin (ev_callP F_l_cell_at (hr.mono (by decide)) (es_cons (ev_var 0) (es_cons (ev_var 7) es_nil)) ⟨ns, j, rfl, hj, rfl⟩) (ev_callB T.b_len (es_cons (ev_var 4) es_nil) (c_len (by first | exact Or.inr rfl | exact Or.inl (Or.inl rfl) | exact Or.inl (Or.inr (Or.inl rfl)) | exact Or.inl (Or.inr (Or.inr ⟨_, rfl, by first | assumption | rfl⟩))))) (o_mod (by rw [hll]; omega))) ?_) sc_law.nd)
        rw [hll]
        have hK : ∃ k : Nat, cellAt ns j % ((ts.length : Nat) : Int) = (k : Nat) ∧ k < ts.length := by
          have h1 : 0 ≤ cellAt ns j % ((ts.length : Nat) : Int) := Int.emod_nonneg _ (by omega)
          have h2 : cellAt ns j % ((ts.length : Nat) : Int) < (ts.length : Nat) := Int.emod_lt_of_pos _ (by omega)
          exact ⟨(cellAt ns j % ((ts.length : Nat) : Int)).toNat, by omega, by omega⟩
        obtain ⟨k, ek, hkl⟩ := hK
        rw [ek]
        have hat : ts[k]? = some ts[k] := List.getElem?_eq_getElem hkl
        generalize ts[k] = tk at hat
        have htk := hgt tk (List.mem_of_getElem? hat)
        have hatD : atI (ts.map fun t => D.lst ((wsF t).map D.str)) ((k : Nat) : Int) = some (.lst ((wsF tk).map D.str)) := atI_nat (by rw [List.getElem?_map, hat]; rfl)
        refine xs_cons (x_itemE (j := k) (ev_call F_l_bad (hr.mono (by decide)) (es_cons (ev_ixL (ev_var 3) (by first | exact Or.inl rfl | exact Or.inr (Or.inl rfl) | exact Or.inr (Or.inr ⟨_, rfl, by first | assumption | rfl⟩)) (ev_var 8) hatD) (es_cons (ev_var 2) (es_cons (ev_bin (ev_callP F_l_cell_at (hr.mono (by decide)) (es_cons (ev_var 0) (es_cons (ev_var 7) es_nil)) ⟨ns, j, rfl, hj, rfl⟩) ev_int (o_div ⟨(by first | decide | omega), (by first | decide | omega)⟩)) es_nil))) ⟨m, sc, _, tk, rfl, htk, ⟨hm1, hm2⟩, ⟨hs1, hs2⟩, fun ws hw hb => ⟨rfl, ?_⟩⟩) (ev_var 4) qW (ev_var 8) (ixN_at (by rw [hll]; exact hkl)))
        rw [ss0, ← List.map_set, ← List.map_set]
        refine xs_cons (x_set 6 (EvP.ev (ev_callB T.b_min (es_cons (ev_var 6) (es_cons (ev_var 8) es_nil)) c_min) ?_) sc_law.nd)
        have em : (if ((k : Nat) : Int) < ((b : Nat) : Int) then ((k : Nat) : Int) else ((b : Nat) : Int)) = ((min b k : Nat) : Int) := by
          by_cases h : k < b
          · rw [if_pos (by omega), Nat.min_eq_right (by omega)]
          · rw [if_neg (by omega), Nat.min_eq_left (by omega)]
        rw [em]
        exact xs_nil ⟨W.set k ws, min b k, _, _, rfl, rfl, hS.next hkl hw hb⟩
      · rintro ρ O' ⟨W, b, u, v, rfl, rfl, hS⟩
        exact xs_nil ⟨W, b, u, v, rfl, rfl, hS⟩
    rintro _ _ ⟨W, b, u, v, rfl, rfl, hS⟩
    have hWl := hS.len
    have hble := hS.le
    have qW : (O ++ [some (MO.lst ((W.map rowW).map D.str))])[O.length]? = some (some (.lst ((W.map rowW).map D.str))) := st0
    have hll : ((W.map rowW).map D.str).length = ts.length := by rw [List.length_map, List.length_map, hWl]
    refine xs_seq (fun ρ' O' => ∃ W : List (List Str), ρ' = [some (.scr (ns.map D.int)), some (.int (m : Nat)), some (.int sc), some (.lst (ts.map fun t => .lst ((wsF t).map D.str))), some (.ptr O.length), some (.str (txtW (ts.map wsF))), some (.int (b : Nat)), u, v, none] ∧ O' = O ++ [some (MO.lst ((W.map rowW).map D.str))] ∧ Fst m sc W b ∧ (∀ ws ∈ W, Wd ws) ∧ W.length ≤ 64) (x_if (et_cmp (ev_var 6) (ev_callB T.b_len (es_cons (ev_var 4) es_nil) (c_len (by first | exact Or.inr rfl | exact Or.inl (Or.inl rfl) | exact Or.inl (Or.inr (Or.inl rfl)) | exact Or.inl (Or.inr (Or.inr ⟨_, rfl, by first | assumption | rfl⟩))))) cmp_eqI) (fun hk => ?_) (fun hk => ?_)) ?_
    · rw [hll] at hk
      have hk := of_decide_eq_true hk
      have hbn : b = ts.length := by omega
      subst hbn
      refine xs_cons (x_append (ev_var 4) qW ev_str (by omega) ?_)
      rw [ss0]
      refine xs_nil ⟨W ++ [[("" : Str)]], rfl, ?_, hS.cap.1, hS.cap.2, by rw [List.length_append, hWl]; show _ + 1 ≤ 64; omega⟩
      rw [List.map_append, List.map_append]
      rfl
    · rw [hll] at hk
      have hk := of_decide_eq_false hk
      exact xs_nil ⟨W, rfl, rfl, hS.fst (by omega), hS.wd, by omega⟩
    rintro _ _ ⟨W, rfl, rfl, hF, hWd, hWn⟩
    have hWne : W ≠ [] := fun z => by
      obtain ⟨⟨ws, h1, _⟩, _⟩ := hF
      rw [z] at h1
      cases h1
    have qW : (O ++ [some (MO.lst ((W.map rowW).map D.str))])[O.length]? = some (some (.lst ((W.map rowW).map D.str))) := st0
    have hpos : 0 < W.length := List.length_pos_iff.mpr hWne
    have hat0 : atI ((W.map rowW).map D.str) 0 = some (.str ((W.map rowW).getD 0 "")) := w_at (k := 0) (by rw [List.length_map]; exact hpos)
    have e0 : txtW [] = ("" : Str) := by decide +kernel
    refine xs_cons (x_if (EvT.cast (k' := decide (W.length = 1) && ((W.map rowW).getD 0 "" == ("" : Str))) (EvW.t (ew_and (et_cmp (ev_callB T.b_len (es_cons (ev_var 4) es_nil) (c_len (by first | exact Or.inr rfl | exact Or.inl (Or.inl rfl) | exact Or.inl (Or.inr (Or.inl rfl)) | exact Or.inl (Or.inr (Or.inr ⟨_, rfl, by first | assumption | rfl⟩))))) ev_int cmp_eqI) (fun hbb => (ew_and1 (et_cmp (ev_ixL (ev_var 4) (by first | exact Or.inl rfl | exact Or.inr (Or.inl rfl) | exact Or.inr (Or.inr ⟨_, rfl, by first | assumption | rfl⟩)) ev_int hat0) ev_str cmp_eqS))))) (by rw [List.length_map, List.length_map]; congr 1; exact decide_eq_decide.mpr (by omega))) (fun hk => ?_) (fun hk => xs_nil ?_))
    · refine xs_cons (x_ret (EvP.ev (EvP.cast (ev_cmp (ev_callP F_l_told (hr.mono (by decide)) (es_cons (ev_var 1) (es_cons (ev_var 2) (es_cons ev_str es_nil))) ⟨m, sc, [], none, by rw [e0], hm2, hs0, fun ws z => by (cases z), by decide, fun z => absurd rfl z, fun ws z => by (cases z), rfl⟩) (ev_lst es_nil) (cmp_eqD hr (Or.inl rfl) (Or.inl rfl) rfl rfl (by decide))) (show D.bl (eqD (resD none) (.lst [])) = .bl true from rfl)) ⟨⟨_, rfl⟩, rfl, hR⟩))
    have hne : W ≠ [] → (txtW W == "") = false := fun _ => txt_some (fun z => by rw [decide_eq_true z.1, z.2] at hk; cases hk) hWne
    refine xs_cons (x_set 9 (EvP.ev (ev_callP F_l_told (hr.mono (by decide)) (es_cons (ev_var 1) (es_cons (ev_var 2) (es_cons (ev_join ev_str (ev_var 4) (by first | exact Or.inl rfl | exact Or.inr (Or.inl rfl) | exact Or.inr (Or.inr ⟨_, rfl, by first | assumption | rfl⟩)) (DL.joinOk_of (by have := rows_sum hWd hWn; omega))) es_nil))) ⟨m, sc, W, some b, rfl, hm2, hs0, hWd, hWn, hne, hF, rfl⟩) ?_) sc_law.nd)
    refine xs_cons (x_if (EvT.cast (k' := false) (EvW.t (ew_or (et_cmp (ev_var 9) (ev_lst (es_cons (ev_var 6) es_nil)) (cmp_neD hr (Or.inl rfl) (Or.inl rfl) rfl rfl (by exact Nat.le_trans (Nat.min_le_right _ _) (show dpD (D.lst [D.int ((b : Nat) : Int)]) ≤ 60 from Nat.le_of_ble_eq_true rfl)))) (fun hbb => (ew_or (et_not (et_bl (ev_callB T.b_isinstance (es_cons (ev_ixL (ev_var 9) (by first | exact Or.inl rfl | exact Or.inr (Or.inl rfl) | exact Or.inr (Or.inr ⟨_, rfl, by first | assumption | rfl⟩)) ev_int (show atI [D.int ((b : Nat) : Int)] 0 = some (.int (b : Nat)) from rfl)) (es_cons (ev_type T.b_int) es_nil)) (c_isi_int rfl)))) (fun hbb => (ew_or1 (et_bl (ev_callB T.b_isinstance (es_cons (ev_ixL (ev_var 9) (by first | exact Or.inl rfl | exact Or.inr (Or.inl rfl) | exact Or.inr (Or.inr ⟨_, rfl, by first | assumption | rfl⟩)) ev_int (show atI [D.int ((b : Nat) : Int)] 0 = some (.int (b : Nat)) from rfl)) (es_cons (ev_type T.b_bool) es_nil)) (c_isi_bool rfl))))))))) (by rw [eq_res]; rfl)) (fun hk => by cases hk) (fun _ => xs_nil ?_))
    exact xs_cons (x_ret (EvP.ev (EvP.cast (ev_cmp (ev_callP F_l_told (hr.mono (by decide)) (es_cons (ev_var 1) (es_cons (ev_var 2) (es_cons (ev_var 5) es_nil))) ⟨m, sc, ts.map wsF, none, rfl, hm2, hs0, hW0, by omega, hne0, hg0, rfl⟩) (ev_lst es_nil) (cmp_eqD hr (Or.inl rfl) (Or.inl rfl) rfl rfl (by decide))) (show D.bl (eqD (resD none) (.lst [])) = .bl true from rfl)) ⟨⟨_, rfl⟩, rfl, hR⟩))
end
theorem len1 {α : Type} {us : List α} (h : us.length = 1) : ∃ x0, us = [x0] := by
  match us, h with
  | [x0], _ => exact ⟨_, rfl⟩
theorem len2 {α : Type} {us : List α} (h : us.length = 2) : ∃ x0 x1, us = [x0, x1] := by
  match us, h with
  | [x0, x1], _ => exact ⟨_, _, rfl⟩
theorem len3 {α : Type} {us : List α} (h : us.length = 3) : ∃ x0 x1 x2, us = [x0, x1, x2] := by
  match us, h with
  | [x0, x1, x2], _ => exact ⟨_, _, _, rfl⟩
theorem len4 {α : Type} {us : List α} (h : us.length = 4) : ∃ x0 x1 x2 x3, us = [x0, x1, x2, x3] := by
  match us, h with
  | [x0, x1, x2, x3], _ => exact ⟨_, _, _, _, rfl⟩
theorem all_mk {l : PySem.W.OpenLaw} {w : World} {K : PySem.W.Frag} {h : Heap} {mg : Str → Option Value} {fa : Addr} (X : K.In h) (G : h.Ns mainGlobals mg) (hfa : mg "law" = some (.ref fa)) {f0 : Addr} {od0 an0 : Option Addr} {sl0 : Array (Option Value)} {oc0 kV0 dc0 pm0 cd0 ct0 : Value} {f1 : Addr} {od1 an1 : Option Addr} {sl1 : Array (Option Value)} {oc1 kV1 dc1 pm1 cd1 ct1 : Value} {f2 : Addr} {od2 an2 : Option Addr} {sl2 : Array (Option Value)} {oc2 kV2 dc2 pm2 cd2 ct2 : Value} {f3 : Addr} {od3 an3 : Option Addr} {sl3 : Array (Option Value)} {oc3 kV3 dc3 pm3 cd3 ct3 : Value} {f4 : Addr} {od4 an4 : Option Addr} {sl4 : Array (Option Value)} {oc4 kV4 dc4 pm4 cd4 ct4 : Value} {f5 : Addr} {od5 an5 : Option Addr} {sl5 : Array (Option Value)} {oc5 kV5 dc5 pm5 cd5 ct5 : Value} {f6 : Addr} {od6 an6 : Option Addr} {sl6 : Array (Option Value)} {oc6 kV6 dc6 pm6 cd6 ct6 : Value} {f7 : Addr} {od7 an7 : Option Addr} {sl7 : Array (Option Value)} {oc7 kV7 dc7 pm7 cd7 ct7 : Value} {f8 : Addr} {od8 an8 : Option Addr} {sl8 : Array (Option Value)} {oc8 kV8 dc8 pm8 cd8 ct8 : Value} {f9 : Addr} {od9 an9 : Option Addr} {sl9 : Array (Option Value)} {oc9 kV9 dc9 pm9 cd9 ct9 : Value} {f10 : Addr} {od10 an10 : Option Addr} {sl10 : Array (Option Value)} {oc10 kV10 dc10 pm10 cd10 ct10 : Value} {f11 : Addr} {od11 an11 : Option Addr} {sl11 : Array (Option Value)} {oc11 kV11 dc11 pm11 cd11 ct11 : Value} {f12 : Addr} {od12 an12 : Option Addr} {sl12 : Array (Option Value)} {oc12 kV12 dc12 pm12 cd12 ct12 : Value} {f13 : Addr} {od13 an13 : Option Addr} {sl13 : Array (Option Value)} {oc13 kV13 dc13 pm13 cd13 ct13 : Value} {f14 : Addr} {od14 an14 : Option Addr} {sl14 : Array (Option Value)} {oc14 kV14 dc14 pm14 cd14 ct14 : Value} {f15 : Addr} {od15 an15 : Option Addr} {sl15 : Array (Option Value)} {oc15 kV15 dc15 pm15 cd15 ct15 : Value} {f16 : Addr} {od16 an16 : Option Addr} {sl16 : Array (Option Value)} {oc16 kV16 dc16 pm16 cd16 ct16 : Value} {C_HeedError C_NoRow C_NoTurn C_NoRule C_NoWay C_NoName C_Twice : Addr} {tk0 : Tok} {tk1 : Tok} {tk2 : Tok} {nm_NoRow qn_NoRow : Str} {N_NoRow : Addr} {bs_NoRow sub_NoRow : List Value} {sn_NoRow : List Str} {ab_NoRow : Bool} {col_NoRow : Option Bool} {dd_NoRow : Option Addr} {ka_NoRow kb_NoRow kc_NoRow kd_NoRow ke_NoRow : Option Value}
    (aE_HeedError : PySem.W.nsIn K mainGlobals "HeedError" = some (some (.ref C_HeedError)))
    (aE_NoRow : PySem.W.nsIn K mainGlobals "NoRow" = some (some (.ref C_NoRow)))
    (aE_NoTurn : PySem.W.nsIn K mainGlobals "NoTurn" = some (some (.ref C_NoTurn)))
    (aE_NoRule : PySem.W.nsIn K mainGlobals "NoRule" = some (some (.ref C_NoRule)))
    (aE_NoWay : PySem.W.nsIn K mainGlobals "NoWay" = some (some (.ref C_NoWay)))
    (aE_NoName : PySem.W.nsIn K mainGlobals "NoName" = some (some (.ref C_NoName)))
    (aE_Twice : PySem.W.nsIn K mainGlobals "Twice" = some (some (.ref C_Twice)))
    (a0 : PySem.W.findIn K (.ref C_NoRow) "__init__" = some (some (.ref f0)))
    (i0 : PySem.W.isFn K (.ref f0) = true)
    (l0 : K.lookup f0 = some ⟨oc0, od0, .func (PySem.W.fnOf "__init__" "NoRow.__init__" (defArgs s_NoRow___init__) (defBody s_NoRow___init__) (defScope s_NoRow___init__) .none kV0 dc0 pm0 an0 cd0 ct0), sl0⟩)
    (c0 : PySem.W.codeIn K cd0 "NoRow.__init__" = true)
    (k0 : PySem.W.keepIn K (.ref f0) = true)
    (a1 : PySem.W.nsIn K mainGlobals "is_in_figures" = some (some (.ref f1)))
    (l1 : K.lookup f1 = some ⟨oc1, od1, .func (PySem.W.fnOf "is_in_figures" "is_in_figures" (defArgs s_is_in_figures) (defBody s_is_in_figures) (defScope s_is_in_figures) .none kV1 dc1 pm1 an1 cd1 ct1), sl1⟩)
    (c1 : PySem.W.codeIn K cd1 "is_in_figures" = true)
    (k1 : PySem.W.keepIn K (.ref f1) = true)
    (a2 : PySem.W.nsIn K mainGlobals "is_number" = some (some (.ref f2)))
    (l2 : K.lookup f2 = some ⟨oc2, od2, .func (PySem.W.fnOf "is_number" "is_number" (defArgs s_is_number) (defBody s_is_number) (defScope s_is_number) .none kV2 dc2 pm2 an2 cd2 ct2), sl2⟩)
    (c2 : PySem.W.codeIn K cd2 "is_number" = true)
    (k2 : PySem.W.keepIn K (.ref f2) = true)
    (a3 : PySem.W.nsIn K mainGlobals "are_words" = some (some (.ref f3)))
    (l3 : K.lookup f3 = some ⟨oc3, od3, .func (PySem.W.fnOf "are_words" "are_words" (defArgs s_are_words) (defBody s_are_words) (defScope s_are_words) .none kV3 dc3 pm3 an3 cd3 ct3), sl3⟩)
    (c3 : PySem.W.codeIn K cd3 "are_words" = true)
    (k3 : PySem.W.keepIn K (.ref f3) = true)
    (a4 : PySem.W.nsIn K mainGlobals "what_of" = some (some (.ref f4)))
    (l4 : K.lookup f4 = some ⟨oc4, od4, .func (PySem.W.fnOf "what_of" "what_of" (defArgs s_what_of) (defBody s_what_of) (defScope s_what_of) .none kV4 dc4 pm4 an4 cd4 ct4), sl4⟩)
    (c4 : PySem.W.codeIn K cd4 "what_of" = true)
    (k4 : PySem.W.keepIn K (.ref f4) = true)
    (a5 : PySem.W.nsIn K mainGlobals "read_row" = some (some (.ref f5)))
    (l5 : K.lookup f5 = some ⟨oc5, od5, .func (PySem.W.fnOf "read_row" "read_row" (defArgs s_read_row) (defBody s_read_row) (defScope s_read_row) .none kV5 dc5 pm5 an5 cd5 ct5), sl5⟩)
    (c5 : PySem.W.codeIn K cd5 "read_row" = true)
    (k5 : PySem.W.keepIn K (.ref f5) = true)
    (a6 : PySem.W.nsIn K mainGlobals "read" = some (some (.ref f6)))
    (l6 : K.lookup f6 = some ⟨oc6, od6, .func (PySem.W.fnOf "read" "read" (defArgs s_read) (defBody s_read) (defScope s_read) .none kV6 dc6 pm6 an6 cd6 ct6), sl6⟩)
    (c6 : PySem.W.codeIn K cd6 "read" = true)
    (k6 : PySem.W.keepIn K (.ref f6) = true)
    (a7 : PySem.W.nsIn K mainGlobals "_law_cell_at" = some (some (.ref f7)))
    (l7 : K.lookup f7 = some ⟨oc7, od7, .func (PySem.W.fnOf "_law_cell_at" "_law_cell_at" (defArgs s_l_cell_at) (defBody s_l_cell_at) (defScope s_l_cell_at) .none kV7 dc7 pm7 an7 cd7 ct7), sl7⟩)
    (c7 : PySem.W.codeIn K cd7 "_law_cell_at" = true)
    (k7 : PySem.W.keepIn K (.ref f7) = true)
    (a8 : PySem.W.nsIn K mainGlobals "_law_stream" = some (some (.ref f8)))
    (l8 : K.lookup f8 = some ⟨oc8, od8, .func (PySem.W.fnOf "_law_stream" "_law_stream" (defArgs s_l_stream) (defBody s_l_stream) (defScope s_l_stream) .none kV8 dc8 pm8 an8 cd8 ct8), sl8⟩)
    (c8 : PySem.W.codeIn K cd8 "_law_stream" = true)
    (k8 : PySem.W.keepIn K (.ref f8) = true)
    (a9 : PySem.W.nsIn K mainGlobals "_law_many" = some (some (.ref f9)))
    (l9 : K.lookup f9 = some ⟨oc9, od9, .func (PySem.W.fnOf "_law_many" "_law_many" (defArgs s_l_many) (defBody s_l_many) (defScope s_l_many) .none kV9 dc9 pm9 an9 cd9 ct9), sl9⟩)
    (c9 : PySem.W.codeIn K cd9 "_law_many" = true)
    (k9 : PySem.W.keepIn K (.ref f9) = true)
    (a10 : PySem.W.nsIn K mainGlobals "_law_cells" = some (some (.ref f10)))
    (l10 : K.lookup f10 = some ⟨oc10, od10, .func (PySem.W.fnOf "_law_cells" "_law_cells" (defArgs s_l_cells) (defBody s_l_cells) (defScope s_l_cells) .none kV10 dc10 pm10 an10 cd10 ct10), sl10⟩)
    (c10 : PySem.W.codeIn K cd10 "_law_cells" = true)
    (k10 : PySem.W.keepIn K (.ref f10) = true)
    (a11 : PySem.W.nsIn K mainGlobals "_law_turn" = some (some (.ref f11)))
    (l11 : K.lookup f11 = some ⟨oc11, od11, .func (PySem.W.fnOf "_law_turn" "_law_turn" (defArgs s_l_turn) (defBody s_l_turn) (defScope s_l_turn) .none kV11 dc11 pm11 an11 cd11 ct11), sl11⟩)
    (c11 : PySem.W.codeIn K cd11 "_law_turn" = true)
    (k11 : PySem.W.keepIn K (.ref f11) = true)
    (a12 : PySem.W.nsIn K mainGlobals "_law_turns" = some (some (.ref f12)))
    (l12 : K.lookup f12 = some ⟨oc12, od12, .func (PySem.W.fnOf "_law_turns" "_law_turns" (defArgs s_l_turns) (defBody s_l_turns) (defScope s_l_turns) .none kV12 dc12 pm12 an12 cd12 ct12), sl12⟩)
    (c12 : PySem.W.codeIn K cd12 "_law_turns" = true)
    (k12 : PySem.W.keepIn K (.ref f12) = true)
    (a13 : PySem.W.nsIn K mainGlobals "_law_row" = some (some (.ref f13)))
    (l13 : K.lookup f13 = some ⟨oc13, od13, .func (PySem.W.fnOf "_law_row" "_law_row" (defArgs s_l_row) (defBody s_l_row) (defScope s_l_row) .none kV13 dc13 pm13 an13 cd13 ct13), sl13⟩)
    (c13 : PySem.W.codeIn K cd13 "_law_row" = true)
    (k13 : PySem.W.keepIn K (.ref f13) = true)
    (a14 : PySem.W.nsIn K mainGlobals "_law_told" = some (some (.ref f14)))
    (l14 : K.lookup f14 = some ⟨oc14, od14, .func (PySem.W.fnOf "_law_told" "_law_told" (defArgs s_l_told) (defBody s_l_told) (defScope s_l_told) .none kV14 dc14 pm14 an14 cd14 ct14), sl14⟩)
    (c14 : PySem.W.codeIn K cd14 "_law_told" = true)
    (k14 : PySem.W.keepIn K (.ref f14) = true)
    (a15 : PySem.W.nsIn K mainGlobals "_law_bad" = some (some (.ref f15)))
    (l15 : K.lookup f15 = some ⟨oc15, od15, .func (PySem.W.fnOf "_law_bad" "_law_bad" (defArgs s_l_bad) (defBody s_l_bad) (defScope s_l_bad) .none kV15 dc15 pm15 an15 cd15 ct15), sl15⟩)
    (c15 : PySem.W.codeIn K cd15 "_law_bad" = true)
    (k15 : PySem.W.keepIn K (.ref f15) = true)
    (a16 : PySem.W.nsIn K mainGlobals "law" = some (some (.ref f16)))
    (l16 : K.lookup f16 = some ⟨oc16, od16, .func (PySem.W.fnOf "law" "law" (defArgs s_law) (defBody s_law) (defScope s_law) .none kV16 dc16 pm16 an16 cd16 ct16), sl16⟩)
    (c16 : PySem.W.codeIn K cd16 "law" = true)
    (k16 : PySem.W.keepIn K (.ref f16) = true)
    (Tga_NoRow : PySem.W.findIn K (.ref C_NoRow) "__getattribute__" = some (some (.builtin "BaseException.__getattribute__")))
    (Thk_NoRow : PySem.W.findIn K (.ref C_NoRow) "__getattr__" = some none)
    (Tmb_NoRow : PySem.W.mroIn K C_NoRow (.type "BaseException") = some true)
    (Tmo_NoRow : PySem.W.mroIn K C_NoRow (.type "object") = some true)
    (Tca_NoRow : PySem.W.findIn K (.ref C_NoRow) "__class__" = some (some (.builtin "object.__class__")))
    (Thd_NoRow : PySem.W.hasDictIn K C_NoRow = true)
    (Ll_NoRow : K.lookup C_NoRow = some (excClassObj nm_NoRow qn_NoRow C_NoRow N_NoRow bs_NoRow (.ref C_HeedError :: bmV) true sn_NoRow sub_NoRow ab_NoRow col_NoRow dd_NoRow ka_NoRow kb_NoRow kc_NoRow kd_NoRow ke_NoRow "ValueError.__new__"))
    (Tsa_NoRow : PySem.W.findIn K (.ref C_NoRow) "__setattr__" = some (some (.builtin "object.__setattr__")))
    (Tkp_NoRow : PySem.W.keepIn K (.ref C_NoRow) = true)
    (Ee_HeedError : PySem.W.excIn K C_HeedError bmV "ValueError.__new__" = true)
    (En_NoRow_number : PySem.W.findIn K (.ref C_NoRow) "number" = some none)
    (Ex_NoRow_HeedError : PySem.W.exmOne K (.ref C_NoRow) (.ref C_HeedError) = some true)
    (Ei_NoRow_NoRow : PySem.W.kitOne K (.ref C_NoRow) (.ref C_NoRow) = some true)
    (Ei_NoRow_NoTurn : PySem.W.kitOne K (.ref C_NoRow) (.ref C_NoTurn) = some false)
    (Ei_NoRow_NoRule : PySem.W.kitOne K (.ref C_NoRow) (.ref C_NoRule) = some false)
    (Ei_NoRow_NoWay : PySem.W.kitOne K (.ref C_NoRow) (.ref C_NoWay) = some false)
    (Ei_NoRow_NoName : PySem.W.kitOne K (.ref C_NoRow) (.ref C_NoName) = some false)
    (Ei_NoRow_Twice : PySem.W.kitOne K (.ref C_NoRow) (.ref C_Twice) = some false)
    (gn : PySem.W.specialIn K (.builtin "object.__class__") "__get__" = some (some (.builtin "getset_descriptor.__get__")))
    (gt : PySem.W.takesIn K (.builtin "object.__class__") = some true)
    (z0 : PySem.W.nsIn K mainGlobals "len" = some none)
    (z1 : PySem.W.nsIn K mainGlobals "tuple" = some none)
    (z2 : PySem.W.nsIn K mainGlobals "range" = some none)
    (z3 : PySem.W.nsIn K mainGlobals "isinstance" = some none)
    (z4 : PySem.W.nsIn K mainGlobals "int" = some none)
    (z5 : PySem.W.nsIn K mainGlobals "bool" = some none)
    (z6 : PySem.W.nsIn K mainGlobals "str" = some none)
    (z7 : PySem.W.nsIn K mainGlobals "all" = some none)
    (z8 : PySem.W.nsIn K mainGlobals "any" = some none)
    (z9 : PySem.W.nsIn K mainGlobals "enumerate" = some none)
    (z10 : PySem.W.nsIn K mainGlobals "min" = some none)
    (y0 : PySem.W.nsIn K mainGlobals "FIGURES" = some (some (.str "0123456789" tk0)))
    (y1 : PySem.W.nsIn K mainGlobals "ASLEEP" = some (some (.str "-" tk1)))
    (y2 : PySem.W.nsIn K mainGlobals "COLON" = some (some (.str ":" tk2))) :
    ∃ fd : FuncData, (∀ (s : Shared) (v : Value), BindsTo s fd ⟨[v], []⟩ [("_law_script", v)]) ∧ ∀ base : Heap, K.In base → base.Ns mainGlobals mg → FnOk l.prog w K mg base CX0 10 fa fd ["_law_script"] (toSp K spLaw) := by
  have e := hfa.symm.trans (PySem.W.mg_of X G a16)
  cases e
  have T : Txt K mg C_HeedError C_NoRow C_NoTurn C_NoRule C_NoWay C_NoName C_Twice := ⟨PySem.W.mg_none_of X G z0, PySem.W.mg_none_of X G z1, PySem.W.mg_none_of X G z2, PySem.W.mg_none_of X G z3, PySem.W.mg_none_of X G z4, PySem.W.mg_none_of X G z5, PySem.W.mg_none_of X G z6, PySem.W.mg_none_of X G z7, PySem.W.mg_none_of X G z8, PySem.W.mg_none_of X G z9, PySem.W.mg_none_of X G z10, ⟨_, PySem.W.mg_of X G y0⟩, ⟨_, PySem.W.mg_of X G y1⟩, ⟨_, PySem.W.mg_of X G y2⟩, PySem.W.mg_of X G aE_HeedError, Ee_HeedError, PySem.W.mg_of X G aE_NoRow, ⟨Tga_NoRow, Thk_NoRow, Tmb_NoRow, Tmo_NoRow, Tca_NoRow, gn, gt, Thd_NoRow⟩, En_NoRow_number, Ex_NoRow_HeedError, Ei_NoRow_NoRow, Ei_NoRow_NoTurn, Ei_NoRow_NoRule, Ei_NoRow_NoWay, Ei_NoRow_NoName, Ei_NoRow_Twice, PySem.W.mg_of X G aE_NoTurn, PySem.W.mg_of X G aE_NoRule, PySem.W.mg_of X G aE_NoWay, PySem.W.mg_of X G aE_NoName, PySem.W.mg_of X G aE_Twice⟩
  have E0 := fun_mk (st := s_NoRow___init__) l0 c0 k0
  have b0 := E0.binds (ps := ["self", "number"]) fun _ _ _ _ _ _ us hl => by obtain ⟨_, _, rfl⟩ := len2 hl; rfl
  have E1 := fun_mk (st := s_is_in_figures) l1 c1 k1
  have b1 := E1.binds (ps := ["most", "word"]) fun _ _ _ _ _ _ us hl => by obtain ⟨_, _, rfl⟩ := len2 hl; rfl
  have E2 := fun_mk (st := s_is_number) l2 c2 k2
  have b2 := E2.binds (ps := ["scale", "word"]) fun _ _ _ _ _ _ us hl => by obtain ⟨_, _, rfl⟩ := len2 hl; rfl
  have E3 := fun_mk (st := s_are_words) l3 c3 k3
  have b3 := E3.binds (ps := ["many", "scale", "words"]) fun _ _ _ _ _ _ us hl => by obtain ⟨_, _, _, rfl⟩ := len3 hl; rfl
  have E4 := fun_mk (st := s_what_of) l4 c4 k4
  have b4 := E4.binds (ps := ["word"]) fun _ _ _ _ _ _ us hl => by obtain ⟨_, rfl⟩ := len1 hl; rfl
  have E5 := fun_mk (st := s_read_row) l5 c5 k5
  have b5 := E5.binds (ps := ["many", "scale", "number", "row"]) fun _ _ _ _ _ _ us hl => by obtain ⟨_, _, _, _, rfl⟩ := len4 hl; rfl
  have E6 := fun_mk (st := s_read) l6 c6 k6
  have b6 := E6.binds (ps := ["many", "scale", "text"]) fun _ _ _ _ _ _ us hl => by obtain ⟨_, _, _, rfl⟩ := len3 hl; rfl
  have E7 := fun_mk (st := s_l_cell_at) l7 c7 k7
  have b7 := E7.binds (ps := ["_law_script", "_law_k"]) fun _ _ _ _ _ _ us hl => by obtain ⟨_, _, rfl⟩ := len2 hl; rfl
  have E8 := fun_mk (st := s_l_stream) l8 c8 k8
  have b8 := E8.binds (ps := ["_law_cell", "_law_many_here"]) fun _ _ _ _ _ _ us hl => by obtain ⟨_, _, rfl⟩ := len2 hl; rfl
  have E9 := fun_mk (st := s_l_many) l9 c9 k9
  have b9 := E9.binds (ps := ["_law_script"]) fun _ _ _ _ _ _ us hl => by obtain ⟨_, rfl⟩ := len1 hl; rfl
  have E10 := fun_mk (st := s_l_cells) l10 c10 k10
  have b10 := E10.binds (ps := ["_law_script", "_law_first"]) fun _ _ _ _ _ _ us hl => by obtain ⟨_, _, rfl⟩ := len2 hl; rfl
  have E11 := fun_mk (st := s_l_turn) l11 c11 k11
  have b11 := E11.binds (ps := ["_law_cell", "_law_many_here", "_law_scale"]) fun _ _ _ _ _ _ us hl => by obtain ⟨_, _, _, rfl⟩ := len3 hl; rfl
  have E12 := fun_mk (st := s_l_turns) l12 c12 k12
  have b12 := E12.binds (ps := ["_law_cells_here", "_law_many_here", "_law_scale"]) fun _ _ _ _ _ _ us hl => by obtain ⟨_, _, _, rfl⟩ := len3 hl; rfl
  have E13 := fun_mk (st := s_l_row) l13 c13 k13
  have b13 := E13.binds (ps := ["_law_turn_here"]) fun _ _ _ _ _ _ us hl => by obtain ⟨_, rfl⟩ := len1 hl; rfl
  have E14 := fun_mk (st := s_l_told) l14 c14 k14
  have b14 := E14.binds (ps := ["_law_many_here", "_law_scale", "_law_text"]) fun _ _ _ _ _ _ us hl => by obtain ⟨_, _, _, rfl⟩ := len3 hl; rfl
  have E15 := fun_mk (st := s_l_bad) l15 c15 k15
  have b15 := E15.binds (ps := ["_law_words", "_law_scale", "_law_cell"]) fun _ _ _ _ _ _ us hl => by obtain ⟨_, _, _, rfl⟩ := len3 hl; rfl
  have E16 := fun_mk (st := s_law) l16 c16 k16
  have b16 := E16.binds (ps := ["_law_script"]) fun _ _ _ _ _ _ us hl => by obtain ⟨_, rfl⟩ := len1 hl; rfl
  refine ⟨PySem.W.fnOf "law" "law" (defArgs s_law) (defBody s_law) (defScope s_law) .none kV16 dc16 pm16 an16 cd16 ct16, fun s v => .of_eq rfl, fun base _ _ => ?_⟩
  have Z_NoRow : ExcI K C_NoRow f0 "number" := ⟨⟨_, _, _, _, _, _, _, _, _, _, _, _, _, _, _, Ll_NoRow, fun h X => tail1 X Ee_HeedError⟩, a0, beq_iff_eq.mp i0, Tsa_NoRow, En_NoRow_number, Tkp_NoRow⟩
  have W_NoRow___init__ : FnOk l.prog w K mg base CX0 1 f0 _ ["self", "number"] (spI C_NoRow "number") := ok_NoRow___init__ T E0 Z_NoRow
  have F_is_in_figures : DefOk l.prog w K mg base 1 "is_in_figures" (pureSp spFig) := ok_is_in_figures T E1 (PySem.W.mg_of X G a1) b1
  have F_is_number : DefOk l.prog w K mg base 2 "is_number" (pureSp spNum) := ok_is_number T E2 (PySem.W.mg_of X G a2) b2 F_is_in_figures
  have F_are_words : DefOk l.prog w K mg base 3 "are_words" (pureSp spAre) := ok_are_words T E3 (PySem.W.mg_of X G a3) b3 F_is_number
  have F_what_of : DefOk l.prog w K mg base 1 "what_of" (pureSp spWhat) := ok_what_of T E4 (PySem.W.mg_of X G a4) b4
  have J_NoRow : InitI l.prog w K mg base C_NoRow 1 "NoRow" "number" := ⟨⟨_, _, _, W_NoRow___init__, Z_NoRow, b0⟩, T.t_NoRow, T.m_NoRow⟩
  have F_read_row : DefX l.prog w K mg base 4 "read_row" (spReadRowX C_NoRow) := ok_read_row T E5 (PySem.W.mg_of X G a5) b5 F_are_words F_what_of J_NoRow
  have F_read : DefX l.prog w K mg base 5 "read" (spReadX C_NoRow) := ok_read T E6 (PySem.W.mg_of X G a6) b6 F_read_row
  have F_l_cell_at : DefOk l.prog w K mg base 1 "_law_cell_at" (pureSp spCell) := ok_l_cell_at T E7 (PySem.W.mg_of X G a7) b7
  have F_l_stream : DefOk l.prog w K mg base 1 "_law_stream" (pureSp spStream) := ok_l_stream T E8 (PySem.W.mg_of X G a8) b8
  have F_l_many : DefOk l.prog w K mg base 2 "_law_many" (relSp preMany relMany) := ok_l_many T E9 (PySem.W.mg_of X G a9) b9 F_l_cell_at
  have F_l_cells : DefOk l.prog w K mg base 2 "_law_cells" (pureSp spCells) := ok_l_cells T E10 (PySem.W.mg_of X G a10) b10 F_l_cell_at F_l_stream
  have F_l_turn : DefOk l.prog w K mg base 2 "_law_turn" (pureSp spTurn) := ok_l_turn T E11 (PySem.W.mg_of X G a11) b11 F_l_stream
  have F_l_turns : DefOk l.prog w K mg base 3 "_law_turns" (pureSp spTurns) := ok_l_turns T E12 (PySem.W.mg_of X G a12) b12 F_l_turn
  have F_l_row : DefOk l.prog w K mg base 1 "_law_row" (pureSp spRowL) := ok_l_row T E13 (PySem.W.mg_of X G a13) b13
  have F_l_told : DefOk l.prog w K mg base 7 "_law_told" (pureSp spTold) := ok_l_told T E14 (PySem.W.mg_of X G a14) b14 F_read
  have F_l_bad : DefOk l.prog w K mg base 3 "_law_bad" spBad := ok_l_bad T E15 (PySem.W.mg_of X G a15) b15
  exact ok_law T E16 F_l_many F_l_cells F_l_turns F_l_row F_l_told F_l_bad F_l_cell_at
theorem walk {l : PySem.W.OpenLaw} {q : Program} {loose : List Str} {XP : (Str → Option Value) → Heap → Prop} {YP : World → Heap → Prop} {d : DefRec} {K : Params → PySem.W.Frag} (hn : l.most = some 63) (hdf : d.params.defaults = [])
    (hY : ∀ (w : World) (h : Heap), YP w h → (K w.params).In h)
    (F : ∀ (w : World) (mg : Str → Option Value) (fa : Addr) (h : Heap), (K w.params).In h → h.Ns mainGlobals mg → mg d.name = some (.ref fa) →
      ∃ fd : FuncData, (∀ (s : Shared) (u : Value), BindsTo s fd ⟨[u], []⟩ [("_law_script", u)]) ∧ ∀ base : Heap, (K w.params).In base → base.Ns mainGlobals mg → FnOk l.prog w (K w.params) mg base CX0 10 fa fd ["_law_script"] (toSp (K w.params) spLaw)) :
    PySem.W.WalkO q loose XP YP l.row.toRowW d [] (fun f vs => PySem.call f vs) :=
  L2.walk_of (n := 63) (k := 10) (x := "_law_script") (CX := fun _ => CX0) (sp := fun w => toSp (K w.params) spLaw) hn (by decide) hdf ⟨rfl, by decide, by decide⟩ hY F (fun _ _ a ns hl _ hS => law_start hl hS) fun _ _ _ _ _ z => z
end My
open PySem PySem.W PyProof.Rows
theorem My.walkZ {q : Program} {loose : List Str} {XP : (Str → Option Value) → Heap → Prop} {K : Params → PySem.W.Frag} {as : List Addr} {n t : Nat} {r : RowW} {d : DefRec} {kwd : List (Str × Expr)} {run : Value → List Value → Sem Value} (e : ∀ P, as = (K P).map (·.1))
    (h : WalkO q loose XP (fun w h => (K w.params).In h) r d kwd run) : WalkX q loose XP (X.obsZ as) (X.valZ K n t) r d kwd run := fun w s₀ s₁ mg mb G y a o pm cd doc dV kV ho hd hcd hD hmg hg args vals as' L hpre hlay hrd hwl hlo =>
  h w s₀ s₁ mg mb G (fun b o' e' => L.keeps _ _ ((X.z_facts e y).2.1 b o' e')) a o pm cd doc dV kV ho hd hcd hD hmg hg args vals as' hpre hlay hrd hwl hlo
open PySem PySem.W PyProof.Rows
set_option maxRecDepth 100000 in
set_option maxHeartbeats 0 in
theorem PySem.Challenge.cw_heedwise_k15_first_bad_row_holds : PySem.Challenge.rw_heedwise_k15_first_bad_row.Holds := by
  w_on; o_law; z_head; (case hw => w_witness2)
  k_fill
  refine My.walkZ (fun P => rfl) ?_
  refine My.walk (l := PySem.Challenge.rw_heedwise_k15_first_bad_row) rfl rfl (fun w h Y => Y) ?F
  case F =>
    intro w mg fa h KX G hmg
    refine' My.all_mk KX G hmg ?aE_HeedError ?aE_NoRow ?aE_NoTurn ?aE_NoRule ?aE_NoWay ?aE_NoName ?aE_Twice ?a0 ?i0 ?l0 ?c0 ?k0 ?a1 ?l1 ?c1 ?k1 ?a2 ?l2 ?c2 ?k2 ?a3 ?l3 ?c3 ?k3 ?a4 ?l4 ?c4 ?k4 ?a5 ?l5 ?c5 ?k5 ?a6 ?l6 ?c6 ?k6 ?a7 ?l7 ?c7 ?k7 ?a8 ?l8 ?c8 ?k8 ?a9 ?l9 ?c9 ?k9 ?a10 ?l10 ?c10 ?k10 ?a11 ?l11 ?c11 ?k11 ?a12 ?l12 ?c12 ?k12 ?a13 ?l13 ?c13 ?k13 ?a14 ?l14 ?c14 ?k14 ?a15 ?l15 ?c15 ?k15 ?a16 ?l16 ?c16 ?k16 ?Tga_NoRow ?Thk_NoRow ?Tmb_NoRow ?Tmo_NoRow ?Tca_NoRow ?Thd_NoRow ?Ll_NoRow ?Tsa_NoRow ?Tkp_NoRow ?Ee_HeedError ?En_NoRow_number ?Ex_NoRow_HeedError ?Ei_NoRow_NoRow ?Ei_NoRow_NoTurn ?Ei_NoRow_NoRule ?Ei_NoRow_NoWay ?Ei_NoRow_NoName ?Ei_NoRow_Twice ?gn ?gt ?z0 ?z1 ?z2 ?z3 ?z4 ?z5 ?z6 ?z7 ?z8 ?z9 ?z10 ?y0 ?y1 ?y2
    (case aE_HeedError => k_is)
    (case aE_NoRow => k_is)
    (case aE_NoTurn => k_is)
    (case aE_NoRule => k_is)
    (case aE_NoWay => k_is)
    (case aE_NoName => k_is)
    (case aE_Twice => k_is)
    (case a0 => k_is)
    (case i0 => k_is)
    (case l0 => k_is)
    (case c0 => k_is)
    (case k0 => k_is)
    (case a1 => k_is)
    (case l1 => k_is)
    (case c1 => k_is)
    (case k1 => k_is)
    (case a2 => k_is)
    (case l2 => k_is)
    (case c2 => k_is)
    (case k2 => k_is)
    (case a3 => k_is)
    (case l3 => k_is)
    (case c3 => k_is)
    (case k3 => k_is)
    (case a4 => k_is)
    (case l4 => k_is)
    (case c4 => k_is)
    (case k4 => k_is)
    (case a5 => k_is)
    (case l5 => k_is)
    (case c5 => k_is)
    (case k5 => k_is)
    (case a6 => k_is)
    (case l6 => k_is)
    (case c6 => k_is)
    (case k6 => k_is)
    (case a7 => k_is)
    (case l7 => k_is)
    (case c7 => k_is)
    (case k7 => k_is)
    (case a8 => k_is)
    (case l8 => k_is)
    (case c8 => k_is)
    (case k8 => k_is)
    (case a9 => k_is)
    (case l9 => k_is)
    (case c9 => k_is)
    (case k9 => k_is)
    (case a10 => k_is)
    (case l10 => k_is)
    (case c10 => k_is)
    (case k10 => k_is)
    (case a11 => k_is)
    (case l11 => k_is)
    (case c11 => k_is)
    (case k11 => k_is)
    (case a12 => k_is)
    (case l12 => k_is)
    (case c12 => k_is)
    (case k12 => k_is)
    (case a13 => k_is)
    (case l13 => k_is)
    (case c13 => k_is)
    (case k13 => k_is)
    (case a14 => k_is)
    (case l14 => k_is)
    (case c14 => k_is)
    (case k14 => k_is)
    (case a15 => k_is)
    (case l15 => k_is)
    (case c15 => k_is)
    (case k15 => k_is)
    (case a16 => k_is)
    (case l16 => k_is)
    (case c16 => k_is)
    (case k16 => k_is)
    (case Tga_NoRow => k_is)
    (case Thk_NoRow => k_is)
    (case Tmb_NoRow => k_is)
    (case Tmo_NoRow => k_is)
    (case Tca_NoRow => k_is)
    (case Thd_NoRow => k_is)
    (case Ll_NoRow => k_is)
    (case Tsa_NoRow => k_is)
    (case Tkp_NoRow => k_is)
    (case Ee_HeedError => k_exc)
    (case En_NoRow_number => k_is)
    (case Ex_NoRow_HeedError => exact Eq.refl _)
    (case Ei_NoRow_NoRow => kit_is)
    (case Ei_NoRow_NoTurn => kit_is)
    (case Ei_NoRow_NoRule => kit_is)
    (case Ei_NoRow_NoWay => kit_is)
    (case Ei_NoRow_NoName => kit_is)
    (case Ei_NoRow_Twice => kit_is)
    (case gn => k_is)
    (case gt => k_is)
    (case z0 => k_is)
    (case z1 => k_is)
    (case z2 => k_is)
    (case z3 => k_is)
    (case z4 => k_is)
    (case z5 => k_is)
    (case z6 => k_is)
    (case z7 => k_is)
    (case z8 => k_is)
    (case z9 => k_is)
    (case z10 => k_is)
    (case y0 => k_is)
    (case y1 => k_is)
    (case y2 => k_is)
