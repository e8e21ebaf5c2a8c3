import PyProof.Rows.All
import Wide.All
import OpenK.AllK
import Wide.FinOn
import Lean
import PyProof.EqAt
import PyProof.EqKinds
import PyProof.TupleCall
import PyProof.NeData
import PyProof.WalkInts
import PyProof.ListRange
import KE.KIntText
import PySem.Challenge.RW_heedwise_k62_no_shifter
set_option Elab.async false
set_option linter.all false
set_option maxRecDepth 100000
namespace L2
open PySem PySem.Spec PyProof.Rows
abbrev Key := Sum Int Str
def keyIs : Key → Value → Bool
  | .inl k, v => Value.isInt k v
  | .inr x, v => Value.isStrOf x v
def keyH (w : World) : Key → Int
  | .inl k => hashInt k
  | .inr x => hashStr w x
theorem keyIs_shape : ∀ {k : Key} {v : Value}, keyIs k v = true → (∃ i t, k = Sum.inl i ∧ v = Value.int i t) ∨ (∃ x t, k = Sum.inr x ∧ v = Value.str x t)
  | .inl i, v, h => by
    obtain ⟨t, e⟩ := Value.isInt_shape (k := i) (v := v) h
    exact .inl ⟨i, t, rfl, e⟩
  | .inr x, v, h => by
    obtain ⟨t, e⟩ := Value.isStrOf_shape (x := x) (v := v) h
    exact .inr ⟨x, t, rfl, e⟩
theorem key_ll (a b : Int) : decide ((Sum.inl a : Key) = Sum.inl b) = (a == b) := by
  by_cases e : a = b
  · subst e; simp
  · have h : ¬ (Sum.inl a : Key) = Sum.inl b := fun q => e (Sum.inl.inj q)
    rw [decide_eq_false h]
    exact (beq_eq_false_iff_ne.mpr e).symm
theorem key_rr (a b : Str) : decide ((Sum.inr a : Key) = Sum.inr b) = decide (a = b) := by
  by_cases e : a = b
  · subst e; simp
  · have h : ¬ (Sum.inr a : Key) = Sum.inr b := fun q => e (Sum.inr.inj q)
    rw [decide_eq_false h, decide_eq_false e]
theorem key_lr (a : Int) (b : Str) : decide ((Sum.inl a : Key) = Sum.inr b) = false := decide_eq_false (fun q => nomatch q)
theorem key_rl (a : Str) (b : Int) : decide ((Sum.inr a : Key) = Sum.inl b) = false := decide_eq_false (fun q => nomatch q)
def mixKind (prog : Program) (w : World) : PySem.KeyKind prog w Key where
  is := keyIs
  hash := keyH w
  inj := fun v a b ha hb => by
    rcases keyIs_shape ha with ⟨i, t, rfl, rfl⟩ | ⟨x, t, rfl, rfl⟩
    · rcases keyIs_shape hb with ⟨j, u, rfl, e⟩ | ⟨y, u, rfl, e⟩
      · injection e with e1 _; rw [e1]
      · exact nomatch e
    · rcases keyIs_shape hb with ⟨j, u, rfl, e⟩ | ⟨y, u, rfl, e⟩
      · exact nomatch e
      · injection e with e1 _; rw [e1]
  byValue := fun k v h => by
    rcases keyIs_shape h with ⟨i, t, rfl, rfl⟩ | ⟨x, t, rfl, rfl⟩ <;> rfl
  pyHash := fun hv h => by
    rcases keyIs_shape hv with ⟨i, t, rfl, rfl⟩ | ⟨x, t, rfl, rfl⟩
    · exact wpAny_pyHash_int h
    · exact wpAny_pyHash_str h
  eqBool := fun hu hv h => by
    rcases keyIs_shape hu with ⟨i, t, rfl, rfl⟩ | ⟨x, t, rfl, rfl⟩
    · rcases keyIs_shape hv with ⟨j, u, rfl, rfl⟩ | ⟨y, u, rfl, rfl⟩
      · rw [key_ll] at h; exact wpAny_eqBool_int h
      · rw [key_lr] at h; exact SeqAt.EqAt.int_str i t y u _ _ _ _ h
    · rcases keyIs_shape hv with ⟨j, u, rfl, rfl⟩ | ⟨y, u, rfl, rfl⟩
      · rw [key_rl] at h; exact SeqAt.EqAt.str_int x t j u _ _ _ _ h
      · rw [key_rr] at h; exact wpAny_eqBool_str h
  «strs» := fun k x t v h => by
    rcases keyIs_shape h with ⟨i, u, rfl, e⟩ | ⟨y, u, rfl, e⟩
    · exact nomatch e
    · injection e with e1 _
      subst e1
      cases v <;> rfl
end L2
namespace L2
open PySem PySem.Spec PyProof.Rows
inductive V where
  | non | bl (b : Bool) | int (i : Int) | str (x : Str) | byt (b : Array UInt8) | flt (b : UInt64) | ref (a : Addr) | ty (n : String)
  deriving DecidableEq
def RelV : V → Value → Prop
  | .non, u => u = Value.none
  | .bl b, u => u = Value.bool b
  | .int i, u => ∃ t, u = Value.int i t
  | .str x, u => ∃ t, u = Value.str x t
  | .byt b, u => ∃ t, u = Value.bytes b t
  | .flt b, u => ∃ t, u = Value.float b t
  | .ref a, u => u = Value.ref a
  | .ty n, u => u = Value.type n
abbrev Vals : List V → List Value → Prop := Paired RelV
theorem Vals.length {xs : List V} {us : List Value} (r : Vals xs us) : xs.length = us.length := Paired.length r
theorem Vals.get : ∀ {xs : List V} {us : List Value} {i : Nat} {x : V}, Vals xs us → xs[i]? = some x → ∃ u, us[i]? = some u ∧ RelV x u
  | _, _, _, _, .nil, e => by simp at e
  | _, _, 0, _, .cons r _, e => by simp at e; subst e; exact ⟨_, rfl, r⟩
  | _, _, i + 1, x, .cons _ t, e => by
    obtain ⟨u, h1, h2⟩ := Vals.get (i := i) (x := x) t (by simpa using e)
    exact ⟨u, by simpa using h1, h2⟩
theorem Vals.set {x : V} {u : Value} (r : RelV x u) : ∀ {xs : List V} {us : List Value} (i : Nat), Vals xs us → Vals (xs.set i x) (us.set i u)
  | _, _, _, .nil => .nil
  | _, _, 0, .cons _ t => .cons r t
  | _, _, i + 1, .cons q t => .cons q (Vals.set r i t)
theorem Vals.append : ∀ {xs ys : List V} {us ws : List Value}, Vals xs us → Vals ys ws → Vals (xs ++ ys) (us ++ ws)
  | _, _, _, _, .nil, s => s
  | _, _, _, _, .cons r t, s => .cons r (Vals.append t s)
def RelO : Option V → Option Value → Prop
  | some v, some u => RelV v u
  | none, none => True
  | _, _ => False
def KV {κ : Type} : List (κ × V) → List (κ × Value) → Prop := Paired fun (p : κ × V) (q : κ × Value) => p.1 = q.1 ∧ RelV p.2 q.2
def kV : Key → V
  | .inl i => .int i
  | .inr x => .str x
inductive HO where
  
  | lst (xs : List V)
  
  | tup (xs : List V)
  
  | dK (kvs : List (Key × V)) | dT (kvs : List (List Key × V))
  
  | set (S : Int → Bool) (n : Nat)
  
  | ins (C dx : Addr) (fs : List (Str × V))
  
  | own (x : Addr)
  
  | xd (fs : List (Str × V))
  
  | met (f x : Addr)
  
  | rng (lo hi : Int)
  
  | frz (o : Obj) (u : HO)
  
  | tbl (ps : Array Value)
  
  | ext (φ : Heap → Prop)
abbrev Hp := Addr → Option HO
def upd (H : Hp) (a : Addr) (o : HO) : Hp := fun b => if b = a then some o else H b
theorem upd_same {H : Hp} {a : Addr} {o : HO} : upd H a o a = some o := by unfold upd; rw [if_pos rfl]
theorem upd_ne {H : Hp} {a b : Addr} {o : HO} (h : b ≠ a) : upd H a o b = H b := by unfold upd; rw [if_neg h]
theorem upd_upd {H : Hp} {a : Addr} {o u : HO} : upd (upd H a o) a u = upd H a u := by
  funext b; unfold upd; split <;> rfl
theorem ne_of_none {H : Hp} {a b : Addr} {o : HO} (h : H a = some o) (h' : H b = none) : a ≠ b := by
  intro e; subst e; rw [h] at h'; cases h'
def TupN (h : Heap) (a : Addr) (items : Array Value) : Prop := ∃ o, h.get? a = some o ∧ o.dict = none ∧ o.cls = .type "tuple" ∧ ∃ n, o.data = .seq items n
theorem TupN.t {h : Heap} {a : Addr} {items : Array Value} (x : TupN h a items) : IsTup h a items := let ⟨o, e, _, r⟩ := x; ⟨o, e, r⟩
theorem TupN.new (h : Heap) (items : Array Value) : TupN (h.push { cls := .type "tuple", data := .seq items }) h.objs.size items := ⟨_, Heap.get?_push_size _ rfl, rfl, rfl, _, rfl⟩
section
variable (P : Program) (w : World)
def ObjOk (H : Hp) (h : Heap) (a : Addr) : HO → Prop
  | .lst xs => xs.length ≤ sizeLine ∧ ∃ (its : List Value) (n : Nat), Vals xs its ∧ h.get? a = some { cls := .type "list", data := .seq its.toArray n }
  | .tup xs => xs.length ≤ sizeLine ∧ ∃ its : List Value, Vals xs its ∧ TupN h a its.toArray
  | .dK kvs => kvs.length ≤ sizeLine ∧ (a == sysModules) = false ∧ ∃ vs, KV kvs vs ∧ h.DictOf (mixKind P w) a vs
  | .dT kvs => kvs.length ≤ sizeLine ∧ (a == sysModules) = false ∧ ∃ xs : List (List Key × Addr × Value),
      Paired (fun (p : List Key × V) (q : List Key × Addr × Value) => p.1 = q.1 ∧ H q.2.1 = some (.tup (p.1.map kV)) ∧ RelV p.2 q.2.2) kvs xs ∧
      ∃ o es ep, h.get? a = some o ∧ o.ExactDict ∧ o.data = .dict es ep ∧ es.toList = xs.map (entryOfKey (tupleKind (mixKind P w))) ∧ (xs.map (·.1)).Nodup
  | .set S n => h.SetOf (intKind P w) a S n
  | .ins C dx fs => H dx = some (.own a) ∧ fs.length ≤ 1000 ∧ dx ≠ a ∧ h.get? a = some (PySem.W.instObj C dx) ∧
      ∃ mA, h.Ns1 dx mA ∧ (∀ f, RelO (fs.lookup f) (mA f)) ∧ PySem.Within mA (fs.map (·.1))
  | .own _ => ∃ o, h.get? a = some o
  | .xd fs => ∃ mA, h.Ns1 a mA ∧ ∀ f, RelO (fs.lookup f) (mA f)
  | .rng lo hi => ∃ t u v, h.get? a = some { cls := .type "range", data := .fields #[.int lo t, .int hi u, .int 1 v] }
  | .frz o u => h.get? a = some o ∧ ObjOk H h a u
  | .tbl ps => h.get? a = some { cls := .none, data := .fields ps }
  | .met f x => h.get? a = some (PySem.W.methodObj (.ref f) (.ref x))
  | .ext φ => φ h ∧ (∃ o, h.get? a = some o) ∧ ∀ h1 h2 : Heap, φ h1 → (∀ o, h1.get? a = some o → h2.get? a = some o) → φ h2
def HOk (H : Hp) (h : Heap) : Prop := ∀ a o, H a = some o → ObjOk P w H h a o
end
section
variable {P : Program} {w : World} {H H' : Hp} {h h' : Heap} {a : Addr} {o : HO}
theorem ObjOk.lt (x : ObjOk P w H h a o) : a < h.objs.size := by
  cases o with
  | lst xs => obtain ⟨_, _, _, _, e⟩ := x; exact Heap.lt_size e
  | tup xs => obtain ⟨_, _, _, p⟩ := x; exact p.t.lt
  | dK kvs => obtain ⟨_, _, _, _, o, _, _, e, _⟩ := x; exact Heap.lt_size e
  | dT kvs => obtain ⟨_, _, _, _, o, _, _, e, _⟩ := x; exact Heap.lt_size e
  | set S n => obtain ⟨o, _, _, _, e, _⟩ := x; exact Heap.lt_size e
  | ins C dx fs => obtain ⟨_, _, _, e, _⟩ := x; exact Heap.lt_size e
  | own y => obtain ⟨_, e⟩ := x; exact Heap.lt_size e
  | xd fs => obtain ⟨_, ⟨_, _, _, e, _⟩, _⟩ := x; exact Heap.lt_size e
  | rng lo hi => obtain ⟨_, _, _, e⟩ := x; exact Heap.lt_size e
  | frz ob u => obtain ⟨e, _⟩ := x; exact Heap.lt_size e
  | tbl ps => exact Heap.lt_size (show h.get? a = some _ from x)
  | met f y => exact Heap.lt_size (show h.get? a = some _ from x)
  | ext φ => obtain ⟨_, ⟨_, e⟩, _⟩ := x; exact Heap.lt_size e
theorem Paired.mapP {α β : Type} {F G : α → β → Prop} : ∀ {l₁ : List α} {l₂ : List β}, Paired F l₁ l₂ → (∀ a b, F a b → G a b) → Paired G l₁ l₂
  | _, _, .nil, _ => .nil
  | _, _, .cons r t, f => .cons (f _ _ r) (Paired.mapP t f)
theorem ObjOk.stay (x : ObjOk P w H h a o) (k : ∀ b u, (b = a ∨ H b = some (.own a)) → h.get? b = some u → h'.get? b = some u)
    (ho : ∀ b, H b = some (.own a) → H' b = some (.own a)) (ht : ∀ b xs, H b = some (.tup xs) → H' b = some (.tup xs)) : ObjOk P w H' h' a o := by
  induction o with
  | lst xs => obtain ⟨z, its, n, r, e⟩ := x; exact ⟨z, its, n, r, k _ _ (.inl rfl) e⟩
  | tup xs => obtain ⟨z, its, r, ob, e, c⟩ := x; exact ⟨z, its, r, ob, k _ _ (.inl rfl) e, c⟩
  | dK kvs => obtain ⟨z, y, vs, r, ob, es, ep, e, c⟩ := x; exact ⟨z, y, vs, r, ob, es, ep, k _ _ (.inl rfl) e, c⟩
  | dT kvs =>
    obtain ⟨z, y, xs, r, ob, es, ep, e, c⟩ := x
    exact ⟨z, y, xs, Paired.mapP r fun p q z => ⟨z.1, ht _ _ z.2.1, z.2.2⟩, ob, es, ep, k _ _ (.inl rfl) e, c⟩
  | set S n => obtain ⟨ob, es, ep, t, e, c⟩ := x; exact ⟨ob, es, ep, t, k _ _ (.inl rfl) e, c⟩
  | ins C dx fs =>
    obtain ⟨d, z, ne, e, mA, ⟨od, es, ep, e2, c⟩, r⟩ := x
    exact ⟨ho _ d, z, ne, k _ _ (.inl rfl) e, mA, ⟨od, es, ep, k _ _ (.inr d) e2, c⟩, r⟩
  | own y => obtain ⟨ob, e⟩ := x; exact ⟨ob, k _ _ (.inl rfl) e⟩
  | xd fs => obtain ⟨mA, ⟨od, es, ep, e, c⟩, r⟩ := x; exact ⟨mA, ⟨od, es, ep, k _ _ (.inl rfl) e, c⟩, r⟩
  | rng lo hi => obtain ⟨t, u, v, e⟩ := x; exact ⟨t, u, v, k _ _ (.inl rfl) e⟩
  | frz ob u ih => obtain ⟨e, q⟩ := x; exact ⟨k _ _ (.inl rfl) e, ih q⟩
  | tbl ps =>
    have e : h.get? a = some { cls := .none, data := .fields ps } := x
    show h'.get? a = some { cls := .none, data := .fields ps }
    exact k a _ (.inl rfl) e
  | met f y =>
    have e : h.get? a = some (PySem.W.methodObj (.ref f) (.ref y)) := x
    show h'.get? a = some (PySem.W.methodObj (.ref f) (.ref y))
    exact k a _ (.inl rfl) e
  | ext φ => obtain ⟨p, ⟨o, e⟩, st⟩ := x; exact ⟨st _ _ p fun o q => k _ _ (.inl rfl) q, ⟨o, k _ _ (.inl rfl) e⟩, st⟩
theorem HOk.lt (x : HOk P w H h) (e : H a = some o) : a < h.objs.size := (x a o e).lt
theorem HOk.fresh (x : HOk P w H h) (e : h.objs.size ≤ a) : H a = none := by
  cases q : H a with
  | none => rfl
  | some u => exact absurd (Nat.lt_of_lt_of_le (x.lt q) e) (Nat.lt_irrefl _)
theorem HOk.kept (x : HOk P w H h) (k : ∀ b u, h.get? b = some u → h'.get? b = some u) : HOk P w H h' := fun a o e =>
  (x a o e).stay (fun b u _ q => k b u q) (fun _ q => q) fun _ _ q => q
theorem HOk.laid (x : HOk P w H h) (k : ∀ b u, h.get? b = some u → h'.get? b = some u) (hp : h.objs.size ≤ a) (new : ObjOk P w (upd H a o) h' a o) : HOk P w (upd H a o) h' := fun b u e => by
  have hn := x.fresh hp
  by_cases hb : b = a
  · subst hb; rw [upd_same] at e; cases e; exact new
  · rw [upd_ne hb] at e
    exact (x b u e).stay (fun c v _ q => k c v q) (fun c q => by rw [upd_ne (ne_of_none q hn)]; exact q) fun c xs q => by rw [upd_ne (ne_of_none q hn)]; exact q
end
def Rd (H : Hp) (a : Addr) (u : HO) : Prop := H a = some u ∨ ∃ o, H a = some (.frz o u)
theorem Rd.ok {P : Program} {w : World} {H : Hp} {h : Heap} {a : Addr} {u : HO} (r : Rd H a u) (x : HOk P w H h) : ObjOk P w H h a u := by
  rcases r with r | ⟨o, r⟩
  · exact x a u r
  · obtain ⟨_, q⟩ := x a _ r
    exact q
def Mut : Option HO → Prop
  | some (.lst _) => True
  | some (.dK _) => True
  | some (.dT _) => True
  | some (.set _ _) => True
  | some (.ins _ _ _) => True
  | some (.ext _) => True
  | _ => False
section
variable {P : Program} {w : World} {H : Hp} {h h' : Heap} {x e : Addr} {o' : HO}
theorem HOk.write (ok : HOk P w H h) (mu : Mut (H x)) (he : e = x ∨ H e = some (.own x)) (k : ∀ b u, b ≠ e → h.get? b = some u → h'.get? b = some u) (heo : ∃ u, h'.get? e = some u)
    (new : ObjOk P w (upd H x o') h' x o') : HOk P w (upd H x o') h' := fun b u q => by
  have nown : ∀ c y, H c = some (.own y) → c ≠ x := fun c y r z => by subst z; rw [r] at mu; exact mu
  have ntup : ∀ c xs, H c = some (.tup xs) → c ≠ x := fun c xs r z => by subst z; rw [r] at mu; exact mu
  by_cases hb : b = x
  · subst hb; rw [upd_same] at q; cases q; exact new
  · rw [upd_ne hb] at q
    by_cases hbe : b = e
    · have q' : H b = some (.own x) := by
        rcases he with z | z
        · exact absurd (hbe.trans z) hb
        · rw [hbe]; exact z
      rw [q] at q'; cases q'
      obtain ⟨v, hv⟩ := heo
      exact ⟨v, by rw [hbe]; exact hv⟩
    · refine (ok b u q).stay (fun c v hc r => k c v ?_ r) (fun c r => by rw [upd_ne (nown c b r)]; exact r) fun c xs r => by rw [upd_ne (ntup c xs r)]; exact r
      rcases hc with rfl | hc
      · exact hbe
      · rintro rfl
        rcases he with z | z
        · exact nown c b hc z
        · rw [hc] at z; cases z; exact hb rfl
end
structure Un (fs ex : List Addr) (H H' : Hp) (h h' : Heap) : Prop where
  keep : ∀ b o, h.get? b = some o → H b = none → b ∉ fs → b ∉ ex → h'.get? b = some o
  slot : ∀ b o, h.get? b = some o → H b = none → b ∈ fs → b ∉ ex → ∃ sl, h'.get? b = some { o with slots := sl }
  free : ∀ b o, h.get? b = some o → H b = none → b ∉ ex → H' b = none
  there : ∀ b o, h.get? b = some o → b ∉ ex → ∃ o', h'.get? b = some o'
  tups : ∀ b xs, H b = some (.tup xs) → H' b = some (.tup xs)
  frzs : ∀ b o u, H b = some (.frz o u) → H' b = some (.frz o u)
  tbls : ∀ b ps, H b = some (.tbl ps) → ∃ more, H' b = some (.tbl (ps ++ more))
section
variable {fs fs' ex ex' : List Addr} {H H1 H2 : Hp} {h h1 h2 h' : Heap} {a x e : Addr} {o : HO}
theorem Un.any (u : Un fs ex H H1 h h1) {b : Addr} {ob : Obj} (q : h.get? b = some ob) (n : H b = none) (hx : b ∉ ex) : ∃ sl, h1.get? b = some { ob with slots := sl } := by
  by_cases hb : b ∈ fs
  · exact u.slot b ob q n hb hx
  · exact ⟨ob.slots, u.keep b ob q n hb hx⟩
theorem Un.kept (k : ∀ b u, h.get? b = some u → h'.get? b = some u) : Un fs ex H H h h' :=
  ⟨fun b ob q _ _ _ => k b ob q, fun b ob q _ _ _ => ⟨ob.slots, k b ob q⟩, fun _ _ _ n _ => n, fun b ob q _ => ⟨ob, k b ob q⟩, fun _ _ q => q, fun _ _ _ q => q, fun _ ps q => ⟨#[], by rw [q]; simp⟩⟩
theorem Un.refl : Un fs ex H H h h := Un.kept fun _ _ q => q
theorem Un.laid (k : ∀ b u, h.get? b = some u → h'.get? b = some u) (hp : h.objs.size ≤ a) (hn : H a = none) : Un fs ex H (upd H a o) h h' where
  keep := fun b u q _ _ _ => k b u q
  slot := fun b u q _ _ _ => ⟨u.slots, k b u q⟩
  free := fun b u q n _ => by rw [upd_ne (Nat.ne_of_lt (Nat.lt_of_lt_of_le (Heap.lt_size q) hp))]; exact n
  there := fun b u q _ => ⟨u, k b u q⟩
  tups := fun b xs q => by rw [upd_ne (ne_of_none q hn)]; exact q
  frzs := fun b u xs q => by rw [upd_ne (ne_of_none q hn)]; exact q
  tbls := fun b ps q => ⟨#[], by rw [upd_ne (ne_of_none q hn), q]; simp⟩
theorem Un.write (mu : Mut (H x)) (he : e = x ∨ H e = some (.own x)) (k : ∀ b u, b ≠ e → h.get? b = some u → h'.get? b = some u) (heo : ∃ u, h'.get? e = some u) : Un fs ex H (upd H x o) h h' := by
  have hx : ∀ b, H b = none → b ≠ x := fun b n z => by subst z; rw [n] at mu; exact mu
  have hb : ∀ b, H b = none → b ≠ e := fun b n z => by
    subst z
    rcases he with r | r
    · exact hx b n r
    · rw [n] at r; cases r
  have hm : ∀ b u, H b = some u → ¬ Mut (some u) → b ≠ x := fun b u q nm z => by subst z; rw [q] at mu; exact nm mu
  refine ⟨fun b u q n _ _ => k b u (hb b n) q, fun b u q n _ _ => ⟨u.slots, k b u (hb b n) q⟩, fun b u q n _ => by rw [upd_ne (hx b n)]; exact n, fun b u q _ => ?_,
    fun b xs q => by rw [upd_ne (hm b _ q fun z => z)]; exact q, fun b u xs q => by rw [upd_ne (hm b _ q fun z => z)]; exact q, fun b ps q => ⟨#[], by rw [upd_ne (hm b _ q fun z => z), q]; simp⟩⟩
  by_cases hbe : b = e
  · subst hbe; exact heo
  · exact ⟨u, k b u hbe q⟩
end
def trk (h : Heap) (H : Hp) : List Addr := (List.range h.objs.size).filter fun a => (H a).isSome
def hidT (h : Heap) (H : Hp) : Heap := PySem.W.hideAll h (trk h H)
theorem hidT_size (h : Heap) (H : Hp) : (hidT h H).objs.size = h.objs.size := PySem.W.hideAll_size _ _
theorem hidT_get {h : Heap} {H : Hp} {b : Addr} {o : Obj} (e : h.get? b = some o) (n : H b = none) : (hidT h H).get? b = some o :=
  PySem.W.hideAll_get _ e fun hm => by
    have q : (H b).isSome = true := (List.mem_filter.mp hm).2
    rw [n] at q; simp at q
theorem of_hidT {h : Heap} {H : Hp} {b : Addr} {o : Obj} (e : (hidT h H).get? b = some o) : h.get? b = some o ∧ H b = none := by
  have e' : h.get? b = some o := PySem.W.of_hideAll (trk h H) e
  refine ⟨e', ?_⟩
  cases q : H b with
  | none => rfl
  | some x =>
    have hm : b ∈ trk h H := List.mem_filter.mpr ⟨List.mem_range.mpr (Heap.lt_size e'), by simp [q]⟩
    have z : (hidT h H).get? b = none := PySem.W.hideAll_none (trk h H) hm
    rw [z] at e; cases e
def allNews (g h : Heap) (L : Addr) : List (Addr × Obj) := (List.range h.objs.size).filterMap fun a => if a = L ∨ (g.get? a).isSome = true then none else (h.get? a).map fun o => (a, o)
def rest (g h : Heap) (L d : Addr) : List (Addr × Obj) := (allNews g h L).filter fun p => decide (p.1 ≠ d)
end L2
namespace L2
open PySem PySem.Spec PyProof.Rows
structure Mod (K : PySem.W.Frag) (mg : Str → Option Value) (base : Heap) : Prop where
  kin : K.In base
  glob : base.Ns mainGlobals mg
  blt : ∃ mb, base.Ns builtinsNs mb ∧ ∀ x : Str, x ≠ "__name__" → mb x = bootBuiltins x
  nolimit : base.NoLimit
structure Cx where
  prog : Program
  w : World
  K : PySem.W.Frag
  mg : Str → Option Value
  base : Heap
  A : Around
  N : List Str
  s₀ : Shared
  H₀ : Hp
  env : Env
  outer : List Env
  stack : List Env
  ex : List Addr
  fn : Str → Bool
  calm : Bool
  pn : List (Addr × Obj)
  xe : Value → Shared → Prop
def frs (l : List Env) : List Addr := l.filterMap (·.frame)
abbrev Cx.fs (X : Cx) : List Addr := frs X.outer
def Vis (sc : Scope) (x : Str) : Prop := sc.names.lookup x = some .local ∨ sc.names.lookup x = some .cell ∨ sc.names.lookup x = some .free
def Loc (sc : Scope) (x : Str) : Prop := sc.names.lookup x = some .local ∨ sc.names.lookup x = some .cell
def Look (env : Env) (h : Heap) (m : Str → Option Value) (x : Str) (u : Value) : Prop :=
  (env.kindOf x = some .local ∧ m x = some u) ∨ ((env.kindOf x = some .cell ∨ env.kindOf x = some .free) ∧ ∃ c, env.cells.lookup x = some c ∧ h.IsCell c (some u))
structure Cx.Ok (X : Cx) : Prop where
  mod : Mod X.K X.mg X.base
  kind : X.env.scope.kind = .function
  glob : X.env.globals = mainGlobals
  blt : X.env.builtins = builtinsNs
  above : X.s₀.heap.objs.size ≤ X.env.locals
  inj : ∀ x y c, X.env.cells.lookup x = some c → X.env.cells.lookup y = some c → x = y
  has : ∀ x, (X.env.kindOf x = some .cell ∨ X.env.kindOf x = some .free) → ∃ c, X.env.cells.lookup x = some c
  cab : ∀ x c, X.fn x = true → X.env.cells.lookup x = some c → X.s₀.heap.objs.size ≤ c
  hd : X.calm = true → X.A.handled = none
  frames : X.A.frames = some X.stack
  stk : X.stack = X.outer ∨ (X.stack = X.env :: X.outer ∧ X.env.frame = some X.env.locals)
  exf : ∀ b ∈ X.ex, b ≠ X.env.locals ∧ ∀ x c, X.env.cells.lookup x = some c → c ≠ b
  bs : ∀ b o, X.base.get? b = some o → X.s₀.heap.get? b = some o ∧ X.H₀ b = none
  bsz : X.base.objs.size ≤ X.s₀.heap.objs.size
  noex : ∀ b o, X.base.get? b = some o → b ∉ X.ex
  exfs : ∀ b ∈ X.ex, b ∉ X.fs
  funs : X.s₀.heap.FunFrames X.base X.outer
  frf : ∀ b ∈ X.fs, X.H₀ b = none
structure Inv (X : Cx) (pins : List (Addr × Obj)) (σ : List (Option V)) (H : Hp) (s : Shared) : Prop where
  ok : X.Ok
  os : s.os = X.s₀.os
  bare : AllBare s.gens
  base : Un X.fs X.ex X.H₀ H X.s₀.heap s.heap
  loc : ∃ m, s.heap.Ns X.env.locals m ∧ ∀ (i : Nat) (x : Str) (v : V), X.N[i]? = some x → σ[i]? = some (some v) → Vis X.env.scope x → ∃ u, RelV v u ∧ Look X.env s.heap m x u
  cell : ∀ x c, X.env.cells.lookup x = some c → ∃ v, s.heap.IsCell c v
  free : H X.env.locals = none
  freeC : ∀ x c, X.env.cells.lookup x = some c → H c = none
  pin : ∀ p ∈ X.pn ++ pins, s.heap.get? p.1 = some p.2 ∧ H p.1 = none ∧ p.1 ≠ X.env.locals ∧ p.1 ∉ X.fs ∧ ∀ v, p.2.data ≠ .cell v
  hok : HOk X.prog X.w H s.heap
  len : σ.length = X.N.length
section
variable {X : Cx} {pins : List (Addr × Obj)} {σ : List (Option V)} {H H' : Hp} {s : Shared} {h' : Heap}
theorem Cx.Ok.nofr (ok : X.Ok) {b : Addr} {o : Obj} (e : X.base.get? b = some o) : b ∉ X.fs := fun hb => by
  have := (ok.funs.mem hb).1
  rw [e] at this; cases this
theorem Inv.bs (I : Inv X pins σ H s) : ∀ b o, X.base.get? b = some o → s.heap.get? b = some o ∧ H b = none := fun b o e =>
  ⟨I.base.keep b o (I.ok.bs b o e).1 (I.ok.bs b o e).2 (I.ok.nofr e) (I.ok.noex b o e), I.base.free b o (I.ok.bs b o e).1 (I.ok.bs b o e).2 (I.ok.noex b o e)⟩
theorem Inv.bk (I : Inv X pins σ H s) : ∀ b o, X.base.get? b = some o → s.heap.get? b = some o := fun b o e => (I.bs b o e).1
theorem Inv.mod (I : Inv X pins σ H s) : Mod X.K X.mg X.base := I.ok.mod
theorem Inv.kIn (I : Inv X pins σ H s) : X.K.In s.heap := I.ok.mod.kin.keeps I.bk
theorem Inv.lt (I : Inv X pins σ H s) : X.env.locals < s.heap.objs.size := let ⟨_, hn, _⟩ := I.loc; hn.lt
theorem Inv.sz (I : Inv X pins σ H s) : X.s₀.heap.objs.size ≤ s.heap.objs.size := Nat.le_trans I.ok.above (Nat.le_of_lt I.lt)
theorem Inv.nofs (I : Inv X pins σ H s) {a : Addr} (h : s.heap.objs.size ≤ a) : a ∉ X.fs := fun hb => by
  obtain ⟨_, o, ho, _⟩ := I.ok.funs.mem hb
  exact absurd (Nat.lt_of_lt_of_le (Heap.lt_size ho) (Nat.le_trans I.sz h)) (Nat.lt_irrefl _)
theorem Inv.cne (I : Inv X pins σ H s) : ∀ x c, X.env.cells.lookup x = some c → c ≠ X.env.locals := fun x c e z => by
  obtain ⟨v, o, ho, hd⟩ := I.cell x c e
  obtain ⟨m, ⟨o', es, ep, ho', hd', _⟩, _⟩ := I.loc
  rw [z, ho'] at ho; cases ho; rw [hd'] at hd; cases hd
theorem Inv.funs (I : Inv X pins σ H s) : s.heap.FunFrames X.base X.outer := by
  have all : ∀ (l : List Env), (∀ b ∈ frs l, b ∈ X.fs) → X.s₀.heap.FunFrames X.base l → s.heap.FunFrames X.base l := by
    intro l
    induction l with
    | nil => intro _ _; trivial
    | cons env r ih =>
      intro hs hl
      obtain ⟨hk, ⟨L, o, hf, hn, ho, hd⟩, hr⟩ := hl
      have hL : L ∈ X.fs := hs L (by unfold frs; rw [List.filterMap_cons, hf]; exact List.mem_cons_self)
      obtain ⟨sl, e⟩ := I.base.slot L o ho (I.ok.frf L hL) hL fun z => I.ok.exfs L z hL
      exact ⟨hk, ⟨L, _, hf, hn, e, hd⟩, ih (fun b hb => hs b (by unfold frs; rw [List.filterMap_cons, hf]; exact List.mem_cons_of_mem _ hb)) hr⟩
  exact all X.outer (fun _ hb => hb) I.ok.funs
theorem Inv.stack (I : Inv X pins σ H s) : s.heap.FunFrames X.base X.stack := by
  rcases I.ok.stk with e | ⟨e, hf⟩
  · rw [e]; exact I.funs
  · rw [e]
    obtain ⟨m, hn, _⟩ := I.loc
    refine .cons (by rw [I.ok.kind]; decide) hf hn ?_ I.funs
    exact Heap.get?_none_of_le (Nat.le_trans I.ok.bsz I.ok.above)
theorem Inv.stkSub (I : Inv X pins σ H s) : ∀ b ∈ frs X.stack, b ∈ X.env.locals :: X.fs := fun b hb => by
  rcases I.ok.stk with e | ⟨e, hf⟩
  · rw [e] at hb; exact List.mem_cons_of_mem _ hb
  · rw [e] at hb
    unfold frs at hb
    rw [List.filterMap_cons, hf] at hb
    exact hb
theorem Inv.stkFree (I : Inv X pins σ H s) : ∀ b ∈ frs X.stack, H b = none := fun b hb => by
  rcases List.mem_cons.mp (I.stkSub b hb) with e | hb
  · rw [e]; exact I.free
  · obtain ⟨_, o, ho, _⟩ := I.ok.funs.mem hb
    exact I.base.free b o ho (I.ok.frf b hb) fun z => I.ok.exfs b z hb
theorem Inv.step {g' : Array GenState} {t' : Nat} {d' : Drawn} {ch : List Addr} (I : Inv X pins σ H s)
    (hch : ∀ b ∈ ch, (b ∈ X.ex ∨ X.s₀.heap.objs.size ≤ b) ∧ b ≠ X.env.locals ∧ (∀ x c, X.env.cells.lookup x = some c → c ≠ b) ∧ ∀ p ∈ X.pn ++ pins, p.1 ≠ b)
    (keep : ∀ b o, b ≠ X.env.locals → b ∉ X.fs → b ∉ ch → s.heap.get? b = some o → H b = none → h'.get? b = some o)
    (slot : ∀ b o, b ≠ X.env.locals → b ∈ X.fs → b ∉ ch → s.heap.get? b = some o → H b = none → ∃ sl, h'.get? b = some { o with slots := sl }) (free : ∀ b o, b ∉ ch → s.heap.get? b = some o → H b = none → H' b = none)
    (there : ∀ b o, b ∉ ch → s.heap.get? b = some o → ∃ o', h'.get? b = some o')
    (tups : ∀ b xs, H b = some (.tup xs) → H' b = some (.tup xs)) (frzs : ∀ b o u, H b = some (.frz o u) → H' b = some (.frz o u)) (tbls : ∀ b ps, H b = some (.tbl ps) → ∃ more, H' b = some (.tbl (ps ++ more)))
    (ns : ∀ m, s.heap.Ns X.env.locals m → h'.Ns X.env.locals m) (hok : HOk X.prog X.w H' h') (hg : AllBare g') :
    Inv X pins σ H' { s with heap := h', gens := g', drawn := d', toks := t' } := by
  have neL : ∀ b o, X.s₀.heap.get? b = some o → b ≠ X.env.locals := fun b o e => Nat.ne_of_lt (Nat.lt_of_lt_of_le (Heap.lt_size e) I.ok.above)
  have neC : ∀ b o, X.s₀.heap.get? b = some o → b ∉ X.ex → b ∉ ch := fun b o e hx hb => by
    rcases (hch b hb).1 with z | z
    · exact hx z
    · exact absurd (Nat.lt_of_lt_of_le (Heap.lt_size e) z) (Nat.lt_irrefl _)
  have cellK : ∀ x c, X.env.cells.lookup x = some c → ∀ v, s.heap.IsCell c v → h'.IsCell c v := fun x c e v ⟨o, ho, hd⟩ => by
    have nch : c ∉ ch := fun z => (hch c z).2.2.1 x c e rfl
    by_cases hc : c ∈ X.fs
    · obtain ⟨sl, q⟩ := slot c o (I.cne x c e) hc nch ho (I.freeC x c e)
      exact ⟨_, q, hd⟩
    · exact ⟨o, keep c o (I.cne x c e) hc nch ho (I.freeC x c e), hd⟩
  refine ⟨I.ok, I.os, hg, ⟨fun b o e n hb hx => ?_, fun b o e n hb hx => ?_, fun b o e n hx => ?_, fun b o e hx => ?_, fun b xs e => tups b xs (I.base.tups b xs e), fun b o xs e => frzs b o xs (I.base.frzs b o xs e), fun b ps e => ?_⟩, ?_, fun x c e => ?_, ?_, fun x c e => ?_, fun p hp => ?_, hok, I.len⟩
  · exact keep b o (neL b o e) hb (neC b o e hx) (I.base.keep b o e n hb hx) (I.base.free b o e n hx)
  · obtain ⟨sl, e1⟩ := I.base.slot b o e n hb hx
    obtain ⟨sl', e2⟩ := slot b _ (neL b o e) hb (neC b o e hx) e1 (I.base.free b o e n hx)
    exact ⟨sl', e2⟩
  · obtain ⟨o', e1⟩ := I.base.there b o e hx
    exact free b o' (neC b o e hx) e1 (I.base.free b o e n hx)
  · obtain ⟨o', e1⟩ := I.base.there b o e hx
    exact there b o' (neC b o e hx) e1
  · obtain ⟨m1, e1⟩ := I.base.tbls b ps e
    obtain ⟨m2, e2⟩ := tbls b _ e1
    exact ⟨m1 ++ m2, by rw [e2, Array.append_assoc]⟩
  · obtain ⟨m, hn, hl⟩ := I.loc
    refine ⟨m, ns m hn, fun i x v e1 e2 e3 => ?_⟩
    obtain ⟨u, r, l⟩ := hl i x v e1 e2 e3
    refine ⟨u, r, ?_⟩
    rcases l with l | ⟨k, c, e, z⟩
    · exact .inl l
    · exact .inr ⟨k, c, e, cellK x c e _ z⟩
  · obtain ⟨v, z⟩ := I.cell x c e
    exact ⟨v, cellK x c e v z⟩
  · obtain ⟨m, ⟨o, _, _, ho, _⟩, _⟩ := I.loc
    exact free _ o (fun z => (hch _ z).2.1 rfl) ho I.free
  · obtain ⟨v, o, ho, hd⟩ := I.cell x c e
    exact free c o (fun z => (hch c z).2.2.1 x c e rfl) ho (I.freeC x c e)
  · obtain ⟨e, n, ne, nf, d⟩ := I.pin p hp
    have nch : p.1 ∉ ch := fun z => (hch p.1 z).2.2.2 p hp rfl
    exact ⟨keep p.1 p.2 ne nf nch e n, free p.1 p.2 nch e n, ne, nf, d⟩
theorem Inv.un {t' : Nat} (I : Inv X pins σ H s) (u : Un X.fs [] H H' s.heap h') (hok : HOk X.prog X.w H' h') : Inv X pins σ H' { s with heap := h', toks := t' } := by
  obtain ⟨m, ⟨o, es, ep, ho, r⟩, _⟩ := id I.loc
  obtain ⟨sl, hL⟩ := u.any ho I.free (by simp)
  exact I.step (g' := s.gens) (d' := s.drawn) (ch := []) (fun _ z => nomatch z) (fun b o _ hb _ e n => u.keep b o e n hb (by simp)) (fun b o _ hb _ e n => u.slot b o e n hb (by simp)) (fun b o _ e n => u.free b o e n (by simp)) (fun b o _ e => u.there b o e (by simp)) u.tups u.frzs u.tbls (fun m' hm => by
    obtain ⟨o', es', ep', ho', r'⟩ := hm
    rw [ho] at ho'; cases ho'
    exact ⟨_, es', ep', hL, r'⟩) hok I.bare
theorem Inv.call {g' : Array GenState} {t' : Nat} {d' : Drawn} {ch : List Addr} (I : Inv X pins σ H s) (u : Un (frs X.stack) ch H H' s.heap h') (hok : HOk X.prog X.w H' h') (hg : AllBare g')
    (hch : ∀ b ∈ ch, (b ∈ X.ex ∨ X.s₀.heap.objs.size ≤ b) ∧ b ≠ X.env.locals ∧ (∀ x c, X.env.cells.lookup x = some c → c ≠ b) ∧ ∀ p ∈ X.pn ++ pins, p.1 ≠ b) :
    Inv X pins σ H' { s with heap := h', gens := g', drawn := d', toks := t' } := by
  obtain ⟨m, ⟨o, es, ep, ho, r⟩, _⟩ := id I.loc
  obtain ⟨sl, hL⟩ := u.any ho I.free fun z => (hch _ z).2.1 rfl
  exact I.step (ch := ch) hch (fun b o hL hb hc e n => u.keep b o e n (fun z => (List.mem_cons.mp (I.stkSub b z)).elim hL hb) hc) (fun b o _ _ hc e n => u.any e n hc) (fun b o hc e n => u.free b o e n hc) (fun b o hc e => u.there b o e hc) u.tups u.frzs u.tbls (fun m' hm => by
    obtain ⟨o', es', ep', ho', r'⟩ := hm
    rw [ho] at ho'; cases ho'
    exact ⟨_, es', ep', hL, r'⟩) hok hg
theorem Inv.turned {t' : Nat} {it : Addr} (I : Inv X pins σ H s) (k : ∀ b o, b ≠ it → s.heap.get? b = some o → h'.get? b = some o) (hn : H it = none) (hL : it ≠ X.env.locals)
    (h1 : it ∈ X.ex ∨ X.s₀.heap.objs.size ≤ it) (h2 : ∀ x c, X.env.cells.lookup x = some c → c ≠ it) (h3 : ∀ p ∈ X.pn ++ pins, p.1 ≠ it) : Inv X pins σ H { s with heap := h', toks := t' } := by
  have nit : ∀ b u, H b = some u → b ≠ it := fun b u e z => by rw [z, hn] at e; cases e
  refine I.step (g' := s.gens) (d' := s.drawn) (ch := [it]) (fun b hb => ?_) (fun b o _ _ hc e _ => k b o (fun z => hc (by simp [z])) e) (fun b o _ _ hc e _ => ⟨o.slots, k b o (fun z => hc (by simp [z])) e⟩) (fun _ _ _ _ n => n)
    (fun b o hc e => ⟨o, k b o (fun z => hc (by simp [z])) e⟩) (fun _ _ e => e) (fun _ _ _ e => e) (fun b ps e => ⟨#[], by rw [e]; simp⟩) (fun m hm => ?_) (fun b u e => ?_) I.bare
  · have e : b = it := by simpa using hb
    subst e
    exact ⟨h1, hL, h2, h3⟩
  · obtain ⟨o, es, ep, ho, r⟩ := hm
    exact ⟨o, es, ep, k _ o (Ne.symm hL) ho, r⟩
  · refine (I.hok b u e).stay (fun c v hc q => k c v ?_ q) (fun _ q => q) fun _ _ q => q
    rcases hc with z | z
    · rw [z]; exact nit b u e
    · exact nit c _ z
theorem Inv.tok (I : Inv X pins σ H s) (t : Nat) : Inv X pins σ H { s with toks := t } := I.un (h' := s.heap) (t' := t) Un.refl I.hok
theorem Inv.kept {t' : Nat} (I : Inv X pins σ H s) (k : ∀ b u, s.heap.get? b = some u → h'.get? b = some u) : Inv X pins σ H { s with heap := h', toks := t' } := I.un (Un.kept k) (I.hok.kept k)
theorem Inv.laid {a : Addr} {o : HO} {t' : Nat} (I : Inv X pins σ H s) (k : ∀ b u, s.heap.get? b = some u → h'.get? b = some u) (hp : s.heap.objs.size ≤ a) (new : ObjOk X.prog X.w (upd H a o) h' a o) :
    Inv X pins σ (upd H a o) { s with heap := h', toks := t' } := I.un (Un.laid k hp (I.hok.fresh hp)) (I.hok.laid k hp new)
theorem Inv.write {x e : Addr} {o : HO} {t' : Nat} (I : Inv X pins σ H s) (mu : Mut (H x)) (he : e = x ∨ H e = some (.own x)) (k : ∀ b u, b ≠ e → s.heap.get? b = some u → h'.get? b = some u) (heo : ∃ u, h'.get? e = some u)
    (new : ObjOk X.prog X.w (upd H x o) h' x o) : Inv X pins σ (upd H x o) { s with heap := h', toks := t' } := I.un (Un.write mu he k heo) (I.hok.write mu he k heo new)
theorem Inv.pins_of {pins' : List (Addr × Obj)} (I : Inv X pins σ H s) (h : ∀ p ∈ pins', s.heap.get? p.1 = some p.2 ∧ H p.1 = none ∧ p.1 ≠ X.env.locals ∧ p.1 ∉ X.fs ∧ ∀ v, p.2.data ≠ .cell v) : Inv X pins' σ H s :=
  ⟨I.ok, I.os, I.bare, I.base, I.loc, I.cell, I.free, I.freeC, fun p hp => (List.mem_append.mp hp).elim (fun z => I.pin p (List.mem_append_left _ z)) (h p), I.hok, I.len⟩
theorem nodup_ix {N : List Str} (hN : N.Nodup) {i j : Nat} {x : Str} (a : N[i]? = some x) (b : N[j]? = some x) : i = j := by
  obtain ⟨h1, e1⟩ := List.getElem?_eq_some_iff.mp a
  obtain ⟨h2, e2⟩ := List.getElem?_eq_some_iff.mp b
  exact (List.getElem_inj hN).mp (e1.trans e2.symm)
theorem store_ok2 {M : Model} {A : Around} {E : Value → Shared → Prop} {i : Nat} {x : Str} {v : V} {u : Value} {Q : Unit → Shared → Prop} (I : Inv X pins σ H s) (hN : X.N.Nodup) (hi : X.N[i]? = some x) (hx : Loc X.env.scope x) (r : RelV v u)
    (h : ∀ s', Inv X pins (σ.set i (some v)) H s' → (∃ a, Heap.SameBut a s.heap s'.heap ∧ (a = X.env.locals ∨ X.env.cells.lookup x = some a)) → Q () s') (hf : X.fn x = true ∨ X.env.scope.names.lookup x = some .local := by first | exact .inl rfl | exact .inr rfl | assumption) : wpAny M A (storeName X.env x u) Q E s := by
  obtain ⟨m, hn, hl⟩ := id I.loc
  have hcls : (X.env.scope.kind == .class || (X.env.scope.kind == .module && X.env.locals != X.env.globals)) = false := by rw [I.ok.kind]; rfl
  have hiσ : i < σ.length := by rw [I.len]; exact (List.getElem?_eq_some_iff.mp hi).1
  have cne := I.cne
  have tracked : ∀ {a : Addr} {h' : Heap}, (∃ o, s.heap.get? a = some o ∧ H a = none) → Heap.SameBut a s.heap h' → HOk X.prog X.w H h' := fun {a h'} ha hs b ob e => by
    obtain ⟨_, _, hfree⟩ := ha
    refine (I.hok b ob e).stay (fun c w' hc q => (hs.2 c ?_).trans q) (fun _ q => q) fun _ _ q => q
    rintro rfl
    rcases hc with rfl | hc
    · rw [hfree] at e; cases e
    · rw [hfree] at hc; cases hc
  rcases hx with hk | hk
  · refine wpAny_storeName_local hk hn (fun h' hn' hs => ?_) hcls
    obtain ⟨oL, _, _, hoL, _⟩ := id hn
    refine h _ ⟨I.ok, I.os, I.bare, ⟨fun b o e n hb hx => ?_, fun b o e n hb hx => ?_, I.base.free, fun b o e hx => ?_, I.base.tups, I.base.frzs, I.base.tbls⟩, ⟨_, hn', fun j y v' e1 e2 e3 => ?_⟩, fun y c e => ?_, I.free, I.freeC, fun p hp => ?_, tracked ⟨oL, hoL, I.free⟩ hs, by simpa using I.len⟩ ⟨_, hs, .inl rfl⟩
    · exact (hs.2 b (Nat.ne_of_lt (Nat.lt_of_lt_of_le (Heap.lt_size e) I.ok.above))).trans (I.base.keep b o e n hb hx)
    · obtain ⟨sl, e1⟩ := I.base.slot b o e n hb hx
      exact ⟨sl, (hs.2 b (Nat.ne_of_lt (Nat.lt_of_lt_of_le (Heap.lt_size e) I.ok.above))).trans e1⟩
    · obtain ⟨o', e1⟩ := I.base.there b o e hx
      exact ⟨o', (hs.2 b (Nat.ne_of_lt (Nat.lt_of_lt_of_le (Heap.lt_size e) I.ok.above))).trans e1⟩
    · by_cases hj : j = i
      · subst hj
        rw [hi] at e1; cases e1
        rw [List.getElem?_set_self hiσ] at e2
        cases e2
        exact ⟨u, r, .inl ⟨hk, by simp⟩⟩
      · rw [List.getElem?_set_ne (Ne.symm hj)] at e2
        obtain ⟨u', r', q⟩ := hl j y v' e1 e2 e3
        refine ⟨u', r', ?_⟩
        rcases q with ⟨k, e⟩ | ⟨k, c, e, z⟩
        · refine .inl ⟨k, ?_⟩
          have : y ≠ x := fun e => hj (nodup_ix hN e1 (e ▸ hi))
          simp [this, e]
        · exact .inr ⟨k, c, e, z.sameBut hs (cne y c e)⟩
    · obtain ⟨w', z⟩ := I.cell y c e
      exact ⟨w', z.sameBut hs (cne y c e)⟩
    · obtain ⟨e, n, ne, nf, d⟩ := I.pin p hp
      exact ⟨(hs.2 p.1 ne).trans e, n, ne, nf, d⟩
  · have hfn : X.fn x = true := by
      rcases hf with z | z
      · exact z
      · rw [z] at hk; cases hk
    obtain ⟨c, hc⟩ := I.ok.has x (.inl hk)
    obtain ⟨w', z⟩ := I.cell x c hc
    refine wpAny_storeName_cell I.ok.kind hk hc z (fun h' hc' hs => ?_)
    obtain ⟨oc, hoc, hocd⟩ := id z
    refine h { s with heap := h' } ⟨I.ok, I.os, I.bare, ⟨fun b o e n hb hx => ?_, fun b o e n hb hx => ?_, I.base.free, fun b o e hx => ?_, I.base.tups, I.base.frzs, I.base.tbls⟩, ⟨m, hn.sameBut hs (Ne.symm (cne x c hc)), fun j y v' e1 e2 e3 => ?_⟩, fun y c' e => ?_, I.free, I.freeC, fun p hp => ?_, tracked ⟨oc, hoc, I.freeC x c hc⟩ hs, by simpa using I.len⟩ ⟨c, hs, .inr hc⟩
    · exact (hs.2 b (Nat.ne_of_lt (Nat.lt_of_lt_of_le (Heap.lt_size e) (I.ok.cab x c hfn hc)))).trans (I.base.keep b o e n hb hx)
    · obtain ⟨sl, e1⟩ := I.base.slot b o e n hb hx
      exact ⟨sl, (hs.2 b (Nat.ne_of_lt (Nat.lt_of_lt_of_le (Heap.lt_size e) (I.ok.cab x c hfn hc)))).trans e1⟩
    · obtain ⟨o', e1⟩ := I.base.there b o e hx
      exact ⟨o', (hs.2 b (Nat.ne_of_lt (Nat.lt_of_lt_of_le (Heap.lt_size e) (I.ok.cab x c hfn hc)))).trans e1⟩
    · by_cases hj : j = i
      · subst hj
        rw [hi] at e1; cases e1
        rw [List.getElem?_set_self hiσ] at e2
        cases e2
        exact ⟨u, r, .inr ⟨.inl hk, c, hc, hc'⟩⟩
      · rw [List.getElem?_set_ne (Ne.symm hj)] at e2
        obtain ⟨u', r', q⟩ := hl j y v' e1 e2 e3
        refine ⟨u', r', ?_⟩
        rcases q with q | ⟨k, c', e, z'⟩
        · exact .inl q
        · refine .inr ⟨k, c', e, z'.sameBut hs ?_⟩
          rintro rfl
          exact hj (nodup_ix hN e1 (I.ok.inj _ _ _ e hc ▸ hi))
    · by_cases hcc : c' = c
      · subst hcc; exact ⟨_, hc'⟩
      · obtain ⟨w2, z2⟩ := I.cell y c' e
        exact ⟨w2, z2.sameBut hs hcc⟩
    · obtain ⟨e, n, ne, nf, d⟩ := I.pin p hp
      refine ⟨(hs.2 p.1 ?_).trans e, n, ne, nf, d⟩
      intro q
      rw [q, hoc] at e
      have q' : oc = p.2 := Option.some.inj e
      exact d w' (by rw [← q']; exact hocd)
theorem store_ok {M : Model} {A : Around} {E : Value → Shared → Prop} {i : Nat} {x : Str} {v : V} {u : Value} {Q : Unit → Shared → Prop} (I : Inv X pins σ H s) (hN : X.N.Nodup) (hi : X.N[i]? = some x) (hx : Loc X.env.scope x) (r : RelV v u)
    (h : ∀ s', Inv X pins (σ.set i (some v)) H s' → Q () s') (hf : X.fn x = true ∨ X.env.scope.names.lookup x = some .local := by first | exact .inl rfl | exact .inr rfl | assumption) : wpAny M A (storeName X.env x u) Q E s :=
  store_ok2 I hN hi hx r (fun s' I' _ => h s' I') hf
theorem Inv.call' {s' : Shared} {ch : List Addr} (I : Inv X pins σ H s) (ho : s'.os = s.os) (u : Un (frs X.stack) ch H H' s.heap s'.heap) (hok : HOk X.prog X.w H' s'.heap) (hg : AllBare s'.gens)
    (hch : ∀ b ∈ ch, (b ∈ X.ex ∨ X.s₀.heap.objs.size ≤ b) ∧ b ≠ X.env.locals ∧ (∀ x c, X.env.cells.lookup x = some c → c ≠ b) ∧ ∀ p ∈ X.pn ++ pins, p.1 ≠ b) : Inv X pins σ H' s' := by
  obtain ⟨h', g', d', t', o'⟩ := s'
  have e : o' = s.os := ho
  subst e
  exact I.call (g' := g') (t' := t') (d' := d') u hok hg hch
end
abbrev XK := Value → Option Addr → Hp → Prop
abbrev St := List (Option V)
abbrev VK := V → Hp → Prop
abbrev TE := St → Hp → VK → Prop
abbrev TT := St → Hp → (Bool → Hp → Prop) → Prop
abbrev TA := St → Hp → (List V → Hp → Prop) → Prop
structure Ends where
  nx : St → Hp → Prop
  rt : VK
  bk : St → Hp → Prop := fun _ _ => False
  ct : St → Hp → Prop := fun _ _ => False
abbrev TS := Ends → St → Hp → Prop
def EP (X : Cx) (pins : List (Addr × Obj)) (σ : St) (Q : VK) (u : Value) (s' : Shared) : Prop := ∃ v H', Inv X pins σ H' s' ∧ RelV v u ∧ Q v H'
def TP (X : Cx) (pins : List (Addr × Obj)) (σ : St) (Q : Bool → Hp → Prop) (b : Bool) (s' : Shared) : Prop := ∃ H', Inv X pins σ H' s' ∧ Q b H'
def AP (X : Cx) (pins : List (Addr × Obj)) (σ : St) (Q : List V → Hp → Prop) (us : List Value) (s' : Shared) : Prop := ∃ vs H', Inv X pins σ H' s' ∧ Vals vs us ∧ Q vs H'
def SP (X : Cx) (pins : List (Addr × Obj)) (D : Ends) (f : Flow) (s' : Shared) : Prop :=
  match f with
  | .next => ∃ σ' H', Inv X pins σ' H' s' ∧ D.nx σ' H'
  | .brk => ∃ σ' H', Inv X pins σ' H' s' ∧ D.bk σ' H'
  | .cont => ∃ σ' H', Inv X pins σ' H' s' ∧ D.ct σ' H'
  | .ret u => ∃ v σ' H', Inv X pins σ' H' s' ∧ RelV v u ∧ D.rt v H'
def PE (X : Cx) (e : Expr) (t : TE) : Prop :=
  ∀ (pins : List (Addr × Obj)) (s : Shared) (σ : St) (H : Hp) (Q : VK), Inv X pins σ H s → t σ H Q → wpAny (model X.prog X.w) X.A (eval e X.env) (EP X pins σ Q) X.xe s
def PT (X : Cx) (e : Expr) (t : TT) : Prop :=
  ∀ (pins : List (Addr × Obj)) (s : Shared) (σ : St) (H : Hp) (Q : Bool → Hp → Prop), Inv X pins σ H s → t σ H Q → wpAny (model X.prog X.w) X.A (isTrue e X.env (eval e X.env)) (TP X pins σ Q) X.xe s
def PW (X : Cx) (e : Expr) (t : TT) : Prop :=
  ∀ (whole : Sem Value) (pins : List (Addr × Obj)) (s : Shared) (σ : St) (H : Hp) (Q : Bool → Hp → Prop), Inv X pins σ H s → t σ H Q → wpAny (model X.prog X.w) X.A (isTrue e X.env whole) (TP X pins σ Q) X.xe s
theorem PW.pt {X : Cx} {e : Expr} {t : TT} (h : PW X e t) : PT X e t := h _
def PA (X : Cx) (es : List Expr) (t : TA) : Prop :=
  ∀ (pos : Pos) (pins : List (Addr × Obj)) (s : Shared) (σ : St) (H : Hp) (Q : List V → Hp → Prop), Inv X pins σ H s → t σ H Q → wpAny (model X.prog X.w) X.A (spliced (backTo pos (starEach es X.env))) (AP X pins σ Q) X.xe s
def PS (X : Cx) (st : Stmt) (t : TS) : Prop :=
  ∀ (pins : List (Addr × Obj)) (s : Shared) (σ : St) (H : Hp) (D : Ends), Inv X pins σ H s → t D σ H → wpAny (model X.prog X.w) X.A (exec st X.env) (SP X pins D) X.xe s
def PSs (X : Cx) (st : List Stmt) (t : TS) : Prop :=
  ∀ (pins : List (Addr × Obj)) (s : Shared) (σ : St) (H : Hp) (D : Ends), Inv X pins σ H s → t D σ H → wpAny (model X.prog X.w) X.A (execs st X.env) (SP X pins D) X.xe s
theorem thn {α : Type} {t : Sem α} {Q Q' : α → Shared → Prop} {M : Model} {A : Around} {E : Value → Shared → Prop} {s : Shared} (h : wpAny M A t Q E s) (hQ : ∀ a s, Q a s → Q' a s) : wpAny M A t Q' E s := wpAny_mono h hQ fun _ _ x => x
end L2
namespace L2
open PySem PySem.Spec PyProof.Rows
section
variable {X : Cx}
def tVar (i : Nat) : TE := fun σ H Q => ∃ v, σ[i]? = some (some v) ∧ Q v H
def tC (v : V) : TE := fun _ H Q => Q v H
theorem pe_var {i : Nat} {x : Str} {pos : Pos} (hN : X.N[i]? = some x) (hv : Vis X.env.scope x) (hd : (x == ("__debug__" : Str)) = false := by decide) (hcd : (x == ("__classdict__" : Str)) = false := by decide) : PE X (.Name x pos) (tVar i) := by
  intro pins s σ H Q I h
  obtain ⟨v, e, h⟩ := h
  obtain ⟨m, hn, hl⟩ := I.loc
  obtain ⟨u, r, l⟩ := hl i x v hN e hv
  have fin : EP X pins σ Q u s := ⟨v, H, I, r, h⟩
  rcases l with ⟨hk, hm⟩ | ⟨hk, c, hc, hcell⟩
  · exact wpAny_Name (wpAny_loadName_local I.ok.kind hk hn hm fin) hd
  · rcases hk with hk | hk
    · exact wpAny_Name (wpAny_loadName_cell I.ok.kind hk hc hcell fin) hd
    · exact wpAny_Name (wpAny_loadName_free I.ok.kind hk hc hcell fin hcd) hd
theorem pe_int {i j pos} : PE X (.Constant (.int i) j pos) (tC (.int i)) := fun _ _ _ H _ I h => wpAny_Constant_int ⟨.int i, H, I.tok _, ⟨_, rfl⟩, h⟩
theorem pe_bl {b j pos} : PE X (.Constant (.bool b) j pos) (tC (.bl b)) := fun _ _ _ H _ I h => Constant_bool ⟨.bl b, H, I, rfl, h⟩
theorem pe_non {j pos} : PE X (.Constant .none j pos) (tC .non) := fun _ _ _ H _ I h => Constant_none ⟨.non, H, I, rfl, h⟩
theorem pe_str {x j pos} : PE X (.Constant (.str x) j pos) (tC (.str x)) := fun _ _ _ H _ I h => Calls.Constant_str ⟨.str x, H, I.tok _, ⟨_, rfl⟩, h⟩
def Gl (X : Cx) (x : Str) : Prop := X.env.kindOf x = some .globalImplicit
theorem ld_glob {E : Value → Shared → Prop} {pins : List (Addr × Obj)} {s : Shared} {σ : St} {H : Hp} {x : Str} {u : Value} {pos : Pos} {Q : Value → Shared → Prop} (I : Inv X pins σ H s) (hg : Gl X x) (hm : X.mg x = some u) (h : Q u s)
    (hd : (x == ("__debug__" : Str)) = false := by decide) : wpAny (model X.prog X.w) X.A (eval (.Name x pos) X.env) Q E s :=
  Calls.Name_function_global I.ok.kind hg (Calls.loadGlobal_global (by rw [I.ok.glob]; exact I.mod.glob.keeps I.bk) hm h) hd
theorem ld_blt {E : Value → Shared → Prop} {pins : List (Addr × Obj)} {s : Shared} {σ : St} {H : Hp} {x : Str} {u : Value} {pos : Pos} {Q : Value → Shared → Prop} (I : Inv X pins σ H s) (hg : Gl X x) (hm : X.mg x = none) (hv : bootBuiltins x = some u) (h : Q u s)
    (hn : x ≠ "__name__" := by decide) (hd : (x == ("__debug__" : Str)) = false := by decide) : wpAny (model X.prog X.w) X.A (eval (.Name x pos) X.env) Q E s := by
  obtain ⟨mb, h1, h2⟩ := I.mod.blt
  exact Calls.Name_function_global I.ok.kind hg (Calls.loadGlobal_builtin (by rw [I.ok.glob]; exact I.mod.glob.keeps I.bk) hm (by rw [I.ok.blt]; exact h1.keeps I.bk) ((h2 x hn).trans hv) h) hd
theorem pe_glob {x : Str} {v : V} {u : Value} {pos : Pos} (hg : Gl X x) (hm : X.mg x = some u) (r : RelV v u) (hd : (x == ("__debug__" : Str)) = false := by decide) : PE X (.Name x pos) (tC v) :=
  fun _ _ _ H _ I h => ld_glob I hg hm ⟨v, H, I, r, h⟩ hd
theorem pe_bltn {x : Str} {v : V} {u : Value} {pos : Pos} (hg : Gl X x) (hm : X.mg x = none) (hv : bootBuiltins x = some u) (r : RelV v u) (hn : x ≠ "__name__" := by decide) (hd : (x == ("__debug__" : Str)) = false := by decide) : PE X (.Name x pos) (tC v) :=
  fun _ _ _ H _ I h => ld_blt I hg hm hv ⟨v, H, I, r, h⟩ hn hd
def t2I (ta tb : TE) (k : Int → Int → Hp → Prop) : St → Hp → Prop := fun σ H => ta σ H fun x H1 => tb σ H1 fun y H2 => ∃ i j, x = .int i ∧ y = .int j ∧ k i j H2
def tAdd (ta tb : TE) : TE := fun σ H Q => t2I ta tb (fun i j H2 => Q (.int (i + j)) H2) σ H
def tSub (ta tb : TE) : TE := fun σ H Q => t2I ta tb (fun i j H2 => Q (.int (i - j)) H2) σ H
def tMul (ta tb : TE) : TE := fun σ H Q => t2I ta tb (fun i j H2 => (-(2 ^ 64) < i ∧ i < 2 ^ 64) ∧ Q (.int (i * j)) H2) σ H
variable {a b : Expr} {ta tb : TE} {pos : Pos}
def PC (X : Cx) (op : CmpOp) (a b : Expr) (t : TE) : Prop :=
  ∀ (pins : List (Addr × Obj)) (s : Shared) (σ : St) (H : Hp) (Q : VK), Inv X pins σ H s → t σ H Q →
    wpAny (model X.prog X.w) X.A (eval a X.env) (fun v s₁ => wpAny (model X.prog X.w) X.A (eval b X.env) (fun u s₂ => wpAny (model X.prog X.w) X.A (compareOp op v u) (EP X pins σ Q) X.xe s₂) X.xe s₁) X.xe s
def tCmp (p : Int → Int → Bool) (ta tb : TE) : TE := fun σ H Q => t2I ta tb (fun i j H2 => Q (.bl (p i j)) H2) σ H
abbrev tLt : TE → TE → TE := tCmp fun i j => decide (i < j)
abbrev tLe : TE → TE → TE := tCmp fun i j => decide (i ≤ j)
abbrev tGt : TE → TE → TE := tCmp fun i j => decide (j < i)
abbrev tGe : TE → TE → TE := tCmp fun i j => decide (j ≤ i)
abbrev tEqI : TE → TE → TE := tCmp fun i j => decide (i = j)
abbrev tNeI : TE → TE → TE := tCmp fun i j => !decide (i = j)
def tIsN (ta : TE) : TE := fun σ H Q => ta σ H fun x H1 => Q (.bl (decide (x = .non))) H1
def tNotN (ta : TE) : TE := fun σ H Q => ta σ H fun x H1 => Q (.bl (!decide (x = .non))) H1
def tB (t : TE) : TT := fun σ H Q => t σ H fun x H1 => ∃ c, x = .bl c ∧ Q c H1
variable {tA tB' : TT} {rest : List Expr}
def tAnd (t u : TT) : TT := fun σ H Q => t σ H fun c H1 => if c = true then u σ H1 Q else Q false H1
def tOr (t u : TT) : TT := fun σ H Q => t σ H fun c H1 => if c = true then Q true H1 else u σ H1 Q
def tNot (t : TT) : TT := fun σ H Q => t σ H fun c H1 => Q (!c) H1
theorem pw_and1 (ha : PT X a tA) : PW X (.BoolOp .And [a] pos) tA := by
  intro wh pins s σ H Q I h
  refine isTrue_and (thn (ha pins s σ H Q I h) fun c s1 e => ?_)
  cases c with
  | true => exact isTrue_and_nil e
  | false => exact e
theorem pw_or1 (ha : PT X a tA) : PW X (.BoolOp .Or [a] pos) tA := by
  intro wh pins s σ H Q I h
  refine isTrue_or (thn (ha pins s σ H Q I h) fun c s1 e => ?_)
  cases c with
  | false => exact isTrue_or_nil e
  | true => exact e
theorem pt_not (ha : PT X a tA) : PT X (.UnaryOp .Not a pos) (tNot tA) := by
  intro pins s σ H Q I h
  exact isTrue_not (ha pins s σ H (fun c H1 => Q (!c) H1) I h)
def tAndV (ta tb : TE) : TE := fun σ H Q => ta σ H fun x H1 => ∃ c, x = .bl c ∧ if c = true then tb σ H1 Q else Q (.bl false) H1
def tOrV (ta tb : TE) : TE := fun σ H Q => ta σ H fun x H1 => ∃ c, x = .bl c ∧ if c = true then Q (.bl true) H1 else tb σ H1 Q
def tNotV (ta : TE) : TE := fun σ H Q => ta σ H fun x H1 => ∃ c, x = .bl c ∧ Q (.bl (!c)) H1
theorem pe_one {op} {t : TE} (h : PE X a t) : PE X (.BoolOp op [a] pos) t := fun pins s σ H Q I hw => BoolOp_one (h pins s σ H Q I hw)
theorem pe_not (ha : PE X a ta) : PE X (.UnaryOp .Not a pos) (tNotV ta) := by
  intro pins s σ H Q I h
  refine UnaryOp_ (thn (ha pins s σ H _ I h) fun v s1 ⟨x, H1, I1, r1, q1⟩ => ?_)
  obtain ⟨c, rfl, q1⟩ := q1
  cases r1
  exact not_of (wpAny_truthy_bool ⟨.bl (!c), H1, I1, rfl, q1⟩)
def tIf (t : TT) (ta tb : TE) : TE := fun σ H Q => t σ H fun c H1 => if c = true then ta σ H1 Q else tb σ H1 Q
theorem pe_ifExp {c : Expr} (hc : PT X c tA) (ha : PE X a ta) (hb : PE X b tb) : PE X (.IfExp c a b pos) (tIf tA ta tb) := by
  intro pins s σ H Q I h
  refine wpAny_IfExp (thn (hc pins s σ H _ I h) fun d s1 ⟨H1, I1, q1⟩ => ?_)
  cases d with
  | true => exact ha pins s1 σ H1 Q I1 q1
  | false => exact hb pins s1 σ H1 Q I1 q1
end
end L2
namespace L2
open PySem PySem.Spec PyProof.Rows
def SqL (K : PySem.W.Frag) (H : Hp) (a : Addr) (xs : List V) : Prop :=
  Rd H a (.lst xs) ∨
    ∃ (o : Obj) (its : Array Value) (n : Nat), K.lookup a = some o ∧ o.cls = .type "list" ∧ o.dict = none ∧ o.data = .seq its n ∧ its.size ≤ sizeLine ∧ Vals xs its.toList
def SqT (K : PySem.W.Frag) (H : Hp) (a : Addr) (xs : List V) : Prop :=
  Rd H a (.tup xs) ∨
    ∃ (o : Obj) (its : Array Value) (n : Nat), K.lookup a = some o ∧ o.cls = .type "tuple" ∧ o.dict = none ∧ o.data = .seq its n ∧ its.size ≤ sizeLine ∧ Vals xs its.toList
def absV : Value → Option V
  | .none => some .non
  | .bool b => some (.bl b)
  | .int i _ => some (.int i)
  | .str x _ => some (.str x)
  | .bytes b _ => some (.byt b)
  | .float b _ => some (.flt b)
  | .ref a => some (.ref a)
  | .type n => some (.ty n)
  | _ => none
theorem RelV.abs {x : V} {u : Value} (r : RelV x u) : absV u = some x := by
  cases x with
  | non => cases r; rfl
  | bl _ => cases r; rfl
  | int _ => obtain ⟨t, rfl⟩ := r; rfl
  | str _ => obtain ⟨t, rfl⟩ := r; rfl
  | byt _ => obtain ⟨t, rfl⟩ := r; rfl
  | flt _ => obtain ⟨t, rfl⟩ := r; rfl
  | ref _ => cases r; rfl
  | ty _ => cases r; rfl
theorem RelV.inj {x y : V} {u : Value} (r : RelV x u) (q : RelV y u) : x = y := Option.some.inj (r.abs.symm.trans q.abs)
theorem Vals.inj : ∀ {xs ys : List V} {us : List Value}, Vals xs us → Vals ys us → xs = ys
  | _, _, _, .nil, .nil => rfl
  | _, _, _, .cons r t, .cons r' t' => by rw [r.inj r', Vals.inj t t']
section
variable {X : Cx} {pins : List (Addr × Obj)} {σ : St} {H : Hp} {s : Shared} {a : Addr} {xs ys : List V}
theorem SqL.of {K : PySem.W.Frag} (h : H a = some (.lst xs)) : SqL K H a xs := .inl (.inl h)
theorem SqT.of {K : PySem.W.Frag} (h : H a = some (.tup xs)) : SqT K H a xs := .inl (.inl h)
theorem Inv.list (I : Inv X pins σ H s) (h : SqL X.K H a xs) : ∃ its : List Value, Vals xs its ∧ PlainL s.heap a its.toArray ∧ xs.length ≤ sizeLine := by
  rcases h with h | ⟨o, its, n, hk, hc, hd, hs, hz, r⟩
  · obtain ⟨z, its, n, r, e⟩ := h.ok I.hok
    exact ⟨its, r, ⟨_, n, e, rfl, rfl, rfl⟩, z⟩
  · refine ⟨its.toList, r, ⟨o, n, I.kIn a o hk, hc, hd, by simpa using hs⟩, ?_⟩
    have e := r.length
    simp only [Array.length_toList] at e
    omega
theorem Inv.tuple (I : Inv X pins σ H s) (h : SqT X.K H a xs) : ∃ its : List Value, Vals xs its ∧ IsTup s.heap a its.toArray ∧ xs.length ≤ sizeLine := by
  rcases h with h | ⟨o, its, n, hk, hc, _, hs, hz, r⟩
  · obtain ⟨z, its, r, p⟩ := h.ok I.hok
    exact ⟨its, r, p.t, z⟩
  · refine ⟨its.toList, r, ⟨o, I.kIn a o hk, hc, n, by simpa using hs⟩, ?_⟩
    have e := r.length
    simp only [Array.length_toList] at e
    omega
theorem Inv.tupN (I : Inv X pins σ H s) (h : SqT X.K H a xs) : ∃ its : List Value, Vals xs its ∧ TupN s.heap a its.toArray ∧ xs.length ≤ sizeLine := by
  rcases h with h | ⟨o, its, n, hk, hc, hd, hs, hz, r⟩
  · obtain ⟨z, its, r, p⟩ := h.ok I.hok
    exact ⟨its, r, p, z⟩
  · refine ⟨its.toList, r, ⟨o, I.kIn a o hk, hd, hc, n, by simpa using hs⟩, ?_⟩
    have e := r.length
    simp only [Array.length_toList] at e
    omega
theorem Inv.list_inj (I : Inv X pins σ H s) (h : SqL X.K H a xs) (h' : SqL X.K H a ys) : xs = ys := by
  obtain ⟨its, r, ⟨o, n, e, _, _, d⟩, _⟩ := I.list h
  obtain ⟨its', r', ⟨o', n', e', _, _, d'⟩, _⟩ := I.list h'
  rw [e] at e'; cases e'
  rw [d] at d'
  injection d' with d1 _
  have : its = its' := by simpa using congrArg Array.toList d1
  subst this
  exact r.inj r'
theorem Inv.tuple_inj (I : Inv X pins σ H s) (h : SqT X.K H a xs) (h' : SqT X.K H a ys) : xs = ys := by
  obtain ⟨its, r, ⟨o, e, _, n, d⟩, _⟩ := I.tuple h
  obtain ⟨its', r', ⟨o', e', _, n', d'⟩, _⟩ := I.tuple h'
  rw [e] at e'; cases e'
  rw [d] at d'
  injection d' with d1 _
  have : its = its' := by simpa using congrArg Array.toList d1
  subst this
  exact r.inj r'
end
abbrev Cx.wish (X : Cx) (E : Value → Shared → Prop) : Cx := { X with xe := E }
abbrev Cx.nox (X : Cx) : Cx := X.wish fun _ _ => False
theorem Cx.Ok.wish {X : Cx} (ok : X.Ok) (E : Value → Shared → Prop) : (X.wish E).Ok :=
  ⟨ok.mod, ok.kind, ok.glob, ok.blt, ok.above, ok.inj, ok.has, ok.cab, ok.hd, ok.frames, ok.stk, ok.exf, ok.bs, ok.bsz, ok.noex, ok.exfs, ok.funs, ok.frf⟩
theorem Cx.Ok.unwish {X : Cx} {E : Value → Shared → Prop} (ok : (X.wish E).Ok) : X.Ok :=
  ⟨ok.mod, ok.kind, ok.glob, ok.blt, ok.above, ok.inj, ok.has, ok.cab, ok.hd, ok.frames, ok.stk, ok.exf, ok.bs, ok.bsz, ok.noex, ok.exfs, ok.funs, ok.frf⟩
section
variable {X : Cx} {pins : List (Addr × Obj)} {σ : St} {H : Hp} {s : Shared} {E : Value → Shared → Prop}
theorem Inv.wish (I : Inv X pins σ H s) (E : Value → Shared → Prop) : Inv (X.wish E) pins σ H s := ⟨I.ok.wish E, I.os, I.bare, I.base, I.loc, I.cell, I.free, I.freeC, I.pin, I.hok, I.len⟩
theorem Inv.unwish (I : Inv (X.wish E) pins σ H s) : Inv X pins σ H s := ⟨I.ok.unwish, I.os, I.bare, I.base, I.loc, I.cell, I.free, I.freeC, I.pin, I.hok, I.len⟩
theorem SP.unwish {D : Ends} {f : Flow} {s' : Shared} (h : SP (X.wish E) pins D f s') : SP X pins D f s' := by
  cases f with
  | next => obtain ⟨σ', H', I, q⟩ := h; exact ⟨σ', H', I.unwish, q⟩
  | brk => obtain ⟨σ', H', I, q⟩ := h; exact ⟨σ', H', I.unwish, q⟩
  | cont => obtain ⟨σ', H', I, q⟩ := h; exact ⟨σ', H', I.unwish, q⟩
  | ret u => obtain ⟨v, σ', H', I, r, q⟩ := h; exact ⟨v, σ', H', I.unwish, r, q⟩
theorem PSs.nox {st : List Stmt} {t : TS} (h : PSs X.nox st t) : PSs X st t := fun pins s σ H D I hw =>
  wpAny_mono (h pins s σ H D (I.wish _) hw) (fun _ _ q => q.unwish) fun _ _ z => False.elim z
end
section
variable {X : Cx} {st : Stmt} {rest : List Stmt} {t u : TS} {e : Expr} {te : TE} {pos : Pos}
def tNext : TS := fun D σ H => D.nx σ H
def tSeq (t u : TS) : TS := fun D σ H => t { D with nx := u D } σ H
theorem pss_nil : PSs X [] tNext := fun _ _ σ H _ I h => wpAny_execs_nil ⟨σ, H, I, h⟩
theorem pss_cons (h1 : PS X st t) (h2 : PSs X rest u) : PSs X (st :: rest) (tSeq t u) := by
  intro pins s σ H D I h
  refine wpAny_execs_cons (thn (h1 pins s σ H { D with nx := u D } I h) fun f s1 q => ?_)
  cases f with
  | next =>
    obtain ⟨σ', H', I', q⟩ := q
    exact h2 pins s1 σ' H' D I' q
  | ret v => exact q
  | brk => exact q
  | cont => exact q
def tBreak : TS := fun D σ H => D.bk σ H
def tCont : TS := fun D σ H => D.ct σ H
theorem Inv.quiet {pins : List (Addr × Obj)} {σ : St} {H : Hp} {s : Shared} (I : Inv X pins σ H s) : interactive X.env = false := by simp [interactive, I.ok.kind]
def tDrop (te : TE) : TS := fun D σ H => te σ H fun _ H1 => D.nx σ H1
theorem ps_expr (he : PE X e te) (hs : swapsWith e none pos.line X.env = pure false := by rfl) : PS X (.Expr e pos) (tDrop te) := by
  intro pins s σ H D I h
  exact wpAny_Expr_any (thn (he pins s σ H _ I h) fun v s1 ⟨x, H1, I1, r1, q1⟩ => ⟨σ, H1, I1, q1⟩) I.quiet hs
def tRet (te : TE) : TS := fun D σ H => te σ H D.rt
theorem ps_ret (he : PE X e te) : PS X (.Return (some e) pos) (tRet te) := by
  intro pins s σ H D I h
  exact wpAny_Return_some (thn (he pins s σ H _ I h) fun v s1 ⟨x, H1, I1, r1, q1⟩ => ⟨x, σ, H1, I1, r1, q1⟩)
def tRetN : TS := fun D _ H => D.rt .non H
def tIfS (c : TT) (t u : TS) : TS := fun D σ H => c σ H fun b H1 => if b = true then t D σ H1 else u D σ H1
theorem ps_if {c : Expr} {a b : List Stmt} {tc : TT} (hc : PT X c tc) (ha : PSs X a t) (hb : PSs X b u) : PS X (.If c a b pos) (tIfS tc t u) := by
  intro pins s σ H D I h
  refine wpAny_If (thn (hc pins s σ H _ I h) fun d s1 ⟨H1, I1, q1⟩ => ?_)
  cases d with
  | true => exact ha pins s1 σ H1 D I1 q1
  | false => exact hb pins s1 σ H1 D I1 q1
def tNever : TS := fun _ _ _ => False
end
abbrev TG := V → St → Hp → (St → Hp → Prop) → Prop
abbrev TGs := List V → St → Hp → (St → Hp → Prop) → Prop
def PG (X : Cx) (target : Expr) (t : TG) : Prop :=
  ∀ (pins : List (Addr × Obj)) (s : Shared) (σ : St) (H : Hp) (v : V) (u : Value) (Q : St → Hp → Prop), Inv X pins σ H s → RelV v u → t v σ H Q →
    wpAny (model X.prog X.w) X.A (assign target X.env u) (fun _ s' => ∃ σ' H', Inv X pins σ' H' s' ∧ Q σ' H') X.xe s
def PGs (X : Cx) (ts : List Expr) (t : TGs) : Prop :=
  ∀ (pins : List (Addr × Obj)) (s : Shared) (σ : St) (H : Hp) (vs : List V) (us : List Value) (Q : St → Hp → Prop), Inv X pins σ H s → Vals vs us → t vs σ H Q →
    wpAny (model X.prog X.w) X.A (assignInOrder ((assignEach ts X.env).map (·.2)) us) (fun _ s' => ∃ σ' H', Inv X pins σ' H' s' ∧ Q σ' H') X.xe s
abbrev TSet := V → V → V → Hp → (Hp → Prop) → Prop
def PSet (X : Cx) (t : TSet) : Prop :=
  ∀ (pins : List (Addr × Obj)) (s : Shared) (σ : St) (H : Hp) (o i v : V) (ov iv u : Value) (Q : Hp → Prop), Inv X pins σ H s → RelV o ov → RelV i iv → RelV v u → t o i v H Q →
    wpAny (model X.prog X.w) X.A (setItem ov iv u) (fun _ s' => ∃ H', Inv X pins σ H' s' ∧ Q H') X.xe s
abbrev TIp := V → V → Hp → VK → Prop
def PIp (X : Cx) (op : Operator) (t : TIp) : Prop :=
  ∀ (pins : List (Addr × Obj)) (s : Shared) (σ : St) (H : Hp) (x y : V) (v u : Value) (Q : VK), Inv X pins σ H s → RelV x v → RelV y u → t x y H Q →
    wpAny (model X.prog X.w) X.A (inplaceOp op v u) (EP X pins σ Q) X.xe s
section
variable {X : Cx} {pos : Pos}
def gName (i : Nat) : TG := fun v σ H Q => Q (σ.set i (some v)) H
theorem pg_name {i : Nat} {x : Str} (hN : X.N.Nodup) (hi : X.N[i]? = some x) (hx : Loc X.env.scope x) (hf : X.fn x = true ∨ X.env.scope.names.lookup x = some .local := by first | exact .inl rfl | exact .inr rfl | assumption) : PG X (.Name x pos) (gName i) := by
  intro pins s σ H v u Q I r h
  exact wpAny_assign_Name (store_ok I hN hi hx r (fun s' I' => ⟨_, H, I', h⟩) hf)
def gNil : TGs := fun vs σ H Q => vs = [] ∧ Q σ H
def gCons (t : TG) (u : TGs) : TGs := fun vs σ H Q => ∃ v r, vs = v :: r ∧ t v σ H fun σ' H' => u r σ' H' Q
theorem pgs_nil : PGs X [] gNil := by
  intro pins s σ H vs us Q I r h
  obtain ⟨e, h⟩ := h
  subst e
  cases r
  exact assignInOrder_nil ⟨σ, H, I, h⟩
theorem pgs_cons {e : Expr} {es : List Expr} {t : TG} {u : TGs} (h1 : PG X e t) (h2 : PGs X es u)
    (hs : (assignEach (e :: es) X.env).map (·.2) = assign e X.env :: (assignEach es X.env).map (·.2) := by rfl) : PGs X (e :: es) (gCons t u) := by
  intro pins s σ H vs us Q I r h
  obtain ⟨v, vr, e1, h⟩ := h
  subst e1
  cases r with
  | cons r rr =>
    rw [hs]
    refine assignInOrder_cons (thn (h1 pins s σ H _ _ _ I r h) fun _ s1 ⟨σ1, H1, I1, q1⟩ => ?_)
    exact h2 pins s1 σ1 H1 _ _ Q I1 rr q1
def gTup (K : PySem.W.Frag) (n : Nat) (t : TGs) : TG := fun v σ H Q => ∃ a xs, v = .ref a ∧ SqT K H a xs ∧ xs.length = n ∧ t xs σ H Q
theorem pg_tup {es : List Expr} {k : Nat} {t : TGs} {n : Nat} (hc : X.calm = true) (h : PGs X es t)
    (hn : (assignEach es X.env).length = n := by rfl) (hst : (assignEach es X.env).findIdx? (·.1) = none := by rfl) : PG X (.Tuple es k pos) (gTup X.K n t) := by
  intro pins s σ H v u Q I r hw
  obtain ⟨a, xs, e1, hq, hl, hw⟩ := hw
  subst e1
  cases r
  obtain ⟨its, rv, ht, hz⟩ := I.tuple hq
  refine assign_Tuple_tuple (I.ok.hd hc) ht (by simp [hn, ← hl, rv.length]) hst fun h' hx => ?_
  have I1 : Inv X pins σ H { s with heap := h' } := I.kept (t' := s.toks) fun b o e => hx b o (Nat.ne_of_lt (Heap.lt_size e)) e
  exact h pins _ σ H xs _ Q I1 (by simpa using rv) hw
def gSub (to ti : TE) (t : TSet) : TG := fun v σ H Q => to σ H fun o H1 => ti σ H1 fun i H2 => t o i v H2 fun H3 => Q σ H3
theorem pg_sub {o i : Expr} {to ti : TE} {t : TSet} (ho : PE X o to) (hi : PE X i ti) (hs : PSet X t)
    (ha : ∀ v, assign (.Subscript o i pos) X.env v = (do
      let ov ← holding [v] (eval o X.env)
      let iv ← holding [v, ov] (eval i X.env)
      standAt pos
      holding [v, ov, iv] (setItem ov iv v)
      release [v, ov, iv] []) := by intro _; rfl) : PG X (.Subscript o i pos) (gSub to ti t) := by
  intro pins s σ H v u Q I r h
  rw [ha]
  refine wpAny_bind (wpAny_holding (thn (ho pins s σ H _ I h) fun ov s1 ⟨x, H1, I1, r1, q1⟩ => ?_))
  refine wpAny_bind (wpAny_holding (thn (hi pins s1 σ H1 _ I1 q1) fun iv s2 ⟨y, H2, I2, r2, q2⟩ => ?_))
  refine wpAny_bind (wpAny_standAt (wpAny_bind (wpAny_holding (thn (hs pins s2 σ H2 x y v ov iv u _ I2 r1 r2 r q2) fun _ s3 ⟨H3, I3, q3⟩ => ?_))))
  exact wpAny_release ⟨σ, H3, I3, q3⟩
def tAsg (te : TE) (g : TG) : TS := fun D σ H => te σ H fun x H1 => g x σ H1 D.nx
theorem ps_asg {tg e : Expr} {te : TE} {g : TG} (he : PE X e te) (hg : PG X tg g) (hs : swapsWithSole [tg] e pos.line X.env = pure false := by rfl) (hw : swappedStores [tg] e X.env = pure none := by rfl)
    (h1 : (assignEach [tg] X.env).map (·.2) = [assign tg X.env] := by rfl) : PS X (.Assign [tg] e pos) (tAsg te g) := by
  intro pins s σ H D I h
  refine wpAny_Assign_stores (thn (he pins s σ H _ I h) fun v s1 ⟨x, H1, I1, r1, q1⟩ => ?_) hs hw
  rw [h1]
  exact thn (hg pins s1 σ H1 x v _ I1 r1 q1) fun _ s2 q => q
theorem ps_set {i : Nat} {x : Str} {e : Expr} {te : TE} {pos' : Pos} (hN : X.N.Nodup) (hi : X.N[i]? = some x) (hx : Loc X.env.scope x) (he : PE X e te) (hs : swapsWith e (some (.Name x pos')) pos.line X.env = pure false := by rfl) (hf : X.fn x = true ∨ X.env.scope.names.lookup x = some .local := by first | exact .inl rfl | exact .inr rfl | assumption) :
    PS X (.Assign [.Name x pos'] e pos) (tAsg te (gName i)) := by
  intro pins s σ H D I h
  refine wpAny_Assign_Name (thn (he pins s σ H _ I h) fun v s1 ⟨y, H1, I1, r1, q1⟩ => ?_) hs
  exact store_ok I1 hN hi hx r1 (fun s2 I2 => ⟨_, H1, I2, q1⟩) hf
def tPar (i j : Nat) (ta : TA) : TS := fun D σ H => ta σ H fun vs H1 => ∃ v w, vs = [v, w] ∧ D.nx ((σ.set i (some v)).set j (some w)) H1
def tAug (i : Nat) (te : TE) (ti : TIp) : TS := fun D σ H => ∃ x, σ[i]? = some (some x) ∧ te σ H fun y H1 => ti x y H1 fun z H2 => D.nx (σ.set i (some z)) H2
def tAugS (to ti te : TE) (tget : V → V → Hp → VK → Prop) (tip : TIp) (tset : TSet) : TS := fun D σ H => to σ H fun o H1 => ti σ H1 fun i H2 => tget o i H2 fun x H3 => te σ H3 fun y H4 => tip x y H4 fun z H5 => tset o i z H5 fun H6 => D.nx σ H6
def PGet (X : Cx) (t : V → V → Hp → VK → Prop) : Prop :=
  ∀ (pins : List (Addr × Obj)) (s : Shared) (σ : St) (H : Hp) (o i : V) (ov iv : Value) (Q : VK), Inv X pins σ H s → RelV o ov → RelV i iv → t o i H Q →
    wpAny (model X.prog X.w) X.A (getItem ov iv) (EP X pins σ Q) X.xe s
def ipI (f : Int → Int → Int) : TIp := fun x y H Q => ∃ i j, x = .int i ∧ y = .int j ∧ Q (.int (f i j)) H
end
section
variable {X : Cx} {pos : Pos}
def tWhile (c : TT) (tb : TS) : TS := fun D σ H => ∃ W : Nat → St → Hp → Prop, (∃ m, W m σ H) ∧ ∀ m σ H, W m σ H →
  c σ H fun b H1 => if b = true then ∃ N : St → Hp → Prop, (∀ σ' H', N σ' H' → ∃ m', m' < m ∧ W m' σ' H') ∧ tb { D with nx := N, ct := N, bk := D.nx } σ H1 else D.nx σ H1
end
structure It where
  go : Nat → Hp → Prop
  yld : Nat → Hp → V → Hp → Prop
  stop : Nat → Hp → Prop
def FpOk (X : Cx) (pins : List (Addr × Obj)) (H : Hp) (b : Addr) : Prop :=
  H b = none ∧ b ≠ X.env.locals ∧ b ∉ X.fs ∧ (b ∈ X.ex ∨ X.s₀.heap.objs.size ≤ b) ∧ (∀ x c, X.env.cells.lookup x = some c → c ≠ b) ∧ ∀ p ∈ X.pn ++ pins, p.1 ≠ b
theorem Inv.fpOk {X : Cx} {pins : List (Addr × Obj)} {σ : St} {H H' : Hp} {s : Shared} {b : Addr} (I : Inv X pins σ H s) (hb : s.heap.objs.size ≤ b) (hn : H' b = none) : FpOk X pins H' b := by
  refine ⟨hn, Nat.ne_of_gt (Nat.lt_of_lt_of_le I.lt hb), I.nofs hb, .inr (Nat.le_trans I.sz hb), fun x c e z => ?_, fun p hp z => ?_⟩
  · obtain ⟨v, q⟩ := I.cell x c e
    exact absurd (Nat.lt_of_lt_of_le q.lt (by rw [z]; exact hb)) (Nat.lt_irrefl _)
  · exact absurd (Nat.lt_of_lt_of_le (Heap.lt_size (I.pin p hp).1) (by rw [z]; exact hb)) (Nat.lt_irrefl _)
structure Turn (P : Program) (w : World) (K : PySem.W.Frag) (tg : Expr) (J : It) (fp : List Addr) (it : Addr) (tn : Nat → Heap → Prop) : Prop where
  mem : it ∈ fp
  obj : ∀ i h, tn i h → ∀ b ∈ fp, ∃ o, h.get? b = some o ∧ ∀ v, o.data ≠ .cell v
  keep : ∀ i h h', tn i h → (∀ b ∈ fp, ∀ o, h.get? b = some o → h'.get? b = some o) → tn i h'
  item : ∀ (X : Cx), X.prog = P → X.w = w → X.K = K → X.calm = true → ∀ (i : Nat) (pins : List (Addr × Obj)) (s : Shared) (σ : St) (H : Hp) (E : Value → Shared → Prop), Inv X pins σ H s → (∀ b ∈ fp, FpOk X pins H b) → tn i s.heap → J.go i H →
    wpAny (model P w) X.A (pyNext (.ref it)) (fun r s1 => ∃ u, r = some u ∧
      wpAny (model P w) X.A (letOwnedTupleGo tg (.ref it) u) (fun _ s2 => ∃ x H', Inv X pins σ H' s2 ∧ RelV x u ∧ J.yld i H x H' ∧ tn (i + 1) s2.heap ∧ ∀ b ∈ fp, H' b = none) E s1) E s
  done : ∀ (X : Cx), X.prog = P → X.w = w → X.K = K → X.calm = true → ∀ (i : Nat) (pins : List (Addr × Obj)) (s : Shared) (σ : St) (H : Hp) (E : Value → Shared → Prop), Inv X pins σ H s → (∀ b ∈ fp, FpOk X pins H b) → tn i s.heap → J.stop i H →
    wpAny (model P w) X.A (pyNext (.ref it)) (fun r s1 => r = none ∧ Inv X pins σ H s1) E s
  self : ∀ (A : Around) (i : Nat) (s : Shared) (Q : Value → Shared → Prop) (E : Value → Shared → Prop), tn i s.heap → Q (.ref it) s → wpAny (model P w) A (pyIter (.ref it)) Q E s
abbrev TI := St → Hp → (It → Hp → Prop) → Prop
def PIE (X : Cx) (pins : List (Addr × Obj)) (σ : St) (tg : Expr) (R : It → Hp → Prop) (itv : Value) (s2 : Shared) : Prop :=
  ∃ (it : Addr) (fp : List Addr) (tn : Nat → Heap → Prop) (J : It) (H' : Hp), itv = .ref it ∧ Inv X pins σ H' s2 ∧ Turn X.prog X.w X.K tg J fp it tn ∧ tn 0 s2.heap ∧ (∀ b ∈ fp, FpOk X pins H' b) ∧ R J H'
def PI (X : Cx) (tg iter : Expr) (wi : TI) : Prop :=
  ∀ (pins : List (Addr × Obj)) (s : Shared) (σ : St) (H : Hp) (R : It → Hp → Prop), Inv X pins σ H s → wi σ H R →
    wpAny (model X.prog X.w) X.A (eval iter X.env) (fun v s1 => wpAny (model X.prog X.w) X.A (pyIter v) (PIE X pins σ tg R) X.xe s1) X.xe s
theorem go_of {M : Model} {A : Around} {E : Value → Shared → Prop} {s : Shared} {tg : Expr} {it : Addr} {u : Value} {o : Obj} {n : String} {vs : Array Value} {Q : Unit → Shared → Prop} (ho : s.heap.get? it = some o) (hc : o.cls = .type n) (hd : o.data = .fields vs)
    (hn : ["enumerate", "zip", "dict_itemiterator", "dict_reverseitemiterator", "odict_iterator", "itertools.zip_longest", "itertools.pairwise"].contains n = false) (hQ : Q () s) : wpAny M A (letOwnedTupleGo tg (.ref it) u) Q E s := by
  unfold letOwnedTupleGo
  cases tg <;> first
    | exact wpAny_pure hQ
    | (cases u <;> first
        | exact wpAny_pure hQ
        | (refine wpAny_bind (wpAny_load ho ?_)
           rw [hc, hd]
           show wpAny M A (if (["enumerate", "zip", "dict_itemiterator", "dict_reverseitemiterator", "odict_iterator", "itertools.zip_longest", "itertools.pairwise"].contains n && vs[0]? == some (rawInt _)) = true then _ else _) Q E s
           rw [if_neg (by intro h; rw [hn, Bool.false_and] at h; cases h)]
           exact wpAny_pure hQ))
def Itl (K : PySem.W.Frag) (a : Addr) : It :=
  ⟨fun i H => ∃ xs x, SqL K H a xs ∧ xs[i]? = some x, fun i H x H' => H' = H ∧ ∀ xs, SqL K H a xs → xs[i]? = some x, fun i H => ∃ xs, SqL K H a xs ∧ xs.length ≤ i⟩
def Itt (K : PySem.W.Frag) (a : Addr) : It :=
  ⟨fun i H => ∃ xs x, SqT K H a xs ∧ xs[i]? = some x, fun i H x H' => H' = H ∧ ∀ xs, SqT K H a xs → xs[i]? = some x, fun i H => ∃ xs, SqT K H a xs ∧ xs.length ≤ i⟩
def Itr (lo : Int) (n : Nat) : It := ⟨fun i _ => i < n, fun i H x H' => H' = H ∧ x = .int (lo + i), fun i _ => n ≤ i⟩
theorem turn_list {P : Program} {w : World} {K : PySem.W.Frag} {tg : Expr} (a it : Addr) : Turn P w K tg (Itl K a) [it] it (fun i h => h.IsListIter it a i) where
  mem := by simp
  obj := fun i h st b hb => by
    have e : b = it := by simpa using hb
    subst e
    obtain ⟨o, e, c, d⟩ := st
    exact ⟨o, e, fun v z => by rw [d] at z; cases z⟩
  keep := fun i h h' st k => st.at fun o e => k it (by simp) o e
  item := by
    intro X hP hw hK hc i pins s σ H E I hf st hg
    subst hP hw hK
    obtain ⟨xs, x, hq, hx⟩ := hg
    obtain ⟨its, rv, p, hz⟩ := I.list hq
    obtain ⟨u, hu, ru⟩ := rv.get hx
    obtain ⟨f0, f1, f2, f3, f4, f5⟩ := hf it (by simp)
    refine wpAny_pyNext_list_item st p.isList (x := u) (by simpa using hu) fun h' st' sb => ?_
    have I1 : Inv X pins σ H { s with heap := h' } := I.turned (t' := s.toks) (fun b o hb e => (sb.2 b hb).trans e) f0 f1 f3 f4 f5
    obtain ⟨o, e, c, d⟩ := id st'
    exact ⟨u, rfl, go_of (s := { s with heap := h' }) e c d (by decide) ⟨x, H, I1, ru, ⟨rfl, fun ys hy => by rw [I.list_inj hy hq]; exact hx⟩, st', fun b hb => (hf b hb).1⟩⟩
  done := by
    intro X hP hw hK hc i pins s σ H E I hf st hg
    subst hP hw hK
    obtain ⟨xs, hq, hx⟩ := hg
    obtain ⟨its, rv, p, hz⟩ := I.list hq
    obtain ⟨f0, f1, f2, f3, f4, f5⟩ := hf it (by simp)
    have hl := rv.length
    exact wpAny_pyNext_list_end (I.ok.hd hc) st p.isList (by simp; omega) fun h' eb => ⟨rfl, I.turned (t' := s.toks) (fun b o hb e => eb b o hb e) f0 f1 f3 f4 f5⟩
  self := fun _ _ _ _ _ st h => wpAny_pyIter_listiter st h
theorem turn_tuple {P : Program} {w : World} {K : PySem.W.Frag} {tg : Expr} (a it : Addr) : Turn P w K tg (Itt K a) [it] it (fun i h => h.IsTupleIter it a i) where
  mem := by simp
  obj := fun i h st b hb => by
    have e : b = it := by simpa using hb
    subst e
    obtain ⟨o, e, c, d⟩ := st
    exact ⟨o, e, fun v z => by rw [d] at z; cases z⟩
  keep := fun i h h' st k => st.at fun o e => k it (by simp) o e
  item := by
    intro X hP hw hK hc i pins s σ H E I hf st hg
    subst hP hw hK
    obtain ⟨xs, x, hq, hx⟩ := hg
    obtain ⟨its, rv, p, hz⟩ := I.tuple hq
    obtain ⟨u, hu, ru⟩ := rv.get hx
    obtain ⟨f0, f1, f2, f3, f4, f5⟩ := hf it (by simp)
    refine wpAny_pyNext_tuple_item st (show s.heap.IsTuple a its.toArray from p) (x := u) (by simpa using hu) fun h' st' sb => ?_
    have I1 : Inv X pins σ H { s with heap := h' } := I.turned (t' := s.toks) (fun b o hb e => (sb.2 b hb).trans e) f0 f1 f3 f4 f5
    obtain ⟨o, e, c, d⟩ := id st'
    exact ⟨u, rfl, go_of (s := { s with heap := h' }) e c d (by decide) ⟨x, H, I1, ru, ⟨rfl, fun ys hy => by rw [I.tuple_inj hy hq]; exact hx⟩, st', fun b hb => (hf b hb).1⟩⟩
  done := by
    intro X hP hw hK hc i pins s σ H E I hf st hg
    subst hP hw hK
    obtain ⟨xs, hq, hx⟩ := hg
    obtain ⟨its, rv, p, hz⟩ := I.tuple hq
    obtain ⟨f0, f1, f2, f3, f4, f5⟩ := hf it (by simp)
    have hl := rv.length
    exact wpAny_pyNext_tuple_end (I.ok.hd hc) st (show s.heap.IsTuple a its.toArray from p) (by simp; omega) fun h' eb => ⟨rfl, I.turned (t' := s.toks) (fun b o hb e => eb b o hb e) f0 f1 f3 f4 f5⟩
  self := fun _ _ _ _ _ st h => wpAny_pyIter_tupleiter st h
theorem turn_range {P : Program} {w : World} {K : PySem.W.Frag} {tg : Expr} (it : Addr) (lo : Int) (n : Nat) : Turn P w K tg (Itr lo n) [it] it (fun i h => IsRangeIter h it (lo + (i : Nat) * 1) ((n : Int) - (i : Nat)) 1) where
  mem := by simp
  obj := fun i h st b hb => by
    have e : b = it := by simpa using hb
    subst e
    exact ⟨_, st, fun v z => by
      have z' : Data.fields _ = Data.cell v := z
      cases z'⟩
  keep := fun i h h' st k => k it (by simp) _ st
  item := by
    intro X hP hw hK hc i pins s σ H E I hf st hg
    subst hP hw hK
    obtain ⟨f0, f1, f2, f3, f4, f5⟩ := hf it (by simp)
    have W := Walks.range (prog := X.prog) (w := X.w) (I.ok.hd hc) it lo 1 n
    refine W.item i s _ _ hg st fun v h' tk hv st' kk => ?_
    obtain ⟨t, rfl⟩ := hv
    have I1 : Inv X pins σ H { s with heap := h', toks := tk } := I.turned (fun b o hb e => kk b o (by simpa using hb) e) f0 f1 f3 f4 f5
    refine ⟨_, rfl, go_of (s := { s with heap := h', toks := tk }) (n := "range_iterator") st' rfl rfl (by decide) ⟨.int (lo + i), H, I1, ⟨t, ?_⟩, ⟨rfl, rfl⟩, st', fun b hb => (hf b hb).1⟩⟩
    rw [Int.mul_one]
  done := by
    intro X hP hw hK hc i pins s σ H E I hf st hg
    subst hP hw hK
    obtain ⟨f0, f1, f2, f3, f4, f5⟩ := hf it (by simp)
    exact wpAny_pyNext_range_end (I.ok.hd hc) st (by have : n ≤ i := hg; omega) fun h' eb => ⟨rfl, I.turned (t' := s.toks) (fun b o hb e => eb b o hb e) f0 f1 f3 f4 f5⟩
  self := fun _ _ _ _ _ st h => wpAny_pyIter_rangeiter st h
end L2
namespace L2
open PySem PySem.Spec PyProof.Rows
section
variable {X : Cx} {tg : Expr}
def iList (K : PySem.W.Frag) (tl : TE) : TI := fun σ H R => tl σ H fun x H1 => ∃ a, x = .ref a ∧ (∃ xs, SqL K H1 a xs) ∧ R (Itl K a) H1
def iTup (K : PySem.W.Frag) (tl : TE) : TI := fun σ H R => tl σ H fun x H1 => ∃ a, x = .ref a ∧ (∃ xs, SqT K H1 a xs) ∧ R (Itt K a) H1
theorem pi_list {l : Expr} {tl : TE} (hl : PE X l tl) : PI X tg l (iList X.K tl) := by
  intro pins s σ H R I h
  refine thn (hl pins s σ H _ I h) fun v s1 ⟨x, H1, I1, r1, q1⟩ => ?_
  obtain ⟨a, e, ⟨xs, hq⟩, q⟩ := q1
  subst e
  cases r1
  obtain ⟨its, rv, p, hz⟩ := I1.list hq
  refine wpAny_pyIter_list p.isList ?_
  refine ⟨s1.heap.objs.size, [s1.heap.objs.size], _, _, H1, rfl, I1.kept (t' := s1.toks) fun b o e => Heap.get?_push_of_some _ e, turn_list a _, ⟨_, Heap.get?_push_size _ rfl, rfl, rfl⟩, fun b hb => ?_, q⟩
  have e : b = s1.heap.objs.size := by simpa using hb
  subst e
  exact I1.fpOk (Nat.le_refl _) (I1.hok.fresh (Nat.le_refl _))
theorem pi_tup {l : Expr} {tl : TE} (hl : PE X l tl) : PI X tg l (iTup X.K tl) := by
  intro pins s σ H R I h
  refine thn (hl pins s σ H _ I h) fun v s1 ⟨x, H1, I1, r1, q1⟩ => ?_
  obtain ⟨a, e, ⟨xs, hq⟩, q⟩ := q1
  subst e
  cases r1
  obtain ⟨its, rv, p, hz⟩ := I1.tuple hq
  refine wpAny_pyIter_tuple (show s1.heap.IsTuple a its.toArray from p) ?_
  refine ⟨s1.heap.objs.size, [s1.heap.objs.size], _, _, H1, rfl, I1.kept (t' := s1.toks) fun b o e => Heap.get?_push_of_some _ e, turn_tuple a _, ⟨_, Heap.get?_push_size _ rfl, rfl, rfl⟩, fun b hb => ?_, q⟩
  have e : b = s1.heap.objs.size := by simpa using hb
  subst e
  exact I1.fpOk (Nat.le_refl _) (I1.hok.fresh (Nat.le_refl _))
theorem range_it {pins : List (Addr × Obj)} {σ : St} {H : Hp} {s : Shared} {R : It → Hp → Prop} {E : Value → Shared → Prop} {lo hi : Int} {t u v : Tok} {tk : Nat} (I : Inv X pins σ H s) (h1 : -(2 ^ 62) ≤ lo) (h2 : lo < 2 ^ 62) (h3 : -(2 ^ 62) ≤ hi) (h4 : hi < 2 ^ 62)
    (q : R (Itr lo (hi - lo).toNat) H) : wpAny (model X.prog X.w) X.A (pyIter (.ref s.heap.objs.size)) (PIE X pins σ tg R) E { s with heap := s.heap.push { cls := .type "range", data := .fields #[.int lo t, .int hi u, .int 1 v] }, toks := tk } := by
  refine wpAny_pyIter_range (IsRange.new ..) (small_one h1 h2 h3 h4) ?_
  have I1 : Inv X pins σ H { s with heap := s.heap.push { cls := .type "range", data := .fields #[.int lo t, .int hi u, .int 1 v] }, toks := tk } := I.kept fun b o e => Heap.get?_push_of_some _ e
  refine ⟨(s.heap.push { cls := .type "range", data := .fields #[.int lo t, .int hi u, .int 1 v] }).objs.size, [(s.heap.push { cls := .type "range", data := .fields #[.int lo t, .int hi u, .int 1 v] }).objs.size], _, _, H, rfl,
    I1.kept (t' := tk) fun b o e => Heap.get?_push_of_some _ e, turn_range _ lo (hi - lo).toNat, ?_, fun b hb => ?_, q⟩
  · have e1 : lo + ((0 : Nat) : Int) * 1 = lo := by simp
    have e2 : (((hi - lo).toNat : Nat) : Int) - ((0 : Nat) : Int) = Builtin.Range.rangeSize lo hi 1 := by rw [rangeSize_one]; split <;> omega
    show IsRangeIter _ _ (lo + ((0 : Nat) : Int) * 1) ((((hi - lo).toNat : Nat) : Int) - ((0 : Nat) : Int)) 1
    rw [e1, e2]
    exact Heap.get?_push_size _ rfl
  · have e : b = (s.heap.push { cls := .type "range", data := .fields #[.int lo t, .int hi u, .int 1 v] }).objs.size := by simpa using hb
    subst e
    exact I1.fpOk (Nat.le_refl _) (I1.hok.fresh (Nat.le_refl _))
def iRng1 (ta : TA) : TI := fun σ H R => ta σ H fun vs H1 => ∃ j : Int, vs = [.int j] ∧ -(2 ^ 62) ≤ j ∧ j < 2 ^ 62 ∧ R (Itr 0 j.toNat) H1
def iRng2 (ta : TA) : TI := fun σ H R => ta σ H fun vs H1 => ∃ i j : Int, vs = [.int i, .int j] ∧ (-(2 ^ 62) ≤ i ∧ i < 2 ^ 62 ∧ -(2 ^ 62) ≤ j ∧ j < 2 ^ 62) ∧ R (Itr i (j - i).toNat) H1
theorem pi_range1 {a : Expr} {ta : TA} {p pos : Pos} (hg : Gl X "range") (hm : X.mg "range" = none) (ha : PA X [a] ta) (hs : starEach [a] X.env = [(false, eval a X.env)] := by rfl) : PI X tg (.Call (.Name "range" p) [a] [] pos) (iRng1 ta) := by
  intro pins s σ H R I h
  refine Call_ (ld_blt I hg hm boot_range (PyProof.Rows.callWith_type1 (thn (ha pos pins s σ H _ I h) fun us s1 ⟨vs, H1, I1, r1, q1⟩ => ?_) hs rfl))
  obtain ⟨j, e, q1, q2, q⟩ := q1
  subst e
  cases r1 with
  | cons r rr =>
    cases rr
    obtain ⟨t, rfl⟩ := r
    exact call_range_1 (range_it I1 (by omega) (by omega) q1 q2 (by simpa using q))
theorem pi_range2 {a b : Expr} {ta : TA} {p pos : Pos} (hg : Gl X "range") (hm : X.mg "range" = none) (ha : PA X [a, b] ta) (hs : starEach [a, b] X.env = [(false, eval a X.env), (false, eval b X.env)] := by rfl) (hs2 : starEach [b] X.env = [(false, eval b X.env)] := by rfl) :
    PI X tg (.Call (.Name "range" p) [a, b] [] pos) (iRng2 ta) := by
  intro pins s σ H R I h
  refine Call_ (ld_blt I hg hm boot_range (PyProof.Rows.callWith_type1 (thn (ha pos pins s σ H _ I h) fun us s1 ⟨vs, H1, I1, r1, q1⟩ => ?_) (by rw [hs, hs2]) (by rw [hs2]; rfl)))
  obtain ⟨i, j, e, ⟨q1, q2, q3, q4⟩, q⟩ := q1
  subst e
  cases r1 with
  | cons r rr =>
    cases rr with
    | cons r' rr =>
      cases rr
      obtain ⟨t, rfl⟩ := r
      obtain ⟨t', rfl⟩ := r'
      exact call_range_2 (range_it I1 q1 q2 q3 q4 q)
def tFor (wi : TI) (g : TG) (tb : TS) : TS := fun D σ H => wi σ H fun J H1 => ∃ W : Nat → Nat → St → Hp → Prop, (∃ m, W 0 m σ H1) ∧ ∀ i m σ H, W i m σ H →
  (J.stop i H ∧ D.nx σ H) ∨ (J.go i H ∧ ∃ N : St → Hp → Prop, (∀ σ' H', N σ' H' → ∃ m', m' < m ∧ W (i + 1) m' σ' H') ∧ ∀ x H', J.yld i H x H' → g x σ H' fun σ2 H2 => tb { D with nx := N, ct := N, bk := D.nx } σ2 H2)
def pinsAt (fp : List Addr) (h : Heap) : List (Addr × Obj) := fp.filterMap fun b => (h.get? b).map fun o => (b, o)
theorem mem_pinsAt {fp : List Addr} {h : Heap} {b : Addr} {o : Obj} (hb : b ∈ fp) (e : h.get? b = some o) : (b, o) ∈ pinsAt fp h := List.mem_filterMap.mpr ⟨b, hb, by rw [e]; rfl⟩
theorem of_pinsAt {fp : List Addr} {h : Heap} {p : Addr × Obj} (hp : p ∈ pinsAt fp h) : p.1 ∈ fp ∧ h.get? p.1 = some p.2 := by
  obtain ⟨b, hb, e⟩ := List.mem_filterMap.mp hp
  cases q : h.get? b with
  | none => rw [q] at e; cases e
  | some o =>
    rw [q] at e
    have e' : (b, o) = p := Option.some.inj e
    subst e'
    exact ⟨hb, q⟩
theorem Inv.pinned {pins : List (Addr × Obj)} {σ : St} {H : Hp} {s : Shared} {fp : List Addr} (I : Inv X pins σ H s) (hf : ∀ b ∈ fp, FpOk X pins H b) (ho : ∀ b ∈ fp, ∃ o, s.heap.get? b = some o ∧ ∀ v, o.data ≠ .cell v) : Inv X (pins ++ pinsAt fp s.heap) σ H s :=
  I.pins_of fun p hp => (List.mem_append.mp hp).elim (fun z => I.pin p (List.mem_append_right _ z)) fun z => by
    obtain ⟨hb, e⟩ := of_pinsAt z
    obtain ⟨f0, f1, f2, _⟩ := hf p.1 hb
    obtain ⟨o, e', d⟩ := ho p.1 hb
    rw [e] at e'; cases e'
    exact ⟨e, f0, f1, f2, d⟩
theorem Inv.unpinned {pins pl : List (Addr × Obj)} {σ : St} {H : Hp} {s : Shared} (I : Inv X (pins ++ pl) σ H s) : Inv X pins σ H s := I.pins_of fun p hp => I.pin p (List.mem_append_right _ (List.mem_append_left _ hp))
theorem ps_for {iter : Expr} {body : List Stmt} {wi : TI} {g : TG} {tb : TS} {pos : Pos} (hp : PassesOwn (model X.prog X.w) X.A X.env X.xe) (hc : X.calm = true) (hi : PI X tg iter wi) (hg : PG X tg g) (hb : PSs X body tb)
    (hs : ∀ x, foldedSetIterable iter X.env x = pure x := by intro _; rfl) : PS X (.For tg iter body [] pos) (tFor wi g tb) := by
  intro pins s σ H D I h
  refine wpAny_For (thn (hi pins s σ H _ I h) fun v s1 h1 => thn h1 fun itv s2 h2 => ?_) hs
  obtain ⟨it, fp, tn, J, H2, e, I2, T, st2, f2, W, ⟨m0, w0⟩, turn⟩ := h2
  subst e
  -- what stays true of the iterator's objects through the loop
  have stat : ∀ {H' : Hp}, (∀ b ∈ fp, H' b = none) → ∀ b ∈ fp, FpOk X pins H' b := fun hn b hb => ⟨hn b hb, (f2 b hb).2⟩
  refine codeAny_forLoop_any (fun n s' => ∃ i σ' H', Inv X pins σ' H' s' ∧ tn i s'.heap ∧ (∀ b ∈ fp, H' b = none) ∧ W i n σ' H') ?_ m0 ⟨0, σ, H2, I2, st2, fun b hb => (f2 b hb).1, w0⟩
  rintro n s3 ⟨i, σ3, H3, I3, st3, fr3, w3⟩
  rcases turn i n σ3 H3 w3 with ⟨stop, qn⟩ | ⟨go, N, hN, step⟩
  · refine wpAny_passesOwn hp (thn (T.done X rfl rfl rfl hc i pins s3 σ3 H3 X.xe I3 (stat fr3) st3 stop) fun r s4 ⟨hr, I4⟩ => ?_)
    subst hr
    exact wpAny_execs_nil ⟨σ3, H3, I4, qn⟩
  · refine wpAny_passesOwn hp (thn (T.item X rfl rfl rfl hc i pins s3 σ3 H3 X.xe I3 (stat fr3) st3 go) fun r s4 ⟨u, hr, h4⟩ => ?_)
    subst hr
    refine wpAny_passesOwn hp (thn h4 fun _ s5 ⟨x, H5, I5, r5, y5, st5, fr5⟩ => ?_)
    have I5' := I5.pinned (stat fr5) (T.obj _ _ st5)
    refine wpAny_passesOwn hp (thn (hg _ s5 σ3 H5 x u _ I5' r5 (step x H5 y5)) fun _ s6 ⟨σ6, H6, I6, q6⟩ => ?_)
    refine wpAny_passesOwn hp (thn (hb _ s6 σ6 H6 _ I6 q6) fun f s7 q7 => ?_)
    have again : ∀ {σ7 : St} {H7 : Hp}, Inv X (pins ++ pinsAt fp s5.heap) σ7 H7 s7 → N σ7 H7 → ∃ m, m < n ∧ ∃ i σ' H', Inv X pins σ' H' s7 ∧ tn i s7.heap ∧ (∀ b ∈ fp, H' b = none) ∧ W i m σ' H' := fun {σ7 H7} I7 n7 => by
      obtain ⟨m', hm, w7⟩ := hN σ7 H7 n7
      refine ⟨m', hm, i + 1, σ7, H7, I7.unpinned, T.keep _ _ _ st5 fun b hb o e => (I7.pin (b, o) (List.mem_append_right _ (List.mem_append_right _ (mem_pinsAt hb e)))).1, fun b hb => ?_, w7⟩
      obtain ⟨o, e, d⟩ := T.obj _ _ st5 b hb
      exact (I7.pin (b, o) (List.mem_append_right _ (List.mem_append_right _ (mem_pinsAt hb e)))).2.1
    cases f with
    | next => obtain ⟨σ7, H7, I7, n7⟩ := q7; exact again I7 n7
    | cont => obtain ⟨σ7, H7, I7, n7⟩ := q7; exact again I7 n7
    | brk => obtain ⟨σ7, H7, I7, q7⟩ := q7; exact ⟨σ7, H7, I7.unpinned, q7⟩
    | ret v => obtain ⟨x7, σ7, H7, I7, r7, q7⟩ := q7; exact ⟨x7, σ7, H7, I7.unpinned, r7, q7⟩
end
end L2
namespace L2
open PySem PySem.Spec PyProof.Rows
abbrev R2 := V → V → Hp → VK → Prop
def OpR (X : Cx) (f : Value → Value → Sem Value) (r : R2) : Prop :=
  ∀ (pins : List (Addr × Obj)) (s : Shared) (σ : St) (H : Hp) (x y : V) (v u : Value) (Q : VK), Inv X pins σ H s → RelV x v → RelV y u → r x y H Q →
    wpAny (model X.prog X.w) X.A (f v u) (EP X pins σ Q) X.xe s
def UnR (X : Cx) (f : Value → Sem Value) (r : V → Hp → VK → Prop) : Prop :=
  ∀ (pins : List (Addr × Obj)) (s : Shared) (σ : St) (H : Hp) (x : V) (v : Value) (Q : VK), Inv X pins σ H s → RelV x v → r x H Q →
    wpAny (model X.prog X.w) X.A (f v) (EP X pins σ Q) X.xe s
def CallR (X : Cx) (f : Value) (r : List V → Hp → VK → Prop) : Prop :=
  ∀ (pins : List (Addr × Obj)) (s : Shared) (σ : St) (H : Hp) (xs : List V) (us : List Value) (Q : VK), Inv X pins σ H s → Vals xs us → r xs H Q →
    wpAny (model X.prog X.w) X.A (call f us) (EP X pins σ Q) X.xe s
def TruR (X : Cx) (r : V → Hp → (Bool → Hp → Prop) → Prop) : Prop :=
  ∀ (pins : List (Addr × Obj)) (s : Shared) (σ : St) (H : Hp) (x : V) (v : Value) (Q : Bool → Hp → Prop), Inv X pins σ H s → RelV x v → r x H Q →
    wpAny (model X.prog X.w) X.A (truthy v) (TP X pins σ Q) X.xe s
def tOp (r : R2) (ta tb : TE) : TE := fun σ H Q => ta σ H fun x H1 => tb σ H1 fun y H2 => r x y H2 Q
def tUn (r : V → Hp → VK → Prop) (ta : TE) : TE := fun σ H Q => ta σ H fun x H1 => r x H1 Q
def rI (C : Int → Int → Prop) (g : Int → Int → V) : R2 := fun x y H Q => ∃ i j, x = .int i ∧ y = .int j ∧ C i j ∧ Q (g i j) H
def rI0 (g : Int → Int → V) : R2 := fun x y H Q => ∃ i j, x = .int i ∧ y = .int j ∧ Q (g i j) H
def rU (g : Int → V) : V → Hp → VK → Prop := fun x H Q => ∃ i, x = .int i ∧ Q (g i) H
section
variable {X : Cx} {a b c : Expr} {ta tb tc : TE} {pos : Pos}
theorem binT (ha : PE X a ta) (hb : PE X b tb) {pins : List (Addr × Obj)} {s : Shared} {σ : St} {H : Hp} {R : V → V → Hp → Prop} (I : Inv X pins σ H s)
    (h : ta σ H fun x H1 => tb σ H1 fun y H2 => R x y H2) {Q : Value → Shared → Prop} {f : Value → Value → Sem Value}
    (hf : ∀ v u s2 x y H2, Inv X pins σ H2 s2 → RelV x v → RelV y u → R x y H2 → wpAny (model X.prog X.w) X.A (f v u) Q X.xe s2) :
    wpAny (model X.prog X.w) X.A (eval a X.env) (fun v s₁ => wpAny (model X.prog X.w) X.A (eval b X.env) (fun u s₂ => wpAny (model X.prog X.w) X.A (f v u) Q X.xe s₂) X.xe s₁) X.xe s := by
  refine thn (ha pins s σ H _ I h) fun v s1 ⟨x, H1, I1, r1, q1⟩ => ?_
  refine thn (hb pins s1 σ H1 _ I1 q1) fun u s2 ⟨y, H2, I2, r2, q2⟩ => ?_
  exact hf v u s2 x y H2 I2 r1 r2 q2
theorem pe_un {op : UnaryOp} {r : V → Hp → VK → Prop} (ho : UnR X (unaryOp op) r) (ha : PE X a ta) : PE X (.UnaryOp op a pos) (tUn r ta) := by
  intro pins s σ H Q I h
  exact UnaryOp_ (thn (ha pins s σ H _ I h) fun v s1 ⟨x, H1, I1, r1, q1⟩ => ho pins s1 σ H1 x v Q I1 r1 q1)
theorem opI {f : Value → Value → Sem Value} {C : Int → Int → Prop} {g : Int → Int → Int}
    (rule : ∀ (i j : Int) (t u : Tok) (s : Shared) (Q : Value → Shared → Prop) (E : Value → Shared → Prop), C i j → Q (.int (g i j) s.toks) { s with toks := s.toks + 1 } → wpAny (model X.prog X.w) X.A (f (.int i t) (.int j u)) Q E s) :
    OpR X f (rI C fun i j => .int (g i j)) := by
  intro pins s σ H x y v u Q I rx ry h
  obtain ⟨i, j, rfl, rfl, hc, q⟩ := h
  obtain ⟨t, rfl⟩ := rx
  obtain ⟨t', rfl⟩ := ry
  exact rule i j t t' s _ _ hc ⟨.int (g i j), H, I.tok _, ⟨_, rfl⟩, q⟩
theorem opI0 {f : Value → Value → Sem Value} {g : Int → Int → Int}
    (rule : ∀ (i j : Int) (t u : Tok) (s : Shared) (Q : Value → Shared → Prop) (E : Value → Shared → Prop), Q (.int (g i j) s.toks) { s with toks := s.toks + 1 } → wpAny (model X.prog X.w) X.A (f (.int i t) (.int j u)) Q E s) :
    OpR X f (rI0 fun i j => .int (g i j)) := by
  intro pins s σ H x y v u Q I rx ry h
  obtain ⟨i, j, rfl, rfl, q⟩ := h
  obtain ⟨t, rfl⟩ := rx
  obtain ⟨t', rfl⟩ := ry
  exact rule i j t t' s _ _ ⟨.int (g i j), H, I.tok _, ⟨_, rfl⟩, q⟩
theorem opB0 {f : Value → Value → Sem Value} {g : Int → Int → Bool}
    (rule : ∀ (i j : Int) (t u : Tok) (s : Shared) (Q : Value → Shared → Prop) (E : Value → Shared → Prop), Q (.bool (g i j)) s → wpAny (model X.prog X.w) X.A (f (.int i t) (.int j u)) Q E s) :
    OpR X f (rI0 fun i j => .bl (g i j)) := by
  intro pins s σ H x y v u Q I rx ry h
  obtain ⟨i, j, rfl, rfl, q⟩ := h
  obtain ⟨t, rfl⟩ := rx
  obtain ⟨t', rfl⟩ := ry
  exact rule i j t t' s _ _ ⟨.bl (g i j), H, I, rfl, q⟩
def CDiv (i j : Int) : Prop := 0 < j ∧ j < 1073741824
def CDivN (i j : Int) : Prop := j ≠ 0 ∧ j.natAbs < 1073741824
def CPow (i j : Int) : Prop := 0 ≤ j ∧ j ≤ 1000000 ∧ i.natAbs < 2 ^ 64
def CMul (i j : Int) : Prop := (-(2 ^ 64) < i ∧ i < 2 ^ 64) ∨ (-(2 ^ 64) < j ∧ j < 2 ^ 64)
theorem CMul.ok {i j : Int} (h : CMul i j) : IntMulOk i j := by
  rcases h with ⟨h1, h2⟩ | ⟨h1, h2⟩
  · exact .of_left (intBits_le_64 h1 h2)
  · exact .of_right (intBits_le_64 h1 h2)
theorem op_add : OpR X (binaryOp .Add) (rI0 fun i j => .int (i + j)) := opI0 fun _ _ _ _ _ _ _ q => add_int q
theorem op_sub : OpR X (binaryOp .Sub) (rI0 fun i j => .int (i - j)) := opI0 fun _ _ _ _ _ _ _ q => sub_int q
theorem op_fdiv : OpR X (binaryOp .FloorDiv) (rI CDiv fun i j => .int (i / j)) := opI fun i j _ _ _ _ _ hc q => by
  have h1 : (0 : Int) < j := hc.1
  have h2 : j < 1073741824 := hc.2
  exact floordiv_int (by omega) (by rw [Int.fdiv_eq_ediv_of_nonneg i (by omega)]; exact q) (.inl (PyProof.noPylong_small (by omega)))
theorem op_mod : OpR X (binaryOp .Mod) (rI (fun _ j => 0 < j) fun i j => .int (i % j)) := opI fun i j _ _ _ _ _ hc q => by
  have h1 : (0 : Int) < j := hc
  exact mod_int' (by omega) (by rw [Int.fmod_eq_emod_of_nonneg i (by omega)]; exact q)
theorem op_pow : OpR X (binaryOp .Pow) (rI CPow fun i j => .int (i ^ j.toNat)) := opI fun _ _ _ _ _ _ _ hc q => pow_int_small hc.1 hc.2.1 hc.2.2 q
theorem unI {f : Value → Sem Value} {g : Int → Int}
    (rule : ∀ (i : Int) (t : Tok) (s : Shared) (Q : Value → Shared → Prop) (E : Value → Shared → Prop), Q (.int (g i) s.toks) { s with toks := s.toks + 1 } → wpAny (model X.prog X.w) X.A (f (.int i t)) Q E s) :
    UnR X f (rU fun i => .int (g i)) := by
  intro pins s σ H x v Q I rx h
  obtain ⟨i, rfl, q⟩ := h
  obtain ⟨t, rfl⟩ := rx
  exact rule i t s _ _ ⟨.int (g i), H, I.tok _, ⟨_, rfl⟩, q⟩
theorem un_neg : UnR X (unaryOp .USub) (rU fun i => .int (-i)) := unI fun _ _ _ _ _ q => neg_int q
end
def scal : V → V → Bool
  | .non, .non => true | .non, .int _ => true | .int _, .non => true | .non, .bl _ => true | .bl _, .non => true | .non, .str _ => true | .str _, .non => true
  | .int _, .int _ => true | .bl _, .bl _ => true | .str _, .str _ => true | .byt _, .byt _ => true
  | .int _, .str _ => true | .str _, .int _ => true | .bl _, .str _ => true | .str _, .bl _ => true
  | _, _ => false
def rEq : R2 := fun x y H Q => scal x y = true ∧ Q (.bl (decide (x = y))) H
def rNe : R2 := fun x y H Q => scal x y = true ∧ Q (.bl (!decide (x = y))) H
theorem dec_int {i j : Int} : decide (V.int i = V.int j) = (i == j) := by
  rw [Bool.eq_iff_iff]
  simp
theorem dec_bl {i j : Bool} : decide (V.bl i = V.bl j) = (i == j) := by
  rw [Bool.eq_iff_iff]
  simp
theorem dec_str {i j : Str} : decide (V.str i = V.str j) = (i == j) := by
  rw [Bool.eq_iff_iff]
  simp
theorem dec_byt {i j : Array UInt8} : decide (V.byt i = V.byt j) = (i.toList == j.toList) := by
  rw [Bool.eq_iff_iff]
  cases i
  cases j
  simp
section
variable {X : Cx} {a b c : Expr} {ta tb tc : TE} {pos : Pos}
theorem fin_bl {pins : List (Addr × Obj)} {σ : St} {H : Hp} {s : Shared} {Q : VK} {k k' : Bool} (I : Inv X pins σ H s) (q : Q (.bl k) H) (e : k = k') : EP X pins σ Q (.bool k') s := by
  subst e
  exact ⟨.bl k, H, I, rfl, q⟩
theorem op_eq : OpR X (compareOp .Eq) rEq := by
  intro pins s σ H x y v u Q I rx ry h
  obtain ⟨hs, q⟩ := h
  cases x with
  | non =>
    cases rx
    cases y with
    | non => cases ry; exact PySem.EqNone.eq_none_none (fin_bl I q (by simp))
    | bl j => cases ry; exact PySem.EqNone.eq_none_bool (fin_bl I q (by simp))
    | int j => obtain ⟨t', rfl⟩ := ry; exact PySem.EqNone.eq_none_int (fin_bl I q (by simp))
    | str j => obtain ⟨t', rfl⟩ := ry; exact PySem.EqNone.eq_none_str (fin_bl I q (by simp))
    | _ => exact absurd (show false = true from hs) Bool.false_ne_true
  | bl i =>
    cases rx
    cases y with
    | non => cases ry; exact PySem.EqNone.eq_bool_none (fin_bl I q (by simp))
    | bl j => cases ry; exact eq_bool (fin_bl I q dec_bl)
    | str j => obtain ⟨t', rfl⟩ := ry; exact PySem.EqMixed.eq_bool_str (fin_bl I q (by simp))
    | _ => exact absurd (show false = true from hs) Bool.false_ne_true
  | int i =>
    obtain ⟨t, rfl⟩ := rx
    cases y with
    | non => cases ry; exact PySem.EqNone.eq_int_none (fin_bl I q (by simp))
    | int j => obtain ⟨t', rfl⟩ := ry; exact eq_int (fin_bl I q dec_int)
    | str j => obtain ⟨t', rfl⟩ := ry; exact PySem.EqMixed.eq_int_str (fin_bl I q (by simp))
    | _ => exact absurd (show false = true from hs) Bool.false_ne_true
  | str i =>
    obtain ⟨t, rfl⟩ := rx
    cases y with
    | non => cases ry; exact PySem.EqNone.eq_str_none (fin_bl I q (by simp))
    | bl j => cases ry; exact PySem.EqMixed.eq_str_bool (fin_bl I q (by simp))
    | int j => obtain ⟨t', rfl⟩ := ry; exact PySem.EqMixed.eq_str_int (fin_bl I q (by simp))
    | str j => obtain ⟨t', rfl⟩ := ry; exact eq_str (fin_bl I q dec_str)
    | _ => exact absurd (show false = true from hs) Bool.false_ne_true
  | byt i =>
    obtain ⟨t, rfl⟩ := rx
    cases y with
    | byt j => obtain ⟨t', rfl⟩ := ry; exact PySem.W.eq_bytes (fin_bl I q dec_byt)
    | _ => exact absurd (show false = true from hs) Bool.false_ne_true
  | _ => cases y <;> exact absurd (show false = true from hs) Bool.false_ne_true
theorem op_ne : OpR X (compareOp .NotEq) rNe := by
  intro pins s σ H x y v u Q I rx ry h
  obtain ⟨hs, q⟩ := h
  cases x with
  | non =>
    cases rx
    cases y with
    | non => cases ry; exact PySem.EqNone.ne_none_none (fin_bl I q (by simp))
    | bl j => cases ry; exact PySem.EqNone.ne_none_bool (fin_bl I q (by simp))
    | int j => obtain ⟨t', rfl⟩ := ry; exact PySem.EqNone.ne_none_int (fin_bl I q (by simp))
    | str j => obtain ⟨t', rfl⟩ := ry; exact PySem.EqNone.ne_none_str (fin_bl I q (by simp))
    | _ => exact absurd (show false = true from hs) Bool.false_ne_true
  | bl i =>
    cases rx
    cases y with
    | non => cases ry; exact PySem.EqNone.ne_bool_none (fin_bl I q (by simp))
    | bl j => cases ry; exact ne_bool (fin_bl I q (congrArg not dec_bl))
    | str j => obtain ⟨t', rfl⟩ := ry; exact PySem.EqMixed.ne_bool_str (fin_bl I q (by simp))
    | _ => exact absurd (show false = true from hs) Bool.false_ne_true
  | int i =>
    obtain ⟨t, rfl⟩ := rx
    cases y with
    | non => cases ry; exact PySem.EqNone.ne_int_none (fin_bl I q (by simp))
    | int j => obtain ⟨t', rfl⟩ := ry; exact ne_int (fin_bl I q (congrArg not dec_int))
    | str j => obtain ⟨t', rfl⟩ := ry; exact PySem.EqMixed.ne_int_str (fin_bl I q (by simp))
    | _ => exact absurd (show false = true from hs) Bool.false_ne_true
  | str i =>
    obtain ⟨t, rfl⟩ := rx
    cases y with
    | non => cases ry; exact PySem.EqNone.ne_str_none (fin_bl I q (by simp))
    | bl j => cases ry; exact PySem.EqMixed.ne_str_bool (fin_bl I q (by simp))
    | int j => obtain ⟨t', rfl⟩ := ry; exact PySem.EqMixed.ne_str_int (fin_bl I q (by simp))
    | str j => obtain ⟨t', rfl⟩ := ry; exact ne_str (fin_bl I q (congrArg not dec_str))
    | _ => exact absurd (show false = true from hs) Bool.false_ne_true
  | byt i =>
    obtain ⟨t, rfl⟩ := rx
    cases y with
    | byt j => obtain ⟨t', rfl⟩ := ry; exact PySem.W.ne_bytes (fin_bl I q (congrArg not dec_byt))
    | _ => exact absurd (show false = true from hs) Bool.false_ne_true
  | _ => cases y <;> exact absurd (show false = true from hs) Bool.false_ne_true
theorem op_lt : OpR X (compareOp .Lt) (rI0 fun i j => .bl (decide (i < j))) := opB0 fun _ _ _ _ _ _ _ q => lt_int q
theorem op_le : OpR X (compareOp .LtE) (rI0 fun i j => .bl (decide (i ≤ j))) := opB0 fun _ _ _ _ _ _ _ q => le_int q
theorem op_gt : OpR X (compareOp .Gt) (rI0 fun i j => .bl (decide (j < i))) := opB0 fun _ _ _ _ _ _ _ q => gt_int q
theorem op_ge : OpR X (compareOp .GtE) (rI0 fun i j => .bl (decide (j ≤ i))) := opB0 fun _ _ _ _ _ _ _ q => ge_int q
theorem op_isN : OpR X (compareOp .Is) (fun x y H Q => y = .non ∧ Q (.bl (decide (x = .non))) H) := by
  intro pins s σ H x y v u Q I rx ry h
  obtain ⟨rfl, q⟩ := h
  cases ry
  refine is_none_gen (fin_bl I q ?_)
  cases x <;> first
    | (cases rx; rfl)
    | (obtain ⟨t, rfl⟩ := rx; rfl)
theorem op_notN : OpR X (compareOp .IsNot) (fun x y H Q => y = .non ∧ Q (.bl (!decide (x = .non))) H) := by
  intro pins s σ H x y v u Q I rx ry h
  obtain ⟨rfl, q⟩ := h
  cases ry
  refine isnot_none_gen (fin_bl I q ?_)
  cases x <;> first
    | (cases rx; rfl)
    | (obtain ⟨t, rfl⟩ := rx; rfl)
def isObj : HO → Bool
  | .lst _ => true
  | .ins _ _ _ => true
  | _ => false
theorem nomark (b : Expr) {op : CmpOp} (h : op ≠ .In := by decide) (h2 : op ≠ .NotIn := by decide) : behindInMarks op b = false := by
  have e1 : (op == CmpOp.In) = false := by cases op <;> first | rfl | exact absurd rfl h
  have e2 : (op == CmpOp.NotIn) = false := by cases op <;> first | rfl | exact absurd rfl h2
  cases b <;> simp [behindInMarks, e1, e2]
def tTest (t : TE) : TT := fun σ H Q => t σ H fun x H' => ∃ k, x = .bl k ∧ Q k H'
def tChain (r r' : R2) (ta tb tc : TE) : TE := fun σ H Q => ta σ H fun x H1 => tb σ H1 fun y H2 => r x y H2 fun z H3 => ∃ k, z = .bl k ∧
  (if k = true then tc σ H3 fun w' H4 => r' y w' H4 Q else Q (.bl false) H3)
def TruV (K : PySem.W.Frag) (x : V) (H : Hp) (k : Bool) : Prop :=
  match x with
  | .non => k = false
  | .bl b => k = b
  | .int i => k = (i != 0)
  | .str y => y.length ≤ sizeLine ∧ k = ((y.length : Int) != 0)
  | .byt y => y.size ≤ sizeLine ∧ k = ((y.size : Int) != 0)
  | .ref p => (∃ xs, SqL K H p xs ∧ k = !xs.isEmpty) ∨ (∃ xs, SqT K H p xs ∧ k = !xs.isEmpty) ∨ ∃ kvs, H p = some (.dK kvs) ∧ k = !kvs.isEmpty
  | _ => False
theorem isEmpty_kv {κ : Type} {kvs : List (κ × V)} {vs : List (κ × Value)} (r : KV kvs vs) : (!vs.isEmpty) = !kvs.isEmpty := by
  cases r <;> rfl
theorem isEmpty_of {xs : List V} {its : List Value} (r : Vals xs its) : (!its.toArray.isEmpty) = !xs.isEmpty := by
  cases r <;> simp
theorem line63 : (sizeLine : Nat) < 2 ^ 63 := by rw [sizeLine_eq]; decide
theorem tru_ok : TruR X (fun x H Q => ∃ k, TruV X.K x H k ∧ Q k H) := by
  intro pins s σ H x v Q I rx h
  obtain ⟨k, e, q⟩ := h
  have hl := line63
  have hs : sizeLine = 16777216 := sizeLine_eq
  cases x with
  | non =>
    cases rx
    have e' : k = false := e
    subst e'
    exact truthy_none ⟨H, I, q⟩
  | bl b =>
    cases rx
    have e' : k = b := e
    subst e'
    exact wpAny_truthy_bool ⟨H, I, q⟩
  | int i =>
    obtain ⟨t, rfl⟩ := rx
    have e' : k = (i != 0) := e
    subst e'
    exact PySem.P.truthy_int ⟨H, I, q⟩
  | str y =>
    obtain ⟨t, rfl⟩ := rx
    obtain ⟨hy, e'⟩ : y.length ≤ sizeLine ∧ k = ((y.length : Int) != 0) := e
    subst e'
    exact PySem.P.truthy_str (by omega) ⟨H, I.tok _, q⟩
  | byt y =>
    obtain ⟨t, rfl⟩ := rx
    obtain ⟨hy, e'⟩ : y.size ≤ sizeLine ∧ k = ((y.size : Int) != 0) := e
    subst e'
    exact PySem.W.truthy_bytes (by omega) ⟨H, I.tok _, q⟩
  | ref p =>
    cases rx
    have e' : (∃ xs, SqL X.K H p xs ∧ k = !xs.isEmpty) ∨ (∃ xs, SqT X.K H p xs ∧ k = !xs.isEmpty) ∨ ∃ kvs, H p = some (.dK kvs) ∧ k = !kvs.isEmpty := e
    rcases e' with ⟨xs, hx, e'⟩ | ⟨xs, hx, e'⟩ | ⟨kvs, hx, e'⟩
    · subst e'
      obtain ⟨its, r, pl, hz⟩ := I.list hx
      have hlen := r.length
      exact wpAny_truthy_list pl.isList (by simp only [List.size_toArray]; omega) ⟨H, I.tok _, by rw [isEmpty_of r]; exact q⟩
    · subst e'
      obtain ⟨its, r, pl, hz⟩ := I.tuple hx
      have hlen := r.length
      exact truthy_tuple pl (by simp only [List.size_toArray]; omega) ⟨H, I.tok _, by rw [isEmpty_of r]; exact q⟩
    · subst e'
      obtain ⟨hz, hS, vs, r, m⟩ : kvs.length ≤ sizeLine ∧ (p == sysModules) = false ∧ ∃ vs, KV kvs vs ∧ s.heap.DictOf (mixKind X.prog X.w) p vs := I.hok p _ hx
      have hlen : kvs.length = vs.length := Paired.length r
      exact wpAny_truthy_dict hS m (by omega) ⟨H, I.tok _, by rw [isEmpty_kv r]; exact q⟩
  | _ => exact (show False from e).elim
theorem pt_truth (ha : PE X a ta) (he : ∀ whole, isTrue a X.env whole = (do let v ← whole; standAt a.pos; holding [v] (truthy v))) :
    PT X a (fun σ H Q => ta σ H fun x H' => ∃ k, TruV X.K x H' k ∧ Q k H') := by
  intro pins s σ H Q I h
  exact isTrue_plain (thn (ha pins s σ H _ I h) fun v s1 ⟨x, H1, I1, r1, q1⟩ => tru_ok pins s1 σ H1 x v Q I1 r1 q1) (he _)
def PlainIxT (b : Expr) : Prop := ∀ o i, subscripted b false o i = operate [o, i] (getItem o i)
theorem vals1 {x : V} {us : List Value} (r : Vals [x] us) : ∃ u, us = [u] ∧ RelV x u := by
  cases r with
  | cons r1 r2 => cases r2; exact ⟨_, rfl, r1⟩
theorem vals2 {x y : V} {us : List Value} (r : Vals [x, y] us) : ∃ u w', us = [u, w'] ∧ RelV x u ∧ RelV y w' := by
  cases r with
  | cons r1 r2 =>
    cases r2 with
    | cons r3 r4 => cases r4; exact ⟨_, _, rfl, r1, r3⟩
theorem call_abs : CallR X (.builtin "abs") (fun xs H Q => ∃ i, xs = [.int i] ∧ Q (.int (if i < 0 then -i else i)) H) := by
  intro pins s σ H xs us Q I r h
  obtain ⟨i, rfl, q⟩ := h
  obtain ⟨u, rfl, t, rfl⟩ := vals1 r
  exact call_abs_int fun u tk => ⟨.int (if i < 0 then -i else i), H, I.tok _, ⟨_, rfl⟩, q⟩
theorem call_max2 (hc : X.calm = true) : CallR X (.builtin "max") (fun xs H Q => ∃ i j, xs = [.int i, .int j] ∧ Q (.int (if j > i then j else i)) H) := by
  intro pins s σ H xs us Q I r h
  obtain ⟨i, j, rfl, q⟩ := h
  obtain ⟨u, w', rfl, ⟨t, rfl⟩, ⟨t', rfl⟩⟩ := vals2 r
  refine max_two_ints (I.ok.hd hc) fun h' tk k => ⟨_, H, I.kept k, ?_, q⟩
  by_cases hj : j > i
  · rw [if_pos hj, if_pos hj]; exact ⟨_, rfl⟩
  · rw [if_neg hj, if_neg hj]; exact ⟨_, rfl⟩
theorem call_min2 (hc : X.calm = true) : CallR X (.builtin "min") (fun xs H Q => ∃ i j, xs = [.int i, .int j] ∧ Q (.int (if j < i then j else i)) H) := by
  intro pins s σ H xs us Q I r h
  obtain ⟨i, j, rfl, q⟩ := h
  obtain ⟨u, w', rfl, ⟨t, rfl⟩, ⟨t', rfl⟩⟩ := vals2 r
  refine min_two_ints (I.ok.hd hc) fun h' tk k => ⟨_, H, I.kept k, ?_, q⟩
  by_cases hj : j < i
  · rw [if_pos hj, if_pos hj]; exact ⟨_, rfl⟩
  · rw [if_neg hj, if_neg hj]; exact ⟨_, rfl⟩
theorem call_int1 : CallR X (.type "int") (fun xs H Q => (∃ i, xs = [.int i] ∧ Q (.int i) H) ∨ ∃ k, xs = [.bl k] ∧ Q (.int (if k then 1 else 0)) H) := by
  intro pins s σ H xs us Q I r h
  rcases h with ⟨i, rfl, q⟩ | ⟨k, rfl, q⟩
  · obtain ⟨u, rfl, t, rfl⟩ := vals1 r
    exact call_int_int ⟨.int i, H, I, ⟨_, rfl⟩, q⟩
  · obtain ⟨u, rfl, r1⟩ := vals1 r
    cases r1
    exact call_int_bool ⟨.int (if k then 1 else 0), H, I.tok _, ⟨_, rfl⟩, q⟩
def LenV (K : PySem.W.Frag) (x : V) (H : Hp) (n : Nat) : Prop :=
  match x with
  | .str y => y.length ≤ sizeLine ∧ n = y.length
  | .byt y => y.size ≤ sizeLine ∧ n = y.size
  | .ref p => (∃ xs, SqL K H p xs ∧ n = xs.length) ∨ ∃ xs, SqT K H p xs ∧ n = xs.length
  | _ => False
end
end L2
namespace L2
open PySem PySem.Spec PyProof.Rows
structure ObjM (h : Heap) (x dx C : Addr) (mA : Str → Option Value) : Prop where
  obj : h.get? x = some (PySem.W.instObj C dx)
  ns : h.Ns1 dx mA
  ne : dx ≠ x
theorem lookIn_ns {h : Heap} {dx : Addr} {mA : Str → Option Value} (n : h.Ns1 dx mA) : ∃ od, h.get? dx = some od ∧ ∀ name, PySem.W.lookIn name od = some (mA name) := by
  obtain ⟨o, es, ep, ho, hd, hk, _, hm⟩ := n
  refine ⟨o, ho, fun name => ?_⟩
  have e := hm name
  unfold nsFind findBy at e
  rw [← Array.find?_toList] at e
  unfold PySem.W.lookIn
  rw [hd]
  dsimp only
  split
  · rename_i y q
    rw [q] at e
    exact congrArg some e
  · rename_i q
    rw [q] at e
    have a : es.toList.any (·.refKey) = false := by
      rw [List.any_eq_false]
      intro y hy
      obtain ⟨z, t, hkey⟩ := hk y (Array.mem_toList_iff.mp hy)
      simp [DictEntry.refKey, hkey]
    have a' : ¬ es.toList.any (·.refKey) = true := by rw [a]; exact Bool.false_ne_true
    rw [if_neg a']
    exact congrArg some e
theorem ObjM.look {h : Heap} {x dx C : Addr} {mA : Str → Option Value} (I : ObjM h x dx C mA) : ∃ od, PySem.W.InstAt h x (PySem.W.instObj C dx) C (some od) ∧ ∀ name, PySem.W.lookIn name od = some (mA name) :=
  let ⟨od, ho, hl⟩ := lookIn_ns I.ns
  ⟨od, ⟨I.obj, rfl, rfl, ho⟩, hl⟩
section
variable {prog : Program} {w : World} {A : Around} {E : Value → Shared → Prop} {s : Shared} {K : PySem.W.Frag} {x dx C f : Addr} {mA : Str → Option Value} {name : Str} {v : Value}
theorem get_map {expr : Bool} {Q : Value → Shared → Prop} (X : K.In s.heap) (I : ObjM s.heap x dx C mA) (hg : PySem.W.plainGet K C name = true) (hh : PySem.W.hasDictIn K C = true)
    (ha : PySem.W.findIn K (.ref C) name = some none) (hv : mA name = some v) (hv' : PySem.W.handedIn v = true) (h : Q v { s with toks := s.toks + 1 }) :
    wpAny (model prog w) A (getAttr (.ref x) name expr) Q E s := by
  obtain ⟨od, J, hl⟩ := I.look
  exact PySem.W.get_value X J (PySem.W.plainGet_of hg).1 (PySem.W.findObj_own hh ha rfl (by rw [hl, hv])) hv' h
theorem get_meth {pl : Sem Bool} {Q : Value × List Value → Shared → Prop} (X : K.In s.heap) (I : ObjM s.heap x dx C mA) (hg : PySem.W.plainGet K C name = true)
    (hf : PySem.W.findIn K (.ref C) name = some (some (.ref f))) (ht : PySem.W.isFn K (.ref f) = true) (hv : mA name = none) (h : Q (.ref f, [.ref x]) s) :
    wpAny (model prog w) A (getMethod (.ref x) name pl) Q E s := by
  obtain ⟨od, J, hl⟩ := I.look
  exact PySem.W.method_fn X J (PySem.W.plainGet_of hg).1 (PySem.W.plainGet_of hg).2 hf (beq_iff_eq.mp ht) (by show (PySem.W.lookIn name od).map (·.isSome) = some false; rw [hl, hv]; rfl) h
theorem set_map {ns : List Str} {Q : Unit → Shared → Prop} (X : K.In s.heap) (I : ObjM s.heap x dx C mA)
    (hs : PySem.W.findIn K (.ref C) "__setattr__" = some (some (.builtin "object.__setattr__"))) (hp : PySem.W.plainOver K C = true) (ht : PySem.W.takerIn K C name = some none) (hh : PySem.W.hasDictIn K C = true)
    (hw : PySem.Within mA ns) (hsz : ns.length ≤ sizeLine)
    (h : ∀ h', ObjM h' x dx C (fun y => if y = name then some v else mA y) → Heap.SameBut dx s.heap h' → Q () { s with heap := h', toks := s.toks + 2 }) :
    wpAny (model prog w) A (setAttr (.ref x) name v) Q E s := by
  obtain ⟨od, J, hl⟩ := I.look
  refine PySem.W.set_plain X J hs (PySem.W.osa_open (s := { s with toks := s.toks + 1 }) (r := none) X J hp ht fun b => ?_)
  obtain ⟨cd, hc, hd'⟩ := PySem.W.any_some hh
  have hx : s.heap.get? x = some ⟨.ref C, some dx, .plain, #[]⟩ := I.obj
  refine wpAny_bind (wpAny_pure (wpAny_bind (wpAny_bind (wpAny_loadPart hx (wpAny_bind (PySem.W.Looks.here (s := { s with toks := s.toks + 1 }) (PySem.W.looks_clsIn X hc) ?_))))))
  rw [hd']
  refine wpAny_pure (a := some dx) (wpAny_bind (wpAny_pure (wpAny_bind ?_)))
  refine wpAny_nsSet1 (s := { s with toks := s.toks + 1 }) I.ns fun h' hn2 hs2 => ?_
  obtain ⟨oD, esD, epD, hoD, hdD, hcD⟩ := hn2.count (PySem.Within.cons name v hw)
  refine wpAny_bind (wpAny_lookBehind hoD (by rw [hdD]; exact pastItsLine_dict (Nat.le_trans hcD (by rw [List.length_cons]; omega))) ?_)
  exact wpAny_pure (h _ ⟨(hs2.2 _ (Ne.symm I.ne)).trans I.obj, hn2, I.ne⟩ hs2)
theorem make_map {R : Result → Shared → Prop} {vs : List Value} {kw : List (Str × Value)} (X : K.In s.heap) (hm : PySem.W.makesIn K C = true)
    (hi : PySem.W.findIn K (.ref C) "__init__" = some (some (.ref f))) (hf : PySem.W.typeIn K (.ref f) = some (.type "function"))
    (h : codeAny (model prog w) (A.under (.builtin "type.__call__" ⟨.ref C :: vs, kw⟩)) (.call (.ref f) ⟨.ref (s.heap.objs.size + 1) :: vs, kw⟩) (PySem.W.InitBack (s.heap.objs.size + 1) R)
      { s with heap := (s.heap.push PySem.W.emptyDict).push (PySem.W.instObj C s.heap.objs.size) }) :
    codeAny (model prog w) A (.call (.ref C) ⟨vs, kw⟩) R s := by
  obtain ⟨hh, g, d, t, os⟩ := s
  exact PySem.W.make_core (PySem.W.makes_of X hm) (PySem.W.looks_findIn X hi) (fun self => PySem.W.bind_fn X self hf) (.inl rfl) h
end
def putF (f : Str) (v : V) : List (Str × V) → List (Str × V)
  | [] => [(f, v)]
  | (g, x) :: r => if g = f then (g, v) :: r else (g, x) :: putF f v r
theorem lookup_putF (f g : Str) (v : V) : ∀ fs : List (Str × V), (putF f v fs).lookup g = if g = f then some v else fs.lookup g
  | [] => by
    show List.lookup g [(f, v)] = _
    by_cases h : g = f
    · have hb : (g == f) = true := beq_iff_eq.mpr h
      simp only [List.lookup, hb, if_pos h]
    · have hb : (g == f) = false := beq_eq_false_iff_ne.mpr h
      simp only [List.lookup, hb, if_neg h]
  | (k, x) :: r => by
    have ih := lookup_putF f g v r
    rw [show putF f v ((k, x) :: r) = (if k = f then (k, v) :: r else (k, x) :: putF f v r) from rfl]
    by_cases hk : k = f
    · rw [if_pos hk]
      by_cases h : g = k
      · have hb : (g == k) = true := beq_iff_eq.mpr h
        simp only [List.lookup, hb, if_pos (h.trans hk)]
      · have hb : (g == k) = false := beq_eq_false_iff_ne.mpr h
        simp only [List.lookup, hb, if_neg (fun e : g = f => h (e.trans hk.symm))]
    · rw [if_neg hk]
      by_cases h : g = k
      · have hb : (g == k) = true := beq_iff_eq.mpr h
        simp only [List.lookup, hb, if_neg (fun e : g = f => hk (h.symm.trans e))]
      · have hb : (g == k) = false := beq_eq_false_iff_ne.mpr h
        simp only [List.lookup, hb]
        exact ih
theorem keys_putF (f : Str) (v : V) : ∀ fs : List (Str × V), f ∈ (putF f v fs).map (·.1) ∧ ∀ g, g ∈ fs.map (·.1) → g ∈ (putF f v fs).map (·.1)
  | [] => ⟨by simp [putF], fun g h => by simp at h⟩
  | (k, x) :: r => by
    obtain ⟨i1, i2⟩ := keys_putF f v r
    rw [show putF f v ((k, x) :: r) = (if k = f then (k, v) :: r else (k, x) :: putF f v r) from rfl]
    by_cases hk : k = f
    · rw [if_pos hk]
      subst hk
      exact ⟨by simp, fun g h => by simpa using h⟩
    · rw [if_neg hk]
      refine ⟨?_, fun g h => ?_⟩
      · rw [List.map_cons]
        exact List.mem_cons_of_mem _ i1
      · rw [List.map_cons] at h ⊢
        rcases List.mem_cons.mp h with e | e
        · exact List.mem_cons.mpr (.inl e)
        · exact List.mem_cons_of_mem _ (i2 g e)
theorem length_putF (f : Str) (v : V) : ∀ fs : List (Str × V), (putF f v fs).length ≤ fs.length + 1
  | [] => by simp [putF]
  | (k, x) :: r => by
    have ih := length_putF f v r
    rw [show putF f v ((k, x) :: r) = (if k = f then (k, v) :: r else (k, x) :: putF f v r) from rfl]
    by_cases hk : k = f
    · rw [if_pos hk, List.length_cons, List.length_cons]; omega
    · rw [if_neg hk, List.length_cons, List.length_cons]; omega
theorem RelO.some_of {v : V} {o : Option Value} (r : RelO (some v) o) : ∃ u, o = some u ∧ RelV v u := by
  cases o with
  | none => exact (show False from r).elim
  | some u => exact ⟨u, rfl, r⟩
theorem RelO.none_of {o : Option Value} (r : RelO none o) : o = none := by
  cases o with
  | none => rfl
  | some u => exact (show False from r).elim
theorem handed_of {v : V} {u : Value} (r : RelV v u) : PySem.W.handedIn u = true := by
  cases v with
  | non => cases (show u = Value.none from r); rfl
  | bl b => cases (show u = Value.bool b from r); rfl
  | int i => obtain ⟨t, e⟩ := (show ∃ t, u = Value.int i t from r); cases e; rfl
  | str x => obtain ⟨t, e⟩ := (show ∃ t, u = Value.str x t from r); cases e; rfl
  | byt b => obtain ⟨t, e⟩ := (show ∃ t, u = Value.bytes b t from r); cases e; rfl
  | flt b => obtain ⟨t, e⟩ := (show ∃ t, u = Value.float b t from r); cases e; rfl
  | ref a => cases (show u = Value.ref a from r); rfl
  | ty n => cases (show u = Value.type n from r); rfl
section
variable {P : Program} {w : World} {H H' : Hp} {h h' : Heap} {a C dx : Addr} {fs fs' : List (Str × V)}
theorem ins_get (hok : HOk P w H h) (e : H a = some (.ins C dx fs)) : ∃ mA, ObjM h a dx C mA ∧ (∀ f, RelO (fs.lookup f) (mA f)) ∧ PySem.Within mA (fs.map (·.1)) ∧ fs.length ≤ 1000 ∧ H dx = some (.own a) := by
  obtain ⟨d, z, ne, ob, mA, n, r, q⟩ := (show ObjOk P w H h a (.ins C dx fs) from hok a _ e)
  exact ⟨mA, ⟨ob, n, ne⟩, r, q, z, d⟩
end
structure Cls (K : PySem.W.Frag) (C : Addr) : Prop where
  pg : PySem.W.plainGet K C Str.empty = true
  hd : PySem.W.hasDictIn K C = true
  po : PySem.W.plainOver K C = true
  sa : PySem.W.findIn K (.ref C) "__setattr__" = some (some (.builtin "object.__setattr__"))
theorem Cls.get {K : PySem.W.Frag} {C : Addr} (c : Cls K C) (f : Str) : PySem.W.plainGet K C f = true := c.pg
def NoAttr (K : PySem.W.Frag) (C : Addr) (f : Str) : Prop := PySem.W.findIn K (.ref C) f = some none
theorem NoAttr.taker {K : PySem.W.Frag} {C : Addr} {f : Str} (n : NoAttr K C f) : PySem.W.takerIn K C f = some none := by
  unfold PySem.W.takerIn
  rw [show PySem.W.findIn K (.ref C) f = some none from n]
  rfl
structure Con (K : PySem.W.Frag) (C : Addr) (f : Str) (v : V) (u : Value) : Prop where
  at_ : PySem.W.findIn K (.ref C) f = some (some u)
  rel : RelV v u
  get : PySem.W.specialIn K u "__get__" = some none
  cp : PySem.W.copiedNames.contains f = false
structure Meth (K : PySem.W.Frag) (C : Addr) (m : Str) (f : Addr) : Prop where
  at_ : PySem.W.findIn K (.ref C) m = some (some (.ref f))
  fn : PySem.W.isFn K (.ref f) = true
  kp : PySem.W.keepIn K (.ref f) = true
section
variable {X : Cx} {pins : List (Addr × Obj)} {σ : St} {H : Hp} {s : Shared} {a C dx : Addr} {fs : List (Str × V)} {f : Str} {v : V} {A : Around} {E : Value → Shared → Prop}
theorem getattr_ok {b : Bool} {Q : Value → Shared → Prop} (I : Inv X pins σ H s) (e : H a = some (.ins C dx fs)) (c : Cls X.K C) (n : NoAttr X.K C f) (l : fs.lookup f = some v)
    (h : ∀ u s', Inv X pins σ H s' → RelV v u → Q u s') : wpAny (model X.prog X.w) A (getAttr (.ref a) f b) Q E s := by
  obtain ⟨mA, O, r, _, _, _⟩ := ins_get I.hok e
  obtain ⟨u, hu, ru⟩ := RelO.some_of (v := v) (o := mA f) (by rw [← l]; exact r f)
  exact get_map I.kIn O (c.get f) c.hd n hu (handed_of ru) (h u _ (I.tok _) ru)
theorem getmeth_ok {m : Str} {g : Addr} {pl : Sem Bool} {Q : Value × List Value → Shared → Prop} (I : Inv X pins σ H s) (e : H a = some (.ins C dx fs)) (c : Cls X.K C) (k : Meth X.K C m g) (l : fs.lookup m = none)
    (h : Q (.ref g, [.ref a]) s) : wpAny (model X.prog X.w) A (getMethod (.ref a) m pl) Q E s := by
  obtain ⟨mA, O, r, _, _, _⟩ := ins_get I.hok e
  have hn : mA m = none := RelO.none_of (by rw [← l]; exact r m)
  exact get_meth I.kIn O (c.get m) k.at_ k.fn hn h
theorem setattr_ok {y : V} {u : Value} {Q : Unit → Shared → Prop} (I : Inv X pins σ H s) (e : H a = some (.ins C dx fs)) (c : Cls X.K C) (n : NoAttr X.K C f) (hl : fs.length < 1000) (ry : RelV y u)
    (h : ∀ s', Inv X pins σ (upd H a (.ins C dx (putF f y fs))) s' → Q () s') : wpAny (model X.prog X.w) A (setAttr (.ref a) f u) Q E s := by
  obtain ⟨mA, O, r, wi, _, ho⟩ := ins_get I.hok e
  have hz : (fs.map (·.1)).length ≤ sizeLine := by rw [List.length_map, sizeLine_eq]; omega
  refine set_map I.kIn O c.sa c.po n.taker c.hd wi hz fun h' O' sb => h _ ?_
  have hd : ∃ o, h'.get? dx = some o := let ⟨o, _, _, e', _⟩ := O'.ns; ⟨o, e'⟩
  refine I.write (x := a) (e := dx) (by rw [e]; exact True.intro) (.inr ho) (fun b q hb z => (sb.2 b hb).trans z) hd ?_
  refine ⟨by rw [upd_ne O.ne]; exact ho, ?_, O.ne, O'.obj, _, O'.ns, fun g => ?_, fun g hg => ?_⟩
  · have := length_putF f y fs; omega
  · show RelO ((putF f y fs).lookup g) (if g = f then some u else mA g)
    rw [lookup_putF]
    by_cases q : g = f
    · rw [if_pos q, if_pos q]; exact ry
    · rw [if_neg q, if_neg q]; exact r g
  · by_cases q : g = f
    · rw [q]; exact (keys_putF f y fs).1
    · refine (keys_putF f y fs).2 g (wi g fun z => hg ?_)
      show (if g = f then some u else mA g) = none
      rw [if_neg q]; exact z
theorem Inv.made (I : Inv X pins σ H s) : Inv X pins σ (upd (upd H s.heap.objs.size (.own (s.heap.objs.size + 1))) (s.heap.objs.size + 1) (.ins C s.heap.objs.size []))
    { s with heap := (s.heap.push PySem.W.emptyDict).push (PySem.W.instObj C s.heap.objs.size) } := by
  have e1 : (s.heap.push PySem.W.emptyDict).get? s.heap.objs.size = some PySem.W.emptyDict := Heap.get?_push_size s.heap rfl
  have e2 : ((s.heap.push PySem.W.emptyDict).push (PySem.W.instObj C s.heap.objs.size)).get? (s.heap.objs.size + 1) = some (PySem.W.instObj C s.heap.objs.size) := by
    have := Heap.get?_push_size (s.heap.push PySem.W.emptyDict) (o := PySem.W.instObj C s.heap.objs.size) rfl
    rwa [Heap.size_push] at this
  have e3 : (s.heap.push PySem.W.emptyDict).Ns s.heap.objs.size (fun _ => none) := ⟨PySem.W.emptyDict, #[], _, e1, rfl, (fun e he => absurd he (by simp)), fun _ => rfl⟩
  have I1 := I.laid (a := s.heap.objs.size) (o := .own (s.heap.objs.size + 1)) (h' := s.heap.push PySem.W.emptyDict) (t' := s.toks) (fun b u q => Heap.get?_push_of_some _ q) (Nat.le_refl _) ⟨_, e1⟩
  refine I1.laid (a := s.heap.objs.size + 1) (o := .ins C s.heap.objs.size []) (t' := s.toks) (fun b u q => Heap.get?_push_of_some _ q) (Nat.le_of_eq (Heap.size_push _ _)) ?_
  have ne : s.heap.objs.size ≠ s.heap.objs.size + 1 := Nat.ne_of_lt (Nat.lt_succ_self _)
  refine ⟨by rw [upd_ne ne, upd_same], Nat.zero_le _, ne, e2, fun _ => none, (Heap.Ns1.of_empty e3).at fun o q => Heap.get?_push_of_some _ q, fun _ => True.intro, fun y hy => absurd rfl hy⟩
theorem attr_of {prog : Program} {w : World} {env : Env} {e : Expr} {f : Str} {pos : Pos} {s : Shared} {Q : Value → Shared → Prop} (hb : attributeBase e f env (eval e env) = eval e env)
    (h : wpAny (model prog w) A (eval e env) (fun o s₁ => wpAny (model prog w) A (getAttr o f true) Q E s₁) E s) : wpAny (model prog w) A (eval (.Attribute e f pos) env) Q E s :=
  Attribute_any_ h (by rw [arm_eval_Attribute, hb])
end
def tFld (K : PySem.W.Frag) (ta : TE) (f : Str) : TE := fun σ H Q => ta σ H fun x H1 => ∃ a C dx fs v, x = .ref a ∧ H1 a = some (.ins C dx fs) ∧ Cls K C ∧ NoAttr K C f ∧ fs.lookup f = some v ∧ Q v H1
def tCon (K : PySem.W.Frag) (ta : TE) (f : Str) : TE := fun σ H Q => ta σ H fun x H1 => ∃ a C dx fs v u, x = .ref a ∧ H1 a = some (.ins C dx fs) ∧ Cls K C ∧ Con K C f v u ∧ fs.lookup f = none ∧ Q v H1
def sFld (K : PySem.W.Frag) (ta tv : TE) (f : Str) : TS := fun D σ H => tv σ H fun y H1 => ta σ H1 fun x H2 => ∃ a C dx fs, x = .ref a ∧ H2 a = some (.ins C dx fs) ∧ Cls K C ∧ NoAttr K C f ∧ fs.length < 1000 ∧
  D.nx σ (upd H2 a (.ins C dx (putF f y fs)))
def InOp (X : Cx) (op : Operator) (rd : V → V → Hp → VK → Prop) : Prop :=
  ∀ (pins : List (Addr × Obj)) (s : Shared) (σ : St) (H : Hp) (x y : V) (u v : Value) (Q : VK), Inv X pins σ H s → RelV x u → RelV y v → rd x y H Q → wpAny (model X.prog X.w) X.A (inplaceOp op u v) (EP X pins σ Q) X.xe s
def sFldAug (K : PySem.W.Frag) (ta tv : TE) (rd : V → V → Hp → VK → Prop) (f : Str) : TS := fun D σ H => ta σ H fun x H1 => ∃ a C dx fs v, x = .ref a ∧ H1 a = some (.ins C dx fs) ∧ Cls K C ∧ NoAttr K C f ∧ fs.lookup f = some v ∧
  tv σ H1 fun y H2 => rd v y H2 fun z H3 => ∃ dx' fs', H3 a = some (.ins C dx' fs') ∧ fs'.length < 1000 ∧ D.nx σ (upd H3 a (.ins C dx' (putF f z fs')))
section
variable {X : Cx} {o e value : Expr} {f : Str} {pos pos' tpos : Pos} {ta tv : TE}
theorem pe_fld (he : PE X e ta) (hb : attributeBase e f X.env (eval e X.env) = eval e X.env) : PE X (.Attribute e f pos) (tFld X.K ta f) := by
  intro pins s σ H Q I h
  refine attr_of hb (thn (he pins s σ H _ I h) fun u s1 ⟨x, H1, I1, rx, a, C, dx, fs, v, ex, ea, c, n, l, q⟩ => ?_)
  subst ex
  obtain rfl : u = Value.ref a := rx
  exact getattr_ok I1 ea c n l fun u' s2 I2 ru => ⟨v, H1, I2, ru, q⟩
def rAdd : V → V → Hp → VK → Prop := fun x y H Q => ∃ i j, x = .int i ∧ y = .int j ∧ Q (.int (i + j)) H
def rSub : V → V → Hp → VK → Prop := fun x y H Q => ∃ i j, x = .int i ∧ y = .int j ∧ Q (.int (i - j)) H
end
section
variable {X : Cx} {pins : List (Addr × Obj)} {σ : St} {H : Hp} {s : Shared} {A : Around} {E : Value → Shared → Prop} {Q : Value → Shared → Prop} {c : Value} {b : Bool}
inductive TyOf (K : PySem.W.Frag) (H : Hp) : V → Value → Prop where
  | non : TyOf K H .non (.type "NoneType")
  | bl (x : Bool) : TyOf K H (.bl x) (.type "bool")
  | int (i : Int) : TyOf K H (.int i) (.type "int")
  | str (x : Str) : TyOf K H (.str x) (.type "str")
  | flt (x : UInt64) : TyOf K H (.flt x) (.type "float")
  | lst {a : Addr} {xs : List V} (e : H a = some (.lst xs)) : TyOf K H (.ref a) (.type "list")
  | frz {a : Addr} {o : Obj} {xs : List V} (e : H a = some (.frz o (.lst xs))) : TyOf K H (.ref a) (.type "list")
  | tup {a : Addr} {xs : List V} (e : H a = some (.tup xs)) : TyOf K H (.ref a) (.type "tuple")
  | dK {a : Addr} {kvs : List (Key × V)} (e : H a = some (.dK kvs)) : TyOf K H (.ref a) (.type "dict")
  | dT {a : Addr} {kvs : List (List Key × V)} (e : H a = some (.dT kvs)) : TyOf K H (.ref a) (.type "dict")
  | ins {a C dx : Addr} {fs : List (Str × V)} (e : H a = some (.ins C dx fs)) (cl : Cls K C) (ha : PySem.W.findIn K (.ref C) "__class__" = some (some (.builtin "object.__class__")))
      (hn : PySem.W.specialIn K (.builtin "object.__class__") "__get__" = some (some (.builtin "getset_descriptor.__get__"))) (htk : PySem.W.takesIn K (.builtin "object.__class__") = some true)
      (hm : PySem.W.mroIn K C (.type "object") = some true) : TyOf K H (.ref a) (.ref C)
end
end L2
namespace L2
open PySem PySem.Spec PyProof.Rows
structure Room (k : Nat) (A : Around) : Prop where
  hd : A.handled = none
  dp : A.depth + 3 * k + 5 < recursionLimit
  un : A.units + 16 * k + 200 < cLine
theorem Room.mono {j k : Nat} {A : Around} (r : Room k A) (h : j ≤ k) : Room j A := ⟨r.hd, by have := r.dp; omega, by have := r.un; omega⟩
theorem Room.deeper {k : Nat} {A : Around} (r : Room (k + 1) A) (env : Env) : Room k (A.deeper env) :=
  ⟨r.hd, by have := r.dp; show A.depth + 1 + 3 * k + 5 < _; omega, by have := r.un; show A.units + 3 + 16 * k + 200 < _; omega⟩
theorem make_depth {A : Around} {C : Addr} {us : List Value} {kw : List (Str × Value)} : (A.under (.builtin "type.__call__" ⟨.ref C :: us, kw⟩)).depth = A.depth + 1 := by
  first | rfl | simp [Around.under, Code.weight, Code.isCreation, Code.isGuard, Code.isCaller, Code.frames, Code.isFrame, guardIds]
theorem make_units {A : Around} {C : Addr} {us : List Value} {kw : List (Str × Value)} : (A.under (.builtin "type.__call__" ⟨.ref C :: us, kw⟩)).units = A.units + 1 := by
  first | rfl | simp [Around.under, Code.cUnits, Code.frames, Code.isFrame]
theorem Room.make {k : Nat} {A : Around} (r : Room (k + 1) A) (C : Addr) (us : List Value) (kw : List (Str × Value)) : Room k (A.under (.builtin "type.__call__" ⟨.ref C :: us, kw⟩)) :=
  ⟨r.hd, by have := r.dp; rw [make_depth]; omega, by have := r.un; rw [make_units]; omega⟩
theorem Room.depth {k : Nat} {A : Around} (r : Room k A) : A.depth < recursionLimit := by have := r.dp; omega
theorem Room.units {k : Nat} {A : Around} (r : Room k A) : A.units + 64 < cLine := by have := r.un; omega
def tNil : TA := fun _ H Q => Q [] H
def tCons (ta : TE) (tr : TA) : TA := fun σ H Q => ta σ H fun x H1 => tr σ H1 fun xs H2 => Q (x :: xs) H2
section
variable {X : Cx} {e : Expr} {es : List Expr} {te : TE} {t : TA} {pos : Pos}
theorem pa_nil : PA X [] tNil := fun _ _ _ _ H Q I h => Calls.spliced_nil ⟨[], H, I, .nil, h⟩
theorem pa_cons (ha : PE X e te) (hr : PA X es t) (hs : starEach (e :: es) X.env = (false, eval e X.env) :: starEach es X.env := by rfl) : PA X (e :: es) (tCons te t) := by
  intro pos pins s σ H Q I h
  rw [hs]
  show wpAny _ _ (spliced ((false, eval e X.env) :: backTo pos (starEach es X.env))) _ _ s
  refine Calls.spliced_cons (thn (ha pins s σ H _ I h) fun u s1 ⟨x, H1, I1, r1, q1⟩ => ?_)
  exact thn (hr pos pins s1 σ H1 _ I1 q1) fun us s2 ⟨xs, H2, I2, r2, q2⟩ => ⟨x :: xs, H2, I2, .cons r1 r2, q2⟩
def tTup (t : TA) : TE := fun σ H Q => t σ H fun xs H1 => xs.length ≤ sizeLine ∧ ∀ p, H1 p = none → Q (.ref p) (upd H1 p (.tup xs))
def tLst (t : TA) : TE := fun σ H Q => t σ H fun xs H1 => xs.length ≤ sizeLine ∧ ∀ p, H1 p = none → Q (.ref p) (upd H1 p (.lst xs))
theorem pe_tup {x1} (h : PA X es t) : PE X (.Tuple es x1 pos) (tTup t) := by
  intro pins s σ H Q I hq
  refine wpAny_Tuple_spliced (thn (h pos pins s σ H _ I hq) fun us s1 ⟨xs, H1, I1, r, z, q⟩ => ⟨by rw [← r.length]; exact z, ?_⟩)
  have hf : H1 s1.heap.objs.size = none := I1.hok.fresh (Nat.le_refl _)
  refine ⟨.ref s1.heap.objs.size, upd H1 s1.heap.objs.size (.tup xs), I1.laid (t' := s1.toks) (fun b u e => Heap.get?_push_of_some _ e) (Nat.le_refl _) ?_, rfl, q _ hf⟩
  exact ⟨z, us, r, TupN.new _ _⟩
theorem pe_lst (h : PA X es t) : PE X (.List es pos) (tLst t) := by
  intro pins s σ H Q I hq
  refine wpAny_List_spliced (thn (h pos pins s σ H _ I hq) fun us s1 ⟨xs, H1, I1, r, z, q⟩ => ⟨by rw [← r.length]; exact z, ?_⟩)
  have hf : H1 s1.heap.objs.size = none := I1.hok.fresh (Nat.le_refl _)
  refine ⟨.ref s1.heap.objs.size, upd H1 s1.heap.objs.size (.lst xs), I1.laid (t' := s1.toks) (fun b u e => Heap.get?_push_of_some _ e) (Nat.le_refl _) ?_, rfl, q _ hf⟩
  exact ⟨z, us, 0, r, Heap.get?_push_size _ rfl⟩
end
abbrev Sp := List V → Hp → VK → XK → Prop
abbrev CXT := List Env → Hp → Shared → XK → Value → Shared → Prop
structure Env0 (P : Program) (w : World) (K : PySem.W.Frag) (mg : Str → Option Value) (base : Heap) (A : Around) (outer : List Env) (s : Shared) (H : Hp) : Prop where
  frames : A.frames = some outer
  mod : Mod K mg base
  bs : ∀ b o, base.get? b = some o → s.heap.get? b = some o ∧ H b = none
  bsz : base.objs.size ≤ s.heap.objs.size
  funs : s.heap.FunFrames base outer
  frf : ∀ b ∈ frs outer, H b = none
  hok : HOk P w H s.heap
  bare : AllBare s.gens
def CE (outer : List Env) (P : Program) (w : World) (H : Hp) (s : Shared) (Q : VK) (u : Value) (s' : Shared) : Prop :=
  ∃ v H', s'.os = s.os ∧ AllBare s'.gens ∧ Un (frs outer) [] H H' s.heap s'.heap ∧ HOk P w H' s'.heap ∧ RelV v u ∧ Q v H'
def CR (CX : CXT) (outer : List Env) (P : Program) (w : World) (H : Hp) (s : Shared) (Q : VK) (E : XK) (r : Result) (s' : Shared) : Prop :=
  match r with
  | .ok (.ret u) => CE outer P w H s Q u s'
  | .ok _ => False
  | .error e => CX outer H s E e s'
structure FnOk (P : Program) (w : World) (K : PySem.W.Frag) (mg : Str → Option Value) (base : Heap) (CX : CXT) (k : Nat) (f : Addr) (fd : FuncData) (ps : List Str) (sp : Sp) : Prop where
  len : ∀ vs H Q E, sp vs H Q E → vs.length = ps.length
  run : ∀ (A : Around) (outer : List Env) (s : Shared) (H : Hp) (args : Args) (us : List Value) (vs : List V) (Q : VK) (E : XK), Room k A → Env0 P w K mg base A outer s H → BindsTo s fd args (ps.zip us) → Vals vs us → sp vs H Q E →
    codeAny (model P w) A (.call (.ref f) args) (CR CX outer P w H s Q E) s
theorem Env0.make {P : Program} {w : World} {K : PySem.W.Frag} {mg : Str → Option Value} {base : Heap} {A : Around} {outer : List Env} {s : Shared} {H : Hp} (e : Env0 P w K mg base A outer s H) (C : Addr) (us : List Value) (kw : List (Str × Value)) :
    Env0 P w K mg base (A.under (.builtin "type.__call__" ⟨.ref C :: us, kw⟩)) outer s H := ⟨by first | exact e.frames | (simpa [Around.under, Code.envs, Code.isFrame, pushEnvs] using e.frames), e.mod, e.bs, e.bsz, e.funs, e.frf, e.hok, e.bare⟩
section
variable {X : Cx} {pins : List (Addr × Obj)} {σ : St} {H : Hp} {s s' : Shared}
theorem Inv.env0 (I : Inv X pins σ H s) : Env0 X.prog X.w X.K X.mg X.base X.A X.stack s H :=
  ⟨I.ok.frames, I.ok.mod, I.bs, Nat.le_trans I.ok.bsz I.sz, I.stack, I.stkFree, I.hok, I.bare⟩
theorem Inv.after {Q : VK} {u : Value} (I : Inv X pins σ H s) (h : CE X.stack X.prog X.w H s Q u s') : EP X pins σ Q u s' := by
  obtain ⟨v, H', os, bare, un, hok, r, q⟩ := h
  obtain ⟨hh, g, d, t, os'⟩ := s'
  obtain rfl : os' = s.os := os
  exact ⟨v, H', I.call (h' := hh) (g' := g) (d' := d) (t' := t) (ch := []) un hok bare (fun b z => absurd z (by simp)), r, q⟩
end
def tCall (sp : Sp) (dvs : List V) (E : XK) (t : TA) : TE := fun σ H Q => t σ H fun vs H1 => sp (vs ++ dvs) H1 Q E
def tMeth (C : Addr) (m : Str) (sp : Sp) (dvs : List V) (E : XK) (ta : TE) (t : TA) : TE := fun σ H Q => ta σ H fun x H1 => ∃ a dx fs, x = .ref a ∧ H1 a = some (.ins C dx fs) ∧ fs.lookup m = none ∧
  t σ H1 fun vs H2 => sp (x :: (vs ++ dvs)) H2 Q E
def tMake (C : Addr) (sp : Sp) (dvs : List V) (E : XK) (t : TA) : TE := fun σ H Q => t σ H fun vs H1 => ∀ x dx, H1 x = none → H1 dx = none → dx ≠ x →
  sp (.ref x :: (vs ++ dvs)) (upd (upd H1 dx (.own x)) x (.ins C dx [])) (fun v H2 => v = .non ∧ Q (.ref x) H2) E
def Binds (K : PySem.W.Frag) (fd : FuncData) (ps : List Str) (ds : List Value) : Prop :=
  ∀ (s : Shared) (us : List Value), K.In s.heap → (us ++ ds).length = ps.length → BindsTo s fd ⟨us, []⟩ (ps.zip (us ++ ds))
theorem Binds.all {K : PySem.W.Frag} {fd : FuncData} {ps : List Str} (h : ∀ us : List Value, us.length = ps.length → bindArgs fd ⟨us, []⟩ = pure (ps.zip us)) : Binds K fd ps [] := fun s us _ hl => by
  rw [List.append_nil] at hl ⊢
  exact .of_eq (h us hl)
def Passes (CX : CXT) (X : Cx) (E : XK) : Prop := ∀ (pins : List (Addr × Obj)) (σ : St) (H : Hp) (s : Shared) (e : Value) (s' : Shared), Inv X pins σ H s → CX X.stack H s E e s' → X.xe e s'
section
variable {X : Cx} {CX : CXT} {k : Nat} {f C : Addr} {fd : FuncData} {ps : List Str} {sp : Sp} {dvs : List V} {ds : List Value} {E : XK} {x m : Str} {p pos apos : Pos} {e o : Expr} {es : List Expr} {ta : TE} {t : TA}
theorem run_fn {pins : List (Addr × Obj)} {σ : St} {H : Hp} {s : Shared} {Q : VK} {us : List Value} {vs : List V} (F : FnOk X.prog X.w X.K X.mg X.base CX k f fd ps sp) (hr : Room k X.A) (hb : Binds X.K fd ps ds) (hd : Vals dvs ds) (hx : Passes CX X E)
    (I : Inv X pins σ H s) (r : Vals vs us) (h : sp (vs ++ dvs) H Q E) : wpAny (model X.prog X.w) X.A (call (.ref f) us) (EP X pins σ Q) X.xe s := by
  have r2 : Vals (vs ++ dvs) (us ++ ds) := r.append hd
  have hl : (us ++ ds).length = ps.length := by rw [← r2.length]; exact F.len _ _ _ _ h
  refine wpAny_call (codeAny_mono (F.run X.A X.stack s H ⟨us, []⟩ (us ++ ds) (vs ++ dvs) Q E hr I.env0 (hb s us I.kIn hl) r2 h) fun r s' hq => ?_)
  cases r with
  | error e => exact hx pins σ H s e s' I hq
  | ok fl =>
    cases fl with
    | ret u => exact I.after hq
    | next => exact False.elim hq
    | brk => exact False.elim hq
    | cont => exact False.elim hq
theorem pe_call (F : FnOk X.prog X.w X.K X.mg X.base CX k f fd ps sp) (hr : Room k X.A) (hg : Gl X x) (hm : X.mg x = some (.ref f)) (hk : PySem.W.keepIn X.K (.ref f) = true) (hb : Binds X.K fd ps ds) (hd : Vals dvs ds) (hx : Passes CX X E)
    (ha : PA X (e :: es) t) (hdb : (x == ("__debug__" : Str)) = false := by decide) (he : starEach (e :: es) X.env = (false, eval e X.env) :: starEach es X.env := by rfl) (hpl : (backTo pos (starEach es X.env)).any (·.1) = false := by rfl) :
    PE X (.Call (.Name x p) (e :: es) [] pos) (tCall sp dvs E t) := by
  intro pins s σ H Q I h
  refine wpAny_Call_Name_kw (ld_glob I hg hm ?_ hdb)
  refine PySem.W.callWith_K (h₀ := X.base) I.ok.mod.kin hk (thn (ha pos pins s σ H _ I h) fun us s1 ⟨vs, H1, I1, r, q⟩ => ⟨I1.kIn, ?_⟩) he hpl
  exact run_fn F hr hb hd hx I1 r q
theorem pe_meth {pl : Sem Bool} (he : PE X o ta) (c : Cls X.K C) (hm : Meth X.K C m f) (F : FnOk X.prog X.w X.K X.mg X.base CX k f fd ps sp) (hr : Room k X.A) (hb : Binds X.K fd ps ds) (hd : Vals dvs ds) (hx : Passes CX X E) (ha : PA X (e :: es) t)
    (hst : starEach (e :: es) X.env = (false, eval e X.env) :: starEach es X.env := by rfl) (hpl : (backTo pos (starEach es X.env)).any (·.1) = false := by rfl)
    (ht : eval (.Call (.Attribute o m apos) (e :: es) [] pos) X.env = (do
      let ov ← eval o X.env
      standAt apos.atName
      let (f, first) ← holding [ov] (getMethod ov m pl)
      callWith pos f first (backTo pos (starEach (e :: es) X.env)) (backToKw pos (keywordEach [] X.env))) := by rfl) :
    PE X (.Call (.Attribute o m apos) (e :: es) [] pos) (tMeth C m sp dvs E ta t) := by
  intro pins s σ H Q I h
  refine PySem.W.methodCall_KW (pl := pl) (thn (he pins s σ H _ I h) fun u s1 ⟨x, H1, I1, rx, a, dx, fs, ex, ea, l, q⟩ => ?_) ht
  subst ex
  obtain rfl : u = Value.ref a := rx
  refine getmeth_ok I1 ea c hm l ?_
  refine PySem.W.callWith_K (first := [.ref a]) (h₀ := X.base) I.ok.mod.kin hm.kp (thn (ha pos pins s1 σ H1 _ I1 q) fun us s2 ⟨vs, H2, I2, r, q2⟩ => ⟨I2.kIn, ?_⟩) hst hpl
  exact run_fn (us := .ref a :: us) (vs := .ref a :: vs) F hr hb hd hx I2 (.cons rfl r) q2
theorem pe_meth0 {pl : Sem Bool} (he : PE X o ta) (c : Cls X.K C) (hm : Meth X.K C m f) (F : FnOk X.prog X.w X.K X.mg X.base CX k f fd ps sp) (hr : Room k X.A) (hb : Binds X.K fd ps ds) (hd : Vals dvs ds) (hx : Passes CX X E)
    (ht : eval (.Call (.Attribute o m apos) [] [] pos) X.env = (do
      let ov ← eval o X.env
      standAt apos.atName
      let (f, first) ← holding [ov] (getMethod ov m pl)
      callWith pos f first (backTo pos (starEach [] X.env)) (backToKw pos (keywordEach [] X.env))) := by rfl) :
    PE X (.Call (.Attribute o m apos) [] [] pos) (tMeth C m sp dvs E ta tNil) := by
  intro pins s σ H Q I h
  refine PySem.W.methodCall_KW (pl := pl) (thn (he pins s σ H _ I h) fun u s1 ⟨x, H1, I1, rx, a, dx, fs, ex, ea, l, q⟩ => ?_) ht
  subst ex
  obtain rfl : u = Value.ref a := rx
  refine getmeth_ok I1 ea c hm l ?_
  exact PySem.W.callWith_K0 (first := [.ref a]) I1.kIn hm.kp (run_fn (us := [.ref a]) (vs := [.ref a]) F hr hb hd hx I1 (.cons rfl .nil) q)
structure Mk (K : PySem.W.Frag) (C f : Addr) : Prop where
  makes : PySem.W.makesIn K C = true
  init : PySem.W.findIn K (.ref C) "__init__" = some (some (.ref f))
  fn : PySem.W.isFn K (.ref f) = true
  kp : PySem.W.keepIn K (.ref C) = true
end
def PK (X : Cx) (kws : List Keyword) (t : TA) : Prop :=
  ∀ (pos : Pos) (pins : List (Addr × Obj)) (s : Shared) (σ : St) (H : Hp) (Q : List V → Hp → Prop), Inv X pins σ H s → t σ H Q → wpAny (model X.prog X.w) X.A (evalAll ((backToKw pos (keywordEach kws X.env)).map (·.2))) (AP X pins σ Q) X.xe s
section
variable {X : Cx} {CX : CXT} {k : Nat} {f C : Addr} {fd : FuncData} {ps ks : List Str} {sp : Sp} {E : XK} {x m : Str} {p pos apos kpos : Pos} {e o : Expr} {es : List Expr} {kws : List Keyword} {te ta : TE} {t tk : TA} {nm : Option Str}
structure KBinds (K : PySem.W.Frag) (fd : FuncData) (ps ks : List Str) (g : List Value → List Value → List Value) (gV : List V → List V → List V) : Prop where
  to : ∀ (s : Shared) (us ws : List Value), K.In s.heap → (g us ws).length = ps.length → BindsTo s fd ⟨us, ks.zip ws⟩ (ps.zip (g us ws))
  rel : ∀ {vs : List V} {us : List Value} {zs : List V} {ws : List Value}, Vals vs us → Vals zs ws → Vals (gV vs zs) (g us ws)
def tCallK (sp : Sp) (gV : List V → List V → List V) (E : XK) (t tk : TA) : TE := fun σ H Q => t σ H fun vs H1 => tk σ H1 fun zs H2 => sp (gV vs zs) H2 Q E
variable {g : List Value → List Value → List Value} {gV : List V → List V → List V}
end
structure FnScope (N P : List Str) (sc : Scope) : Prop where
  kind : sc.kind = .function
  co : sc.isCoroutine = false
  gen : sc.isGenerator = false
  nd : N.Nodup
  pre : N.take P.length = P
  par : ∀ x ∈ P, sc.names.lookup x = some .local ∨ sc.names.lookup x = some .cell
  nofree : ∀ y ∈ sc.names, y.2 ≠ .free
theorem bindL_out {kindOf : Str → Option NameKind} {x : Str} : ∀ {binds : List (Str × Value)} {m : Str → Option Value}, (∀ v, (x, v) ∉ binds) → bindL kindOf binds m x = m x
  | [], _, _ => rfl
  | (n, v) :: r, m, h => by
    unfold bindL
    rw [bindL_out fun w hw => h w (List.mem_cons_of_mem _ hw)]
    split
    · have : x ≠ n := by rintro rfl; exact h v List.mem_cons_self
      simp [this]
    · rfl
theorem bindC_out {kindOf : Str → Option NameKind} {x : Str} : ∀ {binds : List (Str × Value)} {m : Str → Option Value}, (∀ v, (x, v) ∉ binds) → bindC kindOf binds m x = m x
  | [], _, _ => rfl
  | (n, v) :: r, m, h => by
    unfold bindC
    rw [bindC_out fun w hw => h w (List.mem_cons_of_mem _ hw)]
    split
    · rfl
    · have : x ≠ n := by rintro rfl; exact h v List.mem_cons_self
      simp [this]
theorem bindL_get {kindOf : Str → Option NameKind} {x : Str} {v : Value} : ∀ {P : List Str} {vs : List Value} {i : Nat} {m : Str → Option Value}, P.Nodup → P[i]? = some x → vs[i]? = some v → kindOf x = some .local →
    bindL kindOf (P.zip vs) m x = some v
  | [], _, _, _, _, h, _, _ => by simp at h
  | _ :: _, [], _, _, _, _, h, _ => by simp at h
  | p :: P, w :: vs, 0, m, nd, h1, h2, hk => by
    simp at h1 h2; subst h1; subst h2
    show bindL kindOf ((p, w) :: P.zip vs) m p = _
    unfold bindL
    rw [bindL_out fun v hv => (List.nodup_cons.mp nd).1 (List.of_mem_zip hv).1, if_pos hk]
    simp
  | p :: P, w :: vs, i + 1, m, nd, h1, h2, hk => by
    show bindL kindOf ((p, w) :: P.zip vs) m x = _
    unfold bindL
    exact bindL_get (i := i) (List.nodup_cons.mp nd).2 (by simpa using h1) (by simpa using h2) hk
theorem bindC_get {kindOf : Str → Option NameKind} {x : Str} {v : Value} : ∀ {P : List Str} {vs : List Value} {i : Nat} {m : Str → Option Value}, P.Nodup → P[i]? = some x → vs[i]? = some v → kindOf x ≠ some .local →
    bindC kindOf (P.zip vs) m x = some v
  | [], _, _, _, _, h, _, _ => by simp at h
  | _ :: _, [], _, _, _, _, h, _ => by simp at h
  | p :: P, w :: vs, 0, m, nd, h1, h2, hk => by
    simp at h1 h2; subst h1; subst h2
    show bindC kindOf ((p, w) :: P.zip vs) m p = _
    unfold bindC
    rw [bindC_out fun v hv => (List.nodup_cons.mp nd).1 (List.of_mem_zip hv).1, if_neg hk]
    simp
  | p :: P, w :: vs, i + 1, m, nd, h1, h2, hk => by
    show bindC kindOf ((p, w) :: P.zip vs) m x = _
    unfold bindC
    exact bindC_get (i := i) (List.nodup_cons.mp nd).2 (by simpa using h1) (by simpa using h2) hk
def start (N : List Str) (vs : List V) : St := vs.map some ++ List.replicate (N.length - vs.length) none
def cxOf (CX : CXT) (P : Program) (w : World) (K : PySem.W.Frag) (mg : Str → Option Value) (base : Heap) (N : List Str) (qual : Str) (scope : Scope) (f : Addr) (cd : Value) (A : Around) (outer : List Env) (s : Shared) (H : Hp) (E : XK) : Cx where
  prog := P
  w := w
  K := K
  mg := mg
  base := base
  A := A.deeper (envOfC qual scope s.heap.objs.size f cd)
  N := N
  s₀ := s
  H₀ := H
  env := envOfC qual scope s.heap.objs.size f cd
  outer := outer
  stack := envOfC qual scope s.heap.objs.size f cd :: outer
  ex := []
  calm := true
  fn := fun _ => true
  pn := []
  xe := fun e s' => wpAny (model P w) (A.deeper (envOfC qual scope s.heap.objs.size f cd)) (leaving (envOfC qual scope s.heap.objs.size f cd) e) (fun _ s'' => CX outer H s E e s'') (fun e' s'' => CX outer H s E e' s'') s'
theorem cell_has {sc : Scope} {n : Nat} {x : Str} (h : sc.names.lookup x = some .cell) : ∃ c, (cellsFrom n sc.names []).lookup x = some c := by
  have q := PySem.W.cellsFrom_some sc.names n [] (.inl h)
  exact Option.isSome_iff_exists.mp q
theorem inv_start {CX : CXT} {P : Program} {w : World} {K : PySem.W.Frag} {mg : Str → Option Value} {base : Heap} {N ps : List Str} {qual : Str} {scope : Scope} {f : Addr} {cd : Value} {A : Around} {outer : List Env} {s s1 : Shared} {H : Hp} {E : XK} {us : List Value} {vs : List V}
    (S : FnScope N ps scope) (hd : A.handled = none) (e0 : Env0 P w K mg base A outer s H) (hl : vs.length = ps.length) (r : Vals vs us)
    (x : InCallC s s.heap.objs.size (bindL (envOfC qual scope s.heap.objs.size f cd).kindOf (ps.zip us) fun _ => none) (cellsFrom (s.heap.objs.size + 1) scope.names []) (bindC (envOfC qual scope s.heap.objs.size f cd).kindOf (ps.zip us) fun _ => none) s1) :
    Inv (cxOf CX P w K mg base N qual scope f cd A outer s H E) [] (start N vs) H s1 := by
  have hpl : ps.length ≤ N.length := by have := congrArg List.length S.pre; rw [List.length_take] at this; omega
  obtain ⟨h1, tk, rfl, hk⟩ := x.done
  have noA : ∀ b : Addr, b ∉ (cxOf CX P w K mg base N qual scope f cd A outer s H E).ex := fun b z => absurd (show b ∈ ([] : List Addr) from z) (by simp)
  refine ⟨⟨e0.mod, S.kind, rfl, rfl, Nat.le_refl _, fun y z c h1 h2 => ?_, fun y hy => ?_, fun y c _ h => ?_, fun _ => hd, Around.frames_deeper e0.frames, .inr ⟨rfl, rfl⟩, fun b z => absurd z (noA b), e0.bs, e0.bsz, fun b _ _ => noA b, fun b z => absurd z (noA b), e0.funs, e0.frf⟩,
    rfl, e0.bare, Un.kept hk, ⟨_, x.toInCall.ns, fun i y v h1 h2 h3 => ?_⟩, fun y c h => ⟨_, x.cell y c h⟩, e0.hok.fresh (Nat.le_refl _), fun y c h => ?_, fun p hp => absurd (show p ∈ ([] : List (Addr × Obj)) from hp) (by simp), e0.hok.kept hk, ?_⟩
  · exact name_of_addr x.apart (PySem.mem_of_lookup h1) (PySem.mem_of_lookup h2)
  · have hy : scope.names.lookup y = some .cell ∨ scope.names.lookup y = some .free := hy
    rcases hy with hy | hy
    · exact cell_has hy
    · exact absurd rfl (S.nofree _ (PySem.mem_of_lookup hy))
  · exact Nat.le_of_lt (x.above y c (PySem.mem_of_lookup h))
  · have hi : i < vs.length := by
      unfold start at h2
      by_cases hi : i < vs.length
      · exact hi
      · rw [List.getElem?_append_right (by simpa using hi)] at h2
        rw [List.getElem?_replicate] at h2
        split at h2 <;> cases h2
    have ha : vs[i]? = some v := by
      unfold start at h2
      rw [List.getElem?_append_left (by simpa using hi), List.getElem?_map] at h2
      cases e : vs[i]? with
      | none => rw [e] at h2; cases h2
      | some a => rw [e] at h2; cases h2; rfl
    obtain ⟨u, hu, rv⟩ := r.get ha
    have hp : ps[i]? = some y := by
      rw [← S.pre, List.getElem?_take_of_lt (by omega)]; exact h1
    have ndP : ps.Nodup := by rw [← S.pre]; exact S.nd.sublist (List.take_sublist _ _)
    refine ⟨u, rv, ?_⟩
    rcases S.par y (List.mem_of_getElem? hp) with k | k
    · exact .inl ⟨k, bindL_get ndP hp hu k⟩
    · obtain ⟨c, e⟩ := cell_has (n := s.heap.objs.size + 1) k
      refine .inr ⟨.inl k, c, e, ?_⟩
      have q := x.cell y c e
      rw [bindC_get ndP hp hu (by show scope.names.lookup y ≠ _; rw [k]; decide)] at q
      exact q
  · exact e0.hok.fresh (Nat.le_of_lt (x.above y c (PySem.mem_of_lookup h)))
  · unfold start
    show _ = N.length
    rw [List.length_append, List.length_map, List.length_replicate]
    omega
theorem fn_of {CX : CXT} {P : Program} {w : World} {K : PySem.W.Frag} {mg : Str → Option Value} {base : Heap} {k : Nat} {f : Addr} {name qual : Str} {params : Arguments} {body : List Stmt} {scope : Scope} {dV kV doc pm cdv ct oc : Value} {an od : Option Addr}
    {osl : Array (Option Value)} {N ps : List Str} {sp : Sp} (lk : K.lookup f = some ⟨oc, od, .func (PySem.W.fnOf name qual params body scope dV kV doc pm an cdv ct), osl⟩) (hcd : PySem.W.codeIn K cdv qual = true) (S : FnScope N ps scope)
    (len : ∀ vs H Q E, sp vs H Q E → vs.length = ps.length)
    (hbody : ∀ (A : Around) (outer : List Env) (s : Shared) (H : Hp) (vs : List V) (Q : VK) (E : XK), Room k (A.deeper (envOfC qual scope s.heap.objs.size f cdv)) → sp vs H Q E →
      ∃ t, PSs (cxOf CX P w K mg base N qual scope f cdv A outer s H E) body t ∧ t { nx := fun _ H' => Q .non H', rt := Q } (start N vs) H) :
    FnOk P w K mg base CX (k + 1) f (PySem.W.fnOf name qual params body scope dV kV doc pm an cdv ct) ps sp := by
  refine ⟨len, fun A outer s H args us vs Q E hr e0 hb r hsp => ?_⟩
  have hl := len _ _ _ _ hsp
  have KX : K.In s.heap := e0.mod.kin.keeps fun b o e => (e0.bs b o e).1
  have lim : s.heap.NoLimit := e0.mod.nolimit.keeps fun b o e => (e0.bs b o e).1
  have hkind : ∀ y ∈ ps.zip us, scope.names.lookup y.1 = some .local ∨ (scope.names.lookup y.1 = some .cell ∧ ((cellsFrom (s.heap.objs.size + 1) scope.names []).lookup y.1).isSome = true) := fun ⟨n, v⟩ hy => by
    rcases S.par n (List.of_mem_zip hy).1 with q | q
    · exact .inl q
    · exact .inr ⟨q, PySem.W.cellsFrom_some _ _ _ (.inl q)⟩
  refine codeAny_call_function hr.depth (KX _ _ lk) rfl S.co S.gen rfl (PySem.W.codeRec_of KX hcd) (hb _ _ _ _ ?_)
  refine wpAny_newFunctionEnv_cells S.kind hkind fun env he s1 x => ?_
  subst he
  refine ⟨lim.keeps x.toInCall.keep, codeAny_func ?_⟩
  obtain ⟨t, ht, hq⟩ := hbody A outer s H vs Q E (hr.deeper _) hsp
  have I : Inv (cxOf CX P w K mg base N qual scope f cdv A outer s H E) [] (start N vs) H s1 := inv_start S hr.hd e0 hl r x
  refine wpAny_mono (ht [] s1 (start N vs) H _ I hq) (fun fl s' hs => ?_) fun e s' hs => hs
  have fin : ∀ {σ' : St} {H' : Hp} {v : V} {u : Value}, Inv (cxOf CX P w K mg base N qual scope f cdv A outer s H E) [] σ' H' s' → RelV v u → Q v H' → CE outer P w H s Q u s' :=
    fun {σ' H' v u} J rv q => ⟨v, H', J.os, J.bare, J.base, J.hok, rv, q⟩
  cases fl with
  | ret u =>
    obtain ⟨v, σ', H', J, rv, q⟩ := hs
    exact fin J rv q
  | next =>
    obtain ⟨σ', H', J, q⟩ := hs
    exact fin (v := V.non) (u := Value.none) J rfl q
  | brk =>
    obtain ⟨_, _, _, q⟩ := hs
    exact False.elim q
  | cont =>
    obtain ⟨_, _, _, q⟩ := hs
    exact False.elim q
end L2
namespace L2
open PySem PySem.Spec PyProof.Rows
section
variable {X : Cx} {x : Str} {p pos : Pos} {e : Expr} {es : List Expr} {t : TA} {id T : String} {r : List V → Hp → VK → Prop}
def tCB (r : List V → Hp → VK → Prop) (t : TA) : TE := fun σ H Q => t σ H fun vs H1 => r vs H1 Q
theorem pe_callB (hc : CallR X (.builtin id) r) (hg : Gl X x) (hm : X.mg x = none) (hv : bootBuiltins x = some (.builtin id)) (ha : PA X (e :: es) t) (hn : x ≠ "__name__" := by decide) (hdb : (x == ("__debug__" : Str)) = false := by decide)
    (he : starEach (e :: es) X.env = (false, eval e X.env) :: starEach es X.env := by rfl) (hpl : (backTo pos (starEach es X.env)).any (·.1) = false := by rfl) : PE X (.Call (.Name x p) (e :: es) [] pos) (tCB r t) := by
  intro pins s σ H Q I h
  refine wpAny_Call_Name_kw (ld_blt I hg hm hv ?_ hn hdb)
  exact PyProof.Rows.callWith_builtin1 (thn (ha pos pins s σ H _ I h) fun us s1 ⟨vs, H1, I1, r1, q1⟩ => hc pins s1 σ H1 vs us Q I1 r1 q1) he hpl
theorem pe_callTy (hc : CallR X (.type T) r) (hg : Gl X x) (hm : X.mg x = none) (hv : bootBuiltins x = some (.type T)) (ha : PA X (e :: es) t) (hn : x ≠ "__name__" := by decide) (hdb : (x == ("__debug__" : Str)) = false := by decide)
    (he : starEach (e :: es) X.env = (false, eval e X.env) :: starEach es X.env := by rfl) (hpl : (backTo pos (starEach es X.env)).any (·.1) = false := by rfl) : PE X (.Call (.Name x p) (e :: es) [] pos) (tCB r t) := by
  intro pins s σ H Q I h
  refine wpAny_Call_Name_kw (ld_blt I hg hm hv ?_ hn hdb)
  exact PyProof.Rows.callWith_type1 (thn (ha pos pins s σ H _ I h) fun us s1 ⟨vs, H1, I1, r1, q1⟩ => hc pins s1 σ H1 vs us Q I1 r1 q1) he hpl
end
end L2
namespace HT
open PySem PyProof.Rows
def lexLt : List Int → List Int → Bool
  | [], [] => false
  | [], _ :: _ => true
  | _ :: _, [] => false
  | x :: xs, y :: ys => if x = y then lexLt xs ys else decide (x < y)
section
open PySem.SeqAt
open PySem.AutoSeq1 (wpAny_loadPart')
open PySem.MeetsSeq PySem.MeetsSeq2 PySem.MeetsSeq3
end
section
variable {prog : Program} {w : World} {A : Around} {E : Value → Shared → Prop} {s : Shared}
def sIx (n d : Nat) : Option Int → Nat
  | none => d
  | some v => if v < 0 then (v + (n : Int)).toNat else min v.toNat n
end
end HT
namespace L2
open PySem PySem.Spec PyProof.Rows
abbrev TO := St → Hp → (Option Int → Hp → Prop) → Prop
def PO (X : Cx) (e : Option Expr) (t : TO) : Prop :=
  ∀ (pins : List (Addr × Obj)) (s : Shared) (σ : St) (H : Hp) (Q : Option Int → Hp → Prop), Inv X pins σ H s → t σ H Q →
    wpAny (model X.prog X.w) X.A (evalPart e X.env) (fun u s' => ∃ o H', Inv X pins σ H' s' ∧ IsPart u o ∧ Q o H') X.xe s
def tNoPart : TO := fun _ H Q => Q none H
def tPart (t : TE) : TO := fun σ H Q => t σ H fun x H1 => ∃ i, x = .int i ∧ Q (some i) H1
section
variable {X : Cx} {e : Expr} {te : TE} {lo hi : Option Expr} {tl th : TO} {pos p2 : Pos}
def SlR (X : Cx) (r : V → Option Int → Option Int → Hp → VK → Prop) : Prop :=
  ∀ (pins : List (Addr × Obj)) (s : Shared) (σ : St) (H : Hp) (x : V) (v vl vu : Value) (lo hi : Option Int) (sl : Addr) (Q : VK), Inv X pins σ H s → RelV x v → s.heap.IsSliceOf sl vl vu .none → IsPart vl lo → IsPart vu hi → r x lo hi H Q →
    ∃ T id, typeLookup (.type T) "__getitem__" = pure (some (.builtin id)) ∧ s.TypeIs v T ∧ wpAny (model X.prog X.w) X.A (getItem v (.ref sl)) (EP X pins σ Q) X.xe s
def tSl (r : V → Option Int → Option Int → Hp → VK → Prop) (te : TE) (tl th : TO) : TE := fun σ H Q => te σ H fun x H1 => tl σ H1 fun l H2 => th σ H2 fun u H3 => r x l u H3 Q
def cutV (xs : List V) (lo hi : Option Int) : List V := (xs.drop (HT.sIx xs.length 0 lo)).take (HT.sIx xs.length xs.length hi - HT.sIx xs.length 0 lo)
def rSlT (K : PySem.W.Frag) : V → Option Int → Option Int → Hp → VK → Prop := fun x lo hi H Q => ∃ a xs, x = .ref a ∧ SqT K H a xs ∧
  ¬ (HT.sIx xs.length 0 lo = 0 ∧ HT.sIx xs.length xs.length hi = xs.length) ∧ ∀ p, H p = none → Q (.ref p) (upd H p (.tup (cutV xs lo hi)))
def rLtT (K : PySem.W.Frag) : R2 := fun x y H Q => ∃ a b ns ms, x = .ref a ∧ y = .ref b ∧ SqT K H a (ns.map V.int) ∧ SqT K H b (ms.map V.int) ∧ Q (.bl (HT.lexLt ns ms)) H
def rCatT (K : PySem.W.Frag) : R2 := fun x y H Q => ∃ a b xs ys, x = .ref a ∧ y = .ref b ∧ SqT K H a xs ∧ SqT K H b ys ∧ xs ≠ [] ∧ xs.length + ys.length ≤ sizeLine ∧
  (ys = [] → Q (.ref a) H) ∧ (ys ≠ [] → ∀ p, H p = none → Q (.ref p) (upd H p (.tup (xs ++ ys))))
end
end L2
namespace L2
open PySem PySem.Spec PyProof.Rows
def ixN (n : Nat) (i : Int) : Option Nat := if 0 ≤ i then (if i < n then some i.toNat else none) else if -(n : Int) ≤ i then some (i + n).toNat else none
def atI {α : Type} (xs : List α) (i : Int) : Option α := (ixN xs.length i).bind fun j => xs[j]?
theorem ixN_seq {n : Nat} {i : Int} {j : Nat} (h : ixN n i = some j) : seqIndex? i n = some j ∧ j < n ∧ -(n : Int) ≤ i ∧ i < n := by
  unfold ixN at h
  by_cases h0 : 0 ≤ i
  · rw [if_pos h0] at h
    by_cases h1 : i < n
    · rw [if_pos h1] at h
      have e : i.toNat = j := Option.some.inj h
      exact ⟨by rw [seqIndex_of h0 h1, e], by omega, by omega, h1⟩
    · rw [if_neg h1] at h; cases h
  · rw [if_neg h0] at h
    by_cases h1 : -(n : Int) ≤ i
    · rw [if_pos h1] at h
      have e : (i + n).toNat = j := Option.some.inj h
      exact ⟨by rw [seqIndex_neg (by omega) h1, e], by omega, h1, by omega⟩
    · rw [if_neg h1] at h; cases h
theorem atI_get {α : Type} {xs : List α} {i : Int} {v : α} (h : atI xs i = some v) : ∃ j, seqIndex? i xs.length = some j ∧ xs[j]? = some v ∧ j < xs.length ∧ -(xs.length : Int) ≤ i ∧ i < xs.length := by
  unfold atI at h
  cases e : ixN xs.length i with
  | none => rw [e] at h; cases h
  | some j =>
    rw [e] at h
    obtain ⟨h1, h2, h3, h4⟩ := ixN_seq e
    exact ⟨j, h1, h, h2, h3, h4⟩
theorem atI_nat {α : Type} {xs : List α} {j : Nat} {v : α} (h : xs[j]? = some v) : atI xs (j : Int) = some v := by
  have hj : j < xs.length := (List.getElem?_eq_some_iff.mp h).1
  have e : ixN xs.length (j : Int) = some j := by
    unfold ixN
    rw [if_pos (by omega), if_pos (by omega)]; simp
  unfold atI; rw [e]; exact h
def PlainIx (b : Expr) : Prop := ∀ o i, subscripted b false o i = operate [o, i] (getItem o i)
def IxR (X : Cx) (r : R2) : Prop :=
  ∀ (value slice : Expr) (pins : List (Addr × Obj)) (s : Shared) (σ : St) (H : Hp) (x y : V) (v u : Value) (Q : VK), Inv X pins σ H s → RelV x v → RelV y u → r x y H Q →
    subscripted slice false v u = operate [v, u] (getItem v u) → wpAny (model X.prog X.w) X.A (subscriptTail value slice v u) (EP X pins σ Q) X.xe s
def MtR (X : Cx) (id : String) (r : V → List V → Hp → VK → Prop) : Prop :=
  ∀ (pins : List (Addr × Obj)) (s : Shared) (σ : St) (H : Hp) (x : V) (xs : List V) (v : Value) (us : List Value) (Q : VK), Inv X pins σ H s → RelV x v → Vals xs us → r x xs H Q →
    wpAny (model X.prog X.w) X.A (call (.builtin id) (v :: us)) (EP X pins σ Q) X.xe s
section
variable {X : Cx} {a b : Expr} {ta tb : TE} {pos : Pos}
def rIxL (K : PySem.W.Frag) : R2 := fun x y H Q => ∃ p xs i v, x = .ref p ∧ y = .int i ∧ SqL K H p xs ∧ atI xs i = some v ∧ Q v H
def rIxT (K : PySem.W.Frag) : R2 := fun x y H Q => ∃ p xs i v, x = .ref p ∧ y = .int i ∧ SqT K H p xs ∧ atI xs i = some v ∧ Q v H
def rIxS : R2 := fun x y H Q => ∃ z i c, x = .str z ∧ y = .int i ∧ z.length ≤ sizeLine ∧ atI z.cps.toList i = some c ∧ Q (.str ⟨#[c]⟩) H
theorem ix_list : IxR X (rIxL X.K) := by
  intro value slice pins s σ H x y v u Q I rx ry h hs
  obtain ⟨p, xs, i, z, rfl, rfl, hq, he, q⟩ := h
  cases rx
  obtain ⟨t, rfl⟩ := ry
  obtain ⟨its, r, pl, hz⟩ := I.list hq
  obtain ⟨j, h1, h2, h3, h4, h5⟩ := atI_get he
  obtain ⟨w, ew, rw'⟩ := r.get h2
  have hl := r.length
  have hn := line63
  have fin : EP X pins σ Q w s := ⟨z, H, I, rw', q⟩
  by_cases h0 : 0 ≤ i
  · have hj : i.toNat = j := by
      rw [seqIndex_of h0 h5] at h1
      exact Option.some.inj h1
    exact item_listR pl.isList h0 (by omega) (by rw [hj]; simpa using ew) fin hs
  · have hj : (i + (its.toArray.size : Int)).toNat = j := by
      rw [seqIndex_neg (by omega) h4] at h1
      rw [List.size_toArray, ← hl]
      exact Option.some.inj h1
    exact subscriptTail_builtinR (x := w) pl.isList.typeIs slot_list_getitem.lookup
      (wpAny_getItem_list_neg (Q := fun r s' => r = w ∧ EP X pins σ Q r s') pl.isList (by omega) (by rw [List.size_toArray] <;> omega) (by omega) (by rw [hj]; simpa using ew) ⟨rfl, fin⟩) hs
theorem ix_tup : IxR X (rIxT X.K) := by
  intro value slice pins s σ H x y v u Q I rx ry h hs
  obtain ⟨p, xs, i, z, rfl, rfl, hq, he, q⟩ := h
  cases rx
  obtain ⟨t, rfl⟩ := ry
  obtain ⟨its, r, pl, hz⟩ := I.tuple hq
  obtain ⟨j, h1, h2, h3, h4, h5⟩ := atI_get he
  obtain ⟨w, ew, rw'⟩ := r.get h2
  have hl := r.length
  have hn := line63
  have fin : EP X pins σ Q w s := ⟨z, H, I, rw', q⟩
  exact subscriptTail_builtinR (x := w) pl.typeIs slot_tuple_getitem.lookup
    (getItem_tuple (j := j) (Q := fun r s' => r = w ∧ EP X pins σ Q r s') pl (by omega) (by omega) (by rw [List.size_toArray, ← hl]; exact h1) (by simpa using ew) ⟨rfl, fin⟩) hs
def rIx (K : PySem.W.Frag) : R2 := fun x y H Q => rIxL K x y H Q ∨ rIxT K x y H Q ∨ rIxS x y H Q
theorem mapSeq_set (its : List Value) (n j : Nat) (u : Value) : Obj.mapSeq (·.setIfInBounds j u) { cls := .type "list", data := .seq its.toArray n } = { cls := .type "list", data := .seq (its.set j u).toArray n } := by
  simp [Obj.mapSeq]
theorem Inv.lst {pins : List (Addr × Obj)} {σ : St} {H : Hp} {s : Shared} {p : Addr} {xs : List V} (I : Inv X pins σ H s) (h : H p = some (.lst xs)) :
    ∃ (its : List Value) (n : Nat), Vals xs its ∧ s.heap.get? p = some { cls := .type "list", data := .seq its.toArray n } ∧ xs.length ≤ sizeLine := by
  obtain ⟨z, its, n, r, e⟩ := I.hok p _ h
  exact ⟨its, n, r, e, z⟩
theorem Inv.lstUpd {pins : List (Addr × Obj)} {σ : St} {H : Hp} {s : Shared} {p : Addr} {xs ys : List V} {its its' : List Value} {n n' : Nat} {f : Obj → Obj} (I : Inv X pins σ H s) (h : H p = some (.lst xs))
    (ho : s.heap.get? p = some { cls := .type "list", data := .seq its.toArray n }) (hf : f { cls := .type "list", data := .seq its.toArray n } = { cls := .type "list", data := .seq its'.toArray n' }) (r : Vals ys its') (hz : ys.length ≤ sizeLine) (t : Nat) :
    Inv X pins σ (upd H p (.lst ys)) { s with heap := s.heap.update p f, toks := t } := by
  have e : (s.heap.update p f).get? p = some { cls := .type "list", data := .seq its'.toArray n' } := by
    rw [Heap.get?_update_self f ho (by rw [hf] <;> rfl), hf]
  refine I.write (x := p) (e := p) (by rw [h]; trivial) (.inl rfl) (fun b u hb q => (Heap.get?_update_other _ _ (Ne.symm hb)).trans q) ⟨_, e⟩ ?_
  exact ⟨hz, its', n', r, e⟩
def rSetL : V → V → V → Hp → (Hp → Prop) → Prop := fun o i v H Q => ∃ p xs k j, o = .ref p ∧ i = .int k ∧ H p = some (.lst xs) ∧ ixN xs.length k = some j ∧ Q (upd H p (.lst (xs.set j v)))
theorem set_list : PSet X rSetL := by
  intro pins s σ H o i v ov iv u Q I ro ri rv h
  obtain ⟨p, xs, k, j, rfl, rfl, hp, hj, q⟩ := h
  cases ro
  obtain ⟨t, rfl⟩ := ri
  obtain ⟨its, n, r, ho, hz⟩ := I.lst hp
  obtain ⟨h1, h2, h3, h4⟩ := ixN_seq hj
  have hl := r.length
  have hn := line63
  have I' : Inv X pins σ (upd H p (.lst (xs.set j v))) { s with heap := s.heap.update p (Obj.mapSeq (·.setIfInBounds j u)) } :=
    I.lstUpd hp ho (mapSeq_set its n j u) (r.set rv j) (by rw [List.length_set]; exact hz) s.toks
  by_cases h0 : 0 ≤ k
  · have hk : k.toNat = j := by
      rw [seqIndex_of h0 h4] at h1
      exact Option.some.inj h1
    exact PySem.W.ki_setAt ho h0 (by omega) (by rw [List.size_toArray, ← hl]; exact h4) (by rw [hk]; exact ⟨_, I', q⟩)
  · have hk : (k + (its.toArray.size : Int)).toNat = j := by
      rw [seqIndex_neg (by omega) h3] at h1
      rw [List.size_toArray, ← hl]
      exact Option.some.inj h1
    exact PySem.W.ki_setBack ho (by omega) (by rw [List.size_toArray, ← hl]; exact h3) (by omega) (by rw [hk]; exact ⟨_, I', q⟩)
def rSlL (K : PySem.W.Frag) : V → Option Int → Option Int → Hp → VK → Prop := fun x lo hi H Q => ∃ a xs, x = .ref a ∧ SqL K H a xs ∧ ∀ p, H p = none → Q (.ref p) (upd H p (.lst (cutV xs lo hi)))
def flatV : V → Bool
  | .non => true
  | .bl _ => true
  | .int _ => true
  | .str _ => true
  | _ => false
def eqV : V → V → Bool
  | .non, .non => true
  | .bl a, .bl b => a == b
  | .bl a, .int b => (if a then 1 else 0) == b
  | .int a, .bl b => a == (if b then 1 else 0)
  | .int a, .int b => a == b
  | .str a, .str b => a == b
  | _, _ => false
def eqU (x : V) (u : Value) : Bool := match u with
  | .none => eqV .non x
  | .bool b => eqV (.bl b) x
  | .int i _ => eqV (.int i) x
  | .str z _ => eqV (.str z) x
  | _ => false
def inV (x : V) (xs : List V) : Bool := xs.any fun y => eqV y x
def rIn (K : PySem.W.Frag) (neg : Bool) : R2 := fun x y H Q => ∃ p xs, y = .ref p ∧ (SqL K H p xs ∨ SqT K H p xs) ∧ flatV x = true ∧ xs.all flatV = true ∧ Q (.bl (if neg then !inV x xs else inV x xs)) H
theorem call_len_seq : CallR X (.builtin "len") (fun xs H Q => ∃ p ys, xs = [.ref p] ∧ (SqL X.K H p ys ∨ SqT X.K H p ys) ∧ Q (.int ys.length) H) := by
  intro pins s σ H xs us Q I r h
  obtain ⟨p, ys, rfl, hq, q⟩ := h
  obtain ⟨u, rfl, rx⟩ := vals1 r
  cases rx
  have hn := line63
  rcases hq with hq | hq
  · obtain ⟨its, r', pl, hz⟩ := I.list hq
    have hlen := r'.length
    exact Calls.call_len_list pl.isList (by simp only [List.size_toArray] <;> omega) ⟨.int ys.length, H, I.tok _, ⟨s.toks + 1, by rw [List.size_toArray, hlen]⟩, q⟩
  · obtain ⟨its, r', pl, hz⟩ := I.tuple hq
    have hlen := r'.length
    exact len_tuple pl (by simp only [List.size_toArray] <;> omega) ⟨.int ys.length, H, I.tok _, ⟨s.toks + 1, by rw [List.size_toArray, hlen]⟩, q⟩
theorem call_list_of : CallR X (.type "list") (fun xs H Q => ∃ p ys, xs = [.ref p] ∧ (SqL X.K H p ys ∨ SqT X.K H p ys) ∧ ∀ l, H l = none → Q (.ref l) (upd H l (.lst ys))) := by
  intro pins s σ H xs us Q I r h
  obtain ⟨p, ys, rfl, hq, q⟩ := h
  obtain ⟨u, rfl, rx⟩ := vals1 r
  cases rx
  have fin : ∀ (its : List Value), Vals ys its → ys.length ≤ sizeLine → ∀ (h' : Heap) (c' : Nat), (∀ b o', s.heap.get? b = some o' → h'.get? b = some o') →
      h'.get? s.heap.objs.size = some { cls := .type "list", dict := none, data := .seq its.toArray c', slots := #[] } → EP X pins σ Q (.ref s.heap.objs.size) { s with heap := h' } := fun its r' hz h' c' kp e =>
    ⟨.ref s.heap.objs.size, _, I.laid (t' := s.toks) kp (Nat.le_refl _) (show ObjOk X.prog X.w _ h' _ (.lst ys) from ⟨hz, its, c', r', e⟩), rfl, q _ (I.hok.fresh (Nat.le_refl _))⟩
  rcases hq with hq | hq
  · obtain ⟨its, r', pl, hz⟩ := I.list hq
    have hlen := r'.length
    obtain ⟨o, ho, hc, n, hd⟩ := pl.isList
    exact call_list_seq p (.inl rfl) ho hc hd (fun h' c' kp e => fin its r' hz h' c' kp e) (by simp only [List.size_toArray] <;> omega)
  · obtain ⟨its, r', pl, hz⟩ := I.tuple hq
    have hlen := r'.length
    obtain ⟨o, ho, hc, n, hd⟩ := pl
    exact call_list_seq p (.inr rfl) ho hc hd (fun h' c' kp e => fin its r' hz h' c' kp e) (by simp only [List.size_toArray] <;> omega)
theorem call_tuple_of : CallR X (.type "tuple") (fun xs H Q => ∃ p ys, xs = [.ref p] ∧ ((SqL X.K H p ys ∧ ∀ l, H l = none → Q (.ref l) (upd H l (.tup ys))) ∨ (SqT X.K H p ys ∧ Q (.ref p) H))) := by
  intro pins s σ H xs us Q I r h
  obtain ⟨p, ys, rfl, h⟩ := h
  obtain ⟨u, rfl, rx⟩ := vals1 r
  cases rx
  rcases h with ⟨hq, q⟩ | ⟨hq, q⟩
  · obtain ⟨its, r', pl, hz⟩ := I.list hq
    have hlen := r'.length
    refine call_tuple_list pl.isList (fun h' kp => ?_) (by simp only [List.size_toArray] <;> omega)
    have I1 : Inv X pins σ H { s with heap := h' } := I.kept (t' := s.toks) kp
    have I2 : Inv X pins σ (upd H h'.objs.size (.tup ys)) { s with heap := h'.push { cls := .type "tuple", data := .seq its.toArray } } :=
      I1.laid (t' := s.toks) (fun b o e => Heap.get?_push_of_some _ e) (Nat.le_refl _) (show ObjOk X.prog X.w _ _ _ (.tup ys) from ⟨hz, its, r', TupN.new _ _⟩)
    exact ⟨.ref h'.objs.size, _, I2, rfl, q _ (I1.hok.fresh (Nat.le_refl _))⟩
  · obtain ⟨its, r', pl, hz⟩ := I.tuple hq
    exact call_tuple_same pl ⟨.ref p, H, I, rfl, q⟩
def tyV (K : PySem.W.Frag) (T : String) (x : V) (H : Hp) : Prop := match x with
  | .str _ => T = "str"
  | .int _ => T = "int"
  | .ref p => (T = "list" ∧ ∃ xs, SqL K H p xs) ∨ (T = "tuple" ∧ ∃ xs, SqT K H p xs) ∨
      (T = "dict" ∧ ((∃ kvs, H p = some (.dK kvs)) ∨ ∃ kvs, H p = some (.dT kvs))) ∨ (T = "set" ∧ ∃ S n, H p = some (.set S n))
  | _ => False
theorem tyV_is {pins : List (Addr × Obj)} {σ : St} {H : Hp} {s : Shared} {T : String} {x : V} {v : Value} (I : Inv X pins σ H s) (r : RelV x v) (ty : tyV X.K T x H) :
    s.TypeIs v T ∧ ∀ a, v = .ref a → ∃ ob, s.heap.get? a = some ob ∧ ob.dict = none := by
  cases x with
  | str z =>
    obtain ⟨t, rfl⟩ := r
    cases (show T = "str" from ty)
    exact ⟨typeIs_str s z t, fun _ e => nomatch e⟩
  | int i =>
    obtain ⟨t, rfl⟩ := r
    cases (show T = "int" from ty)
    exact ⟨typeIs_int s i t, fun _ e => nomatch e⟩
  | ref p =>
    cases r
    rcases ty with ⟨rfl, xs, hq⟩ | ⟨rfl, xs, hq⟩ | ⟨rfl, hk⟩ | ⟨rfl, S, n, hk⟩
    · obtain ⟨its, _, pl, _⟩ := I.list hq
      refine ⟨pl.isList.typeIs, fun a e => ?_⟩
      cases e
      obtain ⟨o, n, e, c, hd, _⟩ := pl
      exact ⟨o, e, hd⟩
    · obtain ⟨its, _, ⟨o, e1, hd, hc, _⟩, _⟩ := I.tupN hq
      refine ⟨⟨o, e1, hc⟩, fun a e => ?_⟩
      cases e
      exact ⟨o, e1, hd⟩
    · have z : ∃ o, s.heap.get? p = some o ∧ o.ExactDict := by
        rcases hk with ⟨kvs, hk⟩ | ⟨kvs, hk⟩
        · obtain ⟨_, _, _, _, o, _, _, e, ex, _⟩ := I.hok p _ hk
          exact ⟨o, e, ex⟩
        · obtain ⟨_, _, _, _, o, _, _, e, ex, _⟩ := I.hok p _ hk
          exact ⟨o, e, ex⟩
      obtain ⟨o, e, ex⟩ := z
      refine ⟨⟨o, e, ex.1⟩, fun a e2 => ?_⟩
      cases e2
      exact ⟨o, e, ex.2.1⟩
    · obtain ⟨o, _, _, _, e, ex, _⟩ := I.hok p _ hk
      refine ⟨⟨o, e, ex.1⟩, fun a e2 => ?_⟩
      cases e2
      exact ⟨o, e, ex.2.1⟩
  | _ => exact False.elim ty
def tBM0 (K : PySem.W.Frag) (T : String) (r : V → List V → Hp → VK → Prop) (to : TE) : TE := fun σ H Q => to σ H fun x H1 => tyV K T x H1 ∧ r x [] H1 Q
def tBM (K : PySem.W.Frag) (T : String) (r : V → List V → Hp → VK → Prop) (to : TE) (t : TA) : TE := fun σ H Q => to σ H fun x H1 => tyV K T x H1 ∧ t σ H1 fun xs H2 => r x xs H2 Q
variable {o e : Expr} {es : List Expr} {to : TE} {t : TA} {name : Str} {apos cpos : Pos} {T id : String} {r : V → List V → Hp → VK → Prop}
theorem pe_bm0 (pa : PlainAttrs T) (slot : Slot T name id) (hty : typeOf (.builtin id) = pure (.type "method_descriptor")) (hm : MtR X id r) (ho : PE X o to)
    (hbase : attributeBase o name X.env (eval o X.env) = eval o X.env := by rfl) (hline : (apos.endLine == cpos.line) = true := by rfl) : PE X (.Call (.Attribute o name apos) [] [] cpos) (tBM0 X.K T r to) := by
  intro pins s σ H Q I h
  refine wpAny_Call_method0_late hbase hline (thn (ho pins s σ H _ I h) fun v s1 ⟨x, H1, I1, r1, ty, q1⟩ => ?_)
  obtain ⟨h1, h2⟩ := tyV_is I1 r1 ty
  exact ⟨T, id, pa, slot, hty, h1, h2, Calls.callWith_builtin rfl (PySem.evalArgs_none (hm pins s1 σ H1 x [] v [] Q I1 r1 .nil q1))⟩
theorem pe_bm (pa : PlainAttrs T) (slot : Slot T name id) (hty : typeOf (.builtin id) = pure (.type "method_descriptor")) (hm : MtR X id r) (ho : PE X o to) (ha : PA X (e :: es) t)
    (hbase : attributeBase o name X.env (eval o X.env) = eval o X.env := by rfl)
    (hfew : ((backTo cpos (starEach (e :: es) X.env)).all (fun x => !x.1) && (backToKw cpos (keywordEach [] X.env)).all (fun x => x.1.isSome)
      && decide ((e :: es).length + ([] : List Keyword).length + (if ([] : List Keyword).isEmpty then 0 else 1) < 30)) = true := by rfl)
    (hline : (apos.endLine == cpos.line) = true := by rfl) (hs : starEach (e :: es) X.env = (false, eval e X.env) :: starEach es X.env := by rfl) (hplain : (backTo cpos (starEach es X.env)).any (·.1) = false := by rfl) :
    PE X (.Call (.Attribute o name apos) (e :: es) [] cpos) (tBM X.K T r to t) := by
  intro pins s σ H Q I h
  refine wpAny_Call_method_late hbase hfew hline rfl (thn (ho pins s σ H _ I h) fun v s1 ⟨x, H1, I1, r1, ty, q1⟩ => ?_)
  obtain ⟨h1, h2⟩ := tyV_is I1 r1 ty
  refine ⟨T, id, pa, slot, hty, h1, h2, ?_⟩
  have hA := ha cpos pins s1 σ H1 _ I1 q1
  rw [hs] at hA ⊢
  refine Calls.callWith_builtin (by show (false || (backTo cpos (starEach es X.env)).any (·.1)) = false; rw [hplain] <;> rfl) (Calls.evalArgs_plain ?_)
  exact thn hA fun us s2 ⟨vs, H2, I2, r2, q2⟩ => hm pins s2 σ H2 x vs v us Q I2 r1 r2 q2
end
end L2
namespace L2
open PySem PySem.Spec PyProof.Rows
def MtM (X : Cx) (id : String) (r : V → List V → Hp → VK → Prop) : Prop :=
  ∀ (pins : List (Addr × Obj)) (s : Shared) (σ : St) (H : Hp) (x : V) (xs : List V) (v : Value) (us : List Value) (Q : VK), Inv X pins σ H s → RelV x v → Vals xs us → r x xs H Q →
    wpAny (model X.prog X.w) X.A (call (.builtin id) (v :: us)) (EP X pins σ Q) X.xe s
theorem Vals.one : ∀ {x : V} {us : List Value}, Vals [x] us → ∃ u, us = [u] ∧ RelV x u
  | _, _, .cons r .nil => ⟨_, rfl, r⟩
theorem Vals.zero : ∀ {us : List Value}, Vals [] us → us = []
  | _, .nil => rfl
theorem Vals.dropLast {xs : List V} {us : List Value} (h : Vals xs us) : Vals xs.dropLast us.dropLast := by
  induction h with
  | nil => exact .nil
  | cons r t ih =>
    cases t with
    | nil => exact .nil
    | cons q t' => exact .cons r ih
theorem Vals.rep {xs : List V} {us : List Value} (h : Vals xs us) : ∀ k : Nat, Vals (List.replicate k xs).flatten (List.replicate k us).flatten
  | 0 => .nil
  | k + 1 => by
    rw [List.replicate_succ, List.replicate_succ, List.flatten_cons, List.flatten_cons]
    exact Vals.append h (Vals.rep h k)
theorem erase_last {α : Type} (l : List α) : l.eraseIdx (l.length - 1) = l.dropLast := by
  induction l with
  | nil => rfl
  | cons a r ih =>
    cases r with
    | nil => rfl
    | cons b r =>
      have e : (a :: b :: r).length - 1 = ((b :: r).length - 1) + 1 := by
        have h1 : (a :: b :: r).length = r.length + 2 := rfl
        have h2 : (b :: r).length = r.length + 1 := rfl
        omega
      rw [e, List.eraseIdx_cons_succ, ih]
      all_goals rfl
theorem foldl_rep (its : List Value) : ∀ (k : Nat) (acc : List Value),
    List.foldl (fun x1 x2 => x1 ++ x2) acc.toArray (List.replicate k its.toArray) = (acc ++ (List.replicate k its).flatten).toArray
  | 0, acc => by simp
  | k + 1, acc => by
    have e : acc.toArray ++ its.toArray = (acc ++ its).toArray := by simp
    have e2 : (acc ++ its) ++ (List.replicate k its).flatten = acc ++ (List.replicate (k + 1) its).flatten := by
      rw [List.replicate_succ, List.flatten_cons, List.append_assoc]
    rw [← e2, ← foldl_rep its k (acc ++ its), ← e, List.replicate_succ, List.foldl_cons]
section
variable {X : Cx} {pins : List (Addr × Obj)} {σ : St} {H : Hp} {s : Shared} {l b : Addr} {xs ys zs : List V}
theorem Inv.lset {its its' : List Value} {n : Nat} {f : Array Value → Array Value} {t' : Nat} (I : Inv X pins σ H s) (hH : H l = some (.lst xs))
    (e : s.heap.get? l = some { cls := .type "list", data := .seq its.toArray n }) (hf : f its.toArray = its'.toArray) (hv : Vals ys its') (hz : ys.length ≤ sizeLine) :
    Inv X pins σ (upd H l (.lst ys)) { s with heap := s.heap.update l (Obj.mapSeq f), toks := t' } := by
  have q := PySem.IsL.update e f
  rw [hf] at q
  refine I.write (x := l) (e := l) (by rw [hH]; exact trivial) (.inl rfl) (fun b' u hb hu => (Heap.get?_update_other s.heap (Obj.mapSeq f) (Ne.symm hb)).trans hu) ⟨_, q⟩ ?_
  exact ⟨hz, its', _, hv, q⟩
theorem Inv.lnew {its : List Value} {t' : Nat} (I : Inv X pins σ H s) (hv : Vals ys its) (hz : ys.length ≤ sizeLine) :
    Inv X pins σ (upd H s.heap.objs.size (.lst ys)) { s with heap := s.heap.push { cls := .type "list", data := .seq its.toArray }, toks := t' } :=
  I.laid (fun _ _ q => Heap.get?_push_of_some _ q) (Nat.le_refl _) ⟨hz, its, 0, hv, Heap.get?_push_size _ rfl⟩
theorem Inv.fresh (I : Inv X pins σ H s) : H s.heap.objs.size = none := I.hok.fresh (Nat.le_refl _)
theorem Inv.lstM (I : Inv X pins σ H s) (hH : H l = some (.lst xs)) : xs.length ≤ sizeLine ∧ ∃ (its : List Value) (n : Nat), Vals xs its ∧ xs.length = its.length ∧ s.heap.get? l = some { cls := .type "list", data := .seq its.toArray n } := by
  obtain ⟨z, its, n, r, e⟩ := I.hok l _ hH
  exact ⟨z, its, n, r, r.length, e⟩
end
section
variable {X : Cx}
def rAppend : V → List V → Hp → VK → Prop := fun x vs H Q => ∃ l xs y, x = .ref l ∧ vs = [y] ∧ H l = some (.lst xs) ∧ xs.length < sizeLine ∧ Q .non (upd H l (.lst (xs ++ [y])))
theorem mt_append : MtM X "list.append" rAppend := by
  intro pins s σ H x vs v us Q I rx rv h
  obtain ⟨l, xs, y, rfl, rfl, hH, hz, q⟩ := h
  cases rx
  obtain ⟨u, rfl, ru⟩ := rv.one
  obtain ⟨z, its, n, r, hl, e⟩ := I.lstM hH
  refine call_meets F.slot_list_append ⟨_, e, rfl⟩ F.entry_list_append (F.args_list_append_2 _ _) (PySem.list_append l its.toArray n u (by rw [List.size_toArray]; omega)) ⟨e, ?_⟩
  refine ⟨.non, _, I.lset (its' := its ++ [u]) hH e (by simp) (r.append (.cons ru .nil)) ?_, rfl, q⟩
  rw [List.length_append, List.length_singleton]
  omega
def rExtend : V → List V → Hp → VK → Prop := fun x vs H Q => ∃ l b xs zs, x = .ref l ∧ vs = [.ref b] ∧ H l = some (.lst xs) ∧ H b = some (.lst zs) ∧ xs.length + zs.length ≤ sizeLine ∧ Q .non (upd H l (.lst (xs ++ zs)))
def rPop : V → List V → Hp → VK → Prop := fun x vs H Q => ∃ l xs y, x = .ref l ∧ vs = [] ∧ H l = some (.lst xs) ∧ xs[xs.length - 1]? = some y ∧ Q y (upd H l (.lst xs.dropLast))
theorem mt_pop : MtM X "list.pop" rPop := by
  intro pins s σ H x vs v us Q I rx rv h
  obtain ⟨l, xs, y, rfl, rfl, hH, hy, q⟩ := h
  cases rx
  have hus := rv.zero
  subst hus
  obtain ⟨z, its, n, r, hl, e⟩ := I.lstM hH
  obtain ⟨u, hu, ru⟩ := r.get hy
  have hy' : its.toArray[its.toArray.size - 1]? = some u := by
    show its.toArray[its.length - 1]? = some u
    rw [← Array.getElem?_toList, ← hl]
    exact hu
  refine call_meets F.slot_list_pop ⟨_, e, rfl⟩ F.entry_list_pop (F.args_list_pop_1 _) (MeetsSeq.list_pop_last l its.toArray n u hy' (by rw [List.size_toArray]; omega)) ⟨e, ?_⟩
  refine ⟨y, _, I.lset (its' := its.dropLast) hH e ?_ r.dropLast ?_, ru, q⟩
  · show its.toArray.eraseIdxIfInBounds (its.toArray.size - 1) = its.dropLast.toArray
    rw [List.size_toArray, List.eraseIdxIfInBounds_toArray, erase_last]
  · rw [List.length_dropLast]
    omega
def rPopAt : V → List V → Hp → VK → Prop := fun x vs H Q => ∃ l xs i k y, x = .ref l ∧ vs = [.int i] ∧ H l = some (.lst xs) ∧ -(2 ^ 63) ≤ i ∧ i < 2 ^ 63 ∧ seqIndex? i xs.length = some k ∧ xs[k]? = some y ∧ Q y (upd H l (.lst (xs.eraseIdx k)))
def rReverse : V → List V → Hp → VK → Prop := fun x vs H Q => ∃ l xs, x = .ref l ∧ vs = [] ∧ H l = some (.lst xs) ∧ Q .non (upd H l (.lst xs.reverse))
def rClear : V → List V → Hp → VK → Prop := fun x vs H Q => ∃ l xs, x = .ref l ∧ vs = [] ∧ H l = some (.lst xs) ∧ Q .non (upd H l (.lst []))
def rCat : R2 := fun x y H Q => ∃ l b xs zs, x = .ref l ∧ y = .ref b ∧ H l = some (.lst xs) ∧ H b = some (.lst zs) ∧ xs.length + zs.length ≤ sizeLine ∧ ∀ p, H p = none → Q (.ref p) (upd H p (.lst (xs ++ zs)))
theorem op_cat : OpR X (binaryOp .Add) rCat := by
  intro pins s σ H x y v u Q I rx ry h
  obtain ⟨l, b, xs, zs, rfl, rfl, hH, hB, hz, q⟩ := h
  cases rx
  cases ry
  obtain ⟨z, its, n, r, hl, e⟩ := I.lstM hH
  obtain ⟨z2, its2, n2, r2, hl2, e2⟩ := I.lstM hB
  refine PySem.P.add_list e e2 ?_ (by rw [List.size_toArray, List.size_toArray]; omega)
  have ea : its.toArray ++ its2.toArray = (its ++ its2).toArray := by simp
  rw [ea]
  exact ⟨.ref _, _, I.lnew (t' := s.toks) (r.append r2) (by rw [List.length_append]; omega), rfl, q _ I.fresh⟩
def rRep : R2 := fun x y H Q => ∃ l k xs, x = .ref l ∧ y = .int k ∧ H l = some (.lst xs) ∧ -(2 ^ 63) ≤ k ∧ k < 2 ^ 63 ∧ xs.length * k.toNat ≤ sizeLine ∧
  ∀ p, H p = none → Q (.ref p) (upd H p (.lst (List.replicate k.toNat xs).flatten))
theorem len_rep {α : Type} (xs : List α) (k : Nat) : (List.replicate k xs).flatten.length = k * xs.length := by
  induction k with
  | zero => simp
  | succ k ih => rw [List.replicate_succ, List.flatten_cons, List.length_append, ih, Nat.succ_mul, Nat.add_comm]
end
section
variable {prog : Program} {w : World} {A : Around} {E : Value → Shared → Prop} {s : Shared}
end
section
variable {X : Cx}
end
end L2
namespace Att
open PySem PySem.W PySem.Calls PyProof.Rows
theorem ints_of_wellAll {P : Params} {h : Heap} : ∀ (ns : List Int) (vs : List Value), WellAll P h vs (ns.map WData.int) → IntsAre vs ns := by
  intro ns
  induction ns with
  | nil =>
    intro vs w
    rw [List.map_nil] at w
    cases w
    exact .nil
  | cons n ns ih =>
    intro vs w
    rw [List.map_cons] at w
    cases w with
    | cons a b =>
      cases a
      exact .cons _ _ (ih _ b)
theorem script_of {l : OpenLaw} {n : Nat} (hn : l.most = some n) {P : Params} {h : Heap} {args : List WData} {vals : List Value}
    (hpre : l.row.toRowW.claim.pre args = true) (hwl : WellAll P h vals args) :
    ∃ a vs ns, vals = [Value.ref a] ∧ args = [WData.list (ns.map WData.int)] ∧ h.get? a = some { cls := .type "list", data := .seq vs.toArray } ∧ IntsAre vs ns ∧ ns.length ≤ n := by
  have hsh : WShape.hasAll [] args [.list .int] = true := (pre_splitW hpre).1
  have hc : l.pre.holds [] { args := args } = true := (pre_splitW hpre).2
  obtain ⟨d, r, rfl, h1, h2⟩ := hasAllW_cons hsh
  obtain rfl := hasAllW_nil h2
  obtain ⟨xs, rfl, h3⟩ := hasW_list h1
  obtain ⟨ns, rfl⟩ := items_int h3
  have hlen : ns.length ≤ n := by
    unfold OpenLaw.pre at hc
    have h4 : (WTm.not (.lt (.lit (.int (n : Int))) (.len (.arg 0)))).holds [] { args := [.list (ns.map .int)] } = true := by
      have h4 := (holds_andW hc).1
      rw [hn] at h4
      exact h4
    have h5 := condW_of h4 (w_not (w_lt w_lit (w_len_list (w_arg rfl))))
    rw [List.length_map] at h5
    refine Nat.le_of_not_lt fun q => ?_
    have q' : (n : Int) < ((ns.length : Nat) : Int) := by omega
    first
      | (rw [decide_eq_true q'] at h5; exact absurd h5 (by decide))
      | (simp at h5; omega)
  cases hwl with
  | cons w1 w2 =>
    cases w2
    cases w1 with
    | list ho hall => exact ⟨_, _, ns, rfl, rfl, ho, ints_of_wellAll ns _ hall, hlen⟩
theorem post_true (l : OpenLaw) (args : List WData) : l.row.toRowW.claim.post args (.bool true) args = true :=
  postW_of (r := l.row.toRowW) (X := (true == true))
    (show WShape.has [] (.bool true) .bool = true by first | rfl | decide | simp [WShape.has, WShape.arms, WShape.armsAll])
    (show (WTm.eq .res (.lit (.bool true))).value [] { args := args, res := some (.bool true), after := args } = some (.bool (true == true)) from w_eq_bool (w_res rfl) w_lit) rfl
theorem attach_call {l : OpenLaw} {n : Nat} {q : Program} {loose : List Str} {XP : (Str → Option Value) → Heap → Prop} {YP : World → Heap → Prop} {d : DefRec}
    (hn : l.most = some n) (hdf : d.params.defaults = [])
    (call : ∀ (w : World) (s₀ s₁ : Shared) (mg mb : Str → Option Value) (fa : Addr) (o : Obj) (pm cd doc : Value) (a : Addr) (vs : List Value) (ns : List Int),
      Ground q loose [] XP w s₀ mg mb s₁.heap → YP w s₁.heap →
      s₁.heap.get? fa = some o → o.data = .func (docDef d.name d.params d.body d.scope pm cd doc) → s₁.heap.CodeRec cd d.name → mg d.name = some (.ref fa) →
      s₁.heap.get? a = some { cls := .type "list", data := .seq vs.toArray } → IntsAre vs ns → ns.length ≤ n → s₁.gens = #[] →
      codeAny (model l.prog w) callerA (.call (.ref fa) ⟨[.ref a], []⟩) (fun r s' => r = .ok (.ret (.bool true)) ∧ OldK s₁.heap s'.heap ∧ s'.os = s₁.os ∧ AllBare s'.gens) s₁) :
    WalkO q loose XP YP l.row.toRowW d [] (fun f vs => PySem.call f vs) := by
  intro w s₀ s₁ mg mb G Y fa o pm cd doc dV kV ho hd hcd hD hmg hg args vals as hpre hlay hrd hwl hlo
  obtain rfl : dV = .none := Dflts.none hD hdf
  obtain rfl : kV = .none := Dflts.noKw hD
  obtain ⟨a, vs, ns, rfl, rfl, hobj, hints, hlen⟩ := script_of hn hpre hwl
  refine enter_call (codeAny_mono (call w s₀ s₁ mg mb fa o pm cd doc a vs ns G Y ho (fd_plain hd) hcd hmg hobj hints hlen hg) fun r s' hq => ?_)
  obtain ⟨rfl, h2, h3, h4⟩ := hq
  exact ⟨.inl ⟨.bool true, .bool true, [], rfl, fun _ => rfl, .bool true, post_true l _, fun _ => ⟨List.Pairwise.nil, fun _ hm => (nomatch hm)⟩⟩, h2, h3, h4⟩
section
variable {prog : Program} {w : World} {A : Around} {E : Value → Shared → Prop} {s : Shared} {K : Frag}
def noObjs (h : Heap) : Heap := { h with objs := #[] }
def ledger (h : Heap) (L d : Addr) : List (Addr × Obj) := (List.range h.objs.size).filterMap fun a => if a = L ∨ a = d then none else (h.get? a).map fun o => (a, o)
end
end Att
namespace L2
open PySem PySem.Spec PyProof.Rows
theorem vals_ints : ∀ {vs : List Value} {ns : List Int}, IntsAre vs ns → Vals (ns.map V.int) vs
  | _, _, .nil => .nil
  | _, _, .cons n t h => .cons ⟨t, rfl⟩ (vals_ints h)
def Only (H : Hp) : Prop := ∀ b, H b = none ∨ ∃ o xs, H b = some (.frz o (.lst xs))
theorem law_call {P : Program} {w : World} {K : PySem.W.Frag} {mg mb : Str → Option Value} {CX : CXT} {k : Nat} {fa a : Addr} {fd : FuncData} {x : Str} {sp : Sp} {s₁ : Shared} {vs : List Value} {ns : List Int}
    (KX : K.In s₁.heap) (hns : s₁.heap.Ns mainGlobals mg) (hb : s₁.heap.Ns builtinsNs mb) (hbb : ∀ x : Str, x ≠ "__name__" → mb x = bootBuiltins x) (hlim : s₁.heap.NoLimit) (hg : s₁.gens = #[])
    (ha : s₁.heap.get? a = some { cls := .type "list", data := .seq vs.toArray }) (hi : IntsAre vs ns) (hl : ns.length ≤ sizeLine) (hr : Room k callerA)
    (F : ∀ base : Heap, K.In base → base.Ns mainGlobals mg → FnOk P w K mg base CX k fa fd [x] sp) (hbind : ∀ (s : Shared) (u : Value), BindsTo s fd ⟨[u], []⟩ [(x, u)])
    (hsp : ∀ H : Hp, Only H → SqL K H a (ns.map V.int) → sp [.ref a] H (fun v _ => v = .bl true) fun _ _ _ => False)
    (hCX : ∀ H e s', CX [] H s₁ (fun _ _ _ => False) e s' → False) :
    codeAny (model P w) callerA (.call (.ref fa) ⟨[.ref a], []⟩) (fun r s' => r = .ok (.ret (.bool true)) ∧ OldK s₁.heap s'.heap ∧ s'.os = s₁.os ∧ AllBare s'.gens) s₁ := by
  have rv := vals_ints hi
  have lenV := hi.length
  -- from an abstract heap in which nothing but the script may be tracked
  have core : ∀ H : Hp, Only H → SqL K H a (ns.map V.int) → HOk P w H s₁.heap → (∀ b, H b ≠ none → b = a) → (H a ≠ none → K.lookup a = none) →
      codeAny (model P w) callerA (.call (.ref fa) ⟨[.ref a], []⟩) (fun r s' => r = .ok (.ret (.bool true)) ∧ OldK s₁.heap s'.heap ∧ s'.os = s₁.os ∧ AllBare s'.gens) s₁ := by
    intro H hO hS hok hA hK
    have base_of : ∀ {b : Addr} {o : Obj}, s₁.heap.get? b = some o → H b = none → (hidT s₁.heap H).get? b = some o := fun e n => hidT_get e n
    have noA : ∀ {b : Addr} {o : Obj} {es : Array DictEntry} {ep : Nat}, s₁.heap.get? b = some o → o.data = .dict es ep → H b = none := fun {b o es ep} e d => by
      cases q : H b with
      | none => rfl
      | some u =>
        have e' : b = a := hA b (by rw [q]; simp)
        subst e'
        rw [ha] at e; cases e
        have d' : Data.seq vs.toArray _ = Data.dict es ep := d
        cases d'
    have nsK : ∀ {b : Addr} {m : Str → Option Value}, s₁.heap.Ns b m → (hidT s₁.heap H).Ns b m := fun {b m} ⟨o, es, ep, e, d, r⟩ => ⟨o, es, ep, base_of e (noA e d), d, r⟩
    have hKb : K.In (hidT s₁.heap H) := fun b o e => base_of (KX b o e) (by
      cases q : H b with
      | none => rfl
      | some u =>
        have e' : b = a := hA b (by rw [q]; simp)
        subst e'
        rw [hK (by rw [q]; simp)] at e; cases e)
    have hM : Mod K mg (hidT s₁.heap H) := ⟨hKb, nsK hns, ⟨mb, nsK hb, hbb⟩, let ⟨mc, h1, h2⟩ := hlim; ⟨mc, nsK h1, h2⟩⟩
    have e0 : Env0 P w K mg (hidT s₁.heap H) callerA [] s₁ H := ⟨rfl, hM, fun b o e => of_hidT e, Nat.le_of_eq (hidT_size _ _), trivial, fun b hb => absurd (show b ∈ ([] : List Addr) from hb) (by simp), hok, .of_eq hg⟩
    refine codeAny_mono ((F _ hKb (nsK hns)).run callerA [] s₁ H ⟨[.ref a], []⟩ [.ref a] [.ref a] _ _ hr e0 (hbind s₁ (.ref a)) (.cons rfl .nil) (hsp H hO hS)) fun r s' h => ?_
    cases r with
    | error e => exact (hCX H e s' h).elim
    | ok fl =>
      cases fl with
      | next => exact False.elim h
      | brk => exact False.elim h
      | cont => exact False.elim h
      | ret u =>
        obtain ⟨v, H', os, bare, un, hok', r', q⟩ := h
        have q' : v = .bl true := q
        subst q'
        obtain rfl : u = Value.bool true := r'
        refine ⟨rfl, OldK.of_keep fun b o e => ?_, os, bare⟩
        cases q : H b with
        | none => exact un.keep b o e q (by intro z; exact absurd (show b ∈ ([] : List Addr) from z) (by simp)) (by simp)
        | some u =>
          rcases hO b with z | ⟨ob, xs, z⟩
          · rw [q] at z; cases z
          · have z2 := un.frzs b ob _ z
            obtain ⟨e1, _⟩ := hok b _ z
            obtain ⟨e2, _⟩ := hok' b _ z2
            rw [e] at e1; cases e1
            exact e2
  cases hk : K.lookup a with
  | some o =>
    -- the script is one of the module's own objects
    have e := KX a o hk
    rw [ha] at e
    cases e
    refine core (fun _ => none) (fun _ => .inl rfl) (.inr ⟨_, vs.toArray, _, hk, rfl, rfl, rfl, by rw [List.size_toArray, lenV]; exact hl, by simpa using rv⟩) (fun b u z => by have z' : (none : Option HO) = some u := z; cases z') (fun b z => absurd rfl z) fun z => absurd rfl z
  | none =>
    refine core (fun b => if b = a then some (.frz { cls := .type "list", data := .seq vs.toArray } (.lst (ns.map V.int))) else none) (fun b => ?_) (.inl (.inr ⟨{ cls := .type "list", data := .seq vs.toArray }, if_pos rfl⟩)) (fun b u z => ?_) (fun b z => ?_) fun _ => hk
    · by_cases hb : b = a
      · exact .inr ⟨_, _, if_pos hb⟩
      · exact .inl (if_neg hb)
    · by_cases hb : b = a
      · have z' := (if_pos hb).symm.trans z
        cases z'
        subst hb
        exact ⟨ha, by rw [List.length_map]; exact hl, vs, _, rv, ha⟩
      · have z' := (if_neg hb).symm.trans z
        cases z'
    · by_cases hb : b = a
      · exact hb
      · exact absurd (if_neg hb) z
end L2
namespace L2
open PySem PySem.Spec PyProof.Rows
abbrev KOf {K : PySem.W.Frag} {h : Heap} (_ : K.In h) : PySem.W.Frag := K
theorem walk_of {l : PySem.W.OpenLaw} {n k : Nat} {q : Program} {loose : List Str} {XP : (Str → Option Value) → Heap → Prop} {YP : World → Heap → Prop} {d : DefRec} {K : Params → PySem.W.Frag} {CX : World → CXT} {sp : World → Sp} {x : Str}
    (hn : l.most = some n) (hn2 : n ≤ sizeLine) (hdf : d.params.defaults = []) (hr : Room k callerA)
    (hY : ∀ (w : World) (h : Heap), YP w h → (K w.params).In h)
    (F : ∀ (w : World) (mg : Str → Option Value) (fa : Addr) (h : Heap), (K w.params).In h → h.Ns mainGlobals mg → mg d.name = some (.ref fa) →
      ∃ fd : FuncData, (∀ (s : Shared) (u : Value), BindsTo s fd ⟨[u], []⟩ [(x, u)]) ∧
        ∀ base : Heap, (K w.params).In base → base.Ns mainGlobals mg → FnOk l.prog w (K w.params) mg base (CX w) k fa fd [x] (sp w))
    (hsp : ∀ (w : World) (H : Hp) (a : Addr) (ns : List Int), ns.length ≤ n → Only H → SqL (K w.params) H a (ns.map V.int) → sp w [.ref a] H (fun v _ => v = .bl true) fun _ _ _ => False)
    (hCX : ∀ (w : World) (H : Hp) (s : Shared) (e : Value) (s' : Shared), CX w [] H s (fun _ _ _ => False) e s' → False) :
    PySem.W.WalkO q loose XP YP l.row.toRowW d [] (fun f vs => PySem.call f vs) := by
  refine Att.attach_call hn hdf fun w s₀ s₁ mg mb fa o pm cd doc a vs ns G Y ho hd hcd hmg hobj hints hlen hg => ?_
  have KX := hY w _ Y
  obtain ⟨fd, hb, hF⟩ := F w mg fa _ KX G.T.g hmg
  exact law_call KX G.T.g G.T.b G.T.builtins G.T.nolimit hg hobj hints (Nat.le_trans hlen hn2) hr hF hb (fun H hO hS => hsp w H a ns hlen hO hS) fun H e s' => hCX w H s₁ e s'
end L2
namespace L2
open PySem PySem.Spec PyProof.Rows
def inClass (s : Stmt) (j : Nat) : Stmt := match s with
  | .ClassDef _ _ _ body _ _ _ _ _ _ _ => body.getD j (.Pass ⟨0, 0, 0, 0⟩)
  | _ => .Pass ⟨0, 0, 0, 0⟩
def defArgs (s : Stmt) : Arguments := match s with
  | .FunctionDef _ a _ _ _ _ _ _ _ _ => a
  | _ => { posonlyargs := [], args := [], vararg := none, kwonlyargs := [], kw_defaults := [], kwarg := none, defaults := [] }
def defBody (s : Stmt) : List Stmt := match s with
  | .FunctionDef _ _ b _ _ _ _ _ _ _ => b
  | _ => []
def defScope (s : Stmt) : Scope := match s with
  | .FunctionDef _ _ _ _ _ _ sc _ _ _ => sc
  | _ => { kind := .function, names := [], isGenerator := false, isCoroutine := false }
abbrev CX0 : CXT := fun _ _ _ _ _ _ => False
abbrev E0 : XK := fun _ _ _ => False
theorem pass0 {X : Cx} : Passes CX0 X E0 := fun _ _ _ _ _ _ _ h => h.elim
structure Fun (K : PySem.W.Frag) (x qual : Str) (st : Stmt) (f : Addr) (fd : FuncData) : Prop where
  ex : ∃ (oc : Value) (od : Option Addr) (kV doc pm : Value) (an : Option Addr) (cdv ct : Value) (osl : Array (Option Value)),
    fd = PySem.W.fnOf x qual (defArgs st) (defBody st) (defScope st) .none kV doc pm an cdv ct ∧ K.lookup f = some ⟨oc, od, .func fd, osl⟩ ∧ PySem.W.codeIn K cdv qual = true
  kp : PySem.W.keepIn K (.ref f) = true
section
variable {P : Program} {w : World} {K : PySem.W.Frag} {mg : Str → Option Value} {base : Heap}
theorem Fun.ok {x qual : Str} {st : Stmt} {f : Addr} {fd : FuncData} {N ps : List Str} {k : Nat} {sp : Sp} (F : Fun K x qual st f fd) (S : FnScope N ps (defScope st)) (len : ∀ vs H Q E, sp vs H Q E → vs.length = ps.length)
    (hbody : ∀ (cdv : Value) (A : Around) (outer : List Env) (s : Shared) (H : Hp) (vs : List V) (Q : VK) (E : XK), Room k (A.deeper (envOfC qual (defScope st) s.heap.objs.size f cdv)) → sp vs H Q E →
      ∃ t, PSs (cxOf CX0 P w K mg base N qual (defScope st) f cdv A outer s H E).nox (defBody st) t ∧ t { nx := fun _ H' => Q .non H', rt := Q } (start N vs) H) : FnOk P w K mg base CX0 (k + 1) f fd ps sp := by
  obtain ⟨oc, od, kV, doc, pm, an, cdv, ct, osl, rfl, lk, hcd⟩ := F.ex
  refine fn_of lk hcd S len fun A outer s H vs Q E hr hsp => ?_
  obtain ⟨t, h, q⟩ := hbody cdv A outer s H vs Q E hr hsp
  exact ⟨t, h.nox, q⟩
theorem Fun.binds {x qual : Str} {st : Stmt} {f : Addr} {fd : FuncData} {ps : List Str} (F : Fun K x qual st f fd)
    (h : ∀ (kV doc pm : Value) (an : Option Addr) (cdv ct : Value) (us : List Value), us.length = ps.length → bindArgs (PySem.W.fnOf x qual (defArgs st) (defBody st) (defScope st) .none kV doc pm an cdv ct) ⟨us, []⟩ = pure (ps.zip us)) : Binds K fd ps [] := by
  obtain ⟨oc, od, kV, doc, pm, an, cdv, ct, osl, rfl, lk, hcd⟩ := F.ex
  exact .all (h kV doc pm an cdv ct)
theorem fun_mk {x qual : Str} {st : Stmt} {f : Addr} {oc : Value} {od an : Option Addr} {osl : Array (Option Value)} {kV doc pm cdv ct : Value} (l : K.lookup f = some ⟨oc, od, .func (PySem.W.fnOf x qual (defArgs st) (defBody st) (defScope st) .none kV doc pm an cdv ct), osl⟩)
    (c : PySem.W.codeIn K cdv qual = true) (k : PySem.W.keepIn K (.ref f) = true) : Fun K x qual st f (PySem.W.fnOf x qual (defArgs st) (defBody st) (defScope st) .none kV doc pm an cdv ct) := ⟨⟨oc, od, kV, doc, pm, an, cdv, ct, osl, rfl, l, c⟩, k⟩
end
theorem small1000 {n : Nat} (h : n ≤ 1000) : n < sizeLine := Nat.lt_of_le_of_lt h (by decide)
section
variable {X : Cx}
end
theorem iteF {A B : Prop} (h : B) : if false = true then A else B := by
  rw [if_neg Bool.false_ne_true]
  exact h
theorem iteT {A B : Prop} (h : A) : if true = true then A else B := by
  rw [if_pos rfl]
  exact h
def Same (H H' : Hp) : Prop := ∀ b o, H b = some o → H' b = some o
theorem Same.refl (H : Hp) : Same H H := fun _ _ h => h
theorem Same.trans {H H1 H2 : Hp} (a : Same H H1) (b : Same H1 H2) : Same H H2 := fun c o h => b c o (a c o h)
theorem Same.free {H H' : Hp} (e : Same H H') {l : Addr} (h : H' l = Option.none) : H l = Option.none := by
  cases q : H l with
  | none => rfl
  | some o =>
    rw [e l o q] at h
    cases h
theorem Same.seq {K : PySem.W.Frag} {H H' : Hp} {a : Addr} {xs : List V} (e : Same H H') (h : SqL K H a xs) : SqL K H' a xs := by
  rcases h with (h | ⟨o, h⟩) | h
  · exact .inl (.inl (e _ _ h))
  · exact .inl (.inr ⟨o, e _ _ h⟩)
  · exact .inr h
end L2
set_option Elab.async false
set_option linter.all false
set_option maxRecDepth 100000
namespace DL
open PySem PySem.Spec PyProof.Rows L2
inductive D where
  | non | bl (b : Bool) | int (i : Int) | str (x : Str) | tup (xs : List D) | lst (xs : List D) | scr (xs : List D) | ptr (n : Nat) | ty (n : String) | fn (a : Addr) | dct (ks : List Key) (xs : List D)
structure Wd where
  g : Hp
  l : List Addr
structure Ext (G G' : Wd) : Prop where
  g : Same G.g G'.g
  l : ∃ t, G'.l = G.l ++ t
theorem Ext.refl (G : Wd) : Ext G G := ⟨Same.refl _, [], (List.append_nil _).symm⟩
theorem Ext.trans {G G' G'' : Wd} (a : Ext G G') (b : Ext G' G'') : Ext G G'' := ⟨a.g.trans b.g, by
  obtain ⟨t, e⟩ := a.l; obtain ⟨u, e'⟩ := b.l; exact ⟨t ++ u, by rw [e', e, List.append_assoc]⟩⟩
theorem Ext.at {G G' : Wd} {n : Nat} {a : Addr} (e : Ext G G') (h : G.l[n]? = some a) : G'.l[n]? = some a := by
  obtain ⟨t, e⟩ := e.l
  rw [e, List.getElem?_append_left (List.getElem?_eq_some_iff.mp h).1, h]
mutual
inductive Is (K : PySem.W.Frag) (G : Wd) : D → V → Prop
  | non : Is K G .non .non
  | bl (b : Bool) : Is K G (.bl b) (.bl b)
  | int (i : Int) : Is K G (.int i) (.int i)
  | str (x : Str) : Is K G (.str x) (.str x)
  | tup {a : Addr} {ds : List D} {vs : List V} (h : SqT K G.g a vs) (r : Iss K G ds vs) : Is K G (.tup ds) (.ref a)
  | lst {a : Addr} {ds : List D} {vs : List V} (h : G.g a = some (.lst vs)) (r : Iss K G ds vs) : Is K G (.lst ds) (.ref a)
  | scr {a : Addr} {ds : List D} {vs : List V} (h : SqL K G.g a vs) (r : Iss K G ds vs) : Is K G (.scr ds) (.ref a)
  | ptr {a : Addr} (n : Nat) (h : G.l[n]? = some a) : Is K G (.ptr n) (.ref a)
  | ty (n : String) : Is K G (.ty n) (.ty n)
  | fn (a : Addr) : Is K G (.fn a) (.ref a)
  | dct {a : Addr} {ks : List Key} {ds : List D} {vs : List V} {ob : Obj} (h : G.g a = some (.frz ob (.dK (ks.zip vs)))) (hl : ks.length = vs.length) (r : Iss K G ds vs) : Is K G (.dct ks ds) (.ref a)
inductive Iss (K : PySem.W.Frag) (G : Wd) : List D → List V → Prop
  | nil : Iss K G [] []
  | cons {d : D} {v : V} {ds : List D} {vs : List V} (h : Is K G d v) (r : Iss K G ds vs) : Iss K G (d :: ds) (v :: vs)
end
theorem sqT_same {K : PySem.W.Frag} {H H' : Hp} {a : Addr} {xs : List V} (e : Same H H') (h : SqT K H a xs) : SqT K H' a xs := by
  rcases h with (h | ⟨o, h⟩) | h
  · exact .inl (.inl (e _ _ h))
  · exact .inl (.inr ⟨o, e _ _ h⟩)
  · exact .inr h
mutual
theorem Is.ext {K : PySem.W.Frag} {G G' : Wd} (e : Ext G G') : ∀ {d : D} {v : V}, Is K G d v → Is K G' d v
  | _, _, .non => .non
  | _, _, .bl b => .bl b
  | _, _, .int i => .int i
  | _, _, .str x => .str x
  | _, _, .tup h r => .tup (sqT_same e.g h) (Iss.ext e r)
  | _, _, .lst h r => .lst (e.g _ _ h) (Iss.ext e r)
  | _, _, .scr h r => .scr (e.g.seq h) (Iss.ext e r)
  | _, _, .ptr n h => .ptr n (e.at h)
  | _, _, .ty n => .ty n
  | _, _, .fn n => .fn n
  | _, _, .dct h hl r => .dct (e.g _ _ h) hl (Iss.ext e r)
theorem Iss.ext {K : PySem.W.Frag} {G G' : Wd} (e : Ext G G') : ∀ {ds : List D} {vs : List V}, Iss K G ds vs → Iss K G' ds vs
  | _, _, .nil => .nil
  | _, _, .cons h r => .cons (Is.ext e h) (Iss.ext e r)
end
section
variable {K : PySem.W.Frag} {G G' : Wd}
theorem Iss.length : ∀ {ds : List D} {vs : List V}, Iss K G ds vs → ds.length = vs.length
  | _, _, .nil => rfl
  | _, _, .cons _ r => by rw [List.length_cons, List.length_cons, r.length]
theorem Iss.append : ∀ {ds es : List D} {vs us : List V}, Iss K G ds vs → Iss K G es us → Iss K G (ds ++ es) (vs ++ us)
  | _, _, _, _, .nil, q => q
  | _, _, _, _, .cons h r, q => .cons h (Iss.append r q)
theorem Iss.get : ∀ {ds : List D} {vs : List V} {i : Nat} {d : D}, Iss K G ds vs → ds[i]? = some d → ∃ v, vs[i]? = some v ∧ Is K G d v
  | _, _, _, _, .nil, e => by simp at e
  | _, _, 0, _, .cons h r, e => by simp at e; subst e; exact ⟨_, rfl, h⟩
  | _, _, i + 1, d, .cons h r, e => by
    obtain ⟨v, e1, h1⟩ := Iss.get (i := i) (d := d) r (by simpa using e)
    exact ⟨v, by simpa using e1, h1⟩
theorem Iss.getV : ∀ {ds : List D} {vs : List V} {i : Nat} {v : V}, Iss K G ds vs → vs[i]? = some v → ∃ d, ds[i]? = some d ∧ Is K G d v
  | _, _, _, _, .nil, e => by simp at e
  | _, _, 0, _, .cons h r, e => by simp at e; subst e; exact ⟨_, rfl, h⟩
  | _, _, i + 1, d, .cons h r, e => by
    obtain ⟨v, e1, h1⟩ := Iss.getV (i := i) (v := d) r (by simpa using e)
    exact ⟨v, by simpa using e1, h1⟩
theorem Iss.take : ∀ {ds : List D} {vs : List V} (n : Nat), Iss K G ds vs → Iss K G (ds.take n) (vs.take n)
  | _, _, 0, _ => .nil
  | _, _, _ + 1, .nil => .nil
  | _, _, n + 1, .cons h r => .cons h (Iss.take n r)
theorem Iss.set {d : D} {v : V} (q : Is K G d v) : ∀ {ds : List D} {vs : List V} (i : Nat), Iss K G ds vs → Iss K G (ds.set i d) (vs.set i v)
  | _, _, _, .nil => .nil
  | _, _, 0, .cons _ r => .cons q r
  | _, _, i + 1, .cons h r => .cons h (Iss.set q i r)
theorem Iss.ints : ∀ {ns : List Int}, Iss K G (ns.map D.int) (ns.map V.int)
  | [] => .nil
  | n :: ns => .cons (.int n) (Iss.ints (ns := ns))
theorem Iss.toInts : ∀ {ns : List Int} {vs : List V}, Iss K G (ns.map D.int) vs → vs = ns.map V.int
  | [], _, .nil => rfl
  | n :: ns, _, .cons h r => by cases h; rw [Iss.toInts r]; rfl
end
inductive MO where
  | lst (xs : List D)
  | ins (C : Addr) (fs : List (Str × D))
  
  | exc (C : Addr) (fs : List (Str × D))
  
  | dct (ks : List Key) (xs : List D)
abbrev Sto := List (Option MO)
inductive FsIs (K : PySem.W.Frag) (G : Wd) : List (Str × D) → List (Str × V) → Prop
  | nil : FsIs K G [] []
  | cons {f : Str} {d : D} {v : V} {fs : List (Str × D)} {vs : List (Str × V)} (h : Is K G d v) (r : FsIs K G fs vs) : FsIs K G ((f, d) :: fs) ((f, v) :: vs)
theorem FsIs.ext {K : PySem.W.Frag} {G G' : Wd} (e : Ext G G') : ∀ {fs : List (Str × D)} {vs : List (Str × V)}, FsIs K G fs vs → FsIs K G' fs vs
  | _, _, .nil => .nil
  | _, _, .cons h r => .cons (h.ext e) (FsIs.ext e r)
def MOk (K : PySem.W.Frag) (G : Wd) (H : Hp) (p : Addr) : MO → Prop
  | .lst xs => ∃ vs, H p = some (.lst vs) ∧ Iss K G xs vs
  | .ins C fs => ∃ dx vs, H p = some (.ins C dx vs) ∧ FsIs K G fs vs
  | .exc C fs => ∃ ob, H p = some (.ext fun h => h.get? p = some ob) ∧ (ob.cls = .ref C ∧ ∃ ws, ob.data = .fields ws) ∧ (fs = [] ∨ ∃ dx vs, ob.dict = some dx ∧ G.g dx = some (.xd vs) ∧ FsIs K G fs vs)
  | .dct ks xs => ∃ vs, H p = some (.dK (ks.zip vs)) ∧ ks.length = vs.length ∧ Iss K G xs vs
structure SA (K : PySem.W.Frag) (G : Wd) (H : Hp) (O : Sto) : Prop where
  sub : Same G.g H
  len : G.l.length = O.length
  nd : G.l.Nodup
  liv : ∀ a ∈ G.l, ∃ o, H a = some o
  mt : ∀ (n : Nat) (m : MO), O[n]? = some (some m) → ∃ a, G.l[n]? = some a ∧ G.g a = none ∧ MOk K G H a m
section
variable {K : PySem.W.Frag} {G G' : Wd} {H H' : Hp} {O : Sto}
theorem MOk.ext {p : Addr} {m : MO} (e : Ext G G') (q : H' p = H p) (h : MOk K G H p m) : MOk K G' H' p m := by
  cases m with
  | lst xs => obtain ⟨vs, h1, h2⟩ := h; exact ⟨vs, by rw [q]; exact h1, h2.ext e⟩
  | ins C fs => obtain ⟨dx, vs, h1, h2⟩ := h; exact ⟨dx, vs, by rw [q]; exact h1, h2.ext e⟩
  | exc C fs =>
    obtain ⟨ob, h1, h2, h3⟩ := h
    refine ⟨ob, by rw [q]; exact h1, h2, h3.imp id ?_⟩
    rintro ⟨dx, vs, a1, a2, a3⟩
    exact ⟨dx, vs, a1, e.g _ _ a2, a3.ext e⟩
  | dct ks xs => obtain ⟨vs, h1, hl, h2⟩ := h; exact ⟨vs, by rw [q]; exact h1, hl, h2.ext e⟩
theorem MOk.some {p : Addr} {m : MO} (h : MOk K G H p m) : ∃ o, H p = some o := by
  cases m with
  | lst xs => obtain ⟨vs, h1, h2⟩ := h; exact ⟨_, h1⟩
  | ins C fs => obtain ⟨dx, vs, h1, h2⟩ := h; exact ⟨_, h1⟩
  | exc C fs => obtain ⟨ob, h1, _⟩ := h; exact ⟨_, h1⟩
  | dct ks xs => obtain ⟨vs, h1, _⟩ := h; exact ⟨_, h1⟩
theorem SA.free {p : Addr} (s : SA K G H O) (h : H p = none) : G.g p = none := s.sub.free h
theorem SA.grow (s : SA K G H O) (e : Same H H') : SA K G H' O :=
  ⟨s.sub.trans e, s.len, s.nd, fun a ha => let ⟨o, h⟩ := s.liv a ha; ⟨o, e _ _ h⟩, fun n m h => by
    obtain ⟨a, h1, h2, h3⟩ := s.mt n m h
    obtain ⟨o, h4⟩ := h3.some
    exact ⟨a, h1, h2, h3.ext (Ext.refl _) (by rw [h4, e _ _ h4])⟩⟩
theorem same_upd {p : Addr} {o : HO} (h : H p = none) : Same H (upd H p o) := fun b u q => by
  rw [upd_ne]; exact q
  rintro rfl; rw [h] at q; cases q
theorem SA.laid {p : Addr} {o : HO} (s : SA K G H O) (h : H p = none) : Ext G ⟨upd G.g p o, G.l⟩ ∧ SA K ⟨upd G.g p o, G.l⟩ (upd H p o) O := by
  have e : Ext G ⟨upd G.g p o, G.l⟩ := ⟨same_upd (s.free h), [], (List.append_nil _).symm⟩
  refine ⟨e, ⟨fun b u q => ?_, s.len, s.nd, fun a ha => let ⟨o, q⟩ := s.liv a ha; ⟨o, same_upd h _ _ q⟩, fun n m hq => ?_⟩⟩
  · by_cases hb : b = p
    · subst hb
      have q : upd G.g b o b = some u := q
      rw [upd_same] at q; rw [upd_same]; exact q
    · have q : upd G.g p o b = some u := q
      rw [upd_ne hb] at q ⊢; exact s.sub b u q
  · obtain ⟨a, h1, h2, h3⟩ := s.mt n m hq
    have ne : a ≠ p := by
      rintro rfl; obtain ⟨o, h4⟩ := h3.some; rw [h] at h4; cases h4
    exact ⟨a, h1, by show upd G.g p o a = none; rw [upd_ne ne]; exact h2, h3.ext e (upd_ne ne)⟩
theorem SA.new {p : Addr} {o : HO} {m : MO} (s : SA K G H O) (h : H p = none) (r : MOk K ⟨G.g, G.l ++ [p]⟩ (upd H p o) p m) : Ext G ⟨G.g, G.l ++ [p]⟩ ∧ SA K ⟨G.g, G.l ++ [p]⟩ (upd H p o) (O ++ [some m]) := by
  have e : Ext G ⟨G.g, G.l ++ [p]⟩ := ⟨Same.refl _, [p], rfl⟩
  have hp : p ∉ G.l := fun z => by obtain ⟨o, q⟩ := s.liv p z; rw [h] at q; cases q
  refine ⟨e, ⟨s.sub.trans (same_upd h), ?_, ?_, ?_, ?_⟩⟩
  · simp [s.len]
  · exact List.nodup_append.mpr ⟨s.nd, List.nodup_cons.mpr ⟨List.not_mem_nil, List.nodup_nil⟩, fun a ha b hb => by
      rw [List.mem_singleton] at hb; subst hb; rintro rfl; exact hp ha⟩
  · intro a ha
    rcases List.mem_append.mp ha with ha | ha
    · obtain ⟨u, q⟩ := s.liv a ha; exact ⟨u, same_upd h _ _ q⟩
    · rw [List.mem_singleton] at ha; subst ha; exact ⟨_, upd_same⟩
  · intro n m' hq
    by_cases hn : n < O.length
    · rw [List.getElem?_append_left hn] at hq
      obtain ⟨a, h1, h2, h3⟩ := s.mt n m' hq
      have ne : a ≠ p := by rintro rfl; exact hp (List.mem_of_getElem? h1)
      exact ⟨a, e.at h1, h2, h3.ext e (upd_ne ne)⟩
    · have e1 : n = O.length := by
        have := (List.getElem?_eq_some_iff.mp hq).1
        rw [List.length_append, List.length_singleton] at this
        omega
      subst e1
      rw [List.getElem?_append_right (Nat.le_refl _), Nat.sub_self] at hq
      cases hq
      exact ⟨p, by show (G.l ++ [p])[O.length]? = _; rw [← s.len, List.getElem?_append_right (Nat.le_refl _), Nat.sub_self]; rfl, s.free h, r⟩
theorem SA.put {n : Nat} {p : Addr} {o : HO} {m m' : MO} (s : SA K G H O) (h : O[n]? = some (some m)) (hp : G.l[n]? = some p) (r : MOk K G (upd H p o) p m') : SA K G (upd H p o) (O.set n (some m')) := by
  obtain ⟨a, h1, h2, h3⟩ := s.mt n m h
  obtain rfl : p = a := Option.some.inj (hp.symm.trans h1)
  refine ⟨fun b u q => ?_, by simp [s.len], s.nd, fun b hb => ?_, fun k m2 hk => ?_⟩
  · rw [upd_ne]; exact s.sub b u q
    rintro rfl; rw [h2] at q; cases q
  · by_cases hbp : b = p
    · subst hbp; exact ⟨_, upd_same⟩
    · obtain ⟨u, q⟩ := s.liv b hb; exact ⟨u, by rw [upd_ne hbp]; exact q⟩
  · by_cases hkn : n = k
    · subst hkn
      rw [List.getElem?_set_self (List.getElem?_eq_some_iff.mp h).1] at hk
      cases hk
      exact ⟨p, hp, h2, r⟩
    · rw [List.getElem?_set_ne hkn] at hk
      obtain ⟨b, g1, g2, g3⟩ := s.mt k m2 hk
      have ne : b ≠ p := by
        rintro rfl
        exact hkn ((List.getElem?_inj (List.getElem?_eq_some_iff.mp hp).1 s.nd).mp (hp.trans g1.symm))
      exact ⟨b, g1, g2, g3.ext (Ext.refl _) (upd_ne ne)⟩
end
abbrev Rho := List (Option D)
structure EnvR (K : PySem.W.Frag) (G : Wd) (σ : L2.St) (ρ : Rho) : Prop where
  len : σ.length = ρ.length
  get : ∀ (i : Nat) (d : D), ρ[i]? = some (some d) → ∃ v, σ[i]? = some (some v) ∧ Is K G d v
theorem EnvR.ext {K : PySem.W.Frag} {G G' : Wd} {σ : L2.St} {ρ : Rho} (e : Ext G G') (h : EnvR K G σ ρ) : EnvR K G' σ ρ :=
  ⟨h.len, fun i d q => let ⟨v, h1, h2⟩ := h.get i d q; ⟨v, h1, h2.ext e⟩⟩
theorem EnvR.set {K : PySem.W.Frag} {G : Wd} {σ : L2.St} {ρ : Rho} {d : D} {v : V} (i : Nat) (h : EnvR K G σ ρ) (q : Is K G d v) : EnvR K G (σ.set i (some v)) (ρ.set i (some d)) := by
  refine ⟨by simp [h.len], fun j e hj => ?_⟩
  by_cases hij : i = j
  · subst hij
    by_cases hl : i < ρ.length
    · rw [List.getElem?_set_self hl] at hj
      cases hj
      exact ⟨v, List.getElem?_set_self (by rw [h.len]; exact hl), q⟩
    · rw [List.getElem?_eq_none (by simp; omega)] at hj; cases hj
  · rw [List.getElem?_set_ne hij] at hj ⊢
    exact h.get j e hj
def Ev (X : Cx) (ρ : Rho) (O : Sto) (e : Expr) (R : D → Sto → Prop) : Prop :=
  ∀ G, PE X e (fun σ H Q => SA X.K G H O ∧ EnvR X.K G σ ρ ∧ ∀ v d O' G' H', Ext G G' → SA X.K G' H' O' → Is X.K G' d v → R d O' → Q v H')
def EvP (X : Cx) (ρ : Rho) (O : Sto) (e : Expr) (d : D) : Prop :=
  ∀ G, PE X e (fun σ H Q => SA X.K G H O ∧ EnvR X.K G σ ρ ∧ ∀ v G' H', Ext G G' → SA X.K G' H' O → Is X.K G' d v → Q v H')
def EvT (X : Cx) (ρ : Rho) (O : Sto) (e : Expr) (b : Bool) : Prop :=
  ∀ G, PT X e (fun σ H Q => SA X.K G H O ∧ EnvR X.K G σ ρ ∧ ∀ G' H', Ext G G' → SA X.K G' H' O → Q b H')
def EvW (X : Cx) (ρ : Rho) (O : Sto) (e : Expr) (b : Bool) : Prop :=
  ∀ G, PW X e (fun σ H Q => SA X.K G H O ∧ EnvR X.K G σ ρ ∧ ∀ G' H', Ext G G' → SA X.K G' H' O → Q b H')
def EvAs (X : Cx) (ρ : Rho) (O : Sto) (es : List Expr) (R : List D → Sto → Prop) : Prop :=
  ∀ G, PA X es (fun σ H Q => SA X.K G H O ∧ EnvR X.K G σ ρ ∧ ∀ vs ds O' G' H', Ext G G' → SA X.K G' H' O' → Iss X.K G' ds vs → R ds O' → Q vs H')
theorem _root_.L2.PE.imp {X : Cx} {e : Expr} {t u : TE} (h : PE X e t) (k : ∀ σ H Q, u σ H Q → t σ H Q) : PE X e u := fun pins s σ H Q I q => h pins s σ H Q I (k _ _ _ q)
theorem _root_.L2.PT.imp {X : Cx} {e : Expr} {t u : TT} (h : PT X e t) (k : ∀ σ H Q, u σ H Q → t σ H Q) : PT X e u := fun pins s σ H Q I q => h pins s σ H Q I (k _ _ _ q)
theorem _root_.L2.PA.imp {X : Cx} {es : List Expr} {t u : TA} (h : PA X es t) (k : ∀ σ H Q, u σ H Q → t σ H Q) : PA X es u := fun pos pins s σ H Q I q => h pos pins s σ H Q I (k _ _ _ q)
theorem _root_.L2.PS.imp {X : Cx} {e : Stmt} {t u : TS} (h : PS X e t) (k : ∀ D σ H, u D σ H → t D σ H) : PS X e u := fun pins s σ H D I q => h pins s σ H D I (k _ _ _ q)
theorem _root_.L2.PSs.imp {X : Cx} {e : List Stmt} {t u : TS} (h : PSs X e t) (k : ∀ D σ H, u D σ H → t D σ H) : PSs X e u := fun pins s σ H D I q => h pins s σ H D I (k _ _ _ q)
section
variable {X : Cx} {ρ : Rho} {O : Sto} {e a b c : Expr} {d da db : D} {R : D → Sto → Prop} {pos : Pos}
theorem EvP.ev (h : EvP X ρ O e d) (r : R d O) : Ev X ρ O e R := fun G => (h G).imp fun σ H Q ⟨s, n, k⟩ => ⟨s, n, fun v G' H' e1 s' i => k v d O G' H' e1 s' i r⟩
theorem Ev.evp (h : Ev X ρ O e fun d' O' => d' = d ∧ O' = O) : EvP X ρ O e d := fun G => (h G).imp fun σ H Q ⟨s, n, k⟩ => ⟨s, n, fun v d' O' G' H' e1 s' i r => by obtain ⟨rfl, rfl⟩ := r; exact k v G' H' e1 s' i⟩
theorem EvP.cast {d' : D} (h : EvP X ρ O e d) (q : d = d') : EvP X ρ O e d' := q ▸ h
theorem EvW.t (h : EvW X ρ O e b') : EvT X ρ O e b' := fun G => (h G).pt
theorem EvT.cast {k k' : Bool} (h : EvT X ρ O e k) (q : k = k') : EvT X ρ O e k' := q ▸ h
theorem ev_var (i : Nat) {x : Str} {p : Pos} (hr : ρ[i]? = some (some d) := by rfl) (hN : X.N[i]? = some x := by rfl) (hv : Vis X.env.scope x := by first | exact Or.inl rfl | exact Or.inr (Or.inl rfl) | exact Or.inr (Or.inr rfl))
    (hd : (x == ("__debug__" : Str)) = false := by decide) (hcd : (x == ("__classdict__" : Str)) = false := by decide) : EvP X ρ O (.Name x p) d := fun G =>
  PE.imp (pe_var hN hv hd hcd) fun σ H Q ⟨s, n, k⟩ => by
    obtain ⟨v, e1, i1⟩ := n.get i d hr
    exact ⟨v, e1, k v G H (Ext.refl _) s i1⟩
theorem ev_int {i : Int} {j : Nat} : EvP X ρ O (.Constant (.int i) j pos) (.int i) := fun G => PE.imp pe_int fun σ H Q ⟨s, n, k⟩ => k _ G H (Ext.refl _) s (.int i)
theorem ev_bl {i : Bool} {j : Nat} : EvP X ρ O (.Constant (.bool i) j pos) (.bl i) := fun G => PE.imp pe_bl fun σ H Q ⟨s, n, k⟩ => k _ G H (Ext.refl _) s (.bl i)
theorem ev_non {j : Nat} : EvP X ρ O (.Constant .none j pos) .non := fun G => PE.imp pe_non fun σ H Q ⟨s, n, k⟩ => k _ G H (Ext.refl _) s .non
theorem ev_str {x : Str} {j : Nat} : EvP X ρ O (.Constant (.str x) j pos) (.str x) := fun G => PE.imp pe_str fun σ H Q ⟨s, n, k⟩ => k _ G H (Ext.refl _) s (.str x)
def Op2 (X : Cx) (O : Sto) (f : Value → Value → Sem Value) (da db d : D) : Prop :=
  ∀ G, OpR X f (fun v u H Q => SA X.K G H O ∧ Is X.K G da v ∧ Is X.K G db u ∧ ∀ w G' H', Ext G G' → SA X.K G' H' O → Is X.K G' d w → Q w H')
theorem Op2.of {f : Value → Value → Sem Value} {r : R2} (ho : OpR X f r)
    (k : ∀ G v u H Q, SA X.K G H O → Is X.K G da v → Is X.K G db u → (∀ w G' H', Ext G G' → SA X.K G' H' O → Is X.K G' d w → Q w H') → r v u H Q) : Op2 X O f da db d :=
  fun G pins s σ H x y v u Q I rx ry ⟨h1, h2, h3, h4⟩ => ho pins s σ H x y v u Q I rx ry (k G _ _ _ _ h1 h2 h3 h4)
theorem ev_bin {op : Operator} (ha : EvP X ρ O a da) (hb : EvP X ρ O b db) (ho : Op2 X O (binaryOp op) da db d) : EvP X ρ O (.BinOp a op b pos) d := fun G pins s σ H Q I ⟨h1, h2, h3⟩ =>
  wpAny_BinOp (binT (ta := fun σ H Q => SA X.K G H O ∧ EnvR X.K G σ ρ ∧ ∀ v G' H', Ext G G' → SA X.K G' H' O → Is X.K G' da v → Q v H') (ha G)
    (tb := fun σ H Q => ∃ G1 v0, SA X.K G1 H O ∧ EnvR X.K G1 σ ρ ∧ ∀ v G' H', Ext G1 G' → SA X.K G' H' O → Is X.K G' db v → Q v H') (fun pins s σ H Q I ⟨G1, _, q⟩ => hb G1 pins s σ H Q I q) I
    (R := fun x y H2 => ∃ G2, Ext G G2 ∧ SA X.K G2 H2 O ∧ Is X.K G2 da x ∧ Is X.K G2 db y)
    ⟨h1, h2, fun v G1 H1 e1 s1 i1 => ⟨G1, (0 : Nat), s1, h2.ext e1, fun u G2 H2 e2 s2 i2 => ⟨G2, e1.trans e2, s2, i1.ext e2, i2⟩⟩⟩
    fun v u s2 x y H2 I2 rx ry ⟨G2, e2, s2', i1, i2⟩ => ho G2 pins s2 σ H2 x y v u Q I2 rx ry ⟨s2', i1, i2, fun w G3 H3 e3 s3 i3 => h3 w G3 H3 (e2.trans e3) s3 i3⟩)
theorem o_int {f : Value → Value → Sem Value} {g : Int → Int → Int} {i j : Int} (ho : OpR X f (rI0 fun i j => .int (g i j))) : Op2 X O f (.int i) (.int j) (.int (g i j)) :=
  .of ho fun G v u H Q s h1 h2 k => by cases h1; cases h2; exact ⟨i, j, rfl, rfl, k _ G H (Ext.refl _) s (.int _)⟩
theorem o_intC {f : Value → Value → Sem Value} {C : Int → Int → Prop} {g : Int → Int → Int} {i j : Int} (ho : OpR X f (rI C fun i j => .int (g i j))) (hc : C i j) : Op2 X O f (.int i) (.int j) (.int (g i j)) :=
  .of ho fun G v u H Q s h1 h2 k => by cases h1; cases h2; exact ⟨i, j, rfl, rfl, hc, k _ G H (Ext.refl _) s (.int _)⟩
theorem o_intB {f : Value → Value → Sem Value} {g : Int → Int → Bool} {i j : Int} (ho : OpR X f (rI0 fun i j => .bl (g i j))) : Op2 X O f (.int i) (.int j) (.bl (g i j)) :=
  .of ho fun G v u H Q s h1 h2 k => by cases h1; cases h2; exact ⟨i, j, rfl, rfl, k _ G H (Ext.refl _) s (.bl _)⟩
theorem o_add {i j : Int} : Op2 X O (binaryOp .Add) (.int i) (.int j) (.int (i + j)) := o_int op_add
theorem o_sub {i j : Int} : Op2 X O (binaryOp .Sub) (.int i) (.int j) (.int (i - j)) := o_int op_sub
theorem op_mulG : OpR X (binaryOp .Mult) (rI IntMulOk fun i j => .int (i * j)) := opI fun _ _ _ _ _ _ _ hc q => mul_int q hc
theorem o_mul {i j : Int} (h : IntMulOk i j) : Op2 X O (binaryOp .Mult) (.int i) (.int j) (.int (i * j)) := o_intC op_mulG h
theorem o_div {i j : Int} (h : CDiv i j) : Op2 X O (binaryOp .FloorDiv) (.int i) (.int j) (.int (i / j)) := o_intC op_fdiv h
theorem o_mod {i j : Int} (h : 0 < j) : Op2 X O (binaryOp .Mod) (.int i) (.int j) (.int (i % j)) := o_intC (C := fun _ j => 0 < j) op_mod h
theorem o_pow {i j : Int} (h : CPow i j) : Op2 X O (binaryOp .Pow) (.int i) (.int j) (.int (i ^ j.toNat)) := o_intC op_pow h
theorem cmp_lt {i j : Int} : Op2 X O (compareOp .Lt) (.int i) (.int j) (.bl (decide (i < j))) := o_intB op_lt
theorem cmp_le {i j : Int} : Op2 X O (compareOp .LtE) (.int i) (.int j) (.bl (decide (i ≤ j))) := o_intB op_le
theorem cmp_gt {i j : Int} : Op2 X O (compareOp .Gt) (.int i) (.int j) (.bl (decide (j < i))) := o_intB op_gt
theorem cmp_ge {i j : Int} : Op2 X O (compareOp .GtE) (.int i) (.int j) (.bl (decide (j ≤ i))) := o_intB op_ge
theorem dec_V {i j : Int} : decide (V.int i = V.int j) = decide (i = j) := by
  by_cases h : i = j
  · subst h; rw [decide_eq_true rfl, decide_eq_true rfl]
  · rw [decide_eq_false h, decide_eq_false]; intro z; injection z with z; exact h z
theorem cmp_eqI {i j : Int} : Op2 X O (compareOp .Eq) (.int i) (.int j) (.bl (decide (i = j))) :=
  .of op_eq fun G v u H Q s h1 h2 k => by cases h1; cases h2; exact ⟨rfl, by rw [dec_V]; exact k _ G H (Ext.refl _) s (.bl _)⟩
theorem cmp_neI {i j : Int} : Op2 X O (compareOp .NotEq) (.int i) (.int j) (.bl (!decide (i = j))) :=
  .of op_ne fun G v u H Q s h1 h2 k => by cases h1; cases h2; exact ⟨rfl, by rw [dec_V]; exact k _ G H (Ext.refl _) s (.bl _)⟩
def isN : D → Bool
  | .non => true
  | _ => false
theorem isN_of {K : PySem.W.Frag} {G : Wd} {v : V} (h : Is K G d v) : decide (v = V.non) = isN d := by
  cases h <;> first | rfl | exact decide_eq_false (fun z => by cases z)
theorem cmp_is : Op2 X O (compareOp .Is) da .non (.bl (isN da)) :=
  .of op_isN fun G v u H Q s h1 h2 k => by cases h2; exact ⟨rfl, by rw [isN_of h1]; exact k _ G H (Ext.refl _) s (.bl _)⟩
theorem cmp_isnot : Op2 X O (compareOp .IsNot) da .non (.bl (!isN da)) :=
  .of op_notN fun G v u H Q s h1 h2 k => by cases h2; exact ⟨rfl, by rw [isN_of h1]; exact k _ G H (Ext.refl _) s (.bl _)⟩
theorem ev_cmp {op : CmpOp} (ha : EvP X ρ O a da) (hb : EvP X ρ O b db) (ho : Op2 X O (compareOp op) da db d) (hm : behindInMarks op b = false := by first | exact nomark _ | (with_unfolding_all rfl)) : EvP X ρ O (.Compare a [op] [b] pos) d := fun G pins s σ H Q I ⟨h1, h2, h3⟩ =>
  wpAny_Compare1 (binT (ta := fun σ H Q => SA X.K G H O ∧ EnvR X.K G σ ρ ∧ ∀ v G' H', Ext G G' → SA X.K G' H' O → Is X.K G' da v → Q v H') (ha G)
    (tb := fun σ H Q => ∃ G1 v0, SA X.K G1 H O ∧ EnvR X.K G1 σ ρ ∧ ∀ v G' H', Ext G1 G' → SA X.K G' H' O → Is X.K G' db v → Q v H') (fun pins s σ H Q I ⟨G1, _, q⟩ => hb G1 pins s σ H Q I q) I
    (R := fun x y H2 => ∃ G2, Ext G G2 ∧ SA X.K G2 H2 O ∧ Is X.K G2 da x ∧ Is X.K G2 db y)
    ⟨h1, h2, fun v G1 H1 e1 s1 i1 => ⟨G1, (0 : Nat), s1, h2.ext e1, fun u G2 H2 e2 s2 i2 => ⟨G2, e1.trans e2, s2, i1.ext e2, i2⟩⟩⟩
    fun v u s2 x y H2 I2 rx ry ⟨G2, e2, s2', i1, i2⟩ => ho G2 pins s2 σ H2 x y v u Q I2 rx ry ⟨s2', i1, i2, fun w G3 H3 e3 s3 i3 => h3 w G3 H3 (e2.trans e3) s3 i3⟩) hm
theorem et_cmp {op : CmpOp} {k : Bool} (ha : EvP X ρ O a da) (hb : EvP X ρ O b db) (ho : Op2 X O (compareOp op) da db (.bl k)) (hm : behindInMarks op b = false := by first | exact nomark _ | (with_unfolding_all rfl)) : EvT X ρ O (.Compare a [op] [b] pos) k := fun G pins s σ H Q I ⟨h1, h2, h3⟩ => by
  refine wpAny_isTrue_Compare1 (thn (ha G pins s σ H _ I ⟨h1, h2, fun v G1 H1 e1 s1 i1 => (⟨G1, e1, s1, i1⟩ : ∃ G1, Ext G G1 ∧ SA X.K G1 H1 O ∧ Is X.K G1 da v)⟩) fun v s1 ⟨x, H1, I1, r1, G1, e1, sa1, i1⟩ =>
    thn (hb G1 pins s1 σ H1 _ I1 ⟨sa1, h2.ext e1, fun u G2 H2 e2 s2 i2 => (⟨G2, e2, s2, i2⟩ : ∃ G2, Ext G1 G2 ∧ SA X.K G2 H2 O ∧ Is X.K G2 db u)⟩) fun u s2 ⟨y, H2, I2, r2, G2, e2, sa2, i2⟩ =>
    thn (ho G2 pins s2 σ H2 x y v u _ I2 r1 r2 ⟨sa2, i1.ext e2, i2, fun w G3 H3 e3 s3 i3 => (⟨G3, e3, s3, i3⟩ : ∃ G3, Ext G2 G3 ∧ SA X.K G3 H3 O ∧ Is X.K G3 (.bl k) w)⟩) fun c s3 ⟨z, H3, I3, r3, G3, e3, sa3, i3⟩ => ?_) hm
  cases i3
  cases r3
  exact wpAny_truthy_bool ⟨H3, I3, h3 G3 H3 ((e1.trans e2).trans e3) sa3⟩
theorem et_bl {k : Bool} (ha : EvP X ρ O a (.bl k)) (he : ∀ whole, isTrue a X.env whole = (do let v ← whole; standAt a.pos; holding [v] (truthy v)) := by intro _; rfl) : EvT X ρ O a k := fun G =>
  (pt_truth (ha G) he).imp fun σ H Q ⟨h1, h2, h3⟩ => ⟨h1, h2, fun v G' H' e1 s1 i1 => by cases i1; exact ⟨k, rfl, h3 G' H' e1 s1⟩⟩
theorem et_not {k : Bool} (ha : EvT X ρ O a k) : EvT X ρ O (.UnaryOp .Not a pos) (!k) := fun G =>
  (pt_not (ha G)).imp fun σ H Q ⟨h1, h2, h3⟩ => ⟨h1, h2, fun G' H' e1 s1 => h3 G' H' e1 s1⟩
theorem ew_and1 {k : Bool} (ha : EvT X ρ O a k) : EvW X ρ O (.BoolOp .And [a] pos) k := fun G => pw_and1 (ha G)
theorem ew_or1 {k : Bool} (ha : EvT X ρ O a k) : EvW X ρ O (.BoolOp .Or [a] pos) k := fun G => pw_or1 (ha G)
theorem ew_and {k l : Bool} {rest : List Expr} (ha : EvT X ρ O a k) (hb : k = true → EvW X ρ O (.BoolOp .And (b :: rest) pos) l) : EvW X ρ O (.BoolOp .And (a :: b :: rest) pos) (k && l) := fun G wh pins s σ H Q I ⟨h1, h2, h3⟩ => by
  refine isTrue_and (thn (ha G pins s σ H (fun c H1 => c = k ∧ ∃ G1, Ext G G1 ∧ SA X.K G1 H1 O) I ⟨h1, h2, fun G1 H1 e1 s1 => ⟨rfl, G1, e1, s1⟩⟩) ?_)
  rintro c s1 ⟨H1, I1, rfl, G1, e1, sa1⟩
  cases c with
  | false => exact ⟨H1, I1, h3 G1 H1 e1 sa1⟩
  | true => exact hb rfl G1 wh pins s1 σ H1 Q I1 ⟨sa1, h2.ext e1, fun G2 H2 e2 s2 => h3 G2 H2 (e1.trans e2) s2⟩
theorem ew_or {k l : Bool} {rest : List Expr} (ha : EvT X ρ O a k) (hb : k = false → EvW X ρ O (.BoolOp .Or (b :: rest) pos) l) : EvW X ρ O (.BoolOp .Or (a :: b :: rest) pos) (k || l) := fun G wh pins s σ H Q I ⟨h1, h2, h3⟩ => by
  refine isTrue_or (thn (ha G pins s σ H (fun c H1 => c = k ∧ ∃ G1, Ext G G1 ∧ SA X.K G1 H1 O) I ⟨h1, h2, fun G1 H1 e1 s1 => ⟨rfl, G1, e1, s1⟩⟩) ?_)
  rintro c s1 ⟨H1, I1, rfl, G1, e1, sa1⟩
  cases c with
  | true => exact ⟨H1, I1, h3 G1 H1 e1 sa1⟩
  | false => exact hb rfl G1 wh pins s1 σ H1 Q I1 ⟨sa1, h2.ext e1, fun G2 H2 e2 s2 => h3 G2 H2 (e1.trans e2) s2⟩
theorem ev_one {op : BoolOp} (ha : EvP X ρ O a d) : EvP X ρ O (.BoolOp op [a] pos) d := fun G => pe_one (ha G)
theorem ev_and {k l : Bool} {rest : List Expr} (ha : EvP X ρ O a (.bl k)) (hb : k = true → EvP X ρ O (.BoolOp .And (b :: rest) pos) (.bl l)) : EvP X ρ O (.BoolOp .And (a :: b :: rest) pos) (.bl (k && l)) := fun G pins s σ H Q I ⟨h1, h2, h3⟩ => by
  refine BoolOp_and (thn (ha G pins s σ H (fun v H1 => ∃ G1, Ext G G1 ∧ SA X.K G1 H1 O ∧ Is X.K G1 (.bl k) v) I ⟨h1, h2, fun v G1 H1 e1 s1 i1 => ⟨G1, e1, s1, i1⟩⟩) ?_)
  rintro v s1 ⟨x, H1, I1, r1, G1, e1, sa1, i1⟩
  cases i1
  cases r1
  refine wpAny_truthy_bool ?_
  cases k with
  | false => exact ⟨.bl false, H1, I1, rfl, h3 _ G1 H1 e1 sa1 (.bl _)⟩
  | true => exact hb rfl G1 pins s1 σ H1 Q I1 ⟨sa1, h2.ext e1, fun w G2 H2 e2 s2 i2 => h3 w G2 H2 (e1.trans e2) s2 i2⟩
theorem ev_or {k l : Bool} {rest : List Expr} (ha : EvP X ρ O a (.bl k)) (hb : k = false → EvP X ρ O (.BoolOp .Or (b :: rest) pos) (.bl l)) : EvP X ρ O (.BoolOp .Or (a :: b :: rest) pos) (.bl (k || l)) := fun G pins s σ H Q I ⟨h1, h2, h3⟩ => by
  refine BoolOp_or (thn (ha G pins s σ H (fun v H1 => ∃ G1, Ext G G1 ∧ SA X.K G1 H1 O ∧ Is X.K G1 (.bl k) v) I ⟨h1, h2, fun v G1 H1 e1 s1 i1 => ⟨G1, e1, s1, i1⟩⟩) ?_)
  rintro v s1 ⟨x, H1, I1, r1, G1, e1, sa1, i1⟩
  cases i1
  cases r1
  refine wpAny_truthy_bool ?_
  cases k with
  | true => exact ⟨.bl true, H1, I1, rfl, h3 _ G1 H1 e1 sa1 (.bl _)⟩
  | false => exact hb rfl G1 pins s1 σ H1 Q I1 ⟨sa1, h2.ext e1, fun w G2 H2 e2 s2 i2 => h3 w G2 H2 (e1.trans e2) s2 i2⟩
theorem ev_not {k : Bool} (ha : EvP X ρ O a (.bl k)) : EvP X ρ O (.UnaryOp .Not a pos) (.bl (!k)) := fun G => (pe_not (ha G)).imp fun σ H Q ⟨h1, h2, h3⟩ => ⟨h1, h2, fun v G1 H1 e1 s1 i1 => by
  cases i1
  exact ⟨k, rfl, h3 _ G1 H1 e1 s1 (.bl _)⟩⟩
theorem ev_if {k : Bool} (hc : EvT X ρ O c k) (ha : k = true → EvP X ρ O a da) (hb : k = false → EvP X ρ O b db) : EvP X ρ O (.IfExp c a b pos) (if k = true then da else db) := fun G pins s σ H Q I ⟨h1, h2, h3⟩ => by
  cases k with
  | true =>
    exact (pe_ifExp (tA := fun σ H Q => SA X.K G H O ∧ EnvR X.K G σ ρ ∧ ∀ G' H', Ext G G' → SA X.K G' H' O → Q true H') (hc G) (fun pins s σ H Q I (q : ∃ G1, SA X.K G1 H O ∧ EnvR X.K G1 σ ρ ∧ ∀ v G' H', Ext G1 G' → SA X.K G' H' O → Is X.K G' da v → Q v H') => let ⟨G1, q⟩ := q; ha rfl G1 pins s σ H Q I q)
      (fun pins s σ H Q I (q : False) => q.elim)) pins s σ H Q I ⟨h1, h2, fun G1 H1 e1 s1 => iteT ⟨G1, s1, h2.ext e1, fun v G2 H2 e2 s2 i2 => h3 v G2 H2 (e1.trans e2) s2 i2⟩⟩
  | false =>
    exact (pe_ifExp (tA := fun σ H Q => SA X.K G H O ∧ EnvR X.K G σ ρ ∧ ∀ G' H', Ext G G' → SA X.K G' H' O → Q false H') (hc G) (fun pins s σ H Q I (q : False) => q.elim)
      (fun pins s σ H Q I (q : ∃ G1, SA X.K G1 H O ∧ EnvR X.K G1 σ ρ ∧ ∀ v G' H', Ext G1 G' → SA X.K G' H' O → Is X.K G' db v → Q v H') => let ⟨G1, q⟩ := q; hb rfl G1 pins s σ H Q I q)) pins s σ H Q I ⟨h1, h2, fun G1 H1 e1 s1 => iteF ⟨G1, s1, h2.ext e1, fun v G2 H2 e2 s2 i2 => h3 v G2 H2 (e1.trans e2) s2 i2⟩⟩
theorem ev_chain {op op' : CmpOp} {k l : Bool} {dc : D} (ha : EvP X ρ O a da) (hb : EvP X ρ O b db) (hc : EvP X ρ O c dc) (ho : Op2 X O (compareOp op) da db (.bl k)) (ho' : k = true → Op2 X O (compareOp op') db dc (.bl l))
    (hm : lastMarks [op, op'] [b, c] = false := by with_unfolding_all rfl) : EvP X ρ O (.Compare a [op, op'] [b, c] pos) (.bl (k && l)) := fun G pins s σ H Q I ⟨h1, h2, h3⟩ => by
  refine Compare_chain (thn (ha G pins s σ H (fun v H1 => ∃ G1, Ext G G1 ∧ SA X.K G1 H1 O ∧ Is X.K G1 da v) I ⟨h1, h2, fun v G1 H1 e1 s1 i1 => ⟨G1, e1, s1, i1⟩⟩) ?_) hm
  rintro v s1 ⟨x, H1, I1, r1, G1, e1, sa1, i1⟩
  refine chain_link (thn (hb G1 pins s1 σ H1 (fun v H2 => ∃ G2, Ext G1 G2 ∧ SA X.K G2 H2 O ∧ Is X.K G2 db v) I1 ⟨sa1, h2.ext e1, fun v G2 H2 e2 s2 i2 => ⟨G2, e2, s2, i2⟩⟩) ?_)
  rintro u s2 ⟨y, H2, I2, r2, G2, e2, sa2, i2⟩
  refine thn (ho G2 pins s2 σ H2 x y v u (fun w H3 => ∃ G3, Ext G2 G3 ∧ SA X.K G3 H3 O ∧ Is X.K G3 (.bl k) w) I2 r1 r2 ⟨sa2, i1.ext e2, i2, fun w G3 H3 e3 s3 i3 => ⟨G3, e3, s3, i3⟩⟩) ?_
  rintro w s3 ⟨z, H3, I3, r3, G3, e3, sa3, i3⟩
  cases i3
  cases r3
  refine wpAny_truthy_bool ?_
  cases k with
  | false => exact ite_ff ⟨.bl false, H3, I3, rfl, h3 _ G3 H3 ((e1.trans e2).trans e3) sa3 (.bl _)⟩
  | true =>
    refine ite_tt (chain_last (thn (hc G3 pins s3 σ H3 (fun v H4 => ∃ G4, Ext G3 G4 ∧ SA X.K G4 H4 O ∧ Is X.K G4 dc v) I3 ⟨sa3, h2.ext ((e1.trans e2).trans e3), fun v G4 H4 e4 s4 i4 => ⟨G4, e4, s4, i4⟩⟩) ?_))
    rintro q s4 ⟨z', H4, I4, r4, G4, e4, sa4, i4⟩
    exact ho' rfl G4 pins s4 σ H4 y z' u q Q I4 r2 r4 ⟨sa4, i2.ext (e3.trans e4), i4, fun w G5 H5 e5 s5 i5 => h3 w G5 H5 ((((e1.trans e2).trans e3).trans e4).trans e5) s5 i5⟩
theorem et_chain {op op' : CmpOp} {k l : Bool} {dc : D} (ha : EvP X ρ O a da) (hb : EvP X ρ O b db) (hc : EvP X ρ O c dc) (ho : Op2 X O (compareOp op) da db (.bl k)) (ho' : k = true → Op2 X O (compareOp op') db dc (.bl l))
    (hm : lastMarks [op, op'] [b, c] = false := by with_unfolding_all rfl) : EvT X ρ O (.Compare a [op, op'] [b, c] pos) (k && l) := fun G pins s σ H Q I ⟨h1, h2, h3⟩ => by
  refine isTrue_chain (thn (ha G pins s σ H (fun v H1 => ∃ G1, Ext G G1 ∧ SA X.K G1 H1 O ∧ Is X.K G1 da v) I ⟨h1, h2, fun v G1 H1 e1 s1 i1 => ⟨G1, e1, s1, i1⟩⟩) ?_) hm
  rintro v s1 ⟨x, H1, I1, r1, G1, e1, sa1, i1⟩
  refine test_link (thn (hb G1 pins s1 σ H1 (fun v H2 => ∃ G2, Ext G1 G2 ∧ SA X.K G2 H2 O ∧ Is X.K G2 db v) I1 ⟨sa1, h2.ext e1, fun v G2 H2 e2 s2 i2 => ⟨G2, e2, s2, i2⟩⟩) ?_)
  rintro u s2 ⟨y, H2, I2, r2, G2, e2, sa2, i2⟩
  refine thn (ho G2 pins s2 σ H2 x y v u (fun w H3 => ∃ G3, Ext G2 G3 ∧ SA X.K G3 H3 O ∧ Is X.K G3 (.bl k) w) I2 r1 r2 ⟨sa2, i1.ext e2, i2, fun w G3 H3 e3 s3 i3 => ⟨G3, e3, s3, i3⟩⟩) ?_
  rintro w s3 ⟨z, H3, I3, r3, G3, e3, sa3, i3⟩
  cases i3
  cases r3
  refine wpAny_truthy_bool ?_
  cases k with
  | false => exact ite_ff ⟨H3, I3, h3 G3 H3 ((e1.trans e2).trans e3) sa3⟩
  | true =>
    refine ite_tt (test_last (thn (hc G3 pins s3 σ H3 (fun v H4 => ∃ G4, Ext G3 G4 ∧ SA X.K G4 H4 O ∧ Is X.K G4 dc v) I3 ⟨sa3, h2.ext ((e1.trans e2).trans e3), fun v G4 H4 e4 s4 i4 => ⟨G4, e4, s4, i4⟩⟩) ?_))
    rintro q s4 ⟨z', H4, I4, r4, G4, e4, sa4, i4⟩
    refine thn (ho' rfl G4 pins s4 σ H4 y z' u q (fun w H5 => ∃ G5, Ext G4 G5 ∧ SA X.K G5 H5 O ∧ Is X.K G5 (.bl l) w) I4 r2 r4 ⟨sa4, i2.ext (e3.trans e4), i4, fun w G5 H5 e5 s5 i5 => ⟨G5, e5, s5, i5⟩⟩) ?_
    rintro q' s5 ⟨z2, H5, I5, r5, G5, e5, sa5, i5⟩
    cases i5
    cases r5
    exact wpAny_truthy_bool ⟨H5, I5, h3 G5 H5 ((((e1.trans e2).trans e3).trans e4).trans e5) sa5⟩
end
end DL
set_option Elab.async false
set_option linter.all false
set_option maxRecDepth 100000
namespace DL
open PySem PySem.Spec PyProof.Rows L2
def LV (O : Sto) (d : D) (xs : List D) : Prop := d = .lst xs ∨ d = .scr xs ∨ ∃ n, d = .ptr n ∧ O[n]? = some (some (.lst xs))
def LT (O : Sto) (d : D) (xs : List D) : Prop := LV O d xs ∨ d = .tup xs
theorem LV.sq {K : PySem.W.Frag} {G : Wd} {H : Hp} {O : Sto} {d : D} {xs : List D} {v : V} (h : LV O d xs) (s : SA K G H O) (i : Is K G d v) : ∃ a vs, v = .ref a ∧ SqL K H a vs ∧ Iss K G xs vs := by
  rcases h with rfl | rfl | ⟨p, rfl, h⟩
  · cases i with | lst h r => exact ⟨_, _, rfl, SqL.of (s.sub _ _ h), r⟩
  · cases i with | scr h r => exact ⟨_, _, rfl, s.sub.seq h, r⟩
  · cases i with
    | ptr _ q =>
      obtain ⟨a, e, _, vs, h1, h2⟩ := s.mt p _ h
      obtain rfl := Option.some.inj (q.symm.trans e)
      exact ⟨_, vs, rfl, SqL.of h1, h2⟩
theorem tup_sq {K : PySem.W.Frag} {G : Wd} {H : Hp} {O : Sto} {xs : List D} {v : V} (s : SA K G H O) (i : Is K G (.tup xs) v) : ∃ a vs, v = .ref a ∧ SqT K H a vs ∧ Iss K G xs vs := by
  cases i with | tup h r => exact ⟨_, _, rfl, sqT_same s.sub h, r⟩
def EvPs (X : Cx) (ρ : Rho) (O : Sto) (es : List Expr) (ds : List D) : Prop :=
  ∀ G, PA X es (fun σ H Q => SA X.K G H O ∧ EnvR X.K G σ ρ ∧ ∀ vs G' H', Ext G G' → SA X.K G' H' O → Iss X.K G' ds vs → Q vs H')
section
variable {X : Cx} {ρ : Rho} {O : Sto} {e a b c : Expr} {es : List Expr} {d da db : D} {ds : List D} {R : D → Sto → Prop} {pos p : Pos} {x : Str}
theorem es_nil : EvPs X ρ O [] [] := fun G => PA.imp pa_nil fun σ H Q ⟨h1, h2, h3⟩ => h3 _ G H (Ext.refl _) h1 .nil
theorem es_cons (he : EvP X ρ O e d) (hs : EvPs X ρ O es ds) (hst : starEach (e :: es) X.env = (false, eval e X.env) :: starEach es X.env := by rfl) : EvPs X ρ O (e :: es) (d :: ds) := fun G =>
  PA.imp (pa_cons (he G) (t := fun σ H Q => ∃ G1, SA X.K G1 H O ∧ EnvR X.K G1 σ ρ ∧ ∀ vs G' H', Ext G1 G' → SA X.K G' H' O → Iss X.K G' ds vs → Q vs H') (fun pos pins s σ H Q I ⟨G1, q⟩ => hs G1 pos pins s σ H Q I q) hst)
    fun σ H Q ⟨h1, h2, h3⟩ => ⟨h1, h2, fun v G1 H1 e1 s1 i1 => ⟨G1, s1, h2.ext e1, fun vs G2 H2 e2 s2 i2 => h3 _ G2 H2 (e1.trans e2) s2 (.cons (i1.ext e2) i2)⟩⟩
theorem EvPs.as {R : List D → Sto → Prop} (h : EvPs X ρ O es ds) (r : R ds O) : EvAs X ρ O es R := fun G => PA.imp (h G) fun σ H Q ⟨h1, h2, h3⟩ => ⟨h1, h2, fun vs G' H' e1 s1 i1 => h3 vs ds O G' H' e1 s1 i1 r⟩
theorem ev_tup {x1 : Nat} (h : EvPs X ρ O es ds) (hz : ds.length ≤ sizeLine := by exact Nat.le_of_ble_eq_true rfl) : EvP X ρ O (.Tuple es x1 pos) (.tup ds) := fun G =>
  PE.imp (pe_tup (h G)) fun σ H Q ⟨h1, h2, h3⟩ => ⟨h1, h2, fun vs G1 H1 e1 s1 i1 => ⟨by rw [← i1.length]; exact hz, fun p hp => by
    obtain ⟨e2, s2⟩ := s1.laid (o := .tup vs) hp
    exact h3 _ _ _ (e1.trans e2) s2 (.tup (SqT.of upd_same) (i1.ext e2))⟩⟩
theorem ev_lst (h : EvPs X ρ O es ds) (hz : ds.length ≤ sizeLine := by exact Nat.le_of_ble_eq_true rfl) : EvP X ρ O (.List es pos) (.lst ds) := fun G =>
  PE.imp (pe_lst (h G)) fun σ H Q ⟨h1, h2, h3⟩ => ⟨h1, h2, fun vs G1 H1 e1 s1 i1 => ⟨by rw [← i1.length]; exact hz, fun p hp => by
    obtain ⟨e2, s2⟩ := s1.laid (o := .lst vs) hp
    exact h3 _ _ _ (e1.trans e2) s2 (.lst upd_same (i1.ext e2))⟩⟩
theorem ev_lstM (h : EvPs X ρ O es ds) (k : R (.ptr O.length) (O ++ [some (.lst ds)])) (hz : ds.length ≤ sizeLine := by exact Nat.le_of_ble_eq_true rfl) : Ev X ρ O (.List es pos) R := fun G =>
  PE.imp (pe_lst (h G)) fun σ H Q ⟨h1, h2, h3⟩ => ⟨h1, h2, fun vs G1 H1 e1 s1 i1 => ⟨by rw [← i1.length]; exact hz, fun p hp => by
    have e : Ext G1 ⟨G1.g, G1.l ++ [p]⟩ := ⟨Same.refl _, [p], rfl⟩
    obtain ⟨e2, s2⟩ := s1.new (m := .lst ds) hp ⟨vs, upd_same, i1.ext e⟩
    refine h3 _ _ _ _ _ (e1.trans e2) s2 (.ptr _ ?_) k
    rw [← s1.len, List.getElem?_append_right (Nat.le_refl _), Nat.sub_self]; rfl⟩⟩
theorem ixN_len {xs : List D} {vs : List V} {K : PySem.W.Frag} {G : Wd} {i : Int} (r : Iss K G xs vs) (h : atI xs i = some d) : ∃ v, atI vs i = some v ∧ Is K G d v := by
  unfold atI at h ⊢
  rw [← r.length]
  cases q : ixN xs.length i with
  | none => rw [q] at h; cases h
  | some j =>
    rw [q] at h
    exact r.get h
theorem ev_ixL {xs : List D} {i : Int} (ha : EvP X ρ O a da) (hl : LV O da xs) (hb : EvP X ρ O b (.int i)) (hi : atI xs i = some d) (hs : PlainIx b := by intro _ _; rfl) : EvP X ρ O (.Subscript a b pos) d := fun G pins s σ H Q I ⟨h1, h2, h3⟩ =>
  Subscript_ (binT (ta := fun σ H Q => SA X.K G H O ∧ EnvR X.K G σ ρ ∧ ∀ v G' H', Ext G G' → SA X.K G' H' O → Is X.K G' da v → Q v H') (ha G)
    (tb := fun σ H Q => ∃ G1, SA X.K G1 H O ∧ EnvR X.K G1 σ ρ ∧ ∀ v G' H', Ext G1 G' → SA X.K G' H' O → Is X.K G' (.int i) v → Q v H') (fun pins s σ H Q I ⟨G1, q⟩ => hb G1 pins s σ H Q I q) I
    (R := fun x y H2 => ∃ G2, Ext G G2 ∧ SA X.K G2 H2 O ∧ Is X.K G2 da x ∧ Is X.K G2 (.int i) y)
    ⟨h1, h2, fun v G1 H1 e1 s1 i1 => ⟨G1, s1, h2.ext e1, fun u G2 H2 e2 s2 i2 => ⟨G2, e1.trans e2, s2, i1.ext e2, i2⟩⟩⟩
    fun v u s2 x y H2 I2 rx ry ⟨G2, e2, s2', i1, i2⟩ => by
      obtain ⟨p, vs, rfl, q, r⟩ := hl.sq s2' i1
      cases i2
      obtain ⟨w, hw, iw⟩ := ixN_len r hi
      exact ix_list a b pins s2 σ H2 _ _ v u Q I2 rx ry ⟨p, vs, i, w, rfl, rfl, q, hw, h3 w G2 H2 e2 s2' iw⟩ (hs _ _))
theorem ev_ixT {xs : List D} {i : Int} (ha : EvP X ρ O a (.tup xs)) (hb : EvP X ρ O b (.int i)) (hi : atI xs i = some d) (hs : PlainIx b := by intro _ _; rfl) : EvP X ρ O (.Subscript a b pos) d := fun G pins s σ H Q I ⟨h1, h2, h3⟩ =>
  Subscript_ (binT (ta := fun σ H Q => SA X.K G H O ∧ EnvR X.K G σ ρ ∧ ∀ v G' H', Ext G G' → SA X.K G' H' O → Is X.K G' (.tup xs) v → Q v H') (ha G)
    (tb := fun σ H Q => ∃ G1, SA X.K G1 H O ∧ EnvR X.K G1 σ ρ ∧ ∀ v G' H', Ext G1 G' → SA X.K G' H' O → Is X.K G' (.int i) v → Q v H') (fun pins s σ H Q I ⟨G1, q⟩ => hb G1 pins s σ H Q I q) I
    (R := fun x y H2 => ∃ G2, Ext G G2 ∧ SA X.K G2 H2 O ∧ Is X.K G2 (.tup xs) x ∧ Is X.K G2 (.int i) y)
    ⟨h1, h2, fun v G1 H1 e1 s1 i1 => ⟨G1, s1, h2.ext e1, fun u G2 H2 e2 s2 i2 => ⟨G2, e1.trans e2, s2, i1.ext e2, i2⟩⟩⟩
    fun v u s2 x y H2 I2 rx ry ⟨G2, e2, s2', i1, i2⟩ => by
      obtain ⟨p, vs, rfl, q, r⟩ := tup_sq s2' i1
      cases i2
      obtain ⟨w, hw, iw⟩ := ixN_len r hi
      exact ix_tup a b pins s2 σ H2 _ _ v u Q I2 rx ry ⟨p, vs, i, w, rfl, rfl, q, hw, h3 w G2 H2 e2 s2' iw⟩ (hs _ _))
def sliceD (xs : List D) (lo hi : Option Int) : List D := (xs.drop (HT.sIx xs.length 0 lo)).take (HT.sIx xs.length xs.length hi - HT.sIx xs.length 0 lo)
def EvO (X : Cx) (ρ : Rho) (O : Sto) (e : Option Expr) (i : Option Int) : Prop :=
  ∀ G, PO X e (fun σ H Q => SA X.K G H O ∧ EnvR X.K G σ ρ ∧ ∀ G' H', Ext G G' → SA X.K G' H' O → Q i H')
theorem o_cat {xs ys : List D} (hz : xs.length + ys.length ≤ sizeLine) : Op2 X O (binaryOp .Add) (.lst xs) (.lst ys) (.lst (xs ++ ys)) :=
  .of op_cat fun G v u H Q s h1 h2 k => by
    cases h1 with
    | lst g1 r1 =>
      cases h2 with
      | lst g2 r2 =>
        refine ⟨_, _, _, _, rfl, rfl, s.sub _ _ g1, s.sub _ _ g2, by rw [← r1.length, ← r2.length]; exact hz, fun p hp => ?_⟩
        obtain ⟨e4, s4⟩ := s.laid (o := .lst _) hp
        exact k _ _ _ e4 s4 (.lst upd_same ((r1.append r2).ext e4))
def CallD (X : Cx) (O : Sto) (f : Value) (ds : List D) (d : D) : Prop :=
  ∀ G, CallR X f (fun vs H Q => SA X.K G H O ∧ Iss X.K G ds vs ∧ ∀ w G' H', Ext G G' → SA X.K G' H' O → Is X.K G' d w → Q w H')
theorem CallD.of {f : Value} {r : List V → Hp → VK → Prop} (ho : CallR X f r)
    (k : ∀ G vs H Q, SA X.K G H O → Iss X.K G ds vs → (∀ w G' H', Ext G G' → SA X.K G' H' O → Is X.K G' d w → Q w H') → r vs H Q) : CallD X O f ds d :=
  fun G pins s σ H xs us Q I r ⟨h1, h2, h3⟩ => ho pins s σ H xs us Q I r (k G _ _ _ h1 h2 h3)
theorem ev_callB {id : String} (hm : X.mg x = none) (ha : EvPs X ρ O (e :: es) ds) (hc : CallD X O (.builtin id) ds d) (hg : Gl X x := by rfl) (hv : bootBuiltins x = some (.builtin id) := by first | rfl | decide +kernel) (hn : x ≠ "__name__" := by decide) (hdb : (x == ("__debug__" : Str)) = false := by decide)
    (he : starEach (e :: es) X.env = (false, eval e X.env) :: starEach es X.env := by rfl) (hpl : (backTo pos (starEach es X.env)).any (·.1) = false := by rfl) : EvP X ρ O (.Call (.Name x p) (e :: es) [] pos) d := fun G =>
  PE.imp (pe_callB (r := fun vs H Q => ∃ G1, SA X.K G1 H O ∧ Iss X.K G1 ds vs ∧ ∀ w G' H', Ext G1 G' → SA X.K G' H' O → Is X.K G' d w → Q w H') (fun pins s σ H xs us Q I r ⟨G1, q⟩ => hc G1 pins s σ H xs us Q I r q) hg hm hv (ha G) hn hdb he hpl)
    fun σ H Q ⟨h1, h2, h3⟩ => ⟨h1, h2, fun vs G1 H1 e1 s1 i1 => ⟨G1, s1, i1, fun w G2 H2 e2 s2 i2 => h3 w G2 H2 (e1.trans e2) s2 i2⟩⟩
theorem ev_callTy {T : String} (hm : X.mg x = none) (ha : EvPs X ρ O (e :: es) ds) (hc : CallD X O (.type T) ds d) (hg : Gl X x := by rfl) (hv : bootBuiltins x = some (.type T) := by first | rfl | decide +kernel) (hn : x ≠ "__name__" := by decide) (hdb : (x == ("__debug__" : Str)) = false := by decide)
    (he : starEach (e :: es) X.env = (false, eval e X.env) :: starEach es X.env := by rfl) (hpl : (backTo pos (starEach es X.env)).any (·.1) = false := by rfl) : EvP X ρ O (.Call (.Name x p) (e :: es) [] pos) d := fun G =>
  PE.imp (pe_callTy (r := fun vs H Q => ∃ G1, SA X.K G1 H O ∧ Iss X.K G1 ds vs ∧ ∀ w G' H', Ext G1 G' → SA X.K G' H' O → Is X.K G' d w → Q w H') (fun pins s σ H xs us Q I r ⟨G1, q⟩ => hc G1 pins s σ H xs us Q I r q) hg hm hv (ha G) hn hdb he hpl)
    fun σ H Q ⟨h1, h2, h3⟩ => ⟨h1, h2, fun vs G1 H1 e1 s1 i1 => ⟨G1, s1, i1, fun w G2 H2 e2 s2 i2 => h3 w G2 H2 (e1.trans e2) s2 i2⟩⟩
theorem c_len {xs : List D} (h : LT O d xs) : CallD X O (.builtin "len") [d] (.int xs.length) := .of call_len_seq fun G vs H Q s i k => by
  cases i with
  | cons i r =>
    cases r
    rcases h with h | rfl
    · obtain ⟨p, vs, rfl, q, r⟩ := h.sq s i
      exact ⟨p, vs, rfl, .inl q, by rw [← r.length]; exact k _ G H (Ext.refl _) s (.int _)⟩
    · obtain ⟨p, vs, rfl, q, r⟩ := tup_sq s i
      exact ⟨p, vs, rfl, .inr q, by rw [← r.length]; exact k _ G H (Ext.refl _) s (.int _)⟩
theorem c_tuple {xs : List D} (h : LT O d xs) : CallD X O (.type "tuple") [d] (.tup xs) := .of call_tuple_of fun G vs H Q s i k => by
  cases i with
  | cons i r =>
    cases r
    rcases h with h | rfl
    · obtain ⟨p, vs, rfl, q, r⟩ := h.sq s i
      refine ⟨p, vs, rfl, .inl ⟨q, fun l hl => ?_⟩⟩
      obtain ⟨e4, s4⟩ := s.laid (o := .tup vs) hl
      exact k _ _ _ e4 s4 (.tup (SqT.of upd_same) (r.ext e4))
    · obtain ⟨p, vs, rfl, q, r⟩ := tup_sq s i
      exact ⟨p, vs, rfl, .inr ⟨q, k _ G H (Ext.refl _) s i⟩⟩
theorem c_list {xs : List D} (h : LT O d xs) : CallD X O (.type "list") [d] (.lst xs) := .of call_list_of fun G vs H Q s i k => by
  cases i with
  | cons i r =>
    cases r
    rcases h with h | rfl
    · obtain ⟨p, vs, rfl, q, r⟩ := h.sq s i
      refine ⟨p, vs, rfl, .inl q, fun l hl => ?_⟩
      obtain ⟨e4, s4⟩ := s.laid (o := .lst vs) hl
      exact k _ _ _ e4 s4 (.lst upd_same (r.ext e4))
    · obtain ⟨p, vs, rfl, q, r⟩ := tup_sq s i
      refine ⟨p, vs, rfl, .inr q, fun l hl => ?_⟩
      obtain ⟨e4, s4⟩ := s.laid (o := .lst vs) hl
      exact k _ _ _ e4 s4 (.lst upd_same (r.ext e4))
theorem c_abs {i : Int} : CallD X O (.builtin "abs") [.int i] (.int (if i < 0 then -i else i)) := .of call_abs fun G vs H Q s h k => by
  cases h with | cons h r => cases r; cases h; exact ⟨i, rfl, k _ G H (Ext.refl _) s (.int _)⟩
theorem c_max {i j : Int} (hc : X.calm = true := by rfl) : CallD X O (.builtin "max") [.int i, .int j] (.int (if j > i then j else i)) := .of (call_max2 hc) fun G vs H Q s h k => by
  cases h with | cons h r => cases r with | cons h' r => cases r; cases h; cases h'; exact ⟨i, j, rfl, k _ G H (Ext.refl _) s (.int _)⟩
theorem c_min {i j : Int} (hc : X.calm = true := by rfl) : CallD X O (.builtin "min") [.int i, .int j] (.int (if j < i then j else i)) := .of (call_min2 hc) fun G vs H Q s h k => by
  cases h with | cons h r => cases r with | cons h' r => cases r; cases h; cases h'; exact ⟨i, j, rfl, k _ G H (Ext.refl _) s (.int _)⟩
theorem c_intB {b : Bool} : CallD X O (.type "int") [.bl b] (.int (if b then 1 else 0)) := .of call_int1 fun G vs H Q s h k => by
  cases h with | cons h r => cases r; cases h; exact .inr ⟨b, rfl, k _ G H (Ext.refl _) s (.int _)⟩
abbrev SpD := List D → Sto → (D → Sto → Prop) → Prop
def toSp (K : PySem.W.Frag) (sp : SpD) : Sp := fun vs H Q _ => ∃ G O ds R, SA K G H O ∧ Iss K G ds vs ∧ sp ds O R ∧ ∀ v d O' G' H', Ext G G' → SA K G' H' O' → Is K G' d v → R d O' → Q v H'
structure DefOk (P : Program) (w : World) (K : PySem.W.Frag) (mg : Str → Option Value) (base : Heap) (k : Nat) (x : Str) (sp : SpD) : Prop where
  ex : ∃ f fd ps, FnOk P w K mg base CX0 k f fd ps (toSp K sp) ∧ mg x = some (.ref f) ∧ PySem.W.keepIn K (.ref f) = true ∧ Binds K fd ps []
theorem ev_callA {k : Nat} {sp : SpD} (F : DefOk X.prog X.w X.K X.mg X.base k x sp) (hr : Room k X.A) (ha : EvAs X ρ O (e :: es) fun ds O1 => sp ds O1 R) (hg : Gl X x := by rfl) (hdb : (x == ("__debug__" : Str)) = false := by decide)
    (he : starEach (e :: es) X.env = (false, eval e X.env) :: starEach es X.env := by rfl) (hpl : (backTo pos (starEach es X.env)).any (·.1) = false := by rfl) : Ev X ρ O (.Call (.Name x p) (e :: es) [] pos) R := fun G => by
  obtain ⟨f, fd, ps, h1, h2, h3, h4⟩ := F.ex
  refine PE.imp (pe_call h1 hr hg h2 h3 h4 .nil pass0 (ha G) hdb he hpl) fun σ H Q ⟨q1, q2, q3⟩ => ⟨q1, q2, fun vs ds O1 G1 H1 e1 s1 i1 r1 => ?_⟩
  show toSp X.K sp (vs ++ []) H1 Q E0
  rw [List.append_nil]
  exact ⟨G1, O1, ds, R, s1, i1, r1, fun v d O' G' H' e2 s2 i2 r2 => q3 v d O' G' H' (e1.trans e2) s2 i2 r2⟩
theorem ev_call {k : Nat} {sp : SpD} (F : DefOk X.prog X.w X.K X.mg X.base k x sp) (hr : Room k X.A) (ha : EvPs X ρ O (e :: es) ds) (hs : sp ds O R) (hg : Gl X x := by rfl) (hdb : (x == ("__debug__" : Str)) = false := by decide)
    (he : starEach (e :: es) X.env = (false, eval e X.env) :: starEach es X.env := by rfl) (hpl : (backTo pos (starEach es X.env)).any (·.1) = false := by rfl) : Ev X ρ O (.Call (.Name x p) (e :: es) [] pos) R :=
  ev_callA F hr (ha.as hs) hg hdb he hpl
def pureSp (f : List D → D → Prop) : SpD := fun ds O R => ∃ d, f ds d ∧ R d O
theorem ev_callP {k : Nat} {f : List D → D → Prop} (F : DefOk X.prog X.w X.K X.mg X.base k x (pureSp f)) (hr : Room k X.A) (ha : EvPs X ρ O (e :: es) ds) (hs : f ds d) (hg : Gl X x := by rfl) (hdb : (x == ("__debug__" : Str)) = false := by decide)
    (he : starEach (e :: es) X.env = (false, eval e X.env) :: starEach es X.env := by rfl) (hpl : (backTo pos (starEach es X.env)).any (·.1) = false := by rfl) : EvP X ρ O (.Call (.Name x p) (e :: es) [] pos) d :=
  (ev_call F hr ha ⟨d, hs, rfl, rfl⟩ hg hdb he hpl).evp
end
structure Post where
  nx : Rho → Sto → Prop
  rt : D → Sto → Prop
  bk : Rho → Sto → Prop := fun _ _ => False
  ct : Rho → Sto → Prop := fun _ _ => False
def Goes (K : PySem.W.Frag) (G : Wd) (N : Rho → Sto → Prop) (n : L2.St → Hp → Prop) : Prop := ∀ σ ρ O G' H, Ext G G' → SA K G' H O → EnvR K G' σ ρ → N ρ O → n σ H
structure Conts (K : PySem.W.Frag) (G : Wd) (P : Post) (E : Ends) : Prop where
  nx : Goes K G P.nx E.nx
  rt : ∀ v d O G' H, Ext G G' → SA K G' H O → Is K G' d v → P.rt d O → E.rt v H
  bk : Goes K G P.bk E.bk
  ct : Goes K G P.ct E.ct
theorem Goes.ext {K : PySem.W.Frag} {G G' : Wd} {N : Rho → Sto → Prop} {n : L2.St → Hp → Prop} (h : Goes K G N n) (e : Ext G G') : Goes K G' N n := fun σ ρ O G2 H e2 => h σ ρ O G2 H (e.trans e2)
theorem Conts.ext {K : PySem.W.Frag} {G G' : Wd} {P : Post} {E : Ends} (h : Conts K G P E) (e : Ext G G') : Conts K G' P E := ⟨h.nx.ext e, fun v d O G2 H e2 => h.rt v d O G2 H (e.trans e2), h.bk.ext e, h.ct.ext e⟩
def Ex (X : Cx) (ρ : Rho) (O : Sto) (st : Stmt) (P : Post) : Prop := ∀ G, PS X st (fun E σ H => SA X.K G H O ∧ EnvR X.K G σ ρ ∧ Conts X.K G P E)
def Exs (X : Cx) (ρ : Rho) (O : Sto) (st : List Stmt) (P : Post) : Prop := ∀ G, PSs X st (fun E σ H => SA X.K G H O ∧ EnvR X.K G σ ρ ∧ Conts X.K G P E)
section
variable {X : Cx} {ρ : Rho} {O : Sto} {e a b c : Expr} {es : List Expr} {d da db : D} {ds : List D} {R : D → Sto → Prop} {pos p : Pos} {x : Str} {st : Stmt} {rest body orelse : List Stmt} {P : Post}
theorem xs_nil (h : P.nx ρ O) : Exs X ρ O [] P := fun G => PSs.imp pss_nil fun E σ H ⟨h1, h2, h3⟩ => h3.nx σ ρ O G H (Ext.refl _) h1 h2 h
theorem xs_cons (h : Ex X ρ O st { P with nx := fun ρ' O' => Exs X ρ' O' rest P }) : Exs X ρ O (st :: rest) P := fun G =>
  PSs.imp (pss_cons (h G) (u := fun E σ H => ∃ G1 ρ1 O1, SA X.K G1 H O1 ∧ EnvR X.K G1 σ ρ1 ∧ Exs X ρ1 O1 rest P ∧ Conts X.K G1 P E) (fun pins s σ H E I ⟨G1, ρ1, O1, q1, q2, q3, q4⟩ => q3 G1 pins s σ H E I ⟨q1, q2, q4⟩)) fun E σ H ⟨h1, h2, h3⟩ =>
    ⟨h1, h2, ⟨fun σ1 ρ1 O1 G1 H1 e1 s1 n1 q1 => ⟨G1, ρ1, O1, s1, n1, q1, h3.ext e1⟩, h3.rt, h3.bk, h3.ct⟩⟩
theorem xs_seq (M : Rho → Sto → Prop) (h : Ex X ρ O st { P with nx := M }) (k : ∀ ρ' O', M ρ' O' → Exs X ρ' O' rest P) : Exs X ρ O (st :: rest) P := xs_cons fun G =>
  PS.imp (h G) fun E σ H ⟨h1, h2, h3⟩ => ⟨h1, h2, ⟨fun σ1 ρ1 O1 G1 H1 e1 s1 n1 q1 => h3.nx σ1 ρ1 O1 G1 H1 e1 s1 n1 (k _ _ q1), h3.rt, h3.bk, h3.ct⟩⟩
theorem x_ret (h : Ev X ρ O e P.rt) : Ex X ρ O (.Return (some e) pos) P := fun G => PS.imp (ps_ret (h G)) fun E σ H ⟨h1, h2, h3⟩ => ⟨h1, h2, fun v d O' G' H' e1 s1 i1 r1 => h3.rt v d O' G' H' e1 s1 i1 r1⟩
theorem x_expr (h : Ev X ρ O e fun _ O' => P.nx ρ O') (hs : swapsWith e none pos.line X.env = pure false := by rfl) : Ex X ρ O (.Expr e pos) P := fun G => PS.imp (ps_expr (h G) hs) fun E σ H ⟨h1, h2, h3⟩ =>
  ⟨h1, h2, fun v d O' G' H' e1 s1 i1 r1 => h3.nx σ ρ O' G' H' e1 s1 (h2.ext e1) r1⟩
theorem x_if {k : Bool} (hc : EvT X ρ O c k) (h1 : k = true → Exs X ρ O body P) (h2 : k = false → Exs X ρ O orelse P) : Ex X ρ O (.If c body orelse pos) P := fun G =>
  PS.imp (ps_if (hc G) (t := fun E σ H => ∃ G1, k = true ∧ SA X.K G1 H O ∧ EnvR X.K G1 σ ρ ∧ Conts X.K G1 P E) (fun pins s σ H E I ⟨G1, z, q⟩ => h1 z G1 pins s σ H E I q)
    (u := fun E σ H => ∃ G1, k = false ∧ SA X.K G1 H O ∧ EnvR X.K G1 σ ρ ∧ Conts X.K G1 P E) (fun pins s σ H E I ⟨G1, z, q⟩ => h2 z G1 pins s σ H E I q)) fun E σ H ⟨q1, q2, q3⟩ =>
    ⟨q1, q2, fun G' H' e1 s1 => by
      cases k with
      | true => exact iteT ⟨G', rfl, s1, q2.ext e1, q3.ext e1⟩
      | false => exact iteF ⟨G', rfl, s1, q2.ext e1, q3.ext e1⟩⟩
def Tg (X : Cx) (tg : Expr) (d : D) (ρ ρ' : Rho) : Prop := ∀ G, PG X tg (fun v σ H Q => Is X.K G d v ∧ Same G.g H ∧ EnvR X.K G σ ρ ∧ ∀ σ', EnvR X.K G σ' ρ' → Q σ' H)
def Tgs (X : Cx) (tg : List Expr) (ds : List D) (ρ ρ' : Rho) : Prop := ∀ G, PGs X tg (fun vs σ H Q => Iss X.K G ds vs ∧ Same G.g H ∧ EnvR X.K G σ ρ ∧ ∀ σ', EnvR X.K G σ' ρ' → Q σ' H)
theorem tg_name (i : Nat) (hN : X.N.Nodup) (hi : X.N[i]? = some x := by rfl) (hx : Loc X.env.scope x := by first | exact Or.inl rfl | exact Or.inr rfl) (hf : X.fn x = true ∨ X.env.scope.names.lookup x = some .local := by first | exact .inl rfl | exact .inr rfl | assumption) : Tg X (.Name x pos) d ρ (ρ.set i (some d)) := fun G pins s σ H v u Q I r ⟨h1, h2, h3, h4⟩ =>
  pg_name hN hi hx hf pins s σ H v u Q I r (h4 _ (h3.set i h1))
theorem tgs_nil : Tgs X [] [] ρ ρ := fun G pins s σ H vs us Q I r ⟨h1, h2, h3, h4⟩ => pgs_nil pins s σ H vs us Q I r ⟨by cases h1; rfl, h4 _ h3⟩
theorem tgs_cons {ρ1 ρ2 : Rho} (h : Tg X e d ρ ρ1) (k : Tgs X es ds ρ1 ρ2) (hs : (assignEach (e :: es) X.env).map (·.2) = assign e X.env :: (assignEach es X.env).map (·.2) := by rfl) : Tgs X (e :: es) (d :: ds) ρ ρ2 := fun G pins s σ H vs us Q I r ⟨h1, h2, h3, h4⟩ => by
  cases h1 with
  | cons i1 i2 =>
    exact pgs_cons (h G) (k G) hs pins s σ H _ us Q I r ⟨_, _, rfl, i1, h2, h3, fun σ' n' => ⟨i2, h2, n', h4⟩⟩
theorem tg_tup {ρ1 : Rho} {k : Nat} (h : Tgs X es ds ρ ρ1) (hc : X.calm = true := by rfl) (hn : (assignEach es X.env).length = ds.length := by rfl) (hst : (assignEach es X.env).findIdx? (·.1) = none := by rfl) : Tg X (.Tuple es k pos) (.tup ds) ρ ρ1 := fun G pins s σ H v u Q I r ⟨h1, h2, h3, h4⟩ => by
  cases h1 with
  | tup q1 q2 =>
    exact pg_tup hc (h G) hn hst pins s σ H _ u Q I r ⟨_, _, rfl, sqT_same h2 q1, by rw [← q2.length], q2, h2, h3, h4⟩
theorem x_set (i : Nat) (he : Ev X ρ O e fun d O' => P.nx (ρ.set i (some d)) O') (hN : X.N.Nodup) (hi : X.N[i]? = some x := by rfl) (hx : Loc X.env.scope x := by first | exact Or.inl rfl | exact Or.inr rfl) {p : Pos}
    (hs : swapsWith e (some (.Name x p)) pos.line X.env = pure false := by rfl) (hf : X.fn x = true ∨ X.env.scope.names.lookup x = some .local := by first | exact .inl rfl | exact .inr rfl | assumption) : Ex X ρ O (.Assign [.Name x p] e pos) P := fun G =>
  PS.imp (ps_set hN hi hx (he G) hs hf) fun E σ H ⟨h1, h2, h3⟩ => ⟨h1, h2, fun v d O' G' H' e1 s1 i1 r1 => h3.nx _ _ O' G' H' e1 s1 ((h2.ext e1).set i i1) r1⟩
theorem x_append {q : Nat} {xs : List D} {apos cpos : Pos} (ho : EvP X ρ O a (.ptr q)) (hq : O[q]? = some (some (.lst xs))) (he : EvP X ρ O e d) (hz : xs.length < sizeLine) (h : P.nx ρ (O.set q (some (.lst (xs ++ [d])))))
    (hbase : attributeBase a ("append" : Str) X.env (eval a X.env) = eval a X.env := by rfl) (hline : (apos.endLine == cpos.line) = true := by rfl) (hst : starEach [e] X.env = [(false, eval e X.env)] := by rfl)
    (hsw : swapsWith (.Call (.Attribute a ("append" : Str) apos) [e] [] cpos) none pos.line X.env = pure false := by rfl) : Ex X ρ O (.Expr (.Call (.Attribute a ("append" : Str) apos) [e] [] cpos) pos) P := fun G =>
  PS.imp (ps_expr (pe_bm PySem.F.plainAttrs_list PySem.F.slot_list_append PySem.F.type_list_append mt_append (ho G)
    (pa_cons (te := fun σ H Q => ∃ G1, SA X.K G1 H O ∧ EnvR X.K G1 σ ρ ∧ ∀ v G' H', Ext G1 G' → SA X.K G' H' O → Is X.K G' d v → Q v H') (fun pins s σ H Q I ⟨G1, q⟩ => he G1 pins s σ H Q I q) pa_nil hst) hbase
    (by rw [hst]; rfl) hline hst (by rfl)) hsw) fun E σ H ⟨q1, q2, q3⟩ => ⟨q1, q2, fun v G1 H1 e1 s1 i1 => by
      cases i1 with
      | ptr _ ha =>
      obtain ⟨a1, g0, g1, vs, g2, g3⟩ := s1.mt q _ hq
      obtain rfl := Option.some.inj (ha.symm.trans g0)
      refine ⟨.inl ⟨rfl, vs, SqL.of g2⟩, G1, s1, q2.ext e1, fun w G2 H2 e2 s2 i2 => ?_⟩
      obtain ⟨a2, g7, g4, us, g5, g6⟩ := s2.mt q _ hq
      obtain rfl := Option.some.inj ((e2.at g0).symm.trans g7)
      refine ⟨_, us, w, rfl, rfl, g5, by rw [← g6.length]; exact hz, ?_⟩
      exact q3.nx σ ρ _ G2 _ (e1.trans e2) (s2.put (m' := .lst (xs ++ [d])) hq g7 ⟨_, upd_same, g6.append (.cons i2 .nil)⟩) (q2.ext (e1.trans e2)) h⟩
structure Yields (K : PySem.W.Frag) (G : Wd) (J : It) (xs : List D) : Prop where
  go : ∀ i H, Same G.g H → i < xs.length → J.go i H
  stop : ∀ i H, Same G.g H → xs.length ≤ i → J.stop i H
  yld : ∀ i v H H' G2 O2, Ext G G2 → SA K G2 H O2 → J.yld i H v H' → i < xs.length → ∃ x G3, xs[i]? = some x ∧ Ext G2 G3 ∧ SA K G3 H' O2 ∧ Is K G3 x v
def EvI (X : Cx) (ρ : Rho) (O : Sto) (tg iter : Expr) (xs : List D) : Prop :=
  ∀ G, PI X tg iter (fun σ H R => SA X.K G H O ∧ EnvR X.K G σ ρ ∧ ∀ J G' H', Ext G G' → SA X.K G' H' O → Yields X.K G' J xs → R J H')
theorem _root_.L2.PI.imp {X : Cx} {tg iter : Expr} {t u : TI} (h : PI X tg iter t) (k : ∀ σ H R, u σ H R → t σ H R) : PI X tg iter u := fun pins s σ H R I q => h pins s σ H R I (k _ _ _ q)
theorem itl_yields {K : PySem.W.Frag} {G : Wd} {q : Addr} {vs : List V} {xs : List D} (h1 : SqL K G.g q vs) (r : Iss K G xs vs) : Yields K G (Itl K q) xs where
  go := fun i H e hi => by
    obtain ⟨v, hv, _⟩ := r.get (i := i) (d := xs[i]) (by simp [hi])
    exact ⟨vs, v, e.seq h1, hv⟩
  stop := fun i H e hi => ⟨vs, e.seq h1, by rw [← r.length]; exact hi⟩
  yld := fun i v H H' G2 O2 e s y hi => by
    obtain ⟨rfl, y⟩ := y
    obtain ⟨x, hx, ix⟩ := r.getV (y vs ((e.g.trans s.sub).seq h1))
    exact ⟨x, G2, hx, Ext.refl _, s, ix.ext e⟩
theorem itt_yields {K : PySem.W.Frag} {G : Wd} {q : Addr} {vs : List V} {xs : List D} (h1 : SqT K G.g q vs) (r : Iss K G xs vs) : Yields K G (Itt K q) xs where
  go := fun i H e hi => by
    obtain ⟨v, hv, _⟩ := r.get (i := i) (d := xs[i]) (by simp [hi])
    exact ⟨vs, v, sqT_same e h1, hv⟩
  stop := fun i H e hi => ⟨vs, sqT_same e h1, by rw [← r.length]; exact hi⟩
  yld := fun i v H H' G2 O2 e s y hi => by
    obtain ⟨rfl, y⟩ := y
    obtain ⟨x, hx, ix⟩ := r.getV (y vs (sqT_same (e.g.trans s.sub) h1))
    exact ⟨x, G2, hx, Ext.refl _, s, ix.ext e⟩
theorem ei_lst {tg : Expr} {xs : List D} (h : EvP X ρ O e (.lst xs)) : EvI X ρ O tg e xs := fun G => PI.imp (pi_list (h G)) fun σ H R ⟨h1, h2, h3⟩ => ⟨h1, h2, fun v G1 H1 e1 s1 i1 => by
  cases i1 with
  | lst q r => exact ⟨_, rfl, ⟨_, SqL.of (s1.sub _ _ q)⟩, h3 _ G1 H1 e1 s1 (itl_yields (SqL.of q) r)⟩⟩
theorem ei_scr {tg : Expr} {xs : List D} (h : EvP X ρ O e (.scr xs)) : EvI X ρ O tg e xs := fun G => PI.imp (pi_list (h G)) fun σ H R ⟨h1, h2, h3⟩ => ⟨h1, h2, fun v G1 H1 e1 s1 i1 => by
  cases i1 with
  | scr q r => exact ⟨_, rfl, ⟨_, s1.sub.seq q⟩, h3 _ G1 H1 e1 s1 (itl_yields q r)⟩⟩
theorem ei_tup {tg : Expr} {xs : List D} (h : EvP X ρ O e (.tup xs)) : EvI X ρ O tg e xs := fun G => PI.imp (pi_tup (h G)) fun σ H R ⟨h1, h2, h3⟩ => ⟨h1, h2, fun v G1 H1 e1 s1 i1 => by
  cases i1 with
  | tup q r => exact ⟨_, rfl, ⟨_, sqT_same s1.sub q⟩, h3 _ G1 H1 e1 s1 (itt_yields q r)⟩⟩
def rangeD (lo : Int) (n : Nat) : List D := (List.range n).map fun i => .int (lo + (i : Nat))
theorem rangeD_len {lo : Int} {n : Nat} : (rangeD lo n).length = n := by simp [rangeD]
theorem rangeD_get {lo : Int} {n i : Nat} (h : i < n) : (rangeD lo n)[i]? = some (.int (lo + (i : Nat))) := by simp [rangeD, h]
theorem rangeD_at {lo : Int} {n i : Nat} {x : D} (h : (rangeD lo n)[i]? = some x) : i < n ∧ x = .int (lo + (i : Nat)) := by
  have hi : i < n := by
    have := (List.getElem?_eq_some_iff.mp h).1
    rw [rangeD_len] at this
    exact this
  rw [rangeD_get hi] at h
  exact ⟨hi, (Option.some.inj h).symm⟩
theorem itr_yields {K : PySem.W.Frag} {G : Wd} {lo : Int} {n : Nat} : Yields K G (Itr lo n) (rangeD lo n) where
  go := fun i H _ hi => by rw [rangeD_len] at hi; exact hi
  stop := fun i H _ hi => by rw [rangeD_len] at hi; exact hi
  yld := fun i v H H' G2 O2 e s y hi => by
    obtain ⟨rfl, rfl⟩ := y
    rw [rangeD_len] at hi
    exact ⟨_, G2, rangeD_get hi, Ext.refl _, s, .int _⟩
theorem ei_range1 {tg : Expr} {n : Int} (h : EvP X ρ O e (.int n)) (hm : X.mg "range" = none) (h1 : -(2 ^ 62) ≤ n) (h2 : n < 2 ^ 62) (hg : Gl X "range" := by rfl) (hs : starEach [e] X.env = [(false, eval e X.env)] := by rfl) : EvI X ρ O tg (.Call (.Name "range" p) [e] [] pos) (rangeD 0 n.toNat) := fun G =>
  PI.imp (pi_range1 hg hm (es_cons h es_nil hs G) hs) fun σ H R ⟨q1, q2, q3⟩ => ⟨q1, q2, fun vs G1 H1 e1 s1 i1 => by
    cases i1 with | cons i r => cases r; cases i; exact ⟨n, rfl, h1, h2, q3 _ G1 H1 e1 s1 itr_yields⟩⟩
theorem ei_range2 {tg : Expr} {m n : Int} (ha : EvP X ρ O a (.int m)) (hb : EvP X ρ O b (.int n)) (hm : X.mg "range" = none) (h1 : -(2 ^ 62) ≤ m) (h2 : m < 2 ^ 62) (h3 : -(2 ^ 62) ≤ n) (h4 : n < 2 ^ 62) (hg : Gl X "range" := by rfl)
    (hs : starEach [a, b] X.env = [(false, eval a X.env), (false, eval b X.env)] := by rfl) (hs2 : starEach [b] X.env = [(false, eval b X.env)] := by rfl) : EvI X ρ O tg (.Call (.Name "range" p) [a, b] [] pos) (rangeD m (n - m).toNat) := fun G =>
  PI.imp (pi_range2 hg hm (es_cons ha (es_cons hb es_nil hs2) (by rw [hs, hs2]) G) hs hs2) fun σ H R ⟨q1, q2, q3⟩ => ⟨q1, q2, fun vs G1 H1 e1 s1 i1 => by
    cases i1 with | cons i r => cases r with | cons i' r => cases r; cases i; cases i'; exact ⟨m, n, rfl, ⟨h1, h2, h3, h4⟩, q3 _ G1 H1 e1 s1 itr_yields⟩⟩
theorem x_for {tg iter : Expr} {body : List Stmt} {xs : List D} (hi : EvI X ρ O tg iter xs) (inv : Nat → Rho → Sto → Prop) (h0 : inv 0 ρ O)
    (hs : ∀ i x ρ' O', xs[i]? = some x → inv i ρ' O' → ∃ ρ1, Tg X tg x ρ' ρ1 ∧ Exs X ρ1 O' body { P with nx := inv (i + 1), ct := inv (i + 1), bk := P.nx }) (hd : ∀ ρ' O', inv xs.length ρ' O' → P.nx ρ' O')
    (hp : PassesOwn (model X.prog X.w) X.A X.env X.xe := by exact PassesOwn.never) (hc : X.calm = true := by rfl) (hf : ∀ x, foldedSetIterable iter X.env x = pure x := by intro _; rfl) : Ex X ρ O (.For tg iter body [] pos) P := fun G =>
  PS.imp (ps_for hp hc (hi G) (g := fun v σ H Q => ∃ G1 ρ1 ρ2 x, Tg X tg x ρ1 ρ2 ∧ Is X.K G1 x v ∧ Same G1.g H ∧ EnvR X.K G1 σ ρ1 ∧ ∀ σ', EnvR X.K G1 σ' ρ2 → Q σ' H) (fun pins s σ H v u Q I r ⟨G1, ρ1, ρ2, x, q, q'⟩ => q G1 pins s σ H v u Q I r q')
    (tb := fun E σ H => ∃ G1 ρ1 O1 P1, SA X.K G1 H O1 ∧ EnvR X.K G1 σ ρ1 ∧ Exs X ρ1 O1 body P1 ∧ Conts X.K G1 P1 E) (fun pins s σ H E I ⟨G1, ρ1, O1, P1, q1, q2, q3, q4⟩ => q3 G1 pins s σ H E I ⟨q1, q2, q4⟩) hf) fun E σ H ⟨q1, q2, q3⟩ => by
    refine ⟨q1, q2, fun J G1 H1 e1 s1 Y => ?_⟩
    refine ⟨fun i m σ H => ∃ G2 ρ2 O2, Ext G1 G2 ∧ SA X.K G2 H O2 ∧ EnvR X.K G2 σ ρ2 ∧ inv i ρ2 O2 ∧ i ≤ xs.length ∧ m = xs.length - i, ⟨_, G1, ρ, O, Ext.refl _, s1, q2.ext e1, h0, Nat.zero_le _, rfl⟩, ?_⟩
    rintro i m σ2 H2 ⟨G2, ρ2, O2, e2, s2, n2, v2, l2, rfl⟩
    by_cases hlt : i < xs.length
    · refine .inr ⟨Y.go i H2 (e2.g.trans s2.sub) hlt, fun σ' H' => ∃ G3 ρ3 O3, Ext G1 G3 ∧ SA X.K G3 H' O3 ∧ EnvR X.K G3 σ' ρ3 ∧ inv (i + 1) ρ3 O3, fun σ' H' ⟨G3, ρ3, O3, e3, s3, n3, v3⟩ => ⟨xs.length - (i + 1), by omega, G3, ρ3, O3, e3, s3, n3, v3, hlt, rfl⟩, fun v H3 y => ?_⟩
      obtain ⟨x, G3, hx, e3, s3, i3⟩ := Y.yld i v H2 H3 G2 O2 e2 s2 y hlt
      obtain ⟨ρ3, t3, b3⟩ := hs i x ρ2 O2 hx v2
      have e13 : Ext G1 G3 := e2.trans e3
      refine ⟨G3, ρ2, ρ3, x, t3, i3, s3.sub, n2.ext e3, fun σ' n' => ⟨G3, ρ3, O2, _, s3, n', b3, ⟨fun σ4 ρ4 O4 G4 H4 e4 s4 n4 q => ⟨G4, ρ4, O4, e13.trans e4, s4, n4, q⟩, fun v d O4 G4 H4 e4 s4 i4 r => q3.rt v d O4 G4 H4 (e1.trans (e13.trans e4)) s4 i4 r,
        fun σ4 ρ4 O4 G4 H4 e4 s4 n4 q => q3.nx σ4 ρ4 O4 G4 H4 (e1.trans (e13.trans e4)) s4 n4 q, fun σ4 ρ4 O4 G4 H4 e4 s4 n4 q => ⟨G4, ρ4, O4, e13.trans e4, s4, n4, q⟩⟩⟩⟩
    · have ei : i = xs.length := by omega
      subst ei
      exact .inl ⟨Y.stop _ H2 (e2.g.trans s2.sub) (Nat.le_refl _), q3.nx σ2 ρ2 O2 G2 H2 (e1.trans e2) s2 n2 (hd _ _ v2)⟩
end
def startD (N : List Str) (ds : List D) : Rho := ds.map some ++ List.replicate (N.length - ds.length) none
section
variable {P : Program} {w : World} {K : PySem.W.Frag} {mg : Str → Option Value} {base : Heap}
theorem start_env {G : Wd} {N : List Str} {ds : List D} {vs : List V} (r : Iss K G ds vs) : EnvR K G (L2.start N vs) (startD N ds) := by
  refine ⟨by unfold L2.start startD; simp [r.length], fun i d h => ?_⟩
  unfold startD at h
  by_cases hi : i < ds.length
  · rw [List.getElem?_append_left (by simpa using hi), List.getElem?_map] at h
    cases q : ds[i]? with
    | none => rw [q] at h; cases h
    | some d' =>
      rw [q] at h; cases h
      obtain ⟨v, hv, iv⟩ := r.get q
      refine ⟨v, ?_, iv⟩
      unfold L2.start
      rw [List.getElem?_append_left (by rw [List.length_map, ← r.length]; exact hi), List.getElem?_map, hv]
      rfl
  · rw [List.getElem?_append_right (by simpa using hi), List.getElem?_replicate] at h
    split at h <;> cases h
theorem okF {x qual : Str} {st : Stmt} {f : Addr} {fd : FuncData} {N ps : List Str} {k : Nat} {sp : SpD} (F : Fun K x qual st f fd) (S : FnScope N ps (defScope st))
    (len : ∀ ds O R, sp ds O R → ds.length = ps.length)
    (hbody : ∀ (cdv : Value) (A : Around) (outer : List Env) (s : Shared) (H : Hp) (E : XK) (ds : List D) (O : Sto) (R : D → Sto → Prop), Room k (A.deeper (envOfC qual (defScope st) s.heap.objs.size f cdv)) → sp ds O R →
      Exs (cxOf CX0 P w K mg base N qual (defScope st) f cdv A outer s H E).nox (startD N ds) O (defBody st) { nx := fun _ O' => R .non O', rt := R }) : FnOk P w K mg base CX0 (k + 1) f fd ps (toSp K sp) := by
  refine F.ok S (fun vs H Q E h => ?_) (fun cdv A outer s H vs Q E hr h => ?_)
  · obtain ⟨G, O, ds, R, h1, h2, h3, h4⟩ := h
    rw [← h2.length]
    exact len _ _ _ h3
  · obtain ⟨G, O, ds, R, h1, h2, h3, h4⟩ := h
    refine ⟨_, hbody cdv A outer s H E ds O R hr h3 G, h1, start_env h2, ⟨fun σ ρ O' G' H' e1 s1 n1 q => h4 _ _ O' G' H' e1 s1 .non q, fun v d O' G' H' e1 s1 i1 q => h4 v d O' G' H' e1 s1 i1 q, fun σ ρ O' G' H' e1 s1 n1 q => q.elim, fun σ ρ O' G' H' e1 s1 n1 q => q.elim⟩⟩
theorem okD {x qual : Str} {st : Stmt} {f : Addr} {fd : FuncData} {N ps : List Str} {k : Nat} {sp : SpD} (F : Fun K x qual st f fd) (S : FnScope N ps (defScope st)) (hm : mg x = some (.ref f)) (hb : Binds K fd ps [])
    (len : ∀ ds O R, sp ds O R → ds.length = ps.length)
    (hbody : ∀ (cdv : Value) (A : Around) (outer : List Env) (s : Shared) (H : Hp) (E : XK) (ds : List D) (O : Sto) (R : D → Sto → Prop), Room k (A.deeper (envOfC qual (defScope st) s.heap.objs.size f cdv)) → sp ds O R →
      Exs (cxOf CX0 P w K mg base N qual (defScope st) f cdv A outer s H E).nox (startD N ds) O (defBody st) { nx := fun _ O' => R .non O', rt := R }) : DefOk P w K mg base (k + 1) x sp :=
  ⟨f, fd, ps, okF F S len hbody, hm, F.kp, hb⟩
end
def spLaw : SpD := fun ds O R => ∃ ns : List Int, ds = [.scr (ns.map D.int)] ∧ ns.length ≤ 63 ∧ R (.bl true) O
theorem law_start {K : PySem.W.Frag} {H : Hp} {a : Addr} {ns : List Int} (hl : ns.length ≤ 63) (hS : SqL K H a (ns.map V.int)) : toSp K spLaw [.ref a] H (fun v _ => v = .bl true) fun _ _ _ => False :=
  ⟨⟨H, []⟩, [], [.scr (ns.map D.int)], fun d _ => d = .bl true, ⟨Same.refl _, rfl, List.nodup_nil, fun a h => absurd h List.not_mem_nil, fun n m h => by cases h⟩, .cons (.scr hS Iss.ints) .nil, ⟨ns, rfl, hl, rfl⟩, fun v d O' G' H' _ _ i r => by subst r; cases i; rfl⟩
section
variable {X : Cx} {ρ : Rho} {O : Sto} {e a b c : Expr} {es : List Expr} {d da db : D} {ds : List D} {R : D → Sto → Prop} {pos p : Pos} {x : Str}
theorem ev_type {U : String} (hm : X.mg x = none) (hg : Gl X x := by rfl) (hv : bootBuiltins x = some (.type U) := by first | rfl | decide +kernel) (hn : x ≠ "__name__" := by decide) (hd : (x == ("__debug__" : Str)) = false := by decide) : EvP X ρ O (.Name x p) (.ty U) := fun G =>
  PE.imp (pe_bltn (v := .ty U) hg hm hv rfl hn hd) fun σ H Q ⟨h1, h2, h3⟩ => h3 _ G H (Ext.refl _) h1 (.ty U)
def tyD : D → Option String
  | .non => some "NoneType" | .bl _ => some "bool" | .int _ => some "int" | .str _ => some "str" | .tup _ => some "tuple" | .lst _ => some "list" | .scr _ => some "list" | .ptr _ => none | .ty _ => none | .fn _ => none | .dct _ _ => some "dict"
theorem c_isi {T U : String} {k : Bool} (ht : tyD d = some T) (hk : ∀ K, PySem.W.kitOne K (.type T) (.type U) = some k) : CallD X O (.builtin "isinstance") [d, .ty U] (.bl k) := fun G pins s σ H xs us Q I r ⟨h1, h2, h3⟩ => by
  cases h2 with
  | cons i r2 =>
    cases r2 with
    | cons i' r3 =>
      cases r3
      cases i'
      obtain ⟨u, u', rfl, r1, r2⟩ := vals2 r
      cases r2
      have fin : ∀ tk, EP X pins σ Q (.bool k) { s with toks := tk } := fun tk => ⟨.bl k, H, I.tok tk, rfl, h3 _ G H (Ext.refl _) h1 (.bl k)⟩
      cases i with
      | non => cases ht; cases r1; exact PySem.W.kia_one PySem.W.kitx_none I.kIn True.intro (hk _) (fun z => nomatch z) fin
      | bl y => cases ht; cases r1; exact PySem.W.kia_one PySem.W.kitx_bool I.kIn True.intro (hk _) (fun z => nomatch z) fin
      | int i => cases ht; obtain ⟨t, rfl⟩ := r1; exact PySem.W.kia_one PySem.W.kitx_int I.kIn True.intro (hk _) (fun z => nomatch z) fin
      | str y => cases ht; obtain ⟨t, rfl⟩ := r1; exact PySem.W.kia_one PySem.W.kitx_str I.kIn True.intro (hk _) (fun z => nomatch z) fin
      | tup q1 q2 =>
        cases ht; cases r1
        obtain ⟨its, _, ⟨o, g1, g2, _⟩, _⟩ := I.tuple (sqT_same h1.sub q1)
        exact PySem.W.kia_one PySem.W.kitx_tuple I.kIn ⟨o, g1, g2⟩ (hk _) (fun z => nomatch z) fin
      | lst q1 q2 =>
        cases ht; cases r1
        obtain ⟨its, _, ⟨o, n, g1, g2, _⟩, _⟩ := I.list (SqL.of (h1.sub _ _ q1))
        exact PySem.W.kia_one PySem.W.kitx_list I.kIn ⟨o, g1, g2⟩ (hk _) (fun z => nomatch z) fin
      | scr q1 q2 =>
        cases ht; cases r1
        obtain ⟨its, _, ⟨o, n, g1, g2, _⟩, _⟩ := I.list (h1.sub.seq q1)
        exact PySem.W.kia_one PySem.W.kitx_list I.kIn ⟨o, g1, g2⟩ (hk _) (fun z => nomatch z) fin
      | ptr _ _ => cases ht
      | ty _ => cases ht
      | fn _ => cases ht
      | dct q1 _ q2 =>
        cases ht; cases r1
        obtain ⟨_, _, _, _, o, _, _, g1, g2, _⟩ := Rd.ok (.inr ⟨_, h1.sub _ _ q1⟩) I.hok
        exact PySem.W.kia_one PySem.W.kitx_dict I.kIn ⟨o, g1, g2.1⟩ (hk _) (fun z => nomatch z) fin
def subTy (T U : String) : Bool := T == U || (T == "bool" && U == "int")
theorem kit_all : ∀ T ∈ ["NoneType", "bool", "int", "str", "tuple", "list", "dict"], ∀ U ∈ ["int", "bool", "tuple", "str", "dict", "list"], ∀ K, PySem.W.kitOne K (.type T) (.type U) = some (subTy T U) := by
  intro T hT U hU K
  simp only [List.mem_cons, List.not_mem_nil, or_false] at hT hU
  rcases hT with rfl | rfl | rfl | rfl | rfl | rfl | rfl <;> rcases hU with rfl | rfl | rfl | rfl | rfl | rfl <;> kernel_rfl
def okTy : D → Bool
  | .ptr _ => false | .ty _ => false | .fn _ => false | _ => true
def isiD (d : D) (U : String) : Bool := match tyD d with
  | some T => subTy T U
  | none => false
theorem c_isiU {U : String} (h : okTy d = true) (hU : U ∈ ["int", "bool", "tuple", "str", "dict", "list"]) : CallD X O (.builtin "isinstance") [d, .ty U] (.bl (isiD d U)) := by
  cases d with
  | ptr _ => cases h
  | ty _ => cases h
  | fn _ => cases h
  | _ => exact c_isi (T := _) rfl (kit_all _ (by decide) U hU)
theorem c_isi_int (h : okTy d = true) : CallD X O (.builtin "isinstance") [d, .ty "int"] (.bl (isiD d "int")) := c_isiU h (by decide)
theorem c_isi_bool (h : okTy d = true) : CallD X O (.builtin "isinstance") [d, .ty "bool"] (.bl (isiD d "bool")) := c_isiU h (by decide)
theorem c_isi_tuple (h : okTy d = true) : CallD X O (.builtin "isinstance") [d, .ty "tuple"] (.bl (isiD d "tuple")) := c_isiU h (by decide)
theorem ev_neg {i : Int} (ha : EvP X ρ O a (.int i)) : EvP X ρ O (.UnaryOp .USub a pos) (.int (-i)) := fun G => PE.imp (pe_un un_neg (ha G)) fun σ H Q ⟨h1, h2, h3⟩ => ⟨h1, h2, fun v G1 H1 e1 s1 i1 => by
  cases i1; exact ⟨i, rfl, h3 _ G1 H1 e1 s1 (.int _)⟩⟩
end
end DL
set_option Elab.async false
set_option linter.all false
set_option maxRecDepth 100000
namespace DL
open PySem PySem.Spec PyProof.Rows L2
def closOf (env : Env) : List (Str × NameKind) → List (Str × Addr) → List (Str × Addr)
  | [], cs => cs
  | (n, k) :: r, cs => if k == .free then closOf env r ((n, (env.cells.lookup n).getD 0) :: cs) else closOf env r cs
theorem clos_run {env : Env} (f : Str × NameKind → List (Str × Addr) → Sem (ForInStep (List (Str × Addr))))
    (hf : ∀ n k cs, f (n, k) cs = if (k == NameKind.free) = true then (do let a ← cellOf env n; pure (.yield ((n, a) :: cs))) else pure (.yield cs)) :
    ∀ (names : List (Str × NameKind)) (cs : List (Str × Addr)), (∀ y ∈ names, y.2 = .free → ∃ a, env.cells.lookup y.1 = some a) → forIn names cs f = pure (closOf env names cs)
  | [], cs, _ => by rw [List.forIn_nil]; rfl
  | (n, k) :: r, cs, h => by
    rw [List.forIn_cons, hf]
    have hr : ∀ y ∈ r, y.2 = .free → ∃ a, env.cells.lookup y.1 = some a := fun y hy => h y (List.mem_cons_of_mem _ hy)
    unfold closOf
    by_cases hk : (k == NameKind.free) = true
    · rw [if_pos hk, if_pos hk]
      obtain ⟨a, e⟩ := h (n, k) List.mem_cons_self (by simpa using hk)
      have e' : cellOf env n = pure a := by unfold cellOf; rw [e]
      rw [e', e]
      simp only [pure_bind, Option.getD_some]
      exact clos_run f hf r _ hr
    · rw [if_neg hk, if_neg hk]
      simp only [pure_bind]
      exact clos_run f hf r _ hr
theorem clos_eq {env : Env} {scope : Scope} (h : ∀ y ∈ scope.names, y.2 = .free → ∃ a, env.cells.lookup y.1 = some a) : closureFor scope env = pure (closOf env scope.names []) := by
  have e := clos_run (env := env) (fun (x : Str × NameKind) (cs : List (Str × Addr)) => if (x.2 == NameKind.free) = true then (do let a ← cellOf env x.1; pure (.yield ((x.1, a) :: cs))) else pure (.yield cs)) (fun n k cs => rfl) scope.names [] h
  unfold closureFor
  exact (congrArg (fun z => z >>= fun q => pure q) e).trans (by simp)
theorem clos_of {env : Env} {x : Str} {c : Addr} : ∀ (names : List (Str × NameKind)) (cs : List (Str × Addr)), (∀ y ∈ names, y.2 = .free → ∃ a, env.cells.lookup y.1 = some a) →
    (closOf env names cs).lookup x = some c → cs.lookup x = some c ∨ env.cells.lookup x = some c
  | [], cs, _, h => .inl h
  | (n, k) :: r, cs, hh, h => by
    have hr : ∀ y ∈ r, y.2 = .free → ∃ a, env.cells.lookup y.1 = some a := fun y hy => hh y (List.mem_cons_of_mem _ hy)
    unfold closOf at h
    by_cases hk : (k == NameKind.free) = true
    · rw [if_pos hk] at h
      obtain ⟨a, e⟩ := hh (n, k) List.mem_cons_self (by simpa using hk)
      rcases clos_of r _ hr h with q | q
      · rw [e, Option.getD_some, List.lookup_cons] at q
        cases hx : x == n with
        | true =>
          rw [hx] at q
          have : x = n := by simpa using hx
          subst this
          exact .inr (by cases q; exact e)
        | false => rw [hx] at q; exact .inl q
      · exact .inr q
    · rw [if_neg hk] at h
      exact clos_of r cs hr h
theorem clos_has {env : Env} {x : Str} : ∀ (names : List (Str × NameKind)) (cs : List (Str × Addr)), names.lookup x = some .free ∨ (cs.lookup x).isSome = true → ((closOf env names cs).lookup x).isSome = true
  | [], cs, h => h.elim (fun e => by cases e) id
  | (n, k) :: r, cs, h => by
    unfold closOf
    by_cases hk : (k == NameKind.free) = true
    · rw [if_pos hk]
      refine clos_has r _ ?_
      cases hx : x == n with
      | true => right; rw [List.lookup_cons, hx]; rfl
      | false =>
        rw [List.lookup_cons, hx] at h
        rw [List.lookup_cons, hx]
        exact h
    · rw [if_neg hk]
      refine clos_has r _ ?_
      cases hx : x == n with
      | true =>
        rw [List.lookup_cons, hx] at h
        rcases h with h | h
        · cases h; exact absurd rfl hk
        · exact .inr h
      | false => rw [List.lookup_cons, hx] at h; exact h
theorem cf_out {x : Str} : ∀ (names : List (Str × NameKind)) (n : Nat) (acc : List (Str × Addr)), (∀ y ∈ names, y.1 = x → y.2 ≠ .cell) → (cellsFrom n names acc).lookup x = acc.lookup x
  | [], _, _, _ => rfl
  | (y, k) :: r, n, acc, h => by
    have hr : ∀ z ∈ r, z.1 = x → z.2 ≠ .cell := fun z hz => h z (List.mem_cons_of_mem _ hz)
    unfold cellsFrom
    by_cases hk : (k == NameKind.cell) = true
    · rw [if_pos hk, cf_out r _ _ hr, List.lookup_cons]
      have : y ≠ x := fun e => h (y, k) List.mem_cons_self e (by simpa using hk)
      rw [show (x == y) = false from by simpa using Ne.symm this]
    · rw [if_neg hk]
      exact cf_out r _ _ hr
theorem cf_cell {x : Str} {c : Addr} : ∀ (names : List (Str × NameKind)) (h : Heap) (acc : List (Str × Addr)), (∀ y b, acc.lookup y = some b → ∃ v, h.IsCell b v) → (cellsFrom h.objs.size names acc).lookup x = some c →
    (∃ v, (pushCells h names).IsCell c v) ∧ (acc.lookup x = some c ∨ h.objs.size ≤ c)
  | [], h, acc, hc, e => ⟨hc _ _ e, .inl e⟩
  | (y, k) :: r, h, acc, hc, e => by
    unfold cellsFrom at e
    unfold pushCells
    by_cases hk : (k == NameKind.cell) = true
    · rw [if_pos hk] at e ⊢
      have hz : (h.push { cls := .type "cell", data := .cell none }).objs.size = h.objs.size + 1 := Heap.size_push ..
      rw [← hz] at e
      obtain ⟨q1, q2⟩ := cf_cell r (h.push { cls := .type "cell", data := .cell none }) ((y, h.objs.size) :: acc) (fun z b q => by
        rw [List.lookup_cons] at q
        cases hx : z == y with
        | true => rw [hx] at q; cases q; exact ⟨none, _, Heap.get?_push_size _ rfl, rfl⟩
        | false =>
          rw [hx] at q
          obtain ⟨v, o, q1, q2⟩ := hc z b q
          exact ⟨v, o, Heap.get?_push_of_some _ q1, q2⟩) e
      refine ⟨q1, ?_⟩
      rcases q2 with q2 | q2
      · rw [List.lookup_cons] at q2
        cases hx : x == y with
        | true => rw [hx] at q2; cases q2; exact .inr (Nat.le_refl _)
        | false => rw [hx] at q2; exact .inl q2
      · exact .inr (by rw [hz] at q2; omega)
    · rw [if_neg hk] at e ⊢
      exact cf_cell r h acc hc e
theorem cf_inj : ∀ (names : List (Str × NameKind)) (n : Nat) (acc : List (Str × Addr)), (∀ x y c, acc.lookup x = some c → acc.lookup y = some c → x = y) → (∀ x c, acc.lookup x = some c → c < n) →
    ∀ x y c, (cellsFrom n names acc).lookup x = some c → (cellsFrom n names acc).lookup y = some c → x = y
  | [], _, _, hi, _ => hi
  | (z, k) :: r, n, acc, hi, hl => by
    unfold cellsFrom
    by_cases hk : (k == NameKind.cell) = true
    · rw [if_pos hk]
      refine cf_inj r (n + 1) ((z, n) :: acc) (fun x y c e1 e2 => ?_) (fun x c e => ?_)
      · rw [List.lookup_cons] at e1 e2
        cases hx : x == z <;> cases hy : y == z <;> rw [hx] at e1 <;> rw [hy] at e2
        · exact hi x y c e1 e2
        · cases e2; exact absurd (hl _ _ e1) (Nat.lt_irrefl _)
        · cases e1; exact absurd (hl _ _ e2) (Nat.lt_irrefl _)
        · rw [show x = z by simpa using hx, show y = z by simpa using hy]
      · rw [List.lookup_cons] at e
        cases hx : x == z <;> rw [hx] at e
        · exact Nat.lt_succ_of_lt (hl _ _ e)
        · cases e; exact Nat.lt_succ_self _
    · rw [if_neg hk]
      exact cf_inj r n acc hi hl
theorem relab_of {env : Env} {x : Str} {k : NameKind} : ∀ (names : List (Str × NameKind)), (names.map fun (n, k) => if (k == NameKind.free && env.scope.kind == .function && env.kindOf n == some .cell) then (n, NameKind.cell) else (n, k)).lookup x = some k →
    names.lookup x = some k ∨ (k = .cell ∧ names.lookup x = some .free)
  | [], h => by cases h
  | (n, k') :: r, h => by
    rw [List.map_cons] at h
    by_cases hc : (k' == NameKind.free && env.scope.kind == .function && env.kindOf n == some .cell) = true
    · simp only [hc, if_true] at h
      rw [List.lookup_cons] at h ⊢
      cases hx : x == n with
      | true =>
        rw [hx] at h; cases h
        have : k' = .free := by
          simp only [Bool.and_eq_true, beq_iff_eq] at hc
          exact hc.1.1
        subst this
        exact .inr ⟨rfl, rfl⟩
      | false => rw [hx] at h; exact relab_of r h
    · simp only [hc, Bool.false_eq_true, if_false] at h
      rw [List.lookup_cons] at h ⊢
      cases hx : x == n with
      | true => rw [hx] at h; exact .inl h
      | false => rw [hx] at h; exact relab_of r h
theorem relab_free {env : Env} {x : Str} : ∀ (names : List (Str × NameKind)), names.lookup x = some .free →
    (names.map fun (n, k) => if (k == NameKind.free && env.scope.kind == .function && env.kindOf n == some .cell) then (n, NameKind.cell) else (n, k)).lookup x = some .cell ∨
    (names.map fun (n, k) => if (k == NameKind.free && env.scope.kind == .function && env.kindOf n == some .cell) then (n, NameKind.cell) else (n, k)).lookup x = some .free
  | [], h => by cases h
  | (n, k') :: r, h => by
    rw [List.map_cons]
    rw [List.lookup_cons] at h
    by_cases hc : (k' == NameKind.free && env.scope.kind == .function && env.kindOf n == some .cell) = true
    · simp only [hc, if_true]
      rw [List.lookup_cons]
      cases hx : x == n with
      | true => left; rfl
      | false => rw [hx] at h; exact relab_free r h
    · simp only [hc]
      cases hx : x == n with
      | true => rw [hx] at h; right; exact (by simp [List.lookup_cons, hx]; exact Option.some.inj h)
      | false =>
        rw [hx] at h
        simpa [List.lookup_cons, hx] using relab_free r h
def cxC (X : Cx) (N : List Str) (scope : Scope) (s : Shared) (H : Hp) (fp : List Addr) : Cx :=
  { X with
    N := N
    s₀ := s
    H₀ := H
    env := compEnvC scope (cellsFrom (s.heap.objs.size + 2) scope.names (closOf X.env scope.names [])) (s.heap.objs.size + 1) X.env
    outer := X.stack
    ex := fp
    fn := fun x => scope.names.lookup x == some .cell
    pn := []
    xe := fun _ _ => False }
section
variable {X : Cx} {pins : List (Addr × Obj)} {σ : L2.St} {H : Hp} {s : Shared}
def FreeOk (X : Cx) (scope : Scope) : Prop := ∀ y ∈ scope.names, y.2 = .free → X.env.kindOf y.1 = some .cell ∨ X.env.kindOf y.1 = some .free
theorem inv_comp {N : List Str} {scope : Scope} {fp : List Addr} {σ0 : L2.St} (I : L2.Inv X pins σ H s) (hf : ∀ b ∈ fp, FpOk X pins H b) (ho : ∀ b ∈ fp, ∃ o, s.heap.get? b = some o) (hk : scope.kind = .function) (hfr : FreeOk X scope)
    (hl : σ0.length = N.length) (hσ : ∀ (i : Nat) (v : V), σ0[i]? = some (some v) → ∃ (x : Str) (j : Nat), N[i]? = some x ∧ scope.names.lookup x = some .free ∧ (∀ y ∈ scope.names, y.1 = x → y.2 ≠ .cell) ∧ X.N[j]? = some x ∧ σ[j]? = some (some v) ∧ Vis X.env.scope x) (t : Nat) (oD : Obj) :
    L2.Inv (cxC X N scope s H fp) [] σ0 H { s with heap := pushCells ((s.heap.push oD).push { cls := .type "dict", data := .dict #[] }) scope.names, toks := t } := by
  have hz1 : (s.heap.push oD).objs.size = s.heap.objs.size + 1 := Heap.size_push ..
  have hz : ((s.heap.push oD).push { cls := .type "dict", data := .dict #[] }).objs.size = s.heap.objs.size + 2 := by rw [Heap.size_push, hz1]
  have up : ∀ b o, s.heap.get? b = some o → (pushCells ((s.heap.push oD).push { cls := .type "dict", data := .dict #[] }) scope.names).get? b = some o := fun b o e => pushCells_keeps _ _ b o (Heap.get?_push_of_some _ (Heap.get?_push_of_some _ e))
  have hcl : ∀ y ∈ scope.names, y.2 = .free → ∃ a, X.env.cells.lookup y.1 = some a := fun y hy e => I.ok.has _ (hfr y hy e)
  have cl1 : ∀ y b, (closOf X.env scope.names []).lookup y = some b → X.env.cells.lookup y = some b := fun y b e => by
    rcases clos_of _ _ hcl e with q | q
    · cases q
    · exact q
  have cl2 : ∀ y b, (closOf X.env scope.names []).lookup y = some b → b < s.heap.objs.size := fun y b e => by
    obtain ⟨v, q⟩ := I.cell y b (cl1 y b e); exact q.lt
  have cc : ∀ y b, (cellsFrom (s.heap.objs.size + 2) scope.names (closOf X.env scope.names [])).lookup y = some b →
      (∃ v, (pushCells ((s.heap.push oD).push { cls := .type "dict", data := .dict #[] }) scope.names).IsCell b v) ∧ (X.env.cells.lookup y = some b ∧ b < s.heap.objs.size ∨ s.heap.objs.size + 2 ≤ b) := fun y b e => by
    rw [← hz] at e
    obtain ⟨q1, q2⟩ := cf_cell scope.names ((s.heap.push oD).push { cls := .type "dict", data := .dict #[] }) _ (fun z c q => by
      obtain ⟨v, o, q1, q2⟩ := I.cell z c (cl1 z c q)
      exact ⟨v, o, Heap.get?_push_of_some _ (Heap.get?_push_of_some _ q1), q2⟩) e
    refine ⟨q1, ?_⟩
    rcases q2 with q2 | q2
    · exact .inl ⟨cl1 _ _ q2, cl2 _ _ q2⟩
    · rw [hz] at q2; exact .inr q2
  have hlt := I.lt
  refine ⟨⟨I.ok.mod, hk, I.ok.glob, I.ok.blt, Nat.le_succ _, ?_, ?_, ?_, I.ok.hd, I.ok.frames, .inl rfl, ?_, I.bs, Nat.le_trans I.ok.bsz I.sz, ?_, ?_, I.stack, I.stkFree⟩, rfl, I.bare, Un.kept up, ?_, ?_, ?_, ?_, ?_, I.hok.kept up, hl⟩
  · exact cf_inj _ _ _ (fun x y c e1 e2 => I.ok.inj x y c (cl1 _ _ e1) (cl1 _ _ e2)) (fun x c e => Nat.lt_of_lt_of_le (cl2 x c e) (Nat.le_add_right _ 2))
  · intro x hx
    have hx : (relabel scope X.env).names.lookup x = some .cell ∨ (relabel scope X.env).names.lookup x = some .free := hx
    have : ((cellsFrom (s.heap.objs.size + 2) scope.names (closOf X.env scope.names [])).lookup x).isSome = true := by
      refine PySem.W.cellsFrom_some _ _ _ ?_
      rcases hx with hx | hx
      · rcases relab_of _ hx with q | ⟨_, q⟩
        · exact .inl q
        · exact .inr (clos_has _ _ (.inl q))
      · rcases relab_of _ hx with q | ⟨q, _⟩
        · exact .inr (clos_has _ _ (.inl q))
        · cases q
    exact Option.isSome_iff_exists.mp this
  · intro x c hfn e
    rcases (cc x c e).2 with ⟨q, q'⟩ | q
    · exfalso
      have hfn : scope.names.lookup x = some .cell := by simpa [cxC] using hfn
      -- own names' cells are new
      have : ∀ (names : List (Str × NameKind)) (n : Nat) (acc : List (Str × Addr)), names.lookup x = some .cell ∨ (∃ b, acc.lookup x = some b ∧ s.heap.objs.size ≤ b) → s.heap.objs.size ≤ n → ∀ b, (cellsFrom n names acc).lookup x = some b → s.heap.objs.size ≤ b := by
        intro names
        induction names with
        | nil =>
          intro n acc h hn b eb
          rcases h with h | ⟨b', h, hb⟩
          · cases h
          · have eb : acc.lookup x = some b := eb
            rw [h] at eb; cases eb; exact hb
        | cons p r ih =>
          obtain ⟨y, k⟩ := p
          intro n acc h hn b eb
          unfold cellsFrom at eb
          by_cases hkc : (k == NameKind.cell) = true
          · rw [if_pos hkc] at eb
            refine ih (n + 1) _ ?_ (Nat.le_succ_of_le hn) b eb
            cases hxy : x == y with
            | true => right; exact ⟨n, by rw [List.lookup_cons, hxy], hn⟩
            | false =>
              rw [List.lookup_cons, hxy] at h
              rw [List.lookup_cons, hxy]
              exact h
          · rw [if_neg hkc] at eb
            refine ih n _ ?_ hn b eb
            cases hxy : x == y with
            | true =>
              rw [List.lookup_cons, hxy] at h
              rcases h with h | h
              · cases h; exact absurd rfl hkc
              · exact .inr h
            | false => rw [List.lookup_cons, hxy] at h; exact h
      exact absurd q' (Nat.not_lt.mpr (this scope.names _ _ (.inl hfn) (Nat.le_add_right _ 2) c e))
    · exact Nat.le_trans (Nat.le_add_right _ 2) q
  · intro b hb
    have hbl : b < s.heap.objs.size := let ⟨o, e⟩ := ho b hb; Heap.lt_size e
    refine ⟨Nat.ne_of_lt (Nat.lt_succ_of_lt hbl), fun x c e => ?_⟩
    obtain ⟨f0, f1, f2, f3, f4, f5⟩ := hf b hb
    rcases (cc x c e).2 with ⟨q, _⟩ | q
    · exact f4 x c q
    · exact Nat.ne_of_gt (Nat.lt_of_lt_of_le (Nat.lt_of_lt_of_le hbl (Nat.le_add_right _ 2)) q)
  · intro b o e hb
    obtain ⟨f0, f1, f2, f3, f4, f5⟩ := hf b hb
    rcases f3 with q | q
    · exact I.ok.noex b o e q
    · exact absurd (Nat.lt_of_lt_of_le (Heap.lt_size e) (Nat.le_trans I.ok.bsz q)) (Nat.lt_irrefl _)
  · intro b hb z
    obtain ⟨f0, f1, f2, f3, f4, f5⟩ := hf b hb
    rcases List.mem_cons.mp (I.stkSub b z) with q | q
    · exact f1 q
    · exact f2 q
  · refine ⟨fun _ => none, ?_, fun i x v e1 e2 e3 => ?_⟩
    · show Heap.Ns _ (s.heap.objs.size + 1) _
      rw [← hz1]
      exact (Heap.Ns.new (s.heap.push oD) (.type "dict")).keeps (pushCells_keeps _ _)
    · obtain ⟨x', j, q1, q2, q3, q4, q5, q6⟩ := hσ i v e2
      have : x' = x := Option.some.inj (q1.symm.trans e1)
      subst this
      obtain ⟨m, hn, hlk⟩ := I.loc
      obtain ⟨u, ru, lk⟩ := hlk j x' v q4 q5 q6
      refine ⟨u, ru, .inr ⟨?_, ?_⟩⟩
      · exact relab_free _ q2
      · have hks := hfr (x', .free) (PySem.mem_of_lookup q2) rfl
        rcases lk with ⟨k, _⟩ | ⟨k, c, e, z⟩
        · rcases hks with z | z
          · rw [k] at z; cases z
          · rw [k] at z; cases z
        · refine ⟨c, ?_, z.keeps up⟩
          show (cellsFrom _ _ _).lookup x' = some c
          rw [cf_out _ _ _ q3]
          obtain ⟨b, eb⟩ := Option.isSome_iff_exists.mp (clos_has (env := X.env) scope.names [] (.inl q2))
          rw [eb, ← cl1 _ _ eb, e]
  · exact fun x c e => (cc x c e).1
  · exact I.hok.fresh (Nat.le_succ _)
  · intro x c e
    rcases (cc x c e).2 with ⟨q, _⟩ | q
    · exact I.freeC x c q
    · exact I.hok.fresh (Nat.le_trans (Nat.le_add_right _ 2) q)
  · intro p hp
    exact absurd (show p ∈ ([] : List (Addr × Obj)) from hp) (by simp)
end
end DL
set_option Elab.async false
set_option linter.all false
set_option maxRecDepth 100000
namespace DL
open PySem PySem.Spec PyProof.Rows L2
theorem newEnv_comp {M : Model} {A : Around} {E : Value → Shared → Prop} {s : Shared} {scope : Scope} {g : Addr} {cl : List (Str × Addr)} {q : Str} {env : Env} {Q : Env → Shared → Prop}
    (h : ∀ b, b = env.builtins → Q { scope := scope, locals := s.heap.objs.size, globals := g, cells := cellsFrom (s.heap.objs.size + 1) scope.names cl, qual := q, func := none, code := env.code, frame := env.frame, builtins := b }
      { s with heap := pushCells (s.heap.push { cls := .type "dict", data := .dict #[] }) scope.names }) : wpAny M A (newFunctionEnv scope g cl [] q none .none (some env)) Q E s := by
  simp only [newFunctionEnv, Option.isSome_some, if_true]
  refine wpAny_bind (wpAny_alloc ?_)
  refine wpAny_bind (wpAny_layCells _ (fun n k cells => by cases hkc : k == NameKind.cell <;> simp [hkc]) _ _ _ _ ?_)
  rw [show ({ s with heap := s.heap.push { cls := .type "dict", data := .dict #[] } } : Shared).heap.objs.size = s.heap.objs.size + 1 from Heap.size_push ..]
  rw [List.forIn_nil]
  exact wpAny_bind (wpAny_pure (wpAny_pure (h _ rfl)))
theorem Un_more {fs ex : List Addr} {H H' : Hp} {h h' : Heap} {D : Addr} {o : HO} (u : Un fs ex H H' h h') (hn : H D = none) (hh : h.get? D = none) : Un fs ex H (upd H' D o) h h' where
  keep := u.keep
  slot := u.slot
  free := fun b ob q n hx => by
    rw [upd_ne (fun z => by rw [z, hh] at q; cases q)]; exact u.free b ob q n hx
  there := u.there
  tups := fun b xs q => by rw [upd_ne (ne_of_none q hn)]; exact u.tups b xs q
  frzs := fun b ob xs q => by rw [upd_ne (ne_of_none q hn)]; exact u.frzs b ob xs q
  tbls := fun b ps q => by rw [upd_ne (ne_of_none q hn)]; exact u.tbls b ps q
theorem HOk_more {P : Program} {w : World} {H : Hp} {h : Heap} {D : Addr} {o : HO} (x : HOk P w H h) (hn : H D = none) (new : ObjOk P w (upd H D o) h D o) : HOk P w (upd H D o) h := fun b u e => by
  by_cases hb : b = D
  · subst hb
    rw [upd_same] at e
    cases e
    exact new
  · rw [upd_ne hb] at e
    refine (x b u e).stay (fun c v _ q => q) (fun c q => ?_) fun c xs q => ?_
    · rw [upd_ne (ne_of_none q hn)]; exact q
    · rw [upd_ne (ne_of_none q hn)]; exact q
theorem compLoop_any {prog : Program} {w : World} {A : Around} {R : Result → Shared → Prop} {elt tg iter : Expr} {ifs : List Expr} {scope : Scope} {pos : Pos} {it acc : Value} {env : Env} (V : Nat → Shared → Prop)
    (turn : ∀ (n : Nat) (s : Shared) (F : Value → Shared → Prop), V n s → wpAny (model prog w) A (pyNext it) (fun r s1 => match r with
      | none => R (.ok .next) s1
      | some v => wpAny (model prog w) A (letOwnedTupleGo tg it v) (fun _ s2 => wpAny (model prog w) A (assign tg env v) (fun _ s3 =>
          wpAny (model prog w) A (compTests ifs env) (fun ok s4 => if ok = true then wpAny (model prog w) A (eval elt env) (fun x s5 => wpAny (model prog w) A (call (.builtin "list.append") [acc, x]) (fun _ s6 => ∃ m, m < n ∧ V m s6) F s5) F s4
            else ∃ m, m < n ∧ V m s4) F s3) F s2) F s1) F s) :
    ∀ (n : Nat) (s : Shared), V n s → codeAny (model prog w) A (.compLoop (.ListComp elt [⟨tg, iter, ifs, 0⟩] scope pos) 0 it acc env) R s := fun n s h => by
  refine codeAny_loop rfl V (fun n s hV => ?_) n h
  refine wpAny_noted ?_
  rw [compTurn_list]
  refine wpAny_bind (wpAny_standAt (wpAny_bind (thn (turn n s _ hV) fun r s1 h1 => ?_)))
  cases r with
  | none => exact wpAny_pure h1
  | some v =>
    refine wpAny_bind (thn h1 fun _ s2 h2 => wpAny_bind (thn h2 fun _ s3 h3 => ?_))
    have h3 : wpAny (model prog w) A (compTests ifs env) _ _ s3 := h3
    unfold compTests at h3
    rw [show ∀ x : Sem Bool, (x >>= fun q => pure q) = x from fun x => bind_pure x] at h3
    refine wpAny_bind (thn h3 fun ok s4 h4 => ?_)
    cases ok with
    | false => exact wpAny_pure ⟨rfl, h4⟩
    | true => exact wpAny_bind (wpAny_bind (thn h4 fun x s5 h5 => wpAny_bind (thn h5 fun _ s6 h6 => wpAny_pure (wpAny_pure ⟨rfl, h6⟩))))
abbrev lstO (ys : List Value) : Obj := { cls := .type "list", data := .seq ys.toArray ys.length }
def Kept (X : Cx) (ρ : Rho) (O : Sto) (elt : Expr) : List Expr → Option D → Prop
  | [], z => ∃ y, z = some y ∧ EvP X ρ O elt y
  | [c], z => ∃ k, EvT X ρ O c k ∧ (k = true → ∃ y, z = some y ∧ EvP X ρ O elt y) ∧ (k = false → z = none)
  | _, _ => False
theorem EnvR.weak {K : PySem.W.Frag} {G : Wd} {σ : L2.St} {ρ ρ' : Rho} (h : EnvR K G σ ρ) (hl : ρ'.length = ρ.length) (hs : ∀ (i : Nat) (d : D), ρ'[i]? = some (some d) → ρ[i]? = some (some d)) : EnvR K G σ ρ' :=
  ⟨h.len.trans hl.symm, fun i d e => h.get i d (hs i d e)⟩
theorem ex_list {α : Type} (P : Nat → α → Prop) : ∀ n : Nat, (∀ i, i < n → ∃ a, P i a) → ∃ l : List α, l.length = n ∧ ∀ i a, l[i]? = some a → P i a
  | 0, _ => ⟨[], rfl, fun i a h => by simp at h⟩
  | n + 1, h => by
    obtain ⟨l, h1, h2⟩ := ex_list P n fun i hi => h i (Nat.lt_succ_of_lt hi)
    obtain ⟨a, ha⟩ := h n (Nat.lt_succ_self _)
    refine ⟨l ++ [a], by simp [h1], fun i b hb => ?_⟩
    by_cases hi : i < n
    · rw [List.getElem?_append_left (by omega)] at hb; exact h2 i b hb
    · have hin : i = n := by
        have := (List.getElem?_eq_some_iff.mp hb).1
        simp [h1] at this; omega
      subst hin
      rw [List.getElem?_append_right (by omega), h1, Nat.sub_self] at hb
      cases hb; exact ha
section
variable {X : Cx} {ρ : Rho} {O : Sto} {elt tg iter : Expr} {ifs : List Expr} {scope : Scope} {pos : Pos} {xs : List D} {zs : List (Option D)}
theorem fm_take {α : Type} : ∀ (zs : List (Option α)) (i : Nat) (z : Option α), zs[i]? = some z → (zs.take (i + 1)).filterMap id = (zs.take i).filterMap id ++ z.toList := by
  intro zs i z h
  rw [List.take_add_one, h, List.filterMap_append]
  cases z <;> rfl
theorem comp_core (N : List Str) (js : List Nat) (ρ0 : Rho) (hi : EvI X ρ O tg iter xs) (hc : X.calm = true) (hk : scope.kind = .function) (hfr : FreeOk X scope) (hnm : ∀ x ∈ scope.names, x.2 = .local → scope.names.lookup x.1 = some .local)
    (hl0 : ρ0.length = N.length)
    (h0 : ∀ (i : Nat) (d : D), ρ0[i]? = some (some d) → ∃ (x : Str) (j : Nat), N[i]? = some x ∧ scope.names.lookup x = some .free ∧ (∀ y ∈ scope.names, y.1 = x → y.2 ≠ .cell) ∧ X.N[j]? = some x ∧ ρ[j]? = some (some d) ∧ Vis X.env.scope x)
    (hzl : zs.length = xs.length) (hsz : xs.length ≤ sizeLine)
    (turn : ∀ (s : Shared) (H : Hp) (fp : List Addr) (i : Nat) (x : D) (z : Option D), xs[i]? = some x → zs[i]? = some z → ∃ ρ1, Tg (cxC X N scope s H fp) tg x ρ0 ρ1 ∧ ρ1.length = ρ0.length ∧ (∀ (j : Nat) (d : D), ρ0[j]? = some (some d) → ρ1[j]? = some (some d)) ∧ Kept (cxC X N scope s H fp) ρ1 O elt ifs z)
    {use : Option (Value → Sem Unit)} {pins : List (Addr × Obj)} {s : Shared} {σ : L2.St} {H : Hp} {G : Wd} {Q : Value → Shared → Prop} (I : L2.Inv X pins σ H s) (sa : SA X.K G H O) (en : EnvR X.K G σ ρ)
    (fin : ∀ (D C : Addr) (s' : Shared) (H' : Hp) (G' : Wd), L2.Inv X pins σ H' s' → Ext G G' → SA X.K G' H' O → Is X.K G' (.lst (zs.filterMap id)) (.ref D) → FpOk X pins H' C → (∃ m, s'.heap.Ns C m) → compPost (model X.prog X.w) X.A X.xe use Q (.ref D) C (.ok .next) s')
    (hs : ∀ x, foldedSetIterable iter X.env x = pure x := by intro _; rfl) :
    wpAny (model X.prog X.w) X.A (comprehension (.ListComp elt [⟨tg, iter, ifs, 0⟩] scope pos) scope X.env (firstIterPos [⟨tg, iter, ifs, 0⟩] pos) (newList []) false (eval iter X.env) use) Q X.xe s := by
  refine wpAny_comprehension_free rfl hs (clos_eq fun y hy e => I.ok.has _ (hfr y hy e)) hk hnm (thn (hi G pins s σ H (fun J H1 => ∃ G1, Ext G G1 ∧ SA X.K G1 H1 O ∧ Yields X.K G1 J xs) I ⟨sa, en, fun J G1 H1 e1 s1 y1 => ⟨G1, e1, s1, y1⟩⟩) fun v s1 h1 => thn h1 fun itv s2 h2 => ?_)
  obtain ⟨it, fp, tn, J, H2, e, I2, T, st2, f2, G2, e2, sa2, Yi⟩ := h2
  subst e
  have ho2 : ∀ b ∈ fp, ∃ o, s2.heap.get? b = some o := fun b hb => let ⟨o, q, _⟩ := T.obj 0 _ st2 b hb; ⟨o, q⟩
  have hlt : ∀ b ∈ fp, b < s2.heap.objs.size := fun b hb => let ⟨o, q⟩ := ho2 b hb; Heap.lt_size q
  unfold newList
  refine wpAny_newObj_type (newEnv_comp fun bb hbb => ?_)
  have hbb' : bb = X.env.builtins := hbb
  subst hbb'
  have hz1 : (s2.heap.push { cls := .type "list", dict := none, data := .seq ([] : List Value).toArray }).objs.size = s2.heap.objs.size + 1 := Heap.size_push ..
  dsimp only
  rw [hz1]
  generalize hD : s2.heap.objs.size = dd at hz1 ⊢
  -- the block's own context
  have en2 : EnvR X.K G2 σ ρ := en.ext e2
  obtain ⟨σ0, hσl, hσ0⟩ := ex_list (fun i (o : Option V) => (∀ d, ρ0[i]? = some (some d) → ∃ v, o = some v ∧ Is X.K G2 d v) ∧ ∀ v, o = some v → ∃ (x : Str) (j : Nat), N[i]? = some x ∧ scope.names.lookup x = some .free ∧ (∀ y ∈ scope.names, y.1 = x → y.2 ≠ .cell) ∧ X.N[j]? = some x ∧ σ[j]? = some (some v) ∧ Vis X.env.scope x) N.length (fun i hi => by
    cases q : ρ0[i]? with
    | none => exact ⟨none, And.intro (fun d z => nomatch z) (fun v z => nomatch z)⟩
    | some o =>
      cases o with
      | none => exact ⟨none, And.intro (fun d z => nomatch z) (fun v z => nomatch z)⟩
      | some d =>
        obtain ⟨x, j, q1, q2, q3, q4, q5, q6⟩ := h0 i d q
        obtain ⟨v, q7, q8⟩ := en2.get j d q5
        exact ⟨some v, And.intro (fun d' z => by cases z; exact ⟨v, rfl, q8⟩) (fun v' z => by cases z; exact ⟨x, j, q1, q2, q3, q4, q7, q6⟩)⟩)
  have en0 : EnvR X.K G2 σ0 ρ0 := ⟨hσl.trans hl0.symm, fun i d e => by
    have hi : i < σ0.length := by rw [hσl, ← hl0]; exact (List.getElem?_eq_some_iff.mp e).1
    obtain ⟨v, e1, e2⟩ := (hσ0 i σ0[i] (List.getElem?_eq_getElem hi)).1 d e
    exact ⟨v, by rw [List.getElem?_eq_getElem hi, e1], e2⟩⟩
  have I3 := inv_comp (N := N) (scope := scope) (fp := fp) (σ0 := σ0) I2 f2 ho2 hk hfr hσl (fun i v e => (hσ0 i _ e).2 v rfl) s2.toks { cls := .type "list", dict := none, data := .seq ([] : List Value).toArray }
  generalize hY : cxC X N scope s2 H2 fp = Y at I3
  have hD1 : (pushCells ((s2.heap.push { cls := .type "list", dict := none, data := .seq ([] : List Value).toArray }).push { cls := .type "dict", data := .dict #[] }) scope.names).get? dd = some (lstO []) := by
    refine pushCells_keeps _ _ _ _ (Heap.get?_push_of_some _ ?_)
    rw [← hD]
    exact Heap.get?_push_size _ rfl
  have hHD : H2 dd = none := I2.hok.fresh (by rw [hD]; exact Nat.le_refl _)
  have hsD : s2.heap.get? dd = none := Heap.get?_none_of_le (by rw [hD]; exact Nat.le_refl _)
  have hDC : dd ≠ Y.env.locals := by
    rw [← hY]; show dd ≠ s2.heap.objs.size + 1; rw [hD]; exact Nat.ne_of_lt (Nat.lt_succ_self _)
  have hfs : ∀ b ∈ frs X.stack, b < s2.heap.objs.size := fun b hb => by
    rcases List.mem_cons.mp (I2.stkSub b hb) with q | q
    · rw [q]; exact I2.lt
    · exact Nat.lt_of_not_le fun z => I2.nofs z q
  have hYfs : Y.fs = frs X.stack := by rw [← hY]; rfl
  have hDfs : dd ∉ Y.fs := fun z => by rw [hYfs] at z; have := hfs dd z; rw [hD] at this; exact Nat.lt_irrefl _ this
  have hYex : Y.ex = fp := by rw [← hY]; rfl
  have hYpn : Y.pn = [] := by rw [← hY]; rfl
  have hYxe : Y.xe = fun _ _ => False := by rw [← hY]; rfl
  have hYs : Y.s₀.heap.objs.size = dd := by rw [← hY]; exact hD
  have hYc : ∀ x c, Y.env.cells.lookup x = some c → c ≠ dd ∧ ∀ b ∈ fp, c ≠ b := fun x c e => by
    refine ⟨?_, fun b hb => ?_⟩
    · intro z
      subst z
      obtain ⟨v, o, q1, q2⟩ := I3.cell x c e
      rw [hD1] at q1; cases q1; cases q2
    · have := I3.ok.exf b (by rw [hYex]; exact hb)
      exact this.2 x c e
  have fpY : ∀ {H' : Hp} {pl : List (Addr × Obj)}, (∀ b ∈ fp, H' b = none) → (∀ p ∈ pl, p.1 = dd) → ∀ b ∈ fp, FpOk Y pl H' b := fun hn hp b hb => ⟨hn b hb, (I3.ok.exf b (by rw [hYex]; exact hb)).1, I3.ok.exfs b (by rw [hYex]; exact hb), .inl (by rw [hYex]; exact hb), fun x c e => (hYc x c e).2 b hb, fun p hq => by
    rw [hYpn, List.nil_append] at hq
    rw [hp p hq]
    exact Nat.ne_of_gt (by rw [← hD]; exact hlt b hb)⟩
  have I4 : L2.Inv Y [(dd, lstO [])] σ0 H2 { s2 with heap := pushCells ((s2.heap.push { cls := .type "list", dict := none, data := .seq ([] : List Value).toArray }).push { cls := .type "dict", data := .dict #[] }) scope.names, toks := s2.toks } := I3.pins_of fun p hp => by
    rw [List.mem_singleton.mp hp]
    exact ⟨hD1, hHD, hDC, hDfs, fun v z => by cases z⟩
  have st4 : tn 0 (pushCells ((s2.heap.push { cls := .type "list", dict := none, data := .seq ([] : List Value).toArray }).push { cls := .type "dict", data := .dict #[] }) scope.names) := T.keep 0 _ _ st2 fun b hb o e => pushCells_keeps _ _ b o (Heap.get?_push_of_some _ (Heap.get?_push_of_some _ e))
  have hYp : Y.prog = X.prog := by rw [← hY]; rfl
  have hYw : Y.w = X.w := by rw [← hY]; rfl
  have hYK : Y.K = X.K := by rw [← hY]; rfl
  have hYA : Y.A = X.A := by rw [← hY]; rfl
  have hYcm : Y.calm = true := by rw [← hY]; exact hc
  have loop : ∀ s3 : Shared, s3 = { s2 with heap := pushCells ((s2.heap.push { cls := .type "list", dict := none, data := .seq ([] : List Value).toArray }).push { cls := .type "dict", data := .dict #[] }) scope.names } →
      codeAny (model X.prog X.w) X.A (.compLoop (.ListComp elt [⟨tg, iter, ifs, 0⟩] scope pos) 0 (.ref it) (.ref dd) Y.env) (compPost (model X.prog X.w) X.A X.xe use Q (.ref dd) (dd + 1)) s3 := by
    rintro s3 rfl
    refine compLoop_any (fun n s' => ∃ (i : Nat) (G' : Wd) (σ' : L2.St) (H' : Hp) (vs : List V) (its : List Value), n = xs.length - i ∧ i ≤ xs.length ∧ L2.Inv Y [(dd, lstO its)] σ' H' s' ∧ tn i s'.heap ∧ (∀ b ∈ fp, H' b = none) ∧ Ext G2 G' ∧ SA X.K G' H' O ∧ EnvR X.K G' σ' ρ0 ∧
      Iss X.K G' ((zs.take i).filterMap id) vs ∧ Vals vs its ∧ its.length ≤ i) ?_ xs.length _ ⟨0, G2, σ0, H2, [], [], rfl, Nat.zero_le _, I4, st4, fun b hb => (f2 b hb).1, Ext.refl _, sa2, en0, .nil, .nil, Nat.le_refl _⟩
    rintro n s5 F ⟨i, G5, σ5, H5, vs, its, rfl, hil, I5, st5, fr5, e5, sa5, en5, is5, va5, hl5⟩
    by_cases hlt5 : i < xs.length
    · have hx : xs[i]? = some xs[i] := List.getElem?_eq_getElem hlt5
      have hzi : i < zs.length := by omega
      have hz : zs[i]? = some zs[i] := List.getElem?_eq_getElem hzi
      generalize xs[i] = x at hx
      generalize zs[i] = z at hz
      have it5 := T.item Y hYp hYw hYK hYcm i [(dd, lstO its)] s5 σ5 H5 F I5 (fpY fr5 (fun p hp => by rw [List.mem_singleton.mp hp])) st5 (Yi.go i H5 (e5.g.trans sa5.sub) hlt5)
      rw [hYA] at it5
      refine thn it5 fun r s6 ⟨u, hr, h6⟩ => ?_
      subst hr
      refine thn h6 fun _ s7 ⟨xv, H7, I7, r7, y7, st7, fr7⟩ => ?_
      obtain ⟨x', G7, hx', e7, sa7, ix⟩ := Yi.yld i xv H5 H7 G5 O e5 sa5 y7 hlt5
      have : x' = x := Option.some.inj (hx'.symm.trans hx)
      subst this
      have I7' := I7.pinned (fpY fr7 (fun p hp => by rw [List.mem_singleton.mp hp])) (T.obj _ _ st7)
      obtain ⟨ρ1, tg1, hl1, hs1, kp1⟩ := turn s2 H2 fp i x' z hx hz
      rw [hY] at tg1 kp1
      have xeF : ∀ {α : Type} {t : Sem α} {P : α → Shared → Prop} {q : Shared}, wpAny (model Y.prog Y.w) Y.A t P Y.xe q → wpAny (model X.prog X.w) X.A t P F q := fun h => by
        rw [hYp, hYw, hYA, hYxe] at h
        exact wpAny_mono h (fun _ _ q => q) fun _ _ q => q.elim
      refine thn (xeF (tg1 G7 _ s7 σ5 H7 xv u (fun σ' H' => EnvR X.K G7 σ' ρ1 ∧ H' = H7) I7' r7 (by
        rw [hYK]
        exact ⟨ix, sa7.sub, en5.ext e7, fun σ' q => ⟨q, rfl⟩⟩))) fun _ s8 ⟨σ8, H8, I8, en8, hH8⟩ => ?_
      subst hH8
      -- back to the invariant, with or without one more
      have again : ∀ {s9 : Shared} {H9 : Hp} {G9 : Wd} {its' : List Value} {vs' : List V}, L2.Inv Y ((dd, lstO its') :: pinsAt fp s7.heap) σ8 H9 s9 → Ext G7 G9 → SA X.K G9 H9 O → Iss X.K G9 ((zs.take (i + 1)).filterMap id) vs' → Vals vs' its' → its'.length ≤ i + 1 →
          ∃ m, m < xs.length - i ∧ ∃ (i : Nat) (G' : Wd) (σ' : L2.St) (H' : Hp) (vs : List V) (its : List Value), m = xs.length - i ∧ i ≤ xs.length ∧ L2.Inv Y [(dd, lstO its)] σ' H' s9 ∧ tn i s9.heap ∧ (∀ b ∈ fp, H' b = none) ∧ Ext G2 G' ∧ SA X.K G' H' O ∧ EnvR X.K G' σ' ρ0 ∧
            Iss X.K G' ((zs.take i).filterMap id) vs ∧ Vals vs its ∧ its.length ≤ i := fun {s9 H9 G9 its' vs'} I9 e9 sa9 is9 va9 hl9 => by
        refine ⟨xs.length - (i + 1), by omega, i + 1, G9, σ8, H9, vs', its', rfl, hlt5, I9.pins_of (fun p hp => I9.pin p (by rw [hYpn, List.nil_append]; rw [List.mem_singleton.mp hp]; exact List.mem_cons_self)), T.keep _ _ _ st7 fun b hb o e => (I9.pin (b, o) (by rw [hYpn, List.nil_append]; exact List.mem_cons_of_mem _ (mem_pinsAt hb e))).1, fun b hb => ?_, (e5.trans e7).trans e9, sa9, (en8.weak hl1.symm hs1).ext e9, is9, va9, hl9⟩
        obtain ⟨o, e, _⟩ := T.obj _ _ st7 b hb
        exact (I9.pin (b, o) (by rw [hYpn, List.nil_append]; exact List.mem_cons_of_mem _ (mem_pinsAt hb e))).2.1
      have more : ∀ {y : D} {s9 : Shared} {G9 : Wd} {H9 : Hp}, z = some y → L2.Inv Y ([(dd, lstO its)] ++ pinsAt fp s7.heap) σ8 H9 s9 → Ext G7 G9 → SA X.K G9 H9 O → EvP Y ρ1 O elt y → wpAny (model X.prog X.w) X.A (eval elt Y.env) (fun x s5 => wpAny (model X.prog X.w) X.A (call (.builtin "list.append") [.ref dd, x]) (fun _ s6 => ∃ m, m < xs.length - i ∧ ∃ (i : Nat) (G' : Wd) (σ' : L2.St) (H' : Hp) (vs : List V) (its : List Value), m = xs.length - i ∧ i ≤ xs.length ∧ L2.Inv Y [(dd, lstO its)] σ' H' s6 ∧ tn i s6.heap ∧ (∀ b ∈ fp, H' b = none) ∧ Ext G2 G' ∧ SA X.K G' H' O ∧ EnvR X.K G' σ' ρ0 ∧
            Iss X.K G' ((zs.take i).filterMap id) vs ∧ Vals vs its ∧ its.length ≤ i) F s5) F s9 := fun {y s9 G9 H9} hzy I9 e9 sa9 ev => by
        refine thn (xeF (ev G9 _ s9 σ8 H9 (fun v H' => ∃ G', Ext G9 G' ∧ SA X.K G' H' O ∧ Is X.K G' y v) I9 (by
          rw [hYK]
          exact ⟨sa9, en8.ext e9, fun v G' H' q1 q2 q3 => ⟨G', q1, q2, q3⟩⟩))) fun uy s10 ⟨vy, H10, I10, r10, G10, e10, sa10, iy⟩ => ?_
        have p10 := I10.pin (dd, lstO its) (by rw [hYpn, List.nil_append]; exact List.mem_append_left _ List.mem_cons_self)
        refine append_at (hsz := by show its.toArray.size ≤ sizeLine; rw [List.size_toArray]; omega) p10.1 fun h' hs' hD' => ?_
        have Ia : L2.Inv Y (pinsAt fp s7.heap) σ8 H10 s10 := I10.pins_of fun p hp => I10.pin p (by rw [hYpn, List.nil_append]; exact List.mem_append_right _ hp)
        have Ib : L2.Inv Y (pinsAt fp s7.heap) σ8 H10 { s10 with heap := h' } := Ia.turned (t' := s10.toks) (fun b o hb e => (hs'.2 b hb).trans e) p10.2.1 hDC (.inr (by rw [hYs]; exact Nat.le_refl _)) (fun x c e => (hYc x c e).1) (fun p hp => by
          rw [hYpn, List.nil_append] at hp
          obtain ⟨hb, _⟩ := of_pinsAt hp
          exact Nat.ne_of_lt (by rw [← hD]; exact hlt p.1 hb))
        have Ic : L2.Inv Y ((dd, lstO (its ++ [uy])) :: pinsAt fp s7.heap) σ8 H10 { s10 with heap := h' } := Ib.pins_of fun p hp => by
          rcases List.mem_cons.mp hp with q | q
          · rw [q]
            refine ⟨hD'.trans ?_, p10.2.1, hDC, hDfs, fun v z => by cases z⟩
            congr 1
            simp [lstO]
          · exact Ib.pin p (by rw [hYpn, List.nil_append]; exact q)
        refine again Ic (e9.trans e10) sa10 (vs' := vs ++ [vy]) ?_ (va5.append (.cons r10 .nil)) (by rw [List.length_append, List.length_singleton]; omega)
        rw [fm_take zs i z hz, hzy]
        exact (is5.ext ((e7.trans e9).trans e10)).append (.cons iy .nil)
      match ifs, kp1 with
      | [], kp1 =>
        obtain ⟨y, hzy, ev⟩ := kp1
        unfold compTests
        refine wpAny_bind (wpAny_tests_nil (wpAny_pure ?_))
        simp only [if_true]
        exact more hzy I8 (Ext.refl _) sa7 ev
      | [c], kp1 =>
        obtain ⟨k, tc, ht, hff⟩ := kp1
        unfold compTests
        refine wpAny_bind (wpAny_tests_one (thn (xeF (tc G7 _ s8 σ8 H8 (fun b H' => b = k ∧ ∃ G', Ext G7 G' ∧ SA X.K G' H' O) I8 (by
          rw [hYK]
          exact ⟨sa7, en8, fun G' H' q1 q2 => ⟨rfl, G', q1, q2⟩⟩))) fun b s9 ⟨H9, I9, hb, G9, e9, sa9⟩ => wpAny_pure ?_))
        subst hb
        cases b with
        | true =>
          obtain ⟨y, hzy, ev⟩ := ht rfl
          simp only [if_true]
          exact more hzy I9 e9 sa9 ev
        | false =>
          simp only [Bool.false_eq_true, if_false]
          refine again I9 e9 sa9 (vs' := vs) ?_ va5 (Nat.le_succ_of_le hl5)
          rw [fm_take zs i z hz, hff rfl]
          simpa using is5.ext (e7.trans e9)
      | _ :: _ :: _, kp1 => exact kp1.elim
    · have hie : i = xs.length := by omega
      subst hie
      have dn := T.done Y hYp hYw hYK hYcm xs.length [(dd, lstO its)] s5 σ5 H5 F I5 (fpY fr5 (fun p hp => by rw [List.mem_singleton.mp hp])) st5 (Yi.stop _ H5 (e5.g.trans sa5.sub) (Nat.le_refl _))
      rw [hYA] at dn
      refine thn dn fun r s6 ⟨hr, I6⟩ => ?_
      subst hr
      have p6 := I6.pin (dd, lstO its) (by rw [hYpn, List.nil_append]; exact List.mem_cons_self)
      rw [← hzl, List.take_length] at is5
      have vl : vs.length ≤ sizeLine := by rw [va5.length]; omega
      have Ix : L2.Inv X pins σ (upd H5 dd (.lst vs)) s6 := by
        have un := I6.base
        rw [hYfs, hYex, ← hY] at un
        have un : Un (frs X.stack) fp H2 H5 s2.heap s6.heap := un
        refine I2.call' (ch := fp) (I6.os.trans (by rw [← hY]; rfl)) (Un_more un hHD hsD) ?_ I6.bare fun b hb => ?_
        · have hk6 := I6.hok
          rw [hYp, hYw] at hk6
          exact HOk_more hk6 p6.2.1 ⟨vl, its, its.length, va5, p6.1⟩
        · obtain ⟨_, f1, _, f3, f4, f5⟩ := f2 b hb
          exact ⟨f3, f1, f4, f5⟩
      obtain ⟨ed, sd⟩ := sa5.laid (p := dd) (o := .lst vs) p6.2.1
      refine fin dd (dd + 1) s6 _ _ Ix ((e2.trans e5).trans ed) sd (.lst upd_same (is5.ext ed)) ?_ ?_
      · have hC : dd + 1 = Y.env.locals := by rw [← hY]; show dd + 1 = s2.heap.objs.size + 1; rw [hD]
        have ge : s2.heap.objs.size ≤ dd + 1 := by rw [hD]; exact Nat.le_succ _
        have := I2.fpOk (H' := upd H5 dd (.lst vs)) ge (by
          have q := I6.free
          rw [← hC] at q
          rw [upd_ne (show dd + 1 ≠ dd from Nat.succ_ne_self _)]
          exact q)
        exact this
      · obtain ⟨m, hn, _⟩ := I6.loc
        rw [← hY] at hn
        have hn : s6.heap.Ns (s2.heap.objs.size + 1) m := hn
        rw [hD] at hn
        exact ⟨m, hn⟩
  have eY : Y.env = { scope := relabel scope X.env, locals := dd + 1, globals := X.env.globals, cells := cellsFrom (dd + 1 + 1) scope.names (closOf X.env scope.names []), qual := X.env.qual, func := none, code := X.env.code, frame := X.env.frame, builtins := X.env.builtins } := by
    rw [← hY]
    show compEnvC _ _ _ _ = _
    rw [hD]
    rfl
  rw [← eY]
  exact codeAny_compStart_list (loop _ rfl) (T.self X.A 0 _ _ _ st4 (loop _ rfl))
def freeB (XN : List Str) (xs cs : List (Str × NameKind)) (F : List Str) (js : List Nat) : Bool :=
  (js.map fun j => XN[j]?) == F.map some && (F.all fun x => cs.lookup x == some .free && (cs.all fun y => y.1 != x || y.2 != .cell) && (xs.lookup x == some .cell || xs.lookup x == some .free)) &&
  (cs.all fun y => (y.2 != .free || xs.lookup y.1 == some .cell || xs.lookup y.1 == some .free) && (y.2 != .local || cs.lookup y.1 == some .local))
def frOf (ρ : Rho) (js : List Nat) : Rho := js.map fun j => (ρ[j]?).getD none
theorem freeB_free {F : List Str} {js : List Nat} (h : freeB X.N X.env.scope.names scope.names F js = true) : FreeOk X scope := fun y hy e => by
  unfold freeB at h
  simp only [Bool.and_eq_true, List.all_eq_true] at h
  have q := (h.2 y hy).1
  rw [e] at q
  have q : (X.env.scope.names.lookup y.1 == some .cell || X.env.scope.names.lookup y.1 == some .free) = true := by simpa using q
  rcases (Bool.or_eq_true _ _).mp q with q | q
  · exact .inl (show X.env.scope.names.lookup y.1 = _ by simpa using q)
  · exact .inr (show X.env.scope.names.lookup y.1 = _ by simpa using q)
theorem freeB_loc {F : List Str} {js : List Nat} (h : freeB X.N X.env.scope.names scope.names F js = true) : ∀ x ∈ scope.names, x.2 = .local → scope.names.lookup x.1 = some .local := fun y hy e => by
  unfold freeB at h
  simp only [Bool.and_eq_true, List.all_eq_true] at h
  have q := (h.2 y hy).2
  rw [e] at q
  simpa using q
theorem freeB_at {T F : List Str} {js : List Nat} (h : freeB X.N X.env.scope.names scope.names F js = true) (i : Nat) (d : D) (e : (T.map (fun _ => (none : Option D)) ++ frOf ρ js)[i]? = some (some d)) :
    ∃ (x : Str) (j : Nat), (T ++ F)[i]? = some x ∧ scope.names.lookup x = some .free ∧ (∀ y ∈ scope.names, y.1 = x → y.2 ≠ .cell) ∧ X.N[j]? = some x ∧ ρ[j]? = some (some d) ∧ Vis X.env.scope x := by
  unfold freeB at h
  simp only [Bool.and_eq_true, List.all_eq_true, beq_iff_eq] at h
  obtain ⟨⟨h1, h2⟩, h3⟩ := h
  by_cases hi : i < T.length
  · rw [List.getElem?_append_left (by simpa using hi), List.getElem?_map] at e
    cases q : T[i]? with
    | none => rw [q] at e; cases e
    | some _ => rw [q] at e; cases e
  · rw [List.getElem?_append_right (by simpa using hi), List.length_map] at e
    unfold frOf at e
    rw [List.getElem?_map] at e
    cases q : js[i - T.length]? with
    | none => rw [q] at e; cases e
    | some j =>
      rw [q] at e
      have e : (ρ[j]?).getD none = some d := Option.some.inj e
      have hρ : ρ[j]? = some (some d) := by
        cases q2 : ρ[j]? with
        | none => rw [q2] at e; cases e
        | some o => rw [q2] at e; rw [show o = some d from e]
      have hF := congrArg (fun l => l[i - T.length]?) h1
      simp only [List.getElem?_map, q, Option.map_some] at hF
      cases qF : F[i - T.length]? with
      | none => rw [qF] at hF; cases hF
      | some x =>
        rw [qF] at hF
        have hF : X.N[j]? = some x := Option.some.inj hF
        obtain ⟨⟨g1, g2⟩, g3⟩ := h2 x (List.mem_of_getElem? qF)
        refine ⟨x, j, by rw [List.getElem?_append_right (by omega)]; exact qF, g1, fun y hy ey => ?_, hF, hρ, ?_⟩
        · have := g2 y hy
          rw [ey] at this
          simpa using this
        · rcases (Bool.or_eq_true _ _).mp g3 with g | g
          · exact .inr (.inl (by simpa using g))
          · exact .inr (.inr (by simpa using g))
theorem sub_fr {ts fr : Rho} {T : List Str} (h : ts.length = T.length) : (ts ++ fr).length = (T.map (fun _ => (none : Option D)) ++ fr).length ∧ ∀ (j : Nat) (d : D), (T.map (fun _ => (none : Option D)) ++ fr)[j]? = some (some d) → (ts ++ fr)[j]? = some (some d) := by
  refine ⟨by simp [h], fun j d e => ?_⟩
  by_cases hj : j < T.length
  · rw [List.getElem?_append_left (by simpa using hj), List.getElem?_map] at e
    cases q : T[j]? with
    | none => rw [q] at e; cases e
    | some _ => rw [q] at e; cases e
  · rw [List.getElem?_append_right (by simpa using hj), List.length_map] at e
    rw [List.getElem?_append_right (by omega), h]
    exact e
def CTurn (X : Cx) (T F : List Str) (js : List Nat) (ρ : Rho) (O : Sto) (scope : Scope) (tg elt : Expr) (ifs : List Expr) (x : D) (z : Option D) : Prop :=
  ∀ (s : Shared) (H : Hp) (fp : List Addr), ∃ ts : Rho, ts.length = T.length ∧ Tg (cxC X (T ++ F) scope s H fp) tg x (T.map (fun _ => (none : Option D)) ++ frOf ρ js) (ts ++ frOf ρ js) ∧ Kept (cxC X (T ++ F) scope s H fp) (ts ++ frOf ρ js) O elt ifs z
theorem ev_compZ (T F : List Str) (js : List Nat) (hi : EvI X ρ O tg iter xs) (hzl : zs.length = xs.length) (hsz : xs.length ≤ sizeLine) (turn : ∀ (i : Nat) (x : D) (z : Option D), xs[i]? = some x → zs[i]? = some z → CTurn X T F js ρ O scope tg elt ifs x z)
    (hfl : F.length = js.length) (hB : freeB X.N X.env.scope.names scope.names F js = true) (hc : X.calm = true) (hk : scope.kind = .function) (hs : ∀ x, foldedSetIterable iter X.env x = pure x) :
    EvP X ρ O (.ListComp elt [⟨tg, iter, ifs, 0⟩] scope pos) (.lst (zs.filterMap id)) := fun G pins s σ H Q I ⟨h1, h2, h3⟩ => by
  rw [eval_ListComp]
  refine comp_core (T ++ F) js (T.map (fun _ => (none : Option D)) ++ frOf ρ js) hi hc hk (freeB_free hB) (freeB_loc hB) (by simp [frOf, hfl]) (freeB_at hB) hzl hsz (fun s H fp i x z q1 q2 => ?_) I h1 h2 (fun dd C s' H' G' I' e' sa' is' fo ns => ?_) hs
  · obtain ⟨ts, t1, t2, t3⟩ := turn i x z q1 q2 s H fp
    obtain ⟨u1, u2⟩ := sub_fr (fr := frOf ρ js) t1
    exact ⟨_, t2, u1, u2, t3⟩
  · obtain ⟨m, hn⟩ := ns
    refine ⟨m, hn, fun h' hs' => ?_⟩
    obtain ⟨f0, f1, f2, f3, f4, f5⟩ := fo
    exact ⟨.ref dd, H', I'.turned (t' := s'.toks) (fun b o hb e => (hs'.2 b hb).trans e) f0 f1 f3 f4 f5, rfl, h3 _ G' H' e' sa' is'⟩
end
end DL
set_option Elab.async false
set_option linter.all false
set_option maxRecDepth 100000
namespace DL
open PySem PySem.Spec PyProof.Rows L2 PySem.W
def kRun {α : Type} (lt : Nat → Nat → Bool) : KasT α → α
  | .ret a => a
  | .ask i j k => kRun lt (k (lt i j))
theorem kRun_bind {α β : Type} (lt : Nat → Nat → Bool) (f : α → KasT β) : ∀ t : KasT α, kRun lt (t.bind f) = kRun lt (f (kRun lt t))
  | .ret _ => rfl
  | .ask i j k => kRun_bind lt f (k (lt i j))
section
variable (key : Nat → Int)
abbrev ltK (i j : Nat) : Bool := decide (key i < key j)
def KQ (p : Array Nat) (i : Nat) : Int := key (p.getD i 0)
theorem asc_ok (p : Array Nat) : ∀ (f n : Nat), ∃ m, kRun (ltK key) (kas_asc p f n) = m ∧ n ≤ m ∧ m ≤ n + f ∧ (∀ k, n ≤ k → k < m → KQ key p (k - 1) ≤ KQ key p k) ∧ (m = n + f ∨ KQ key p m < KQ key p (m - 1))
  | 0, n => ⟨n, rfl, Nat.le_refl _, Nat.le_refl _, fun k h1 h2 => by omega, .inl rfl⟩
  | f + 1, n => by
    by_cases h : KQ key p n < KQ key p (n - 1)
    · refine ⟨n, ?_, Nat.le_refl _, by omega, fun k h1 h2 => by omega, .inr h⟩
      show kRun _ (if ltK key _ _ = true then _ else _) = _
      rw [if_pos (decide_eq_true (show key (p.getD n 0) < key (p.getD (n - 1) 0) from h))]
      rfl
    · obtain ⟨m, e, h1, h2, h3, h4⟩ := asc_ok p f (n + 1)
      refine ⟨m, ?_, by omega, by omega, fun k g1 g2 => ?_, by rcases h4 with h4 | h4; exact .inl (by omega); exact .inr h4⟩
      · show kRun _ (if ltK key _ _ = true then _ else _) = _
        rw [if_neg (by simpa [ltK] using (show ¬ key (p.getD n 0) < key (p.getD (n - 1) 0) from h))]
        exact e
      · by_cases hk : k = n
        · subst hk; exact Int.not_lt.mp h
        · exact h3 k (by omega) g2
theorem getD_eq {p : Array Nat} {i : Nat} : p.getD i 0 = (p[i]?).getD 0 := by
  by_cases h : i < p.size
  · simp [Array.getD, h]
  · simp [Array.getD, h]
theorem KQ_rev {p : Array Nat} {i j : Nat} (hj : j ≤ p.size) (k : Nat) : KQ key (kas_rev p i j) k = if i ≤ k ∧ k < j then KQ key p (i + j - 1 - k) else KQ key p k := by
  unfold KQ kas_rev
  rw [getD_eq, getElem?_mirror_all hj k]
  split
  · rw [getD_eq]
  · rw [getD_eq]
theorem KQ_revE {p : Array Nat} {i j : Nat} (hj : j ≤ p.size) (h : ∀ k, i ≤ k → k < j → KQ key p k = KQ key p (j - 1)) (k : Nat) : KQ key (kas_rev p i j) k = KQ key p k := by
  rw [KQ_rev key hj k]
  split
  · next hk => rw [h k hk.1 hk.2, h _ (by omega) (by omega)]
  · rfl
theorem desc_ok : ∀ (f : Nat) (p : Array Nat) (n q : Nat), q + 1 ≤ n → n + f ≤ p.size → (∀ i j, i ≤ j → j < n → KQ key p j ≤ KQ key p i) → (∀ k, n - (q + 1) ≤ k → k < n → KQ key p k = KQ key p (n - 1)) →
    ∃ p' n' q', kRun (ltK key) (kas_desc f p n q) = (p', n', q') ∧ n ≤ n' ∧ n' ≤ n + f ∧ q' + 1 ≤ n' ∧ p'.Perm p ∧ p'.size = p.size ∧ (∀ i j, i ≤ j → j < n' → KQ key p' j ≤ KQ key p' i) ∧ (∀ k, n' - (q' + 1) ≤ k → k < n' → KQ key p' k = KQ key p' (n' - 1))
  | 0, p, n, q, h1, h2, h3, h4 => ⟨p, n, q, rfl, Nat.le_refl _, Nat.le_refl _, h1, Array.Perm.refl _, rfl, h3, h4⟩
  | f + 1, p, n, q, h1, h2, h3, h4 => by
    by_cases h : KQ key p n < KQ key p (n - 1)
    · have step : ∀ p2 : Array Nat, p2.Perm p → p2.size = p.size → (∀ k, KQ key p2 k = KQ key p k) → (∀ i j, i ≤ j → j < n + 1 → KQ key p2 j ≤ KQ key p2 i) := fun p2 _ _ e i j hij hj => by
        rw [e, e]
        by_cases hjn : j = n
        · subst hjn
          by_cases hin : i = j
          · subst hin; exact Int.le_refl _
          · have := h3 i (j - 1) (by omega) (by omega); omega
        · exact h3 i j hij (by omega)
      by_cases hq : q > 0
      · have hE : ∀ k, KQ key (kas_rev p (n - (q + 1)) n) k = KQ key p k := KQ_revE key (by omega) h4
        obtain ⟨p', n', q', e, g⟩ := desc_ok f (kas_rev p (n - (q + 1)) n) (n + 1) 0 (by omega) (by rw [kas_rev_size]; omega) (step _ (mirror_perm _ _ _ _) (kas_rev_size _ _) hE) (fun k k1 k2 => by rw [show k = n + 1 - 1 by omega])
        refine ⟨p', n', q', ?_, by omega, by omega, g.2.2.1, g.2.2.2.1.trans (mirror_perm _ _ _ _), g.2.2.2.2.1.trans (kas_rev_size _ _), g.2.2.2.2.2⟩
        show kRun _ (if ltK key _ _ = true then _ else _) = _
        rw [if_pos (decide_eq_true (show key (p.getD n 0) < key (p.getD (n - 1) 0) from h)), if_pos hq]
        exact e
      · obtain ⟨p', n', q', e, g⟩ := desc_ok f p (n + 1) 0 (by omega) (by omega) (step _ (Array.Perm.refl _) rfl fun _ => rfl) (fun k k1 k2 => by rw [show k = n + 1 - 1 by omega])
        refine ⟨p', n', q', ?_, by omega, by omega, g.2.2⟩
        show kRun _ (if ltK key _ _ = true then _ else _) = _
        rw [if_pos (decide_eq_true (show key (p.getD n 0) < key (p.getD (n - 1) 0) from h)), if_neg hq]
        exact e
    · by_cases h' : KQ key p (n - 1) < KQ key p n
      · refine ⟨p, n, q, ?_, Nat.le_refl _, by omega, h1, Array.Perm.refl _, rfl, h3, h4⟩
        show kRun _ (if ltK key _ _ = true then _ else _) = _
        rw [if_neg (by simpa [ltK] using (show ¬ key (p.getD n 0) < key (p.getD (n - 1) 0) from h))]
        show kRun _ (if ltK key _ _ = true then _ else _) = _
        rw [if_pos (decide_eq_true (show key (p.getD (n - 1) 0) < key (p.getD n 0) from h'))]
        rfl
      · have he : KQ key p n = KQ key p (n - 1) := by omega
        obtain ⟨p', n', q', e, g⟩ := desc_ok f p (n + 1) (q + 1) (by omega) (by omega) (fun i j hij hj => by
          by_cases hjn : j = n
          · subst hjn
            by_cases hin : i = j
            · subst hin; exact Int.le_refl _
            · have := h3 i (j - 1) (by omega) (by omega); omega
          · exact h3 i j hij (by omega)) (fun k k1 k2 => by
          show _ = KQ key p n
          by_cases hkn : k = n
          · subst hkn; rfl
          · rw [h4 k (by omega) (by omega), he])
        refine ⟨p', n', q', ?_, by omega, by omega, g.2.2⟩
        show kRun _ (if ltK key _ _ = true then _ else _) = _
        rw [if_neg (by simpa [ltK] using (show ¬ key (p.getD n 0) < key (p.getD (n - 1) 0) from h))]
        show kRun _ (if ltK key _ _ = true then _ else _) = _
        rw [if_neg (by simpa [ltK] using (show ¬ key (p.getD (n - 1) 0) < key (p.getD n 0) from h'))]
        exact e
def Srt (p : Array Nat) (m : Nat) : Prop := ∀ i j, i ≤ j → j < m → KQ key p i ≤ KQ key p j
theorem srt_adj {p : Array Nat} {m : Nat} (h : ∀ k, 1 ≤ k → k < m → KQ key p (k - 1) ≤ KQ key p k) : Srt key p m := by
  intro i j hij hj
  induction j with
  | zero => have : i = 0 := by omega
            subst this; exact Int.le_refl _
  | succ j ih =>
    by_cases e : i = j + 1
    · subst e; exact Int.le_refl _
    · exact Int.le_trans (ih (by omega) (by omega)) (h (j + 1) (by omega) hj)
theorem tail3_ok {n nrem : Nat} {p : Array Nat} (h1 : 1 ≤ n) (hn : n ≤ nrem) (hz : nrem ≤ p.size) (h3 : ∀ i j, i ≤ j → j < n → KQ key p j ≤ KQ key p i) : ∃ m p', kRun (ltK key) (kas_tail3 n nrem p) = (m, p') ∧ 1 ≤ m ∧ m ≤ nrem ∧ p'.Perm p ∧ p'.size = p.size ∧ Srt key p' m := by
  obtain ⟨m, e, g1, g2, g3, g4⟩ := asc_ok key (kas_rev p 0 n) (nrem - n) n
  refine ⟨m, kas_rev p 0 n, ?_, by omega, by omega, mirror_perm _ _ _ _, kas_rev_size _ _, srt_adj key fun k k1 k2 => ?_⟩
  · unfold kas_tail3
    rw [kRun_bind, e]
    rfl
  · by_cases hk : n ≤ k
    · exact g3 k hk k2
    · rw [KQ_rev key (by omega), KQ_rev key (by omega), if_pos (by omega), if_pos (by omega)]
      exact h3 _ _ (by omega) (by omega)
theorem descPart_ok {n nrem : Nat} {p : Array Nat} (h1 : 1 ≤ n) (hn : n + 1 ≤ nrem) (hz : nrem ≤ p.size) (h3 : ∀ i j, i ≤ j → j < n + 1 → KQ key p j ≤ KQ key p i) : ∃ m p', kRun (ltK key) (kas_descPart n nrem p) = (m, p') ∧ 1 ≤ m ∧ m ≤ nrem ∧ p'.Perm p ∧ p'.size = p.size ∧ Srt key p' m := by
  obtain ⟨p1, n1, q1, e, g1, g2, g3, g4, g5, g6, g7⟩ := desc_ok key (nrem - (n + 1)) p (n + 1) 0 (by omega) (by omega) h3 (fun k k1 k2 => by rw [show k = n + 1 - 1 by omega])
  unfold kas_descPart
  rw [kRun_bind, e]
  by_cases hq : q1 > 0
  · have hE : ∀ k, KQ key (kas_rev p1 (n1 - (q1 + 1)) n1) k = KQ key p1 k := KQ_revE key (by omega) g7
    obtain ⟨m, p', e', k1, k2, k3, k4, k5⟩ := tail3_ok key (n := n1) (nrem := nrem) (p := kas_rev p1 (n1 - (q1 + 1)) n1) (by omega) (by omega) (by rw [kas_rev_size]; omega) (fun i j hij hj => by rw [hE, hE]; exact g6 i j hij hj)
    refine ⟨m, p', ?_, k1, k2, k3.trans ((mirror_perm _ _ _ _).trans g4), k4.trans ((kas_rev_size _ _).trans g5), k5⟩
    show kRun _ (if q1 > 0 then _ else _) = _
    rw [if_pos hq]
    exact e'
  · obtain ⟨m, p', e', k1, k2, k3, k4, k5⟩ := tail3_ok key (n := n1) (nrem := nrem) (p := p1) (by omega) (by omega) (by omega) g6
    refine ⟨m, p', ?_, k1, k2, k3.trans g4, k4.trans g5, k5⟩
    show kRun _ (if q1 > 0 then _ else _) = _
    rw [if_neg hq]
    exact e'
theorem count_ok {nrem : Nat} {p : Array Nat} (h1 : 1 ≤ nrem) (hz : nrem ≤ p.size) : ∃ m p', kRun (ltK key) (kas_count nrem p) = (m, p') ∧ 1 ≤ m ∧ m ≤ nrem ∧ p'.Perm p ∧ p'.size = p.size ∧ Srt key p' m := by
  obtain ⟨n, e, g1, g2, g3, g4⟩ := asc_ok key p (nrem - 1) 1
  have hs : Srt key p n := srt_adj key fun k k1 k2 => g3 k k1 k2
  unfold kas_count
  rw [kRun_bind, e]
  by_cases hn : n = nrem
  · refine ⟨n, p, ?_, g1, by omega, Array.Perm.refl _, rfl, hs⟩
    rw [if_pos (by simpa using hn)]
    rfl
  · rw [if_neg (by simpa using hn)]
    have hlt : KQ key p n < KQ key p (n - 1) := by
      rcases g4 with g4 | g4
      · omega
      · exact g4
    by_cases hn1 : n > 1
    · rw [if_pos hn1]
      by_cases hr : KQ key p 0 < KQ key p (n - 1)
      · refine ⟨n, p, ?_, g1, by omega, Array.Perm.refl _, rfl, hs⟩
        show kRun _ (if ltK key _ _ = true then _ else _) = _
        rw [if_pos (decide_eq_true (show key (p.getD 0 0) < key (p.getD (n - 1) 0) from hr))]
        rfl
      · have heq : ∀ k, 0 ≤ k → k < n → KQ key p k = KQ key p (n - 1) := fun k _ hk => by
          have a := hs 0 k (by omega) hk
          have b := hs k (n - 1) (by omega) (by omega)
          omega
        have hE := KQ_revE key (p := p) (i := 0) (j := n) (by omega) heq
        obtain ⟨m, p', e', k1, k2, k3, k4, k5⟩ := descPart_ok key (n := n) (nrem := nrem) (p := kas_rev p 0 n) (by omega) (by omega) (by rw [kas_rev_size]; exact hz) (fun i j hij hj => by
          rw [hE, hE]
          by_cases hjn : j = n
          · subst hjn
            by_cases hin : i = j
            · subst hin; exact Int.le_refl _
            · rw [heq i (by omega) (by omega)]; omega
          · rw [heq i (by omega) (by omega), heq j (by omega) (by omega)]
            exact Int.le_refl _)
        refine ⟨m, p', ?_, k1, k2, k3.trans (mirror_perm _ _ _ _), k4.trans (kas_rev_size _ _), k5⟩
        show kRun _ (if ltK key _ _ = true then _ else _) = _
        rw [if_neg (by simpa [ltK] using (show ¬ key (p.getD 0 0) < key (p.getD (n - 1) 0) from hr))]
        exact e'
    · rw [if_neg hn1]
      obtain rfl : n = 1 := by omega
      exact descPart_ok key (by omega) (by omega) hz (fun i j hij hj => by
        by_cases hj1 : j = 1
        · subst hj1
          by_cases hi1 : i = 1
          · subst hi1; exact Int.le_refl _
          · obtain rfl : i = 0 := by omega
            exact Int.le_of_lt hlt
        · obtain rfl : j = 0 := by omega
          obtain rfl : i = 0 := by omega
          exact Int.le_refl _)
theorem place_ok (p : Array Nat) (k : Nat) (hs : Srt key p k) : ∀ (f l r : Nat), l ≤ r → r ≤ k → r - l ≤ f → (∀ i, i < l → KQ key p i ≤ KQ key p k) → (∀ i, r ≤ i → i < k → KQ key p k < KQ key p i) →
    ∃ m, kRun (ltK key) (kas_place p k f l r) = m ∧ m ≤ k ∧ (∀ i, i < m → KQ key p i ≤ KQ key p k) ∧ (∀ i, m ≤ i → i < k → KQ key p k < KQ key p i)
  | 0, l, r, h1, h2, h3, h4, h5 => ⟨l, rfl, by omega, h4, fun i g1 g2 => h5 i (by omega) g2⟩
  | f + 1, l, r, h1, h2, h3, h4, h5 => by
    by_cases hlr : l ≥ r
    · refine ⟨l, ?_, by omega, h4, fun i g1 g2 => h5 i (by omega) g2⟩
      show kRun _ (if l ≥ r then _ else _) = _
      rw [if_pos hlr]; rfl
    · by_cases hc : KQ key p k < KQ key p ((l + r) / 2)
      · obtain ⟨m, e, g1, g2, g3⟩ := place_ok p k hs f l ((l + r) / 2) (by omega) (by omega) (by omega) h4 (fun i i1 i2 => by
          have := hs ((l + r) / 2) i i1 i2; omega)
        refine ⟨m, ?_, g1, g2, g3⟩
        show kRun _ (if l ≥ r then _ else _) = _
        rw [if_neg hlr]
        show kRun _ (if ltK key _ _ = true then _ else _) = _
        rw [if_pos (decide_eq_true (show key (p.getD k 0) < key (p.getD ((l + r) / 2) 0) from hc))]
        exact e
      · obtain ⟨m, e, g1, g2, g3⟩ := place_ok p k hs f ((l + r) / 2 + 1) r (by omega) h2 (by omega) (fun i i1 => by
          have := hs i ((l + r) / 2) (by omega) (by omega); omega) h5
        refine ⟨m, ?_, g1, g2, g3⟩
        show kRun _ (if l ≥ r then _ else _) = _
        rw [if_neg hlr]
        show kRun _ (if ltK key _ _ = true then _ else _) = _
        rw [if_neg (by simpa [ltK] using (show ¬ key (p.getD k 0) < key (p.getD ((l + r) / 2) 0) from hc))]
        exact e
end
end DL
set_option Elab.async false
set_option linter.all false
set_option maxRecDepth 100000
set_option maxHeartbeats 2000000
namespace DL
open PySem PySem.Spec PyProof.Rows L2 PySem.W
def SIt (k : Bool) (h : Heap) (it l : Addr) (i : Nat) : Prop := if k then h.IsListIter it l i else h.IsTupleIter it l i
def SSq (k : Bool) (h : Heap) (l : Addr) (xs : Array Value) : Prop := if k then h.IsList l xs else h.IsTuple l xs
section
variable {k : Bool} {h h' : Heap} {it l b : Addr} {i : Nat} {xs : Array Value}
theorem SIt.at (q : SIt k h it l i) (e : ∀ o, h.get? it = some o → h'.get? it = some o) : SIt k h' it l i := by
  cases k with
  | true => obtain ⟨o, g, r⟩ := (q : h.IsListIter it l i); exact ⟨o, e o g, r⟩
  | false => obtain ⟨o, g, r⟩ := (q : h.IsTupleIter it l i); exact ⟨o, e o g, r⟩
theorem SSq.at (q : SSq k h l xs) (e : ∀ o, h.get? l = some o → h'.get? l = some o) : SSq k h' l xs := by
  cases k with
  | true => obtain ⟨o, g, r⟩ := (q : h.IsList l xs); exact ⟨o, e o g, r⟩
  | false => obtain ⟨o, g, r⟩ := (q : h.IsTuple l xs); exact ⟨o, e o g, r⟩
theorem SIt.obj (q : SIt k h it l i) : ∃ o, h.get? it = some o ∧ ∀ v, o.data ≠ .cell v := by
  cases k with
  | true => obtain ⟨o, g, c, d⟩ := (q : h.IsListIter it l i); exact ⟨o, g, fun v z => by rw [d] at z; cases z⟩
  | false => obtain ⟨o, g, c, d⟩ := (q : h.IsTupleIter it l i); exact ⟨o, g, fun v z => by rw [d] at z; cases z⟩
end
theorem drawn_by {prog : Program} {w : World} {A : Around} {E : Value → Shared → Prop} {s : Shared} {T id : String} {b : Builtin} {v : Value} {Q : Value → Shared → Prop} (hT : s.TypeIs v T) (sl : Slot T (Str.ofString "__next__") id) (en : entryFor table id = some b) (ok : argsOk id ⟨[v], []⟩)
    (h : wpAny (model prog w) A.in1 (b ⟨[v], []⟩) (fun fin s' => ∃ x, fin = .done (.ret x) ∧ Q x s') E s) : wpAny (model prog w) A (Builtin.SmallTypes.nextOf v) Q E s :=
  wpAny_bind (wpAny_callSpecial?_slot hT sl (wpAny_call_entry sl hT en (wpAny_mono h (fun fin s' ⟨x, e, q⟩ => ⟨x, e, wpAny_pure q⟩) fun _ _ e => e) ok))
section
variable {prog : Program} {w : World} {A : Around} {E : Value → Shared → Prop} {s : Shared} {it l : Addr} {i : Nat} {xs : Array Value} {Q : Value → Shared → Prop}
theorem tup_item {x : Value} (q : s.heap.IsTupleIter it l i) (t : s.heap.IsTuple l xs) (hx : xs[i]? = some x) (hQ : ∀ h', h'.IsTupleIter it l (i + 1) → Heap.SameBut it s.heap h' → Q x { s with heap := h' }) : wpAny (model prog w) A (Builtin.SmallTypes.nextOf (.ref it)) Q E s := by
  refine drawn_by q.typeIs F.slot_tuple_iterator_next F.entry_tuple_iterator_next (F.args_tuple_iterator_next_1 _) ?_
  obtain ⟨h, g, d, tk, os⟩ := s
  obtain ⟨⟨c, dc, da, sl⟩, gi, rfl, rfl⟩ := q
  obtain ⟨⟨c, dc, da, sl⟩, gt, rfl, n, rfl⟩ := t
  dsimp only at gi gt hQ
  wp_walk
  rw [Int.toNat_natCast, hx]
  wp_walk
  exact ⟨x, rfl, hQ _ ⟨_, Heap.get?_update_self _ gi rfl, rfl, by simp [Obj.mapFields, rawInt]⟩ (Heap.SameBut.update ..)⟩
theorem tup_end (hh : A.handled = none) (q : s.heap.IsTupleIter it l i) (t : s.heap.IsTuple l xs) (hx : xs[i]? = none) (hE : ∀ h' e, Heap.ExtBut it s.heap h' → (∃ o, h'.get? e = some o ∧ o.cls = .type "StopIteration") → E (.ref e) { s with heap := h' }) : wpAny (model prog w) A (Builtin.SmallTypes.nextOf (.ref it)) Q E s := by
  refine drawn_by q.typeIs F.slot_tuple_iterator_next F.entry_tuple_iterator_next (F.args_tuple_iterator_next_1 _) ?_
  obtain ⟨h, g, d, tk, os⟩ := s
  obtain ⟨⟨c, dc, da, sl⟩, gi, rfl, rfl⟩ := q
  obtain ⟨⟨c, dc, da, sl⟩, gt, rfl, n, rfl⟩ := t
  dsimp only at gi gt hE
  have hh1 : A.in1.handled = none := hh
  wp_walk
  rw [Int.toNat_natCast, hx]
  wp_walk
  unfold raiseNew
  wp_walk
  exact hE _ _ (fun b u hb e => Heap.get?_push_of_some _ (Heap.get?_push_of_some _ ((Heap.get?_update_ne _ _ _ _ hb).trans e))) ⟨_, Heap.get?_push_size _ rfl, rfl⟩
theorem sq_item {k : Bool} {x : Value} (q : SIt k s.heap it l i) (t : SSq k s.heap l xs) (hx : xs[i]? = some x) (hQ : ∀ h', SIt k h' it l (i + 1) → Heap.SameBut it s.heap h' → Q x { s with heap := h' }) : wpAny (model prog w) A (Builtin.SmallTypes.nextOf (.ref it)) Q E s :=
  match k with
  | true => wpAny_nextOf_list_item q t hx hQ
  | false => tup_item q t hx hQ
theorem sq_end {k : Bool} (hh : A.handled = none) (q : SIt k s.heap it l i) (t : SSq k s.heap l xs) (hx : xs[i]? = none) (hE : ∀ h' e, Heap.ExtBut it s.heap h' → (∃ o, h'.get? e = some o ∧ o.cls = .type "StopIteration") → E (.ref e) { s with heap := h' }) : wpAny (model prog w) A (Builtin.SmallTypes.nextOf (.ref it)) Q E s :=
  match k with
  | true => wpAny_nextOf_list_end hh q t hx hE
  | false => tup_end hh q t hx hE
end
def zObj (n : Nat) (f0 f1 : Value) : Obj := { cls := .type "zip", dict := none, data := .fields #[f0, f1, .bool false, .ref (n + 2), .ref (n + 3)], slots := #[] }
structure ZW (n : Nat) (k1 k2 : Bool) (l1 l2 i1 i2 : Nat) (xs ys : Array Value) (f0 f1 a b : Value) (h : Heap) : Prop where
  z : h.get? (n + 4) = some { cls := .type "zip", dict := none, data := .fields #[f0, f1, .bool false, .ref (n + 2), .ref (n + 3)], slots := #[] }
  ti : h.get? (n + 2) = some { cls := .type "tuple", data := .seq #[.ref n, .ref (n + 1)] }
  to : h.get? (n + 3) = some { cls := .type "tuple", data := .seq #[a, b] }
  w1 : SIt k1 h n l1 i1
  w2 : SIt k2 h (n + 1) l2 i2
  s1 : SSq k1 h l1 xs
  s2 : SSq k2 h l2 ys
  b1 : l1 < n
  b2 : l2 < n
theorem ap {x y : Nat} (h : x ≠ y) : @Ne Addr x y := h
def Oth (n : Nat) (h h' : Heap) : Prop := ∀ c o, c ≠ n + 4 → c ≠ n + 3 → c ≠ n → c ≠ n + 1 → h.get? c = some o → h'.get? c = some o
theorem Oth.refl (n : Nat) (h : Heap) : Oth n h h := fun _ _ _ _ _ _ e => e
theorem Oth.on {n : Nat} {h h1 h2 : Heap} (p : Oth n h h1) (q : Oth n h1 h2) : Oth n h h2 := fun c o c1 c2 c3 c4 e => q c o c1 c2 c3 c4 (p c o c1 c2 c3 c4 e)
theorem Oth.of {n c : Nat} {h h' : Heap} (e : Heap.SameBut c h h') (m : c = n + 4 ∨ c = n + 3 ∨ c = n ∨ c = n + 1) : Oth n h h' :=
  fun d o d1 d2 d3 d4 q => e.extBut _ _ (by rcases m with rfl | rfl | rfl | rfl <;> assumption) q
section
variable {prog : Program} {w : World} {A : Around} {E : Value → Shared → Prop} {s : Shared} {n l1 l2 i1 i2 : Nat} {k1 k2 : Bool} {xs ys : Array Value} {f0 f1 a b v : Value}
theorem ZW.mark0 {Q : Unit → Shared → Prop} (W : ZW n k1 k2 l1 l2 i1 i2 xs ys f0 f1 a b s.heap) (hQ : ∀ h', ZW n k1 k2 l1 l2 i1 i2 xs ys v f1 a b h' → Oth n s.heap h' → h'.objs.size = s.heap.objs.size → Q () { s with heap := h' }) : wpAny (model prog w) A (setField (.ref (n + 4)) 0 v) Q E s :=
  wpAny_setField_rec W.z (by simp) fun h' g e => hQ h' ⟨g, e.extBut _ _ (ap (by omega)) W.ti, e.extBut _ _ (ap (by omega)) W.to, W.w1.at fun o => e.extBut _ _ (ap (by omega)), W.w2.at fun o => e.extBut _ _ (ap (by omega)), W.s1.at fun o => e.extBut _ _ (ap (by have := W.b1; omega)), W.s2.at fun o => e.extBut _ _ (ap (by have := W.b2; omega)), W.b1, W.b2⟩ (.of e (.inl rfl)) e.1
theorem ZW.mark1 {Q : Unit → Shared → Prop} (W : ZW n k1 k2 l1 l2 i1 i2 xs ys f0 f1 a b s.heap) (hQ : ∀ h', ZW n k1 k2 l1 l2 i1 i2 xs ys f0 v a b h' → Oth n s.heap h' → h'.objs.size = s.heap.objs.size → Q () { s with heap := h' }) : wpAny (model prog w) A (setField (.ref (n + 4)) 1 v) Q E s :=
  wpAny_setField_rec W.z (by simp) fun h' g e => hQ h' ⟨g, e.extBut _ _ (ap (by omega)) W.ti, e.extBut _ _ (ap (by omega)) W.to, W.w1.at fun o => e.extBut _ _ (ap (by omega)), W.w2.at fun o => e.extBut _ _ (ap (by omega)), W.s1.at fun o => e.extBut _ _ (ap (by have := W.b1; omega)), W.s2.at fun o => e.extBut _ _ (ap (by have := W.b2; omega)), W.b1, W.b2⟩ (.of e (.inl rfl)) e.1
theorem ZW.put {j : Nat} {Q : Unit → Shared → Prop} (W : ZW n k1 k2 l1 l2 i1 i2 xs ys f0 f1 a b s.heap) (hQ : ∀ h', ZW n k1 k2 l1 l2 i1 i2 xs ys f0 f1 (if j = 0 then v else a) (if j = 1 then v else b) h' → Oth n s.heap h' → h'.objs.size = s.heap.objs.size → Q () { s with heap := h' }) : wpAny (model prog w) A (updateSeq (n + 3) (·.setIfInBounds j v)) Q E s :=
  wpAny_updateSeq_pair W.to fun h' g e => hQ h' ⟨e.extBut _ _ (ap (by omega)) W.z, e.extBut _ _ (ap (by omega)) W.ti, by rw [g]; match j with | 0 => rfl | 1 => rfl | _ + 2 => rfl, W.w1.at fun o => e.extBut _ _ (ap (by omega)), W.w2.at fun o => e.extBut _ _ (ap (by omega)), W.s1.at fun o => e.extBut _ _ (ap (by have := W.b1; omega)), W.s2.at fun o => e.extBut _ _ (ap (by have := W.b2; omega)), W.b1, W.b2⟩ (.of e (.inr (.inl rfl))) e.1
theorem ZW.draw1 {x : Value} {Q : Value → Shared → Prop} (W : ZW n k1 k2 l1 l2 i1 i2 xs ys f0 f1 a b s.heap) (hx : xs[i1]? = some x) (hQ : ∀ h', ZW n k1 k2 l1 l2 (i1 + 1) i2 xs ys f0 f1 a b h' → Oth n s.heap h' → h'.objs.size = s.heap.objs.size → Q x { s with heap := h' }) : wpAny (model prog w) A (Builtin.SmallTypes.nextOf (.ref n)) Q E s :=
  sq_item W.w1 W.s1 hx fun h' g e => hQ h' ⟨e.extBut _ _ (ap (by omega)) W.z, e.extBut _ _ (ap (by omega)) W.ti, e.extBut _ _ (ap (by omega)) W.to, g, W.w2.at fun o => e.extBut _ _ (ap (by omega)), W.s1.at fun o => e.extBut _ _ (ap (by have := W.b1; omega)), W.s2.at fun o => e.extBut _ _ (ap (by have := W.b2; omega)), W.b1, W.b2⟩ (.of e (.inr (.inr (.inl rfl)))) e.1
theorem ZW.draw2 {y : Value} {Q : Value → Shared → Prop} (W : ZW n k1 k2 l1 l2 i1 i2 xs ys f0 f1 a b s.heap) (hy : ys[i2]? = some y) (hQ : ∀ h', ZW n k1 k2 l1 l2 i1 (i2 + 1) xs ys f0 f1 a b h' → Oth n s.heap h' → h'.objs.size = s.heap.objs.size → Q y { s with heap := h' }) : wpAny (model prog w) A (Builtin.SmallTypes.nextOf (.ref (n + 1))) Q E s :=
  sq_item W.w2 W.s2 hy fun h' g e => hQ h' ⟨e.extBut _ _ (ap (by omega)) W.z, e.extBut _ _ (ap (by omega)) W.ti, e.extBut _ _ (ap (by omega)) W.to, W.w1.at fun o => e.extBut _ _ (ap (by omega)), g, W.s1.at fun o => e.extBut _ _ (ap (by have := W.b1; omega)), W.s2.at fun o => e.extBut _ _ (ap (by have := W.b2; omega)), W.b1, W.b2⟩ (.of e (.inr (.inr (.inr rfl)))) e.1
def ZF (f0 : Value) : Prop := f0 = .none ∨ ∃ c : Nat, f0 = rawInt (c : Int)
theorem alive_as {M : Model} {c : Addr} {Q : Option Obj → Shared → Prop} (h : Q (s.heap.get? c) s) : wpAny M A (loadIfAlive c) Q E s := fun _ _ _ => h
theorem ZW.free {Q : Bool → Shared → Prop} (W : ZW n k1 k2 l1 l2 i1 i2 xs ys f0 f1 a b s.heap) (hf : ZF f0) (y : Q true s) (z : ∀ h' f, ZW n k1 k2 l1 l2 i1 i2 xs ys f0 f a b h' → Oth n s.heap h' → h'.objs.size = s.heap.objs.size → Q false { s with heap := h' }) : wpAny (model prog w) A (Builtin.SmallTypes.ownedTupleIsFree (.ref (n + 4))) Q E s := by
  obtain ⟨h, g, d, tk, os⟩ := s
  have hz := W.z
  dsimp only at hz
  rcases hf with rfl | ⟨c, rfl⟩
  · wp_walk
    exact y
  · wp_walk using alive_as
    cases h.get? (Int.toNat (c : Int)) with
    | none => wp_walk; exact y
    | some o =>
      by_cases m : f1 = .bool true
      · subst m
        wp_walk
        exact z _ _ W (Oth.refl _ _) rfl
      · wp_walk using W.mark1
        exact fun h' V o1 o2 => wpAny_pure (z h' _ V o1 o2)
theorem for_two {M : Model} {β : Type} {x y : Value} {b : β} {f : Value → β → Sem (ForInStep β)} {Q : β → Shared → Prop} (h : wpAny M A (forIn [x, y] b f) Q E s) : wpAny M A (forIn #[x, y] b f) Q E s := by
  rw [← Array.forIn_toList]; exact h
theorem ZW.more {h : Heap} {o : Obj} (W : ZW n k1 k2 l1 l2 i1 i2 xs ys f0 f1 a b h) : ZW n k1 k2 l1 l2 i1 i2 xs ys f0 f1 a b (h.push o) :=
  have e : ∀ c u, h.get? c = some u → (h.push o).get? c = some u := fun c u q => Heap.get?_push_of_some _ q
  ⟨e _ _ W.z, e _ _ W.ti, e _ _ W.to, W.w1.at (e _), W.w2.at (e _), W.s1.at (e _), W.s2.at (e _), W.b1, W.b2⟩
theorem Oth.more {h h' : Heap} {o : Obj} (p : Oth n h h') : Oth n h (h'.push o) := p.on fun c u _ _ _ _ q => Heap.get?_push_of_some _ q
theorem zip_item {i : Nat} {x y : Value} {Q : Value → Shared → Prop} (W : ZW n k1 k2 l1 l2 i i xs ys f0 f1 a b s.heap) (hf : ZF f0) (hx : xs[i]? = some x) (hy : ys[i]? = some y)
    (hQ : ∀ h' f0' f1' a' b', ZW n k1 k2 l1 l2 (i + 1) (i + 1) xs ys f0' f1' a' b' h' → ZF f0' → IsPair h' s.heap.objs.size x y → Oth n s.heap h' → Q (.ref s.heap.objs.size) { s with heap := h' }) :
    wpAny (model prog w) A (Builtin.«zip.__next__» ⟨[.ref (n + 4)], []⟩) (fun fin s' => ∃ v, fin = .done (.ret v) ∧ Q v s') E s := by
  obtain ⟨h, g, d, tk, os⟩ := s
  dsimp only at W hQ
  have z := W.z
  have t := W.ti
  have ok : ∀ h4 : Heap, h4.objs.size = h.objs.size → ∀ v, (h4.push v).objs.size = h.objs.size + 1 := fun h4 e v => by rw [Heap.size_push, e]
  have lt : n + 4 < h.objs.size := Heap.lt_size z
  wp_walk using W.free hf, W.mark0
  · -- the pair is used again
    intro h1 W1 o1 z1
    have t1 := W1.to
    wp_walk using wpAny_onRaise, W1.draw1 hx
    intro h2 W2 o2 z2
    have t2 := W2.to
    wp_walk using W2.put
    intro h3 W3 o3 z3
    wp_walk using wpAny_onRaise, W3.draw2 hy
    intro h4 W4 o4 z4
    have t4 := W4.to
    wp_walk using W4.put
    intro h5 W5 o5 z5
    have t5 := W5.to
    wp_walk using W5.more.mark0
    intro h6 W6 o6 z6
    wp_walk using W6.mark1
    intro h7 W7 o7 z7
    wp_walk
    have ol : Oth n h h5 := o1.on (o2.on (o3.on (o4.on o5)))
    have zl : h5.objs.size = h.objs.size := z5.trans (z4.trans (z3.trans (z2.trans z1)))
    have pr : IsPair (h5.push { cls := .type "tuple", data := .seq #[x, y] }) h5.objs.size x y := Heap.get?_push_size _ rfl
    have fin := hQ h7 _ _ _ _ W7 (.inr ⟨_, rfl⟩)
    rw [← zl] at fin
    have far : ∀ j, j ≤ 4 → h5.objs.size ≠ n + j := fun j hj => by omega
    exact ⟨_, rfl, fin (o7 _ _ (far 4 (by decide)) (far 3 (by decide)) (far 0 (by decide)) (far 1 (by decide)) (o6 _ _ (far 4 (by decide)) (far 3 (by decide)) (far 0 (by decide)) (far 1 (by decide)) pr)) (ol.more.on (o6.on o7))⟩
  · intro h1 f W1 o1 z1
    wp_walk using for_two, W1.draw1 hx
    intro h2 W2 o2 z2
    wp_walk using W2.draw2 hy
    intro h3 W3 o3 z3
    wp_walk
    have zl : h3.objs.size = h.objs.size := z3.trans (z2.trans z1)
    have fin := hQ (h3.push { cls := .type "tuple", data := .seq #[x, y] }) _ _ _ _ W3.more hf
    rw [← zl] at fin
    exact ⟨_, rfl, fin (Heap.get?_push_size _ rfl) (o1.on (o2.on o3)).more⟩
def ZE (n : Nat) (h : Heap) (f0 f1 : Value) (h' : Heap) (e : Addr) : Prop := h'.get? (n + 4) = some (zObj n f0 f1) ∧ Oth n h h' ∧ ∃ o, h'.get? e = some o ∧ o.cls = .type "StopIteration"
theorem ZW.end1 {Q : Value → Shared → Prop} (hh : A.handled = none) (W : ZW n k1 k2 l1 l2 i1 i2 xs ys f0 f1 a b s.heap) (hx : xs[i1]? = none) (hE : ∀ h' e, ZE n s.heap f0 f1 h' e → E (.ref e) { s with heap := h' }) : wpAny (model prog w) A (Builtin.SmallTypes.nextOf (.ref n)) Q E s :=
  sq_end hh W.w1 W.s1 hx fun h' e x y => hE h' e ⟨x _ _ (ap (by omega)) W.z, fun c o _ _ c3 _ q => x c o c3 q, y⟩
theorem ZW.end2 {Q : Value → Shared → Prop} (hh : A.handled = none) (W : ZW n k1 k2 l1 l2 i1 i2 xs ys f0 f1 a b s.heap) (hy : ys[i2]? = none) (hE : ∀ h' e, ZE n s.heap f0 f1 h' e → E (.ref e) { s with heap := h' }) : wpAny (model prog w) A (Builtin.SmallTypes.nextOf (.ref (n + 1))) Q E s :=
  sq_end hh W.w2 W.s2 hy fun h' e x y => hE h' e ⟨x _ _ (ap (by omega)) W.z, fun c o _ _ _ c4 q => x c o c4 q, y⟩
theorem zip_end {i : Nat} {Q : PySem.Fin → Shared → Prop} (hh : A.handled = none) (W : ZW n k1 k2 l1 l2 i i xs ys f0 f1 a b s.heap) (hf : ZF f0) (he : xs[i]? = none ∨ ys[i]? = none)
    (hE : ∀ h' e, Oth n s.heap h' → (∃ o, h'.get? e = some o ∧ o.cls = .type "StopIteration") → E (.ref e) { s with heap := h' }) :
    wpAny (model prog w) A (Builtin.«zip.__next__» ⟨[.ref (n + 4)], []⟩) Q E s := by
  obtain ⟨h, g, d, tk, os⟩ := s
  dsimp only at W hE
  have z := W.z
  have t := W.ti
  have hb : ∀ h1 h2 e f, Oth n h h1 → ZE n h1 f f1 h2 e → wpAny (model prog w) A (setField (.ref (n + 4)) 0 .none) (fun _ s' => E (.ref e) s') E ⟨h2, g, d, tk, os⟩ := fun h1 h2 e f p ⟨g2, p2, o, q, c⟩ =>
    wpAny_setField_rec g2 (by simp [zObj]) fun h3 g3 e3 => hE h3 e (p.on (p2.on (.of e3 (.inl rfl)))) ⟨o, e3.extBut _ _ (fun x => by subst x; rw [g2] at q; cases q; simp [zObj] at c) q, c⟩
  wp_walk using W.free hf, W.mark0
  · intro h1 W1 o1 z1
    have t1 := W1.to
    cases hx : xs[i]? with
    | none =>
      wp_walk using wpAny_onRaise, W1.end1 hh hx
      exact fun h2 e q => hb h1 h2 e _ o1 q
    | some x =>
      have hy : ys[i]? = none := he.resolve_left (by rw [hx]; simp)
      wp_walk using wpAny_onRaise, W1.draw1 hx
      intro h2 W2 o2 z2
      have t2 := W2.to
      wp_walk using W2.put
      intro h3 W3 o3 z3
      wp_walk using wpAny_onRaise, W3.end2 hh hy
      exact fun h4 e q => hb h3 h4 e _ (o1.on (o2.on o3)) q
  · intro h1 f W1 o1 z1
    cases hx : xs[i]? with
    | none =>
      wp_walk using for_two, W1.end1 hh hx
      exact fun h2 e q => hE h2 e (o1.on q.2.1) q.2.2
    | some x =>
      have hy : ys[i]? = none := he.resolve_left (by rw [hx]; simp)
      wp_walk using for_two, W1.draw1 hx
      intro h2 W2 o2 z2
      wp_walk using W2.end2 hh hy
      exact fun h3 e q => hE h3 e (o1.on (o2.on q.2.1)) q.2.2
end
end DL
set_option Elab.async false
set_option linter.all false
set_option maxRecDepth 100000
set_option maxHeartbeats 2000000
namespace DL
open PySem PySem.Spec PyProof.Rows L2 PySem.W
section
variable {prog : Program} {w : World} {A : Around} {E : Value → Shared → Prop} {s : Shared} {n l1 l2 i1 i2 i : Nat} {k1 k2 : Bool} {xs ys : Array Value} {f0 f1 a b v : Value}
theorem next_by {T id : String} {bi : Builtin} {Q : Option Value → Shared → Prop} (hT : s.TypeIs v T) (sl : Slot T (Str.ofString "__next__") id) (en : entryFor table id = some bi) (ok : argsOk id ⟨[v], []⟩)
    (h : wpAny (model prog w) A.in1 (bi ⟨[v], []⟩) (fun fin s' => ∃ x, fin = .done (.ret x) ∧ Q (some x) s') (fun e s' => s'.TypeIs e "StopIteration" ∧ Q none s') s) : wpAny (model prog w) A (pyNext v) Q E s :=
  wpAny_bind (wpAny_attempt (wpAny_callSpecial?_slot hT sl (wpAny_call_entry sl hT en (wpAny_mono h (fun fin s' ⟨x, e, q⟩ => ⟨x, e, wpAny_pure q⟩) fun e s' ⟨t, q⟩ => wpAny_bind (wpAny_isInstance (T := "StopIteration") (b := true) t isSubtype_stop (wpAny_pure q))) ok)))
def ztn (k1 k2 : Bool) (n l1 l2 i : Nat) (h : Heap) : Prop := ∃ f0 f1 a b, ZF f0 ∧ h.get? (n + 4) = some (zObj n f0 f1) ∧ IsPair h (n + 2) (.ref n) (.ref (n + 1)) ∧ IsPair h (n + 3) a b ∧ SIt k1 h n l1 i ∧ SIt k2 h (n + 1) l2 i
theorem ZW.tn {h : Heap} (W : ZW n k1 k2 l1 l2 i i xs ys f0 f1 a b h) (hf : ZF f0) : ztn k1 k2 n l1 l2 i h := ⟨f0, f1, a, b, hf, W.z, W.ti, W.to, W.w1, W.w2⟩
theorem next_zip {x y : Value} {Q : Option Value → Shared → Prop} (W : ZW n k1 k2 l1 l2 i i xs ys f0 f1 a b s.heap) (hf : ZF f0) (hx : xs[i]? = some x) (hy : ys[i]? = some y)
    (hQ : ∀ h' f0' f1' a' b', ZW n k1 k2 l1 l2 (i + 1) (i + 1) xs ys f0' f1' a' b' h' → ZF f0' → IsPair h' s.heap.objs.size x y → Oth n s.heap h' → Q (some (.ref s.heap.objs.size)) { s with heap := h' }) : wpAny (model prog w) A (pyNext (.ref (n + 4))) Q E s :=
  next_by ⟨_, W.z, rfl⟩ F.slot_zip_next F.entry_zip_next (F.args_zip_next_1 _) (zip_item (Q := fun v s' => Q (some v) s') W hf hx hy hQ)
theorem next_zip_end {Q : Option Value → Shared → Prop} (hh : A.handled = none) (W : ZW n k1 k2 l1 l2 i i xs ys f0 f1 a b s.heap) (hf : ZF f0) (he : xs[i]? = none ∨ ys[i]? = none) (hQ : ∀ h', Oth n s.heap h' → Q none { s with heap := h' }) : wpAny (model prog w) A (pyNext (.ref (n + 4))) Q E s :=
  next_by ⟨_, W.z, rfl⟩ F.slot_zip_next F.entry_zip_next (F.args_zip_next_1 _) (zip_end hh W hf he fun h' e p q => ⟨q, hQ h' p⟩)
theorem go_zip {tg : Expr} {u : Value} {Q : Unit → Shared → Prop} (W : ZW n k1 k2 l1 l2 i1 i2 xs ys f0 f1 a b s.heap) (hf : ZF f0) (hQ : ∀ h' f, ZW n k1 k2 l1 l2 i1 i2 xs ys f f1 a b h' → ZF f → Oth n s.heap h' → Q () { s with heap := h' }) : wpAny (model prog w) A (letOwnedTupleGo tg (.ref (n + 4)) u) Q E s := by
  have same : Q () s := hQ s.heap _ W hf (Oth.refl _ _)
  obtain ⟨h, g, d, tk, os⟩ := s
  have z := W.z
  dsimp only at z
  unfold letOwnedTupleGo
  cases tg <;> try exact wpAny_pure same
  all_goals cases u <;> try exact wpAny_pure same
  all_goals
    wp_walk
    split
    · exact wpAny_bind (wpAny_rule (W.mark0 (s := ⟨h, g, d, tk, os⟩) (v := .none) fun h' V o z => hQ h' _ V (.inl rfl) o))
    · exact wpAny_pure same
theorem own_iter {T id nid : String} {bi : Builtin} {Q : Value → Shared → Prop} (hT : s.TypeIs v T) (sl : Slot T (Str.ofString "__iter__") id) (en : entryFor table id = some bi) (ok : argsOk id ⟨[v], []⟩) (nx : Slot T (Str.ofString "__next__") nid)
    (h : wpAny (model prog w) A.in1 (bi ⟨[v], []⟩) (fun fin s' => fin = .done (.ret v) ∧ s' = s) E s) (q : Q v s) : wpAny (model prog w) A (pyIter v) Q E s :=
  wpAny_pyIter_slot hT sl (wpAny_call_entry sl hT en (wpAny_mono h (fun fin s' ⟨e1, e2⟩ => ⟨v, e1, T, _, by rw [e2]; exact hT, nx.lookup, by rw [e2]; exact q⟩) fun _ _ e => e) ok)
theorem iter_sq {k : Bool} {l : Addr} {Q : Value → Shared → Prop} (t : SSq k s.heap l xs) (hQ : ∀ o, o.isFreed = false → (∀ h : Heap, ∀ c, h.get? c = some o → SIt k h c l 0) → Q (.ref s.heap.objs.size) { s with heap := s.heap.push o }) : wpAny (model prog w) A (pyIter (.ref l)) Q E s :=
  match k with
  | true => wpAny_pyIter_list t (hQ _ rfl fun h c e => ⟨_, e, rfl, rfl⟩)
  | false => wpAny_pyIter_tuple t (hQ _ rfl fun h c e => ⟨_, e, rfl, rfl⟩)
end
theorem laid5 (h : Heap) (a b c d e : Obj) (fa : a.isFreed = false) (fb : b.isFreed = false) (fc : c.isFreed = false) (fd : d.isFreed = false) (fe : e.isFreed = false) :
    let m := ((((h.push a).push b).push c).push d).push e
    m.get? h.objs.size = some a ∧ m.get? (h.objs.size + 1) = some b ∧ m.get? (h.objs.size + 2) = some c ∧ m.get? (h.objs.size + 3) = some d ∧ m.get? (h.objs.size + 4) = some e ∧ ∀ x o, h.get? x = some o → m.get? x = some o := by
  have up : ∀ (k : Heap) (o : Obj) x u, k.get? x = some u → (k.push o).get? x = some u := fun k o x u q => Heap.get?_push_of_some _ q
  have at_ : ∀ (k : Heap) (o : Obj) x, o.isFreed = false → x = k.objs.size → (k.push o).get? x = some o := fun k o x f q => by rw [q]; exact Heap.get?_push_size _ f
  exact ⟨up _ _ _ _ (up _ _ _ _ (up _ _ _ _ (up _ _ _ _ (at_ _ _ _ fa rfl)))), up _ _ _ _ (up _ _ _ _ (up _ _ _ _ (at_ _ _ _ fb (by simp [Heap.size_push])))), up _ _ _ _ (up _ _ _ _ (at_ _ _ _ fc (by simp [Heap.size_push]))), up _ _ _ _ (at_ _ _ _ fd (by simp [Heap.size_push])), at_ _ _ _ fe (by simp [Heap.size_push]), fun x o q => up _ _ _ _ (up _ _ _ _ (up _ _ _ _ (up _ _ _ _ (up _ _ _ _ q))))⟩
theorem zip_made (k1 k2 : Bool) (l1 l2 : Addr) (xs ys : Array Value) :
    Meets (Builtin.«zip.__new__» ⟨[.type "zip", .ref l1, .ref l2], []⟩) (fun _ R s => SSq k1 s.heap l1 xs ∧ SSq k2 s.heap l2 ys ∧
      ∀ h', ZW s.heap.objs.size k1 k2 l1 l2 0 0 xs ys .none (.bool false) .none .none h' → (∀ c o, s.heap.get? c = some o → h'.get? c = some o) → R (.ok (.ret (.ref (s.heap.objs.size + 4)))) { s with heap := h' }) :=
  .of_wp fun prog w A R s q => by
    obtain ⟨h, g, d, tk, os⟩ := s
    obtain ⟨t1, t2, q⟩ := q
    have hsub := sub_zip
    have lt : ∀ {k : Bool} {l : Addr} {zs : Array Value}, SSq k h l zs → l < h.objs.size := fun {k l zs} q => by
      cases k with
      | true => obtain ⟨o, g, _⟩ := (q : h.IsList l zs); exact Heap.lt_size g
      | false => obtain ⟨o, g, _⟩ := (q : h.IsTuple l zs); exact Heap.lt_size g
    have p1 := lt t1
    have p2 := lt t2
    wp_walk using iter_sq t1
    intro a1 f1 i1
    wp_walk using iter_sq (s := ⟨h.push a1, g, d, tk, os⟩) (t2.at fun o e => Heap.get?_push_of_some _ e)
    intro a2 f2 i2
    wp_walk
    simp only [Heap.size_push, Nat.add_assoc, Nat.reduceAdd]
    obtain ⟨e0, e1, e2, e3, e4, up⟩ := laid5 h a1 a2 { cls := .type "tuple", data := .seq #[.ref h.objs.size, .ref (h.objs.size + 1)] } { cls := .type "tuple", data := .seq #[.none, .none] } { cls := .type "zip", data := .fields #[.none, .bool false, .bool false, .ref (h.objs.size + 2), .ref (h.objs.size + 3)] } f1 f2 rfl rfl rfl
    exact ⟨_, rfl, q _ ⟨e4, e2, e3, i1 _ _ e0, i2 _ _ e1, t1.at (up _), t2.at (up _), p1, p2⟩ up⟩
theorem call_zip {prog : Program} {w : World} {A : Around} {E : Value → Shared → Prop} {s : Shared} {k1 k2 : Bool} {l1 l2 : Addr} {xs ys : Array Value} {Q : Value → Shared → Prop} (t1 : SSq k1 s.heap l1 xs) (t2 : SSq k2 s.heap l2 ys)
    (hQ : ∀ h', ztn k1 k2 s.heap.objs.size l1 l2 0 h' → (∀ c o, s.heap.get? c = some o → h'.get? c = some o) → Q (.ref (s.heap.objs.size + 4)) { s with heap := h' }) :
    wpAny (model prog w) A (call (.type "zip") [.ref l1, .ref l2]) Q E s :=
  callType_new F.called_zip (by decide) (F.typeCall_zip_2 _ _) (F.newCall_zip_2 _ _) (fun obj => F.args_object_init_3 obj _ _) F.entry_zip_new (zip_made k1 k2 l1 l2 xs ys) ⟨t1, t2, fun h' W up => ⟨⟨_, W.z, rfl⟩, hQ h' (W.tn (.inl rfl)) up⟩⟩
def Sq (k : Bool) (K : PySem.W.Frag) (H : Hp) (a : Addr) (xs : List V) : Prop := if k then SqL K H a xs else SqT K H a xs
def Itz (k1 k2 : Bool) (K : PySem.W.Frag) (l1 l2 : Addr) : It :=
  ⟨fun i H => ∃ as bs a b, Sq k1 K H l1 as ∧ Sq k2 K H l2 bs ∧ as[i]? = some a ∧ bs[i]? = some b,
   fun i H x H' => ∃ T a b, H T = none ∧ H' = upd H T (.tup [a, b]) ∧ x = .ref T ∧ (∀ as, Sq k1 K H l1 as → as[i]? = some a) ∧ ∀ bs, Sq k2 K H l2 bs → bs[i]? = some b,
   fun i H => ∃ as bs, Sq k1 K H l1 as ∧ Sq k2 K H l2 bs ∧ (as.length ≤ i ∨ bs.length ≤ i)⟩
section
variable {X : Cx} {pins : List (Addr × Obj)} {σ : L2.St} {H : Hp} {s : Shared} {k : Bool} {a : Addr} {xs ys : List V}
theorem Inv_sq (I : L2.Inv X pins σ H s) (h : Sq k X.K H a xs) : ∃ its : List Value, Vals xs its ∧ SSq k s.heap a its.toArray ∧ xs.length ≤ sizeLine := by
  cases k with
  | true => obtain ⟨its, v, p, z⟩ := I.list h; exact ⟨its, v, p.isList, z⟩
  | false => obtain ⟨its, v, p, z⟩ := I.tuple h; exact ⟨its, v, (p : IsTup _ _ _), z⟩
theorem Inv_sq_inj (I : L2.Inv X pins σ H s) (h : Sq k X.K H a xs) (h' : Sq k X.K H a ys) : xs = ys := by
  cases k with
  | true => exact I.list_inj h h'
  | false => exact I.tuple_inj h h'
end
theorem Inv_tur5 {X : Cx} {pins : List (Addr × Obj)} {σ : L2.St} {H : Hp} {s : Shared} {h' : Heap} {t' : Nat} {fp : List Addr} (I : L2.Inv X pins σ H s) (hf : ∀ b ∈ fp, FpOk X pins H b) (k : ∀ b o, b ∉ fp → s.heap.get? b = some o → h'.get? b = some o) : L2.Inv X pins σ H { s with heap := h', toks := t' } := by
  have nit : ∀ b u, H b = some u → b ∉ fp := fun b u e z => by rw [(hf b z).1] at e; cases e
  refine I.step (g' := s.gens) (d' := s.drawn) (ch := fp) (fun b hb => ?_) (fun b o _ _ hc e _ => k b o hc e) (fun b o _ _ hc e _ => ⟨o.slots, k b o hc e⟩) (fun _ _ _ _ n => n) (fun b o hc e => ⟨o, k b o hc e⟩) (fun _ _ e => e) (fun _ _ _ e => e) (fun b ps e => ⟨#[], by rw [e]; simp⟩) (fun m hm => ?_) (fun b u e => ?_) I.bare
  · obtain ⟨f0, f1, f2, f3, f4, f5⟩ := hf b hb
    exact ⟨f3, f1, f4, f5⟩
  · obtain ⟨o, es, ep, ho, r⟩ := hm
    exact ⟨o, es, ep, k _ o (fun z => (hf _ z).2.1 rfl) ho, r⟩
  · refine (I.hok b u e).stay (fun c v hc q => k c v ?_ q) (fun _ q => q) fun _ _ q => q
    rcases hc with z | z
    · rw [z]; exact nit b u e
    · exact nit c _ z
theorem Inv_track {X : Cx} {pins : List (Addr × Obj)} {σ : L2.St} {H : Hp} {s : Shared} {T : Addr} {o : HO} (I : L2.Inv X pins σ H s) (hT : FpOk X pins H T) (hs : X.s₀.heap.objs.size ≤ T) (new : ObjOk X.prog X.w (upd H T o) s.heap T o) : L2.Inv X pins σ (upd H T o) s := by
  obtain ⟨f0, f1, f2, f3, f4, f5⟩ := hT
  have ne : ∀ b u, H b = some u → b ≠ T := fun b u e z => by rw [z, f0] at e; cases e
  have sn : ∀ b o, X.s₀.heap.get? b = some o → b ≠ T := fun b o e => Nat.ne_of_lt (Nat.lt_of_lt_of_le (Heap.lt_size e) hs)
  exact ⟨I.ok, I.os, I.bare, ⟨I.base.keep, I.base.slot, fun b ob q n hx => by rw [upd_ne (sn b ob q)]; exact I.base.free b ob q n hx, I.base.there, fun b xs q => by have e := I.base.tups b xs q; rw [upd_ne (ne b _ e)]; exact e, fun b ob u q => by have e := I.base.frzs b ob u q; rw [upd_ne (ne b _ e)]; exact e, fun b ps q => by obtain ⟨m, e⟩ := I.base.tbls b ps q; exact ⟨m, by rw [upd_ne (ne b _ e)]; exact e⟩⟩,
    I.loc, I.cell, by rw [upd_ne (Ne.symm f1)]; exact I.free, fun x c e => by rw [upd_ne (f4 x c e)]; exact I.freeC x c e, fun p hp => by obtain ⟨a, b, c⟩ := I.pin p hp; exact ⟨a, by rw [upd_ne (f5 p hp)]; exact b, c⟩, HOk_more I.hok f0 new, I.len⟩
def zfp (n : Nat) : List Addr := [n, n + 1, n + 2, n + 3, n + 4]
theorem ztn_keep {k1 k2 : Bool} {n l1 l2 i : Nat} {h h' : Heap} (st : ztn k1 k2 n l1 l2 i h) (k : ∀ b ∈ zfp n, ∀ o, h.get? b = some o → h'.get? b = some o) : ztn k1 k2 n l1 l2 i h' := by
  obtain ⟨f0, f1, a, b, hf, z, ti, to, w1, w2⟩ := st
  exact ⟨f0, f1, a, b, hf, k _ (by simp [zfp]) _ z, k _ (by simp [zfp]) _ ti, k _ (by simp [zfp]) _ to, w1.at (k _ (by simp [zfp])), w2.at (k _ (by simp [zfp]))⟩
theorem ztn_obj {k1 k2 : Bool} {n l1 l2 i : Nat} {h : Heap} (st : ztn k1 k2 n l1 l2 i h) : ∀ b ∈ zfp n, ∃ o, h.get? b = some o ∧ ∀ v, o.data ≠ .cell v := by
  obtain ⟨f0, f1, a, b, hf, z, ti, to, w1, w2⟩ := st
  have all : ∀ P : Addr → Prop, P n → P (n + 1) → P (n + 2) → P (n + 3) → P (n + 4) → ∀ b ∈ zfp n, P b := fun P p0 p1 p2 p3 p4 b hb => by
    simp only [zfp, List.mem_cons, List.not_mem_nil, or_false] at hb
    rcases hb with rfl | rfl | rfl | rfl | rfl <;> assumption
  exact all _ w1.obj w2.obj ⟨_, ti, fun v e => by cases e⟩ ⟨_, to, fun v e => by cases e⟩ ⟨_, z, fun v e => by cases e⟩
theorem zfp_out {n : Nat} {c : Addr} (h : c ∉ zfp n) : c ≠ n + 4 ∧ c ≠ n + 3 ∧ c ≠ n ∧ c ≠ n + 1 :=
  ⟨fun e => h (by simp [zfp, e]), fun e => h (by simp [zfp, e]), fun e => h (by simp [zfp, e]), fun e => h (by simp [zfp, e])⟩
theorem Oth.fp {n : Nat} {h h' : Heap} (p : Oth n h h') : ∀ c o, c ∉ zfp n → h.get? c = some o → h'.get? c = some o := fun c o hc => p c o (zfp_out hc).1 (zfp_out hc).2.1 (zfp_out hc).2.2.1 (zfp_out hc).2.2.2
theorem turn_zip {P : Program} {w : World} {K : PySem.W.Frag} {tg : Expr} (k1 k2 : Bool) (n l1 l2 : Nat) (hl1 : l1 < n) (hl2 : l2 < n) : Turn P w K tg (Itz k1 k2 K l1 l2) (zfp n) (n + 4) (ztn k1 k2 n l1 l2) where
  mem := by simp [zfp]
  obj := fun i h st => ztn_obj st
  keep := fun i h h' st k => ztn_keep st k
  item := by
    intro X hP hw hK hc i pins s σ H E I hf st hg
    subst hP hw hK
    obtain ⟨as, bs, a, b, q1, q2, ga, gb⟩ := hg
    obtain ⟨ia, va, sa, _⟩ := Inv_sq I q1
    obtain ⟨ib, vb, sb, _⟩ := Inv_sq I q2
    obtain ⟨ua, hua, rua⟩ := va.get ga
    obtain ⟨ub, hub, rub⟩ := vb.get gb
    have hTn : s.heap.objs.size ∉ zfp n := fun m => let ⟨o, e, _⟩ := ztn_obj st _ m; Nat.lt_irrefl _ (Heap.lt_size e)
    obtain ⟨f0, f1, a0, b0, zf, z, ti, to, w1, w2⟩ := st
    refine next_zip (x := ua) (y := ub) ⟨z, ti, to, w1, w2, sa, sb, hl1, hl2⟩ zf (by simpa using hua) (by simpa using hub) fun h1 f0' f1' a' b' W1 zf1 pr o1 => ⟨_, rfl, go_zip (s := { s with heap := h1 }) W1 zf1 fun h2 f W2 zf2 o2 => ?_⟩
    have Iz : L2.Inv X pins σ H { s with heap := h2, toks := s.toks } := Inv_tur5 I hf (o1.on o2).fp
    have fr : H s.heap.objs.size = none := I.hok.fresh (Nat.le_refl _)
    refine ⟨.ref s.heap.objs.size, upd H s.heap.objs.size (.tup [a, b]), ?_, rfl, ⟨_, a, b, fr, rfl, rfl, fun cs q => ?_, fun cs q => ?_⟩, W2.tn zf2, fun c hb => ?_⟩
    · refine Inv_track Iz (I.fpOk (Nat.le_refl _) fr) I.sz ⟨show 2 ≤ sizeLine by decide, [ua, ub], .cons rua (.cons rub .nil), ?_⟩
      exact ⟨_, o2.fp _ _ hTn pr, rfl, rfl, _, rfl⟩
    · rw [Inv_sq_inj I q q1]; exact ga
    · rw [Inv_sq_inj I q q2]; exact gb
    · rw [upd_ne (fun e => hTn (by rw [← e]; exact hb))]; exact (hf c hb).1
  done := by
    intro X hP hw hK hc i pins s σ H E I hf st hg
    subst hP hw hK
    obtain ⟨as, bs, q1, q2, hend⟩ := hg
    obtain ⟨ia, va, sa, _⟩ := Inv_sq I q1
    obtain ⟨ib, vb, sb, _⟩ := Inv_sq I q2
    obtain ⟨f0, f1, a0, b0, zf, z, ti, to, w1, w2⟩ := st
    have e1 := va.length
    have e2 := vb.length
    exact next_zip_end (I.ok.hd hc) ⟨z, ti, to, w1, w2, sa, sb, hl1, hl2⟩ zf (hend.imp (fun e => by simp; omega) fun e => by simp; omega) fun h' p => ⟨rfl, Inv_tur5 (t' := s.toks) I hf p.fp⟩
  self := fun A i s Q E st h => by
    obtain ⟨f0, f1, a0, b0, zf, z, _⟩ := st
    exact own_iter ⟨_, z, rfl⟩ F.slot_zip_iter F.entry_zip_iter (F.args_zip_iter_1 _) F.slot_zip_next (wpAny_pure ⟨rfl, rfl⟩) h
end DL
set_option Elab.async false
set_option linter.all false
set_option maxRecDepth 100000
set_option maxHeartbeats 1000000
namespace DL
open PySem PySem.Spec PyProof.Rows L2 PySem.W
def LF (d : D) (xs : List D) : Prop := d = .lst xs ∨ d = .scr xs ∨ d = .tup xs
theorem Sq.same {k : Bool} {K : PySem.W.Frag} {H H' : Hp} {a : Addr} {xs : List V} (e : Same H H') (h : Sq k K H a xs) : Sq k K H' a xs := by
  cases k with
  | true => exact e.seq h
  | false => exact sqT_same e h
theorem LF.sq {K : PySem.W.Frag} {G : Wd} {d : D} {xs : List D} {v : V} (h : LF d xs) (i : Is K G d v) : ∃ k a vs, v = .ref a ∧ Sq k K G.g a vs ∧ Iss K G xs vs := by
  rcases h with rfl | rfl | rfl
  · cases i with | lst h r => exact ⟨true, _, _, rfl, SqL.of h, r⟩
  · cases i with | scr h r => exact ⟨true, _, _, rfl, h, r⟩
  · cases i with | tup h r => exact ⟨false, _, _, rfl, h, r⟩
def EvZ (X : Cx) (ρ : Rho) (O : Sto) (e : Expr) (xs : List D) (T : String) : Prop :=
  ∀ (G : Wd) (tg : Expr) (pins : List (Addr × Obj)) (s : Shared) (σ : L2.St) (H : Hp) (R : It → Hp → Prop), L2.Inv X pins σ H s → SA X.K G H O → EnvR X.K G σ ρ → (∀ J G' H', Ext G G' → SA X.K G' H' O → Yields X.K G' J xs → R J H') →
    wpAny (model X.prog X.w) X.A (eval e X.env) (fun v s1 => PIE X pins σ tg R v s1 ∧ s1.TypeIs v T) X.xe s
def zipD (xs ys : List D) : List D := List.zipWith (fun a b => .tup [a, b]) xs ys
theorem itz_yields {K : PySem.W.Frag} {G : Wd} {k1 k2 : Bool} {l1 l2 : Addr} {vs us : List V} {xs ys : List D} (h1 : Sq k1 K G.g l1 vs) (h2 : Sq k2 K G.g l2 us) (r1 : Iss K G xs vs) (r2 : Iss K G ys us) : Yields K G (Itz k1 k2 K l1 l2) (zipD xs ys) where
  go := fun i H e hi => by
    have hi : i < min xs.length ys.length := by simpa [zipD] using hi
    obtain ⟨a, ha, _⟩ := r1.get (i := i) (d := xs[i]'(by omega)) (by simp)
    obtain ⟨b, hb, _⟩ := r2.get (i := i) (d := ys[i]'(by omega)) (by simp)
    exact ⟨vs, us, a, b, h1.same e, h2.same e, ha, hb⟩
  stop := fun i H e hi => by
    have hi : min xs.length ys.length ≤ i := by simpa [zipD] using hi
    have e1 := r1.length
    have e2 := r2.length
    exact ⟨vs, us, h1.same e, h2.same e, by omega⟩
  yld := fun i v H H' G2 O2 e s y hi => by
    obtain ⟨T, a, b, hT, rfl, rfl, y1, y2⟩ := y
    obtain ⟨x, hx, ix⟩ := r1.getV (y1 vs (h1.same (e.g.trans s.sub)))
    obtain ⟨y, hy, iy⟩ := r2.getV (y2 us (h2.same (e.g.trans s.sub)))
    obtain ⟨e3, s3⟩ := s.laid (o := .tup [a, b]) hT
    refine ⟨.tup [x, y], _, ?_, e3, s3, .tup (SqT.of upd_same) (.cons (ix.ext (e.trans e3)) (.cons (iy.ext (e.trans e3)) .nil))⟩
    unfold zipD
    rw [List.getElem?_zipWith, hx, hy]
section
variable {X : Cx} {ρ : Rho} {O : Sto} {e a b c : Expr} {es : List Expr} {d da db : D} {ds : List D} {R : D → Sto → Prop} {pos p : Pos} {x : Str} {xs ys : List D}
theorem ez_zip (ha : EvP X ρ O a da) (hb : EvP X ρ O b db) (fa : LF da xs) (fb : LF db ys) (hm : X.mg "zip" = none) (hg : Gl X "zip" := by rfl) (hs : starEach [a, b] X.env = [(false, eval a X.env), (false, eval b X.env)] := by rfl) (hs2 : starEach [b] X.env = [(false, eval b X.env)] := by rfl) :
    EvZ X ρ O (.Call (.Name "zip" p) [a, b] [] pos) (zipD xs ys) "zip" := fun G tg pins s σ H R I sa en k => by
  refine Call_ (ld_blt I hg hm boot_zip (PyProof.Rows.callWith_type1 (thn (es_cons ha (es_cons hb es_nil hs2) (by rw [hs, hs2]) G pos pins s σ H (fun vs H' => ∃ G', Ext G G' ∧ SA X.K G' H' O ∧ Iss X.K G' [da, db] vs) I ⟨sa, en, fun vs G' H' e1 s1 i1 => ⟨G', e1, s1, i1⟩⟩) fun us s1 ⟨vs, H1, I1, r1, G1, e1, sa1, is1⟩ => ?_) (by rw [hs, hs2]) (by rw [hs2]; rfl)))
  cases is1 with | cons i1 is1 => cases is1 with | cons i2 is1 =>
  cases is1
  obtain ⟨k1, l1, v1, rfl, q1, j1⟩ := fa.sq i1
  obtain ⟨k2, l2, v2, rfl, q2, j2⟩ := fb.sq i2
  obtain ⟨u, u', rfl, ru, ru'⟩ := vals2 r1
  cases ru
  cases ru'
  obtain ⟨t1, w1, g1, z1⟩ := Inv_sq I1 (q1.same sa1.sub)
  obtain ⟨t2, w2, g2, z2⟩ := Inv_sq I1 (q2.same sa1.sub)
  have lt : ∀ {k : Bool} {l : Addr} {ys : Array Value}, SSq k s1.heap l ys → l < s1.heap.objs.size := fun {k l ys} q => by
    cases k with
    | true => obtain ⟨o, g, _⟩ := (q : s1.heap.IsList l ys); exact Heap.lt_size g
    | false => obtain ⟨o, g, _⟩ := (q : s1.heap.IsTuple l ys); exact Heap.lt_size g
  refine call_zip g1 g2 fun h' Z kp => ?_
  have Ik : L2.Inv X pins σ H1 { s1 with heap := h', toks := s1.toks } := I1.kept kp
  refine ⟨⟨s1.heap.objs.size + 4, zfp s1.heap.objs.size, ztn k1 k2 s1.heap.objs.size l1 l2, Itz k1 k2 X.K l1 l2, H1, rfl, Ik, turn_zip k1 k2 _ l1 l2 (lt g1) (lt g2), Z, fun b hb => ?_, k _ G1 H1 e1 sa1 (itz_yields q1 q2 j1 j2)⟩, ?_⟩
  · have hb' : s1.heap.objs.size ≤ b := by
      simp only [zfp, List.mem_cons, List.not_mem_nil, or_false] at hb
      rcases hb with rfl | rfl | rfl | rfl | rfl
      · exact Nat.le_refl _
      · exact Nat.le_add_right _ 1
      · exact Nat.le_add_right _ 2
      · exact Nat.le_add_right _ 3
      · exact Nat.le_add_right _ 4
    exact I1.fpOk hb' (I1.hok.fresh hb')
  · obtain ⟨f0, f1, a0, b0, _, hz, _⟩ := Z
    exact ⟨_, hz, rfl⟩
theorem ei_Z {tg : Expr} {T : String} (h : EvZ X ρ O e xs T) : EvI X ρ O tg e xs := fun G pins s σ H R I ⟨h1, h2, h3⟩ =>
  thn (h G tg pins s σ H R I h1 h2 h3) fun v s1 ⟨q, _⟩ => by
    obtain ⟨it, fp, tn, J, H', rfl, I', T, st, f, r⟩ := id q
    exact T.self X.A 0 s1 _ _ st q
end
def Cx.wA (X : Cx) (A : Around) : Cx := { X with A := A }
theorem Inv_A {X : Cx} {pins : List (Addr × Obj)} {σ : L2.St} {H : Hp} {s : Shared} {A : Around} (I : L2.Inv X pins σ H s) (h1 : A.frames = X.A.frames) (h2 : A.handled = X.A.handled) : L2.Inv (Cx.wA X A) pins σ H s :=
  ⟨⟨I.ok.mod, I.ok.kind, I.ok.glob, I.ok.blt, I.ok.above, I.ok.inj, I.ok.has, I.ok.cab, fun hc => h2.trans (I.ok.hd hc), h1.trans I.ok.frames, I.ok.stk, I.ok.exf, I.ok.bs, I.ok.bsz, I.ok.noex, I.ok.exfs, I.ok.funs, I.ok.frf⟩, I.os, I.bare, I.base, I.loc, I.cell, I.free, I.freeC, I.pin, I.hok, I.len⟩
theorem Inv_unA {X : Cx} {pins : List (Addr × Obj)} {σ : L2.St} {H : Hp} {s : Shared} {A : Around} (I : L2.Inv (Cx.wA X A) pins σ H s) (ok : X.Ok) : L2.Inv X pins σ H s := ⟨ok, I.os, I.bare, I.base, I.loc, I.cell, I.free, I.freeC, I.pin, I.hok, I.len⟩
end DL
set_option Elab.async false
set_option linter.all false
set_option maxRecDepth 100000
set_option maxHeartbeats 1000000
namespace DL
open PySem PySem.Spec PyProof.Rows L2 PySem.W
def kBd {α : Type} (n : Nat) (P : α → Prop) : KasT α → Prop
  | .ret a => P a
  | .ask i j k => i < n ∧ j < n ∧ ∀ b, kBd n P (k b)
theorem kBd_bind {α β : Type} {n : Nat} {f : α → KasT β} {P : α → Prop} {Q : β → Prop} (hf : ∀ a, P a → kBd n Q (f a)) : ∀ (t : KasT α), kBd n P t → kBd n Q (t.bind f)
  | .ret a, h => hf a h
  | .ask i j k, h => ⟨h.1, h.2.1, fun b => kBd_bind hf (k b) (h.2.2 b)⟩
theorem kBd_wp {α : Type} {n : Nat} {P : α → Prop} {cmp : Nat → Nat → (Bool → Shared → Prop) → Shared → Prop} {lt : Nat → Nat → Bool} {s : Shared} {Q : α → Shared → Prop} (hc : ∀ i j C, i < n → j < n → C (lt i j) s → cmp i j C s) : ∀ (t : KasT α), kBd n P t → (P (kRun lt t) → Q (kRun lt t) s) → t.kasWp cmp Q s
  | .ret a, h, q => q h
  | .ask i j k, h, q => hc i j _ h.1 h.2.1 (kBd_wp hc (k (lt i j)) (h.2.2 _) q)
def In (n : Nat) (p : Array Nat) : Prop := ∀ k, p.getD k 0 < n
theorem In_perm {n : Nat} {p q : Array Nat} (h : In n p) (e : q.Perm p) (hn : 0 < n) : In n q := fun k => by
  rw [getD_eq]
  cases hk : q[k]? with
  | none => exact hn
  | some v =>
    have hv : v ∈ p := e.mem_iff.mp (Array.mem_of_getElem? hk)
    obtain ⟨i, hi, ei⟩ := Array.mem_iff_getElem.mp hv
    have := h i
    rw [getD_eq, Array.getElem?_eq_getElem hi, ei] at this
    exact this
theorem asc_bd {n : Nat} {p : Array Nat} (h : In n p) : ∀ (f m : Nat), kBd n (fun _ => True) (kas_asc p f m)
  | 0, m => trivial
  | f + 1, m => ⟨h _, h _, fun b => by cases b; exact asc_bd h f (m + 1); exact trivial⟩
theorem rev_In {n : Nat} {p : Array Nat} (h : In n p) (hn : 0 < n) (i j : Nat) : In n (kas_rev p i j) := In_perm h (mirror_perm _ _ _ _) hn
theorem desc_bd {n : Nat} (hn : 0 < n) : ∀ (f : Nat) (p : Array Nat) (m q : Nat), In n p → kBd n (fun r : Array Nat × Nat × Nat => In n r.1) (kas_desc f p m q)
  | 0, p, m, q, h => h
  | f + 1, p, m, q, h => ⟨h _, h _, fun b => by
      cases b
      · exact ⟨h _, h _, fun c => by
          cases c
          · exact desc_bd hn f p _ _ h
          · exact h⟩
      · show kBd n _ (if true = true then _ else _)
        rw [if_pos rfl]
        split
        · exact desc_bd hn f _ _ _ (rev_In h hn _ _)
        · exact desc_bd hn f p _ _ h⟩
theorem tail3_bd {n : Nat} (hn : 0 < n) {p : Array Nat} (h : In n p) (m r : Nat) : kBd n (fun r : Nat × Array Nat => In n r.2) (kas_tail3 m r p) := by
  unfold kas_tail3
  refine kBd_bind (P := fun _ => True) (fun a _ => ?_) _ (asc_bd (rev_In h hn 0 m) _ _)
  exact rev_In h hn 0 m
theorem descPart_bd {n : Nat} (hn : 0 < n) {p : Array Nat} (h : In n p) (m r : Nat) : kBd n (fun r : Nat × Array Nat => In n r.2) (kas_descPart m r p) :=
  kBd_bind (fun a ha => by
    show kBd n _ (if _ > 0 then _ else _)
    split
    · exact tail3_bd hn (rev_In ha hn _ _) _ _
    · exact tail3_bd hn ha _ _) _ (desc_bd hn _ _ _ _ h)
theorem count_bd {n : Nat} (hn : 0 < n) {p : Array Nat} (h : In n p) (r : Nat) : kBd n (fun r : Nat × Array Nat => In n r.2) (kas_count r p) :=
  kBd_bind (P := fun _ => True) (fun a _ => by
    show kBd n _ (if (_ == _) = true then _ else _)
    split
    · exact h
    · split
      · exact ⟨h _, h _, fun b => by
          cases b
          · exact descPart_bd hn (rev_In h hn _ _) _ _
          · exact h⟩
      · exact descPart_bd hn h _ _) _ (asc_bd h _ _)
theorem place_bd {n : Nat} {p : Array Nat} (h : In n p) (k : Nat) : ∀ (f l r : Nat), kBd n (fun _ => True) (kas_place p k f l r)
  | 0, l, r => trivial
  | f + 1, l, r => by
    show kBd n _ (if l ≥ r then _ else _)
    split
    · exact trivial
    · exact ⟨h _, h _, fun b => by cases b; exact place_bd h k f _ _; exact place_bd h k f _ _⟩
theorem bin_bd {n : Nat} (hn : 0 < n) : ∀ (f : Nat) (p : Array Nat) (k : Nat), In n p → kBd n (fun _ => True) (kas_bin f p k)
  | 0, p, k, h => trivial
  | f + 1, p, k, h => kBd_bind (P := fun _ => True) (fun a _ => bin_bd hn f _ _ (In_perm h (bubble_perm _ _ _) hn)) _ (place_bd h k _ _ _)
theorem sort_bd {n : Nat} (hn : 0 < n) : kBd n (fun _ => True) (kas_sort n) :=
  kBd_bind (fun a ha => by
    show kBd n _ (if _ < n then _ else _)
    split
    · exact bin_bd hn _ _ _ ha
    · exact trivial) _ (count_bd hn (fun k => by
      rw [getD_eq]
      by_cases hk : k < n
      · simp [hk]
      · simp [hk, hn]) n)
section
variable (key : Nat → Int)
theorem bin_ok : ∀ (f : Nat) (p : Array Nat) (k : Nat), k + f ≤ p.size → Srt key p k → ∃ p', kRun (ltK key) (kas_bin f p k) = p' ∧ p'.Perm p ∧ p'.size = p.size ∧ Srt key p' (k + f)
  | 0, p, k, h, hs => ⟨p, rfl, Array.Perm.refl _, rfl, hs⟩
  | f + 1, p, k, h, hs => by
    obtain ⟨m, e, h1, h2, h3⟩ := place_ok key p k hs k 0 k (Nat.zero_le _) (Nat.le_refl _) (by omega) (fun i hi => by omega) (fun i i1 i2 => by omega)
    have hK : ∀ i, KQ key (bubble p k (k - m)) i = if i = m then KQ key p k else if m < i ∧ i ≤ k then KQ key p (i - 1) else KQ key p i := fun i => by
      unfold KQ
      rw [getD_eq, getElem?_bubble (by omega) (k - m) (by omega) i]
      rw [show k - (k - m) = m by omega]
      repeat' split
      all_goals rw [getD_eq]
    obtain ⟨p', e', g1, g2, g3⟩ := bin_ok f (bubble p k (k - m)) (k + 1) (by rw [bubble_size]; omega) (fun i j hij hj => by
      rw [hK, hK]
      by_cases im : i = m
      · rw [if_pos im]
        by_cases jm : j = m
        · rw [if_pos jm]; exact Int.le_refl _
        · rw [if_neg jm, if_pos (by omega)]
          exact Int.le_of_lt (h3 (j - 1) (by omega) (by omega))
      · rw [if_neg im]
        by_cases jm : j = m
        · rw [if_pos jm, if_neg (by omega)]
          exact h2 i (by omega)
        · rw [if_neg jm]
          by_cases hi : m < i ∧ i ≤ k
          · rw [if_pos hi, if_pos (by omega)]
            exact hs _ _ (by omega) (by omega)
          · rw [if_neg hi]
            by_cases hj' : m < j ∧ j ≤ k
            · rw [if_pos hj']
              exact hs _ _ (by omega) (by omega)
            · rw [if_neg hj']
              exact hs _ _ hij (by omega))
    refine ⟨p', ?_, g1.trans (bubble_perm _ _ _), g2.trans (bubble_size _ _ _), ?_⟩
    · show kRun _ (KasT.bind _ _) = _
      rw [kRun_bind, e]
      exact e'
    · rw [show k + (f + 1) = k + 1 + f by omega]; exact g3
theorem sort_ok {n : Nat} (hn : 0 < n) : ∃ p, kRun (ltK key) (kas_sort n) = p ∧ p.Perm (List.toArray (List.range n)) ∧ p.size = n ∧ Srt key p n := by
  obtain ⟨m, p, e, h1, h2, h3, h4, h5⟩ := count_ok key (nrem := n) (p := List.toArray (List.range n)) hn (by simp)
  have hz : p.size = n := by rw [h4]; simp
  by_cases hm : m < n
  · obtain ⟨p', e', g1, g2, g3⟩ := bin_ok key (n - max m 1) p (max m 1) (by omega) (by rw [show max m 1 = m by omega]; exact h5)
    refine ⟨p', ?_, g1.trans h3, g2.trans hz, by rw [show max m 1 + (n - max m 1) = n by omega] at g3; exact g3⟩
    unfold kas_sort
    rw [kRun_bind, e]
    show kRun _ (if m < n then _ else _) = _
    rw [if_pos hm]
    exact e'
  · refine ⟨p, ?_, h3, hz, by rw [show n = m by omega]; exact h5⟩
    unfold kas_sort
    rw [kRun_bind, e]
    show kRun _ (if m < n then _ else _) = _
    rw [if_neg hm]
    rfl
end
def rankOf {α : Type} (lt : α → α → Bool) (l : List α) (x : α) : Int := ((l.filter fun z => lt z x).length : Nat)
theorem rank_lt {α : Type} {lt : α → α → Bool} {l : List α} {x y : α} (irr : ∀ a, lt a a = false) (tr : ∀ a b c, lt a b = true → lt b c = true → lt a c = true) (hx : x ∈ l) (h : lt x y = true) : rankOf lt l x < rankOf lt l y := by
  have key : ∀ l : List α, (l.filter fun z => lt z x).length ≤ (l.filter fun z => lt z y).length := fun l => by
    induction l with
    | nil => simp
    | cons a l ih =>
      simp only [List.filter_cons]
      by_cases ha : lt a x = true
      · rw [if_pos ha, if_pos (tr _ _ _ ha h)]; simp; exact ih
      · rw [if_neg ha]; split
        · simp; omega
        · exact ih
  have strict : ∀ l : List α, x ∈ l → (l.filter fun z => lt z x).length < (l.filter fun z => lt z y).length := fun l => by
    induction l with
    | nil => intro h; cases h
    | cons a l ih =>
      intro hm
      have base := key l
      simp only [List.filter_cons]
      rcases List.mem_cons.mp hm with rfl | hm
      · rw [if_neg (by rw [irr]; simp), if_pos h]; simp; omega
      · have := ih hm
        by_cases ha : lt a x = true
        · rw [if_pos ha, if_pos (tr _ _ _ ha h)]; simp; exact this
        · rw [if_neg ha]; split
          · simp; omega
          · exact this
  unfold rankOf
  have := strict l hx
  omega
theorem rank_iff {α : Type} {lt : α → α → Bool} {l : List α} {x y : α} (irr : ∀ a, lt a a = false) (tr : ∀ a b c, lt a b = true → lt b c = true → lt a c = true) (tot : ∀ a b, lt a b = false → lt b a = false → a = b) (hx : x ∈ l) (hy : y ∈ l) : decide (rankOf lt l x < rankOf lt l y) = lt x y := by
  cases h : lt x y with
  | true => exact decide_eq_true (rank_lt irr tr hx h)
  | false =>
    refine decide_eq_false fun z => ?_
    cases h' : lt y x with
    | true => have := rank_lt irr tr hy h'; omega
    | false => rw [tot _ _ h h'] at z; omega
end DL
set_option Elab.async false
set_option linter.all false
set_option maxRecDepth 100000
set_option maxHeartbeats 1000000
namespace DL
open PySem PySem.Spec PyProof.Rows L2 PySem.W
abbrev inSort (h : Heap) (a : Addr) (vs : List Value) : Heap := ((h.update a (Obj.mapSeq fun _ => (#[] : Array Value))).push (seqObj "tuple" vs.toArray 0)).push (seqObj "list" #[] 0)
theorem inSort_old {h : Heap} {a b : Addr} {vs : List Value} {o : Obj} (hb : b ≠ a) (e : h.get? b = some o) : (inSort h a vs).get? b = some o :=
  Heap.get?_push_of_some _ (Heap.get?_push_of_some _ ((Heap.get?_update_ne _ _ _ _ hb).trans e))
theorem inSort_own {h : Heap} {a : Addr} {vs : List Value} {n : Nat} (e : h.get? a = some (seqObj "list" vs.toArray n)) : ∃ m, (h.update a (Obj.mapSeq fun _ => (#[] : Array Value))).get? a = some (seqObj "list" #[] m) ∧ (inSort h a vs).get? a = some (seqObj "list" #[] m) :=
  ⟨_, get?_update_seq e _, Heap.get?_push_of_some _ (Heap.get?_push_of_some _ (get?_update_seq e _))⟩
section
variable {prog : Program} {w : World} {A : Around} {E : Value → Shared → Prop} {s : Shared}
def outOf (p : Array Nat) (vs : List Value) : List Value := p.toList.map fun i => vs.getD i Value.none
def Runs (prog : Program) (w : World) (A : Around) (vs : List Value) (s : Shared) (G : SortSt → Prop) : Prop :=
  ∀ E : Value → Shared → Prop, wpAny (model prog w) A (if vs.toArray.size < 2 then pure general' else keyKind' vs.toArray)
    (fun κ s1 => wpAny (model prog w) A ((if vs.toArray.size < 2 then pure () else sortRuns').run (SortSt.mk' κ (vs.toArray.zip vs.toArray) #[] 7 none)) (fun r s2 => s2 = s ∧ failedOf r.2 = none ∧ G r.2) E s1) E s
theorem if_bind {α β : Type} {M : Model} {c : Prop} [Decidable c] {x y : Sem α} {f : α → Sem β} {Q : β → Shared → Prop} (h : wpAny M A ((if c then x else y) >>= f) Q E s) : wpAny M A (if c then x >>= f else y >>= f) Q E s := by
  by_cases hc : c
  · rw [if_pos hc] at h ⊢; exact h
  · rw [if_neg hc] at h ⊢; exact h
theorem sort_outer {a : Addr} {vs : List Value} {n : Nat} {G : SortSt → Prop} {P : PySem.Fin → Shared → Prop} (ho : s.heap.get? a = some (seqObj "list" vs.toArray n)) (lim : vs.length ≤ sizeLine) (hr : Runs prog w A vs { s with heap := inSort s.heap a vs } G)
    (h : ∀ st, G st → ((arrOf st).map (·.2)).size ≤ sizeLine + 1 ∧ P (.done (.ret .none)) { s with heap := sortedHeap s.heap a vs ((arrOf st).map (·.2)) }) : wpAny (model prog w) A (Builtin.«list.sort» ⟨[.ref a], []⟩) P E s := by
  obtain ⟨m, g1, g2⟩ := inSort_own ho
  rw [list_sort_plain]
  refine wpAny_bind (listItems_at ho rfl (wpAny_bind (listUpdate_at ho rfl ?_ (by simpa using lim) (Nat.zero_le _))))
  refine wpAny_bind (seqEpoch_at g1 rfl (wpAny_bind (wpAny_newTuple (wpAny_bind (wpAny_newList (wpAny_holding ?_) (Nat.zero_le _))) lim)))
  refine if_bind (wpAny_bind (wpAny_mono (hr E) (fun κ s1 q1 => wpAny_bind (wpAny_mono q1 (fun r s2 q2 => ?_) fun _ _ e => e)) fun _ _ e => e))
  obtain ⟨⟨⟩, st⟩ := r
  obtain ⟨rfl, f0, gs⟩ := q2
  obtain ⟨z, q⟩ := h st gs
  refine wpAny_bind (seqEpoch_at g2 rfl (wpAny_bind (listUpdate_at g2 rfl ?_ (Nat.zero_le _) z)))
  dsimp only at f0
  rw [f0, bne_self_eq_false]
  exact wpAny_pure q
def Cmp (prog : Program) (w : World) (A : Around) (vs : List Value) (key : Nat → Int) (s : Shared) : Prop :=
  ∃ κ, (∀ (E : Value → Shared → Prop) (Q : SortKind → Shared → Prop), Q κ s → wpAny (model prog w) A (keyKind' vs.toArray) Q E s) ∧ ∀ i j (C : Bool → Shared → Prop), i < vs.length → j < vs.length → C (decide (key i < key j)) s → wpAny (model prog w) A (keyLt' κ (vs.getD i Value.none) (vs.getD j Value.none)) C (fun _ _ => False) s
def Sortd (vs : List Value) (key : Nat → Int) (st : SortSt) : Prop := ∃ p : Array Nat, p.Perm (List.toArray (List.range vs.length)) ∧ p.size = vs.length ∧ Srt key p vs.length ∧ (arrOf st).map (·.2) = List.toArray (outOf p vs)
theorem runs_few {vs : List Value} {key : Nat → Int} (h : vs.length < 2) : Runs prog w A vs s (Sortd vs key) := fun E => by
  have c : vs.toArray.size < 2 := by simpa using h
  simp only [if_pos c]
  refine wpAny_pure (wpAny_pure ⟨rfl, rfl, List.toArray (List.range vs.length), Array.Perm.refl _, by simp, fun i j hij hj => ?_, ?_⟩)
  · rw [show i = j by omega]
    exact Int.le_refl _
  · show (vs.toArray.zip vs.toArray).map (·.2) = _
    match vs, h with
    | [], _ => simp [outOf]
    | [v], _ => simp [outOf]
theorem runs_many {vs : List Value} {key : Nat → Int} (h : 2 ≤ vs.length) (h64 : vs.length < 64) (cm : Cmp prog w A vs key s) : Runs prog w A vs s (Sortd vs key) := fun E => by
  have c : ¬ vs.toArray.size < 2 := by simpa using h
  simp only [if_neg c]
  obtain ⟨κ, kd, cm⟩ := cm
  obtain ⟨p, ep, g1, g2, g3⟩ := sort_ok key (n := vs.length) (by omega)
  refine kd _ _ (kat_run (ks := vs) (Q := fun st s2 => s2 = s ∧ failedOf st = none ∧ Sortd vs key st) (G := fun q s2 => s2 = s ∧ q = p) rfl h h64 (fun q st s2 _ a2 a3 a4 => ⟨a4.1, a3, p, g1, g2, g3, ?_⟩) (kBd_wp (n := vs.length) (lt := ltK key) cm _ (sort_bd (by omega)) fun _ => ⟨rfl, ep⟩))
  rw [a4.2] at a2
  exact kat_snds (ks := vs) (vs := vs) rfl a2
theorem sort_any {a : Addr} {vs : List Value} {n : Nat} {key : Nat → Int} {P : PySem.Fin → Shared → Prop} (ho : s.heap.get? a = some (seqObj "list" vs.toArray n)) (h64 : vs.length < 64)
    (hk : 2 ≤ vs.length → Cmp prog w A vs key { s with heap := inSort s.heap a vs })
    (h : ∀ p : Array Nat, p.Perm (List.toArray (List.range vs.length)) → p.size = vs.length → Srt key p vs.length → P (.done (.ret .none)) { s with heap := sortedHeap s.heap a vs (List.toArray (outOf p vs)) }) : wpAny (model prog w) A (Builtin.«list.sort» ⟨[.ref a], []⟩) P E s := by
  have lim : vs.length ≤ sizeLine := by rw [sizeLine_eq]; omega
  refine sort_outer (G := Sortd vs key) ho lim ?_ fun st ⟨p, p1, p2, p3, e⟩ => ?_
  · by_cases c : vs.length < 2
    · exact runs_few c
    · exact runs_many (by omega) h64 (hk (by omega))
  · rw [e]
    exact ⟨by simp [outOf]; omega, h p p1 p2 p3⟩
theorem call_sorted {x : Value} {Q : Value → Shared → Prop}
    (hc : wpAny (model prog w) A.in1 (collect x) (fun vs s1 => ∃ key, vs.length < 64 ∧ (2 ≤ vs.length → Cmp prog w A.in1.in1 vs key { s1 with heap := inSort (s1.heap.push (seqObj "list" vs.toArray 0)) s1.heap.objs.size vs }) ∧
      ∀ p : Array Nat, p.Perm (List.toArray (List.range vs.length)) → p.size = vs.length → Srt key p vs.length → Q (.ref s1.heap.objs.size) { s1 with heap := sortedHeap (s1.heap.push (seqObj "list" vs.toArray 0)) s1.heap.objs.size vs (List.toArray (outOf p vs)) }) E s) : wpAny (model prog w) A (call (.builtin "sorted") [x]) Q E s := by
  have body : wpAny (model prog w) A.in1 (Builtin.«sorted» ⟨[x], []⟩) (fun fin s' => ∃ v, fin = .done (.ret v) ∧ Q v s') E s := by
    refine wpAny_bind (m := checkCount "sorted" 1 1 _) (wpAny_pure (wpAny_bind (thn hc fun vs s1 ⟨key, h64, hk, hq⟩ => wpAny_bind (wpAny_newList (wpAny_bind (wpAny_holding ?_)) (by rw [sizeLine_eq]; omega)))))
    have own : (s1.heap.push (seqObj "list" vs.toArray 0)).get? s1.heap.objs.size = some (seqObj "list" vs.toArray 0) := Heap.get?_push_size _ rfl
    exact wpAny_call_entry slot_list_sort ⟨_, own, rfl⟩ entry_list_sort (sort_any (s := { s1 with heap := s1.heap.push (seqObj "list" vs.toArray 0) }) own h64 hk fun p p1 p2 p3 => ⟨_, rfl, wpAny_pure ⟨_, rfl, hq p p1 p2 p3⟩⟩) (args_list_sort _)
  exact Calls.call_function_entry kind_sorted plain_sorted entry_sorted (args_sorted1 _) body
end
end DL
set_option Elab.async false
set_option linter.all false
set_option maxRecDepth 100000
set_option maxHeartbeats 1000000
namespace DL
open PySem PySem.Spec PyProof.Rows L2 PySem.W
theorem code_by {prog : Program} {w : World} {A : Around} {s : Shared} {id : String} {b : Builtin} {args : Args} {R : Result → Shared → Prop} (pl : plainId id = true) (en : entryFor table id = some b)
    (h : wpAny (model prog w) A.in1 (b args) (fun fin s' => match fin with | .done f => R (.ok f) s' | .again c => c.quiet = true ∧ codeAny (model prog w) A c R s') (fun e s' => R (.error e) s') s) : codeAny (model prog w) A (.builtin id args) R s :=
  codeAny_builtin en (by rw [Around.under_plainId pl]; exact h)
abbrev lsC (its : List Value) (c : Nat) : Obj := { cls := .type "list", dict := none, data := .seq its.toArray c, slots := #[] }
theorem after_pure {M : Model} {A : Around} {E : Value → Shared → Prop} {s : Shared} {α : Type} {t : Sem α} {Q : α → Shared → Prop} {F : Shared → Prop} {u : Sem Unit} (hu : u = pure ()) (h : wpAny M A u (fun _ s2 => F s2) E s) (k : ∀ s2, F s2 → wpAny M A t Q E s2) : wpAny M A t Q E s := by
  subst hu
  have := wpAny_bind (f := fun _ => t) (wpAny_mono h (fun _ s2 q => k s2 q) fun _ _ e => e)
  simpa using this
theorem fp_pin {X : Cx} {pins : List (Addr × Obj)} {H : Hp} {b S : Addr} {o : Obj} (h : FpOk X pins H b) (hb : S ≠ b) : FpOk X ((S, o) :: pins) H b := by
  obtain ⟨f0, f1, f2, f3, f4, f5⟩ := h
  refine ⟨f0, f1, f2, f3, f4, fun p hp => ?_⟩
  simp only [List.mem_append, List.mem_cons] at hp
  rcases hp with q | rfl | q
  · exact f5 p (List.mem_append_left _ q)
  · exact hb
  · exact f5 p (List.mem_append_right _ q)
theorem Inv_unpin {X : Cx} {pins : List (Addr × Obj)} {σ : L2.St} {H : Hp} {s : Shared} {q : Addr × Obj} (I : L2.Inv X (q :: pins) σ H s) : L2.Inv X pins σ H s := I.pins_of fun p hp => I.pin p (List.mem_append_right _ (List.mem_cons_of_mem _ hp))
structure Got (X : Cx) (pins : List (Addr × Obj)) (σ : L2.St) (O : Sto) (G1 : Wd) (xs : List D) (S : Addr) (i : Nat) (s : Shared) (H : Hp) (G : Wd) (vs : List V) (its : List Value) (c : Nat) : Prop where
  inv : L2.Inv X ((S, lsC its c) :: pins) σ H s
  ext : Ext G1 G
  sa : SA X.K G H O
  iss : Iss X.K G (xs.take i) vs
  vals : Vals vs its
section
variable {X : Cx} {A : Around} {tg : Expr} {J : It} {fp : List Addr} {it : Addr} {tn : Nat → Heap → Prop} {pins : List (Addr × Obj)} {σ : L2.St} {O : Sto} {G1 : Wd} {xs : List D} {S : Addr} {res : Value} {R : Result → Shared → Prop}
theorem Got.more {i : Nat} {s s2 : Shared} {H H2 : Hp} {G G2 : Wd} {vs : List V} {its : List Value} {c : Nat} {x : D} {xv : V} {u : Value} (g : Got X pins σ O G1 xs S i s H G vs its c) (I2 : L2.Inv X ((S, lsC its c) :: pins) σ H2 s2) (hSs : X.s₀.heap.objs.size ≤ S) (hSC : ∀ x c, X.env.cells.lookup x = some c → c ≠ S) (hSp : ∀ p ∈ X.pn ++ pins, p.1 ≠ S) (hx : xs[i]? = some x) (e2 : Ext G G2) (sa2 : SA X.K G2 H2 O) (ix : Is X.K G2 x xv) (r : RelV xv u) :
    Got X pins σ O G1 xs S (i + 1) { s2 with heap := s2.heap.update S (Obj.mapSeq (·.push u)) } H2 G2 (vs ++ [xv]) (its ++ [u]) (c + 1) := by
  have p := I2.pin (S, lsC its c) (List.mem_append_right _ List.mem_cons_self)
  have Iq : L2.Inv X pins σ H2 { s2 with heap := s2.heap.update S (Obj.mapSeq (·.push u)) } := (Inv_unpin I2).turned (t' := s2.toks) (fun b o hb q => (Heap.get?_update_other _ _ (Ne.symm hb)).trans q) p.2.1 p.2.2.1 (.inr hSs) hSC hSp
  refine ⟨Iq.pins_of fun q hq => ?_, g.ext.trans e2, sa2, ?_, g.vals.append (.cons r .nil)⟩
  · rcases List.mem_cons.mp hq with rfl | hq
    · refine ⟨?_, p.2.1, p.2.2.1, p.2.2.2.1, fun v z => by cases z⟩
      rw [Heap.get?_update_self _ p.1 rfl]
      simp [Obj.mapSeq, lsC]
    · exact Iq.pin q (List.mem_append_right _ hq)
  · rw [List.take_add_one, hx]
    exact (g.iss.ext e2).append (.cons ix .nil)
theorem got_loop (hA : X.A = A.in1) (hc : X.calm = true) (T : Turn X.prog X.w X.K tg J fp it tn) (hgo : ∀ v, letOwnedTupleGo tg (.ref it) v = pure ()) (Yi : Yields X.K G1 J xs) (hsz : xs.length ≤ sizeLine) (hSs : X.s₀.heap.objs.size ≤ S) (hSC : ∀ x c, X.env.cells.lookup x = some c → c ≠ S) (hSp : ∀ p ∈ X.pn ++ pins, p.1 ≠ S)
    (fpS : ∀ (H : Hp), (∀ b ∈ fp, H b = none) → ∀ b ∈ fp, FpOk X pins H b) (hSf : S ∉ fp)
    (fin : ∀ s H G vs its c, Got X pins σ O G1 xs S xs.length s H G vs its c → R (.ok (.ret res)) s) :
    ∀ (k i : Nat) (s : Shared) (H : Hp) (G : Wd) (vs : List V) (its : List Value) (c : Nat), i + k = xs.length → Got X pins σ O G1 xs S i s H G vs its c → tn i s.heap → (∀ b ∈ fp, H b = none) →
      codeAny (model X.prog X.w) A (.builtin "list.extend.loop" ⟨[.ref S, .ref it, res], []⟩) R s
  | 0, i, s, H, G, vs, its, c, hk, g, st, fr => by
    have hi : i = xs.length := by omega
    subst hi
    have fps : ∀ b ∈ fp, FpOk X ((S, lsC its c) :: pins) H b := fun b hb => fp_pin (fpS H fr b hb) fun z => hSf (z ▸ hb)
    refine code_by F.plain_extend_loop F.entry_extend_loop (hA ▸ wpAny_bind (thn (T.done X rfl rfl rfl hc xs.length _ s σ H _ g.inv fps st (Yi.stop _ H (g.ext.g.trans g.sa.sub) (Nat.le_refl _))) fun r s' ⟨hr, I'⟩ => ?_))
    subst hr
    exact wpAny_pure (fin s' H G vs its c ⟨I', g.ext, g.sa, g.iss, g.vals⟩)
  | k + 1, i, s, H, G, vs, its, c, hk, g, st, fr => by
    have hi : i < xs.length := by omega
    have fps : ∀ b ∈ fp, FpOk X ((S, lsC its c) :: pins) H b := fun b hb => fp_pin (fpS H fr b hb) fun z => hSf (z ▸ hb)
    have hl : its.length = i := by
      rw [← g.vals.length, ← g.iss.length, List.length_take]; omega
    refine code_by F.plain_extend_loop F.entry_extend_loop (hA ▸ wpAny_bind (thn (T.item X rfl rfl rfl hc i _ s σ H _ g.inv fps st (Yi.go i H (g.ext.g.trans g.sa.sub) hi)) fun r s1 ⟨u, hr, h1⟩ => ?_))
    subst hr
    refine after_pure (hgo u) h1 fun s2 ⟨xv, H2, I2, r2, y2, st2, fr2⟩ => ?_
    obtain ⟨x, G2, hx, e2, sa2, ix⟩ := Yi.yld i xv H H2 G O g.ext g.sa y2 hi
    have p2 := I2.pin (S, lsC its c) (List.mem_append_right _ List.mem_cons_self)
    refine wpAny_bind (listUpdate_at p2.1 rfl (wpAny_pure ⟨plainId_quiet F.plain_extend_loop _, got_loop hA hc T hgo Yi hsz hSs hSC hSp fpS hSf fin k (i + 1) _ H2 G2 _ _ (c + 1) (by omega) (g.more I2 hSs hSC hSp hx e2 sa2 ix r2) ?_ fr2⟩) (by simp; omega) (by simp; omega))
    exact T.keep _ _ _ st2 fun b hb o q => (Heap.get?_update_other _ _ (fun z => hSf (by rw [z]; exact hb))).trans q
end
theorem zip_nolen : typeLookup (.type "zip") "__len__" = pure none := by rw [typeLookup_type, builtinLookup_eq_fast]; kernel_rfl
theorem zip_nohint : typeLookup (.type "zip") "__length_hint__" = pure none := by rw [typeLookup_type, builtinLookup_eq_fast]; kernel_rfl
structure NoLen (T : String) : Prop where
  len : typeLookup (.type T) "__len__" = pure none
  hint : typeLookup (.type T) "__length_hint__" = pure none
  nl : (Value.type T == Value.type "list") = false
  nt : (Value.type T == Value.type "tuple") = false
theorem nolen_zip : NoLen "zip" := ⟨zip_nolen, zip_nohint, by decide, by decide⟩
theorem collect_outer {prog : Program} {w : World} {A : Around} {s : Shared} {E : Value → Shared → Prop} {it : Addr} {Ty : String} {Q : List Value → Shared → Prop} (hN : NoLen Ty) (hT : s.TypeIs (.ref it) Ty)
    (hi : ∀ (h : Heap) (F : Value → Shared → Prop) (E' : Value → Shared → Prop), (∀ c o, s.heap.get? c = some o → h.get? c = some o) → F (.ref it) { s with heap := h } → wpAny (model prog w) A.in1 (pyIter (.ref it)) F E' { s with heap := h })
    (k : ∀ (h : Heap) (c : Nat) (R : Result → Shared → Prop), (∀ b o, s.heap.get? b = some o → h.get? b = some o) → h.get? s.heap.objs.size = some (lsC [] c) → (∀ s' its c', s'.heap.get? s.heap.objs.size = some (lsC its c') → Q its s' → R (.ok (.ret (.ref s.heap.objs.size))) s') →
      codeAny (model prog w) A (.builtin "list.extend.loop" ⟨[.ref s.heap.objs.size, .ref it, .ref s.heap.objs.size], []⟩) R { s with heap := h }) :
    wpAny (model prog w) A (collect (.ref it)) Q E s := by
  obtain ⟨h, g, d, tk, os⟩ := s
  obtain ⟨o, ho, hc⟩ := hT
  have lt : it < h.objs.size := Heap.lt_size ho
  have ne : h.objs.size ≠ it := Nat.ne_of_gt lt
  dsimp only at hi k
  wp_walk
  refine code_by F.plain_proto_collect F.entry_proto_collect ?_
  wp_walk
  have up : ∀ b u, h.get? b = some u → (h.push { cls := .type "list", data := .seq #[] }).get? b = some u := fun b u e => Heap.get?_push_of_some _ e
  have own : (h.push { cls := .type "list", data := .seq #[] }).get? h.objs.size = some { cls := .type "list", data := .seq #[] } := Heap.get?_push_size _ rfl
  have ty : Shared.TypeIs ⟨h.push { cls := .type "list", data := .seq #[] }, g, d, tk, os⟩ (.ref it) Ty := ⟨o, up _ _ ho, hc⟩
  have len := hN.len
  have hint := hN.hint
  have nl := hN.nl
  have nt := hN.nt
  refine ⟨plainId_quiet F.plain_list_iadd _, code_by F.plain_list_iadd F.entry_list_iadd ?_⟩
  have sr : Builtin.List.listSameRef (.ref h.objs.size) (.ref it) = false := beq_eq_false_iff_ne.mpr ne
  wp_walk using hi _ _ _ up
  have g1 := Heap.get?_update_self (Obj.mapSeq fun x => x.push Value.none) own rfl
  refine ⟨plainId_quiet F.plain_extend_loop _, k _ _ _ (fun b u e => ?_) (Heap.get?_update_self (Obj.mapSeq fun x => x.pop) g1 rfl) fun s' its c' e q => wpAny_bind (wpAny_load e (wpAny_pure q))⟩
  have nb : h.objs.size ≠ b := fun z => Nat.lt_irrefl _ (z ▸ Heap.lt_size e)
  rw [Heap.get?_update_other _ _ nb, Heap.get?_update_other _ _ nb]
  exact up b u e
theorem collect_turn {X : Cx} {A : Around} {tg : Expr} {J : It} {fp : List Addr} {it : Addr} {tn : Nat → Heap → Prop} {pins : List (Addr × Obj)} {σ : L2.St} {O : Sto} {G1 : Wd} {xs : List D} {s : Shared} {H : Hp} {E : Value → Shared → Prop} {Ty : String} {Q : List Value → Shared → Prop}
    (hA : X.A = A.in1) (hc : X.calm = true) (T : Turn X.prog X.w X.K tg J fp it tn) (hgo : ∀ v, letOwnedTupleGo tg (.ref it) v = pure ()) (Yi : Yields X.K G1 J xs) (hsz : xs.length ≤ sizeLine) (hN : NoLen Ty) (hT : s.TypeIs (.ref it) Ty) (I : L2.Inv X pins σ H s) (st : tn 0 s.heap) (f : ∀ b ∈ fp, FpOk X pins H b) (sa : SA X.K G1 H O)
    (hQ : ∀ (s' : Shared) (H' : Hp) (G' : Wd) (vs : List V) (its : List Value), L2.Inv X pins σ H' s' → Ext G1 G' → SA X.K G' H' O → Iss X.K G' xs vs → Vals vs its → Q its s') : wpAny (model X.prog X.w) A (collect (.ref it)) Q E s := by
  have out : s.heap.objs.size ∉ fp := fun m => let ⟨o, e, _⟩ := T.obj 0 _ st _ m; Nat.lt_irrefl _ (Heap.lt_size e)
  obtain ⟨g0, g1, g2, g3, g4, g5⟩ : FpOk X pins H s.heap.objs.size := I.fpOk (Nat.le_refl _) (I.hok.fresh (Nat.le_refl _))
  refine collect_outer hN hT (fun h F E' up q => T.self A.in1 0 _ _ _ (T.keep 0 _ _ st fun b _ o e => up b o e) q) fun h c R up own kr => ?_
  have I3 : L2.Inv X pins σ H { s with heap := h, toks := s.toks } := I.kept up
  refine got_loop hA hc T hgo Yi hsz I.sz g4 g5 (fun H' fr b hb => ⟨fr b hb, (f b hb).2⟩) out (fun s' H' G' vs its c' g => ?_) xs.length 0 _ H G1 [] [] c (by omega) ⟨I3.pins_of fun p hp => ?_, Ext.refl _, sa, .nil, .nil⟩ (T.keep 0 _ _ st fun b _ o e => up b o e) fun b hb => (f b hb).1
  · exact kr s' its c' (g.inv.pin (_, lsC its c') (List.mem_append_right _ List.mem_cons_self)).1 (hQ s' H' G' vs its (Inv_unpin g.inv) g.ext g.sa (by have := g.iss; rwa [List.take_length] at this) g.vals)
  · rcases List.mem_cons.mp hp with rfl | q
    · exact ⟨own, g0, g1, g2, fun v z => by cases z⟩
    · exact I3.pin p (List.mem_append_right _ q)
end DL
set_option Elab.async false
set_option linter.all false
set_option maxRecDepth 100000
set_option maxHeartbeats 1000000
namespace DL
open PySem PySem.Spec PyProof.Rows L2 PySem.W
structure Ord {α : Type} (lt : α → α → Bool) : Prop where
  irr : ∀ a, lt a a = false
  tr : ∀ a b c, lt a b = true → lt b c = true → lt a c = true
  tot : ∀ a b, lt a b = false → lt b a = false → a = b
def srt {α : Type} (lt : α → α → Bool) (l : List α) : List α := l.mergeSort fun a b => !lt b a
theorem srt_perm {α : Type} (lt : α → α → Bool) (l : List α) : (srt lt l).Perm l := List.mergeSort_perm _ _
theorem Ord.trle {α : Type} {lt : α → α → Bool} (o : Ord lt) : ∀ a b c : α, (!lt b a) = true → (!lt c b) = true → (!lt c a) = true := fun a b c h1 h2 => by
  have h1 : lt b a = false := by simpa using h1
  have h2 : lt c b = false := by simpa using h2
  cases h : lt c a with
  | false => rfl
  | true =>
    cases h3 : lt a b with
    | true => rw [o.tr _ _ _ h h3] at h2; cases h2
    | false => rw [o.tot _ _ h3 h1] at h; rw [h] at h2; cases h2
theorem Ord.totle {α : Type} {lt : α → α → Bool} (o : Ord lt) : ∀ a b : α, ((!lt b a) || (!lt a b)) = true := fun a b => by
  cases h : lt b a with
  | false => rfl
  | true =>
    cases h2 : lt a b with
    | false => rfl
    | true => have := o.tr _ _ _ h h2; rw [o.irr] at this; cases this
theorem srt_pw {α : Type} {lt : α → α → Bool} (o : Ord lt) (l : List α) : (srt lt l).Pairwise fun a b => (!lt b a) = true := List.pairwise_mergeSort o.trle o.totle l
theorem srt_uniq {α : Type} {lt : α → α → Bool} (o : Ord lt) {l q : List α} (h1 : q.Perm l) (h2 : q.Pairwise fun a b => (!lt b a) = true) : q = srt lt l :=
  List.Perm.eq_of_pairwise (fun a b _ _ x y => o.tot a b (by simpa using y) (by simpa using x)) h2 (srt_pw o l) (h1.trans (srt_perm lt l).symm)
theorem pp_mem {p : Array Nat} {n : Nat} (g : p.Perm (List.toArray (List.range n))) : ∀ i ∈ p.toList, i < n := fun i hi => by
  have : i ∈ List.toArray (List.range n) := g.mem_iff.mp (Array.mem_toList_iff.mp hi)
  simpa using this
theorem pp_map {α : Type} [Inhabited α] {p : Array Nat} {ps : List α} (g : p.Perm (List.toArray (List.range ps.length))) : (p.toList.map fun i => ps.getD i default).Perm ps := by
  have e : (List.range ps.length).map (fun i => ps.getD i default) = ps := by
    apply List.ext_getElem
    · simp
    · intro i h1 h2
      simp
      rw [List.getElem?_eq_getElem h2]
      rfl
  have q : p.toList.Perm (List.range ps.length) := by
    have := Array.perm_iff_toList_perm.mp g
    simpa using this
  have := q.map fun i => ps.getD i default
  rw [e] at this
  exact this
theorem sorted_fin {α : Type} [Inhabited α] {lt : α → α → Bool} (o : Ord lt) {K : PySem.W.Frag} {G : Wd} {ps : List α} {f : α → D} {vs : List V} {its : List Value} {key : Nat → Int} (hkey : ∀ i, i < ps.length → key i = rankOf lt ps (ps.getD i default)) (is : Iss K G (ps.map f) vs) (va : Vals vs its)
    {p : Array Nat} (g1 : p.Perm (List.toArray (List.range ps.length))) (g2 : p.size = ps.length) (g3 : Srt key p ps.length) : ∃ us, Vals us (outOf p its) ∧ Iss K G ((srt lt ps).map f) us ∧ us.length = ps.length := by
  have hb := pp_mem g1
  have e1 := is.length
  have e2 := va.length
  rw [List.length_map] at e1
  refine ⟨p.toList.map fun i => vs.getD i .non, ?_, ?_, by simp [g2]⟩
  · unfold outOf
    have : ∀ l : List Nat, (∀ i ∈ l, i < ps.length) → Vals (l.map fun i => vs.getD i .non) (l.map fun i => its.getD i Value.none) := fun l => by
      induction l with
      | nil => intro _; exact .nil
      | cons a l ih =>
        intro h
        have ha := h a List.mem_cons_self
        obtain ⟨u, hu, ru⟩ := va.get (i := a) (x := vs[a]'(by omega)) (by simp)
        refine .cons ?_ (ih fun i hi => h i (List.mem_cons_of_mem _ hi))
        dsimp only
        rw [List.getD_eq_getElem?_getD, List.getD_eq_getElem?_getD, List.getElem?_eq_getElem (show a < vs.length by omega), hu]
        exact ru
    exact this _ hb
  · rw [← srt_uniq o (pp_map g1) ?_]
    · have : ∀ l : List Nat, (∀ i ∈ l, i < ps.length) → Iss K G ((l.map fun i => ps.getD i default).map f) (l.map fun i => vs.getD i .non) := fun l => by
        induction l with
        | nil => intro _; exact .nil
        | cons a l ih =>
          intro h
          have ha := h a List.mem_cons_self
          obtain ⟨v, hv, iv⟩ := is.get (i := a) (d := f ps[a]) (by simp [ha])
          refine .cons ?_ (ih fun i hi => h i (List.mem_cons_of_mem _ hi))
          dsimp only
          rw [List.getD_eq_getElem?_getD, List.getD_eq_getElem?_getD, List.getElem?_eq_getElem ha, hv]
          exact iv
      exact this _ hb
    · rw [List.pairwise_iff_getElem]
      intro i j hi hj hij
      rw [List.length_map, Array.length_toList] at hi hj
      have kq : ∀ i (h : i < p.size), KQ key p i = rankOf lt ps (ps.getD p[i] default) := fun i h => by
        unfold KQ
        rw [getD_eq, Array.getElem?_eq_getElem h, Option.getD_some]
        exact hkey _ (hb _ (Array.mem_toList_iff.mpr (Array.getElem_mem h)))
      have k := g3 i j (Nat.le_of_lt hij) (by omega)
      rw [kq i hi, kq j hj] at k
      rw [List.getElem_map, List.getElem_map, Array.getElem_toList, Array.getElem_toList]
      have mem : ∀ i (h : i < p.size), ps.getD p[i] default ∈ ps := fun i h => by
        have := hb _ (Array.mem_toList_iff.mpr (Array.getElem_mem h))
        rw [List.getD_eq_getElem?_getD, List.getElem?_eq_getElem this]
        exact List.getElem_mem _
      have := rank_iff o.irr o.tr o.tot (mem j hj) (mem i hi)
      rw [← this]
      simp only [Bool.not_eq_true', decide_eq_false_iff_not]
      omega
def ltI (a b : Int) : Bool := decide (a < b)
def ltP (a b : Int × Int) : Bool := decide (a.1 < b.1 ∨ (a.1 = b.1 ∧ a.2 < b.2))
theorem ordP : Ord ltP := ⟨fun a => by simp [ltP], fun a b c h1 h2 => by simp [ltP] at *; omega, fun a b h1 h2 => by
  simp [ltP] at *
  obtain ⟨a1, a2⟩ := a; obtain ⟨b1, b2⟩ := b
  simp at *
  omega⟩
abbrev pD (p : Int × Int) : D := .tup [.int p.1, .int p.2]
def CmpD {α : Type} [Inhabited α] (X : Cx) (lt : α → α → Bool) (f : α → D) : Prop :=
  ∀ (A : Around) (G : Wd) (H : Hp) (pins : List (Addr × Obj)) (σ : L2.St) (s : Shared) (s' : Shared) (O : Sto) (ps : List α) (vs : List V) (its : List Value), L2.Inv X pins σ H s → SA X.K G H O → Iss X.K G (ps.map f) vs → Vals vs its → 2 ≤ ps.length → (∀ b o, s.heap.get? b = some o → s'.heap.get? b = some o) →
    Cmp X.prog X.w A its (fun i => rankOf lt ps (ps.getD i default)) s'
theorem getD_at {α : Type} {l : List α} {i : Nat} (h : i < l.length) (d : α) : l.getD i d = l[i] := by rw [List.getD_eq_getElem?_getD, List.getElem?_eq_getElem h]; rfl
theorem at_mem {α : Type} {l : List α} {i : Nat} (h : i < l.length) (d : α) : l.getD i d ∈ l := by rw [getD_at h]; exact List.getElem_mem _
theorem cmpP {X : Cx} : CmpD X ltP pD := fun A G H pins σ s s' O ps vs its I sa is va h2 up => by
  have e1 := is.length
  have e2 := va.length
  rw [List.length_map] at e1
  have at' : ∀ i, i < ps.length → ∃ a t u, its.getD i Value.none = .ref a ∧ ∃ o n, s'.heap.get? a = some o ∧ o.cls = .type "tuple" ∧ o.data = .seq #[.int (ps.getD i default).1 t, .int (ps.getD i default).2 u] n := fun i hi => by
    obtain ⟨v, hv, iv⟩ := is.get (i := i) (d := pD ps[i]) (by simp [hi])
    obtain ⟨w, hw, rw'⟩ := va.get hv
    cases iv with
    | tup h r =>
    cases r with | cons j1 r => cases r with | cons j2 r =>
    cases r
    cases j1
    cases j2
    cases rw'
    obtain ⟨its2, v2, ⟨o, g1, g2, n, g3⟩, _⟩ := I.tuple (sqT_same sa.sub h)
    obtain ⟨u1, u2, rfl, q1, q2⟩ := vals2 v2
    obtain ⟨t, rfl⟩ := q1
    obtain ⟨t', rfl⟩ := q2
    refine ⟨_, t, t', by rw [List.getD_eq_getElem?_getD, hw]; rfl, o, n, up _ _ g1, g2, ?_⟩
    rw [getD_at hi]
    exact g3
  refine ⟨tuples' (Value.type "int" != Value.type "tuple"), fun E Q hq => ?_, fun i j C hi hj hC => ?_⟩
  · have tp : ∀ (l : List Nat), (∀ i ∈ l, i < ps.length) → ∃ fs, KatTups s'.heap (l.map fun i => its.getD i Value.none) fs ∧ fs.length = l.length ∧ ∀ f ∈ fs, ∃ k t, f = Value.int k t := fun l => by
      induction l with
      | nil => intro _; exact ⟨[], .nil, rfl, fun f h => by cases h⟩
      | cons a l ih =>
        intro h
        obtain ⟨fs, f1, f2, f3⟩ := ih fun i hi => h i (List.mem_cons_of_mem _ hi)
        obtain ⟨b, t, u, e, o, n, g1, g2, g3⟩ := at' a (h a List.mem_cons_self)
        refine ⟨.int (ps.getD a default).1 t :: fs, ?_, by simp [f2], fun f hf => ?_⟩
        · show KatTups s'.heap (its.getD a Value.none :: _) _
          rw [e]
          exact .cons g1 g2 g3 rfl f1
        · rcases List.mem_cons.mp hf with q | q
          · exact ⟨_, _, q⟩
          · exact f3 f q
    obtain ⟨fs, f1, f2, f3⟩ := tp (List.range ps.length) fun i hi => List.mem_range.mp hi
    have ei : ((List.range ps.length).map fun i => its.getD i Value.none) = its := by
      apply List.ext_getElem
      · simp; omega
      · intro i h1 h3
        simp
        rw [List.getElem?_eq_getElem h3]; rfl
    rw [ei] at f1
    refine kat_kind f1 (by rw [f2, List.length_range]; omega) (fun f hf => ?_) (by decide) hq
    obtain ⟨k, t, rfl⟩ := f3 f hf
    exact .now
  · obtain ⟨a, t, u, ea, oa, na, a1, a2, a3⟩ := at' i (by omega)
    obtain ⟨b, t', u', eb, ob, nb, b1, b2, b3⟩ := at' j (by omega)
    have hr := rank_iff ordP.irr ordP.tr ordP.tot (at_mem (show i < ps.length by omega) default) (at_mem (show j < ps.length by omega) default)
    rw [hr] at hC
    rw [ea, eb]
    generalize ps.getD i default = x at hC a3
    generalize ps.getD j default = y at hC b3
    refine kat_lt a1 a3 b1 b3 ?_
    show KatLex _ _ _ _ _ _ [(Value.int x.1 t, Value.int y.1 t'), (Value.int x.2 u, Value.int y.2 u')] 0 s'
    refine kat_cons (wpAny_eqBool_int ?_)
    by_cases h1 : x.1 = y.1
    · rw [show (x.1 == y.1) = true by simpa using h1]
      refine kat_yes (kat_cons (wpAny_eqBool_int ?_))
      by_cases h2 : x.2 = y.2
      · rw [show (x.2 == y.2) = true by simpa using h2]
        refine kat_yes (kat_nil ?_)
        have : ltP x y = false := by unfold ltP; exact decide_eq_false (by omega)
        rw [this] at hC
        exact hC
      · rw [show (x.2 == y.2) = false by simpa using h2]
        refine kat_no (kat_one _ _ (lt_int ?_))
        have : ltP x y = decide (x.2 < y.2) := by unfold ltP; exact decide_eq_decide.mpr (by omega)
        rw [this] at hC
        exact hC
    · rw [show (x.1 == y.1) = false by simpa using h1]
      refine kat_no ?_
      have e : ((Value.type "int" != Value.type "tuple") && (0 : Nat) == 0) = true := by decide
      rw [e]
      refine oneLt_int ?_
      have : ltP x y = decide (x.1 < y.1) := by unfold ltP; exact decide_eq_decide.mpr (by omega)
      rw [this] at hC
      exact hC
end DL
set_option Elab.async false
set_option linter.all false
set_option maxRecDepth 100000
set_option maxHeartbeats 1000000
namespace DL
open PySem PySem.Spec PyProof.Rows L2 PySem.W
section
variable {X : Cx} {ρ : Rho} {O : Sto} {e a b c : Expr} {es : List Expr} {d da db : D} {ds : List D} {R : D → Sto → Prop} {pos p : Pos} {x : Str} {xs ys : List D} {α : Type} [Inhabited α] {lt : α → α → Bool} {f : α → D} {ps : List α}
theorem sorted_laid (o : Ord lt) (cm : CmpD X lt f) {pins : List (Addr × Obj)} {σ : L2.St} {s1 : Shared} {H1 : Hp} {G1 : Wd} {vs : List V} {its : List Value} {Q : VK} (I : L2.Inv X pins σ H1 s1) (sa : SA X.K G1 H1 O) (is : Iss X.K G1 (ps.map f) vs) (va : Vals vs its) (h64 : ps.length < 64)
    (hq : ∀ v G' H', Ext G1 G' → SA X.K G' H' O → Is X.K G' (.lst ((srt lt ps).map f)) v → Q v H') :
    ∃ key, its.length < 64 ∧ (2 ≤ its.length → Cmp X.prog X.w X.A.in1.in1 its key { s1 with heap := inSort (s1.heap.push (seqObj "list" its.toArray 0)) s1.heap.objs.size its }) ∧
      ∀ p : Array Nat, p.Perm (List.toArray (List.range its.length)) → p.size = its.length → Srt key p its.length → EP X pins σ Q (.ref s1.heap.objs.size) { s1 with heap := sortedHeap (s1.heap.push (seqObj "list" its.toArray 0)) s1.heap.objs.size its (List.toArray (outOf p its)) } := by
  have e1 := is.length
  have e2 := va.length
  rw [List.length_map] at e1
  have el : its.length = ps.length := by omega
  refine ⟨fun i => rankOf lt ps (ps.getD i default), by omega, fun h2 => ?_, fun p p1 p2 p3 => ?_⟩
  · refine cm _ G1 H1 pins σ s1 _ O ps vs its I sa is va (by omega) fun b ob q => ?_
    exact inSort_old (Nat.ne_of_lt (Heap.lt_size q)) (Heap.get?_push_of_some _ q)
  · rw [el] at p1 p2 p3
    obtain ⟨us, u1, u2, u3⟩ := sorted_fin o (fun i _ => rfl) is va p1 p2 p3
    obtain ⟨ec, hD⟩ := sortedHeap_at (h := s1.heap.push (seqObj "list" its.toArray 0)) (a := s1.heap.objs.size) (vs := its) (n := 0) (out := List.toArray (outOf p its)) (Heap.get?_push_size _ rfl)
    have fr : H1 s1.heap.objs.size = none := I.hok.fresh (Nat.le_refl _)
    obtain ⟨e3, s3⟩ := sa.laid (o := .lst us) fr
    refine ⟨.ref s1.heap.objs.size, upd H1 s1.heap.objs.size (.lst us), ?_, rfl, hq _ _ _ e3 s3 (.lst upd_same (u2.ext e3))⟩
    refine I.laid (t' := s1.toks) (fun b u q => ?_) (Nat.le_refl _) ⟨by rw [u3, sizeLine_eq]; omega, outOf p its, ec, u1, hD⟩
    have hb : b < s1.heap.objs.size := Heap.lt_size q
    rw [sortedHeap_old (Nat.ne_of_lt hb) (by rw [Heap.size_push]; exact Nat.lt_succ_of_lt hb)]
    exact Heap.get?_push_of_some _ q
theorem ev_sortedZ (o : Ord lt) (cm : ∀ Y, CmpD Y lt f) {Ty : String} (hN : NoLen Ty) (hz : EvZ X ρ O e (ps.map f) Ty) (h64 : ps.length < 64) (hm : X.mg "sorted" = none) (hc : X.calm = true := by rfl) (hg : Gl X "sorted" := by rfl) (hs : starEach [e] X.env = [(false, eval e X.env)] := by rfl) :
    EvP X ρ O (.Call (.Name "sorted" p) [e] [] pos) (.lst ((srt lt ps).map f)) := fun G pins s σ H Q I ⟨h1, h2, h3⟩ => by
  refine wpAny_Call_Name_kw (ld_blt I hg hm boot_sorted ?_)
  refine PyProof.Rows.callWith_builtin1 ?_ (by rw [hs]; rfl) rfl
  rw [hs]
  show wpAny _ _ (spliced ((false, eval e X.env) :: backTo pos [])) _ _ s
  refine Calls.spliced_cons (thn (hz G (.Name "" pos) pins s σ H (fun J H1 => ∃ G1, Ext G G1 ∧ SA X.K G1 H1 O ∧ Yields X.K G1 J (ps.map f)) I h1 h2 fun J G' H' q1 q2 q3 => ⟨G', q1, q2, q3⟩) fun v s1 ⟨⟨it, fp, tn, J, H1, hv, I1, T, st, fo, G1, e1, sa1, Yi⟩, hT⟩ => Calls.spliced_nil ?_)
  subst hv
  refine call_sorted (collect_turn (X := Cx.wA X X.A.in1.in1) (A := X.A.in1) rfl hc T (fun v => rfl) Yi (by rw [List.length_map, sizeLine_eq]; omega) hN hT (Inv_A I1 rfl rfl) st fo sa1 fun s' H' G' vs its I' e' sa' is' va' => ?_)
  exact sorted_laid o (cm X) (Inv_unA I' I.ok) sa' is' va' h64 fun v G'' H'' q1 q2 q3 => h3 v G'' H'' (e1.trans (e'.trans q1)) q2 q3
end
end DL
set_option Elab.async false
set_option linter.all false
set_option maxRecDepth 100000
set_option maxHeartbeats 1000000
namespace DL
open PySem PySem.Spec PyProof.Rows L2 PySem.W
mutual
def toPy : D → PyData
  | .non => .none | .bl b => .bool b | .int i => .int i | .str x => .str x | .tup xs => .tuple (toPys xs) | .lst xs => .list (toPys xs) | .scr xs => .list (toPys xs) | .ptr _ => .none | .ty _ => .none | .fn _ => .none | .dct _ _ => .none
def toPys : List D → List PyData
  | [] => []
  | x :: xs => toPy x :: toPys xs
end
mutual
def plD : D → Bool
  | .non => true | .bl _ => true | .int _ => true | .str x => PyData.strOk x | .tup xs => plDs xs | .lst xs => plDs xs | .scr xs => plDs xs | .ptr _ => false | .ty _ => false | .fn _ => false | .dct _ _ => false
def plDs : List D → Bool
  | [] => true
  | x :: xs => plD x && plDs xs
end
mutual
def dpD : D → Nat
  | .tup xs => dpDs xs + 1 | .lst xs => dpDs xs + 1 | .scr xs => dpDs xs + 1 | .non => 0 | .bl _ => 0 | .int _ => 0 | .str _ => 0 | .ptr _ => 0 | .ty _ => 0 | .fn _ => 0 | .dct _ _ => 0
def dpDs : List D → Nat
  | [] => 0
  | x :: xs => max (dpD x) (dpDs xs)
end
def eqD (a b : D) : Bool := PyData.eqv (toPy a) (toPy b)
def eqDs (a b : List D) : Bool := PyData.eqvAll (toPys a) (toPys b)
mutual
theorem dp_py : ∀ d : D, (toPy d).depth = dpD d
  | .non => rfl | .bl _ => rfl | .int _ => rfl | .str _ => rfl | .ptr _ => rfl | .ty _ => rfl | .fn _ => rfl | .dct _ _ => rfl
  | .tup xs => by simp only [toPy, PyData.depth, dpD]; rw [dp_pys xs]
  | .lst xs => by simp only [toPy, PyData.depth, dpD]; rw [dp_pys xs]
  | .scr xs => by simp only [toPy, PyData.depth, dpD]; rw [dp_pys xs]
theorem dp_pys : ∀ xs : List D, PyData.depthAll (toPys xs) = dpDs xs
  | [] => rfl
  | x :: xs => by simp only [toPys, PyData.depthAll, dpDs]; rw [dp_py x, dp_pys xs]
end
mutual
theorem pl_lay : ∀ d : D, plD d = true → (toPy d).canLay0 = true
  | .non, _ => rfl | .bl _, _ => rfl | .int _, _ => rfl | .str x, h => by simp only [plD] at h; simp only [toPy, PyData.canLay0]; exact h | .ptr _, h => nomatch h | .ty _, h => nomatch h | .fn _, h => nomatch h | .dct _ _, h => nomatch h
  | .tup xs, h => pl_lays xs h
  | .lst xs, h => pl_lays xs h
  | .scr xs, h => pl_lays xs h
theorem pl_lays : ∀ xs : List D, plDs xs = true → PyData.canLayAll0 (toPys xs) = true
  | [], _ => rfl
  | x :: xs, h => by
    have h : (plD x && plDs xs) = true := h
    rw [Bool.and_eq_true] at h
    show (PyData.canLay0 (toPy x) && PyData.canLayAll0 (toPys xs)) = true
    rw [pl_lay x h.1, pl_lays xs h.2]; rfl
end
section
variable {X : Cx} {pins : List (Addr × Obj)} {σ : L2.St} {H : Hp} {s : Shared} {G : Wd}
mutual
theorem rd_of (I : L2.Inv X pins σ H s) (sub : Same G.g H) : ∀ {d : D} {v : V} {u : Value}, Is X.K G d v → RelV v u → plD d = true → ∃ as, Reads s.heap u (toPy d) as
  | _, _, _, .non, r, _ => by cases r; exact ⟨[], .none⟩
  | _, _, _, .bl b, r, _ => by cases r; exact ⟨[], .bool b⟩
  | _, _, _, .int i, r, _ => by obtain ⟨t, rfl⟩ := r; exact ⟨[], .int i t⟩
  | _, _, _, .str x, r, _ => by obtain ⟨t, rfl⟩ := r; exact ⟨[], .str x t⟩
  | _, _, _, .tup h q, r, p => by
    cases r
    obtain ⟨its, va, ⟨o, g1, g2, n, g3⟩, _⟩ := I.tuple (sqT_same sub h)
    obtain ⟨as, ra⟩ := rds_of I sub q va p
    exact ⟨as, .tuple g1 g2 g3 (by simpa using ra)⟩
  | _, _, _, .lst h q, r, p => by
    cases r
    obtain ⟨its, va, pl, _⟩ := I.list (SqL.of (sub _ _ h))
    obtain ⟨o, g1, g2, n, g3⟩ := pl.isList
    obtain ⟨as, ra⟩ := rds_of I sub q va p
    exact ⟨_, .list g1 g2 g3 (by simpa using ra)⟩
  | _, _, _, .scr h q, r, p => by
    cases r
    obtain ⟨its, va, pl, _⟩ := I.list (sub.seq h)
    obtain ⟨o, g1, g2, n, g3⟩ := pl.isList
    obtain ⟨as, ra⟩ := rds_of I sub q va p
    exact ⟨_, .list g1 g2 g3 (by simpa using ra)⟩
  | _, _, _, .ptr _ _, _, p => by simp [plD] at p
  | _, _, _, .ty _, _, p => by simp [plD] at p
  | _, _, _, .fn _, _, p => by simp [plD] at p
  | _, _, _, .dct _ _ _, _, p => by simp [plD] at p
theorem rds_of (I : L2.Inv X pins σ H s) (sub : Same G.g H) : ∀ {ds : List D} {vs : List V} {us : List Value}, Iss X.K G ds vs → Vals vs us → plDs ds = true → ∃ as, ReadsAll s.heap us (toPys ds) as
  | _, _, _, .nil, .nil, _ => ⟨[], .nil⟩
  | d :: ds, _, _, .cons i is, .cons r rs, p => by
    have p : (plD d && plDs ds) = true := p
    rw [Bool.and_eq_true] at p
    obtain ⟨as, ra⟩ := rd_of I sub i r p.1
    obtain ⟨bs, rb⟩ := rds_of I sub is rs p.2
    exact ⟨_, .cons ra rb⟩
end
end
def RD (O : Sto) (d e : D) : Prop := e = d ∨ ∃ n xs, d = .ptr n ∧ O[n]? = some (some (.lst xs)) ∧ e = .lst xs
theorem RD.reads {X : Cx} {pins : List (Addr × Obj)} {σ : L2.St} {H : Hp} {s : Shared} {G : Wd} {O : Sto} {d e : D} {v : V} {u : Value} (h : RD O d e) (I : L2.Inv X pins σ H s) (sa : SA X.K G H O) (i : Is X.K G d v) (r : RelV v u) (p : plD e = true) : ∃ as, Reads s.heap u (toPy e) as := by
  rcases h with rfl | ⟨n, xs, rfl, h, rfl⟩
  · exact rd_of I sa.sub i r p
  · cases i with | ptr _ ha =>
    cases r
    obtain ⟨a, g0, _, vs, g1, g2⟩ := sa.mt n _ h
    have := Option.some.inj (ha.symm.trans g0)
    subst this
    obtain ⟨its, va, pl, _⟩ := I.list (SqL.of g1)
    obtain ⟨o, q1, q2, k, q3⟩ := pl.isList
    obtain ⟨as, ra⟩ := rds_of I sa.sub g2 va p
    exact ⟨_, .list q1 q2 q3 (by simpa using ra)⟩
section
variable {X : Cx} {ρ : Rho} {O : Sto} {e a b c : Expr} {es : List Expr} {d da db ea eb : D} {ds xs ys : List D} {R : D → Sto → Prop} {pos p : Pos} {x : Str} {k : Nat}
theorem cmp_eqD (hr : Room k X.A) (ha : RD O da ea) (hb : RD O db eb) (pa : plD ea = true) (pb : plD eb = true) (hd : min (dpD ea) (dpD eb) ≤ 60) : Op2 X O (compareOp .Eq) da db (.bl (eqD ea eb)) := fun G pins s σ H x y v u Q I rx ry ⟨h1, h2, h3, h4⟩ => by
  obtain ⟨as, ra⟩ := ha.reads I h1 h2 rx pa
  obtain ⟨bs, rb⟩ := hb.reads I h1 h3 ry pb
  have hu := hr.units
  exact PySem.SeqAt.compareEq_reads ra rb (pl_lay _ pa) (pl_lay _ pb) (by rw [dp_py, dp_py]; omega) ⟨.bl _, H, I, rfl, h4 _ G H (Ext.refl _) h1 (.bl _)⟩
theorem cmp_neD (hr : Room k X.A) (ha : RD O da ea) (hb : RD O db eb) (pa : plD ea = true) (pb : plD eb = true) (hd : min (dpD ea) (dpD eb) ≤ 60) : Op2 X O (compareOp .NotEq) da db (.bl (!eqD ea eb)) := fun G pins s σ H x y v u Q I rx ry ⟨h1, h2, h3, h4⟩ => by
  obtain ⟨as, ra⟩ := ha.reads I h1 h2 rx pa
  obtain ⟨bs, rb⟩ := hb.reads I h1 h3 ry pb
  have hu := hr.units
  exact PySem.SeqAt.compareNe_reads ra rb (pl_lay _ pa) (pl_lay _ pb) (by rw [dp_py, dp_py]; omega) ⟨.bl _, H, I, rfl, h4 _ G H (Ext.refl _) h1 (.bl _)⟩
end
theorem plDs_all {l : List D} (h : ∀ d ∈ l, plD d = true) : plDs l = true := by
  induction l with
  | nil => rfl
  | cons x xs ih =>
    show (plD x && plDs xs) = true
    rw [h x List.mem_cons_self, ih fun d hd => h d (List.mem_cons_of_mem _ hd)]; rfl
theorem plDs_map {α : Type} {f : α → D} {l : List α} (h : ∀ a ∈ l, plD (f a) = true) : plDs (l.map f) = true := plDs_all fun d hd => by obtain ⟨a, ha, rfl⟩ := List.mem_map.mp hd; exact h a ha
theorem dpDs_le {l : List D} {k : Nat} (h : ∀ d ∈ l, dpD d ≤ k) : dpDs l ≤ k := by
  induction l with
  | nil => exact Nat.zero_le _
  | cons x xs ih =>
    show max (dpD x) (dpDs xs) ≤ k
    have := h x List.mem_cons_self
    have := ih fun d hd => h d (List.mem_cons_of_mem _ hd)
    omega
theorem dpDs_map {α : Type} {f : α → D} {l : List α} {k : Nat} (h : ∀ a ∈ l, dpD (f a) ≤ k) : dpDs (l.map f) ≤ k := dpDs_le fun d hd => by obtain ⟨a, ha, rfl⟩ := List.mem_map.mp hd; exact h a ha
theorem eqDs_map {α : Type} {f : α → D} [DecidableEq α] (h : ∀ a b, eqD (f a) (f b) = decide (a = b)) : ∀ l m : List α, eqDs (l.map f) (m.map f) = decide (l = m)
  | [], [] => rfl
  | [], _ :: _ => rfl
  | _ :: _, [] => rfl
  | a :: l, b :: m => by
    show (eqD (f a) (f b) && eqDs (l.map f) (m.map f)) = _
    rw [h a b, eqDs_map h l m]
    by_cases h1 : a = b
    · by_cases h2 : l = m
      · simp [h1, h2]
      · simp [h1, h2]
    · simp [h1]
theorem eqD_int (a b : Int) : eqD (.int a) (.int b) = decide (a = b) := by
  show (a == b) = _
  by_cases h : a = b
  · simp [h]
  · simp [h]
theorem eqD_intsT (a b : List Int) : eqD (.tup (a.map D.int)) (.tup (b.map D.int)) = decide (a = b) := eqDs_map eqD_int a b
theorem plD_ints (a : List Int) : plDs (a.map D.int) = true := plDs_map fun _ _ => rfl
theorem dpD_ints (a : List Int) : dpDs (a.map D.int) ≤ 0 := dpDs_map fun _ _ => Nat.le_refl _
end DL
set_option Elab.async false
set_option linter.all false
set_option maxRecDepth 100000
set_option maxHeartbeats 1000000
namespace DL
open PySem PySem.Spec PyProof.Rows L2 PySem.W
theorem getD_in {α : Type} {l : List α} {i : Nat} (h : i < l.length) (d : α) : l.getD i d = l[i] := by simp [h]
section
variable {X : Cx} {ρ : Rho} {O : Sto} {e a b c : Expr} {es : List Expr} {d da db ea eb : D} {ds xs ys : List D} {R : D → Sto → Prop} {pos p : Pos} {x : Str} {k : Nat}
theorem LT.sq {K : PySem.W.Frag} {G : Wd} {H : Hp} {O : Sto} {d : D} {xs : List D} {v : V} (h : LT O d xs) (s : SA K G H O) (i : Is K G d v) : ∃ k a vs, v = .ref a ∧ Sq k K H a vs ∧ Iss K G xs vs := by
  rcases h with h | rfl
  · obtain ⟨a, vs, rfl, q, r⟩ := h.sq s i; exact ⟨true, a, vs, rfl, q, r⟩
  · obtain ⟨a, vs, rfl, q, r⟩ := tup_sq s i; exact ⟨false, a, vs, rfl, q, r⟩
theorem preSum_is (ns : List Int) : preSum (fun i => ns.getD i 0) ns.length = ns.sum := by rw [preSum_getD, List.take_length]
theorem ssq_lt {k : Bool} {h : Heap} {l : Addr} {ys : Array Value} (q : SSq k h l ys) : l < h.objs.size := by
  cases k with
  | true => obtain ⟨o, g, _⟩ := (q : h.IsList l ys); exact Heap.lt_size g
  | false => obtain ⟨o, g, _⟩ := (q : h.IsTuple l ys); exact Heap.lt_size g
theorem call_sum_sq {prog : Program} {w : World} {A : Around} {E : Value → Shared → Prop} {s : Shared} {k : Bool} {l : Addr} {its : List Value} {ns : List Int} {Q : Value → Shared → Prop} (hh : A.handled = none) (q : SSq k s.heap l its.toArray) (hv : ∀ (i : Nat) (v : Value), its[i]? = some v → ∃ t, v = .int (ns.getD i 0) t) (hn : ns.length = its.length)
    (h : ∀ h' tk t, (∀ b o, s.heap.get? b = some o → h'.get? b = some o) → Q (.int ns.sum t) { s with heap := h', toks := tk }) : wpAny (model prog w) A (call (.builtin "sum") [.ref l]) Q E s := by
  have hl := ssq_lt q
  have fin : ∀ (h2 : Heap), (∀ b o, s.heap.get? b = some o → h2.get? b = some o) → ∀ h' tk t', (∀ b o, b ∉ [s.heap.objs.size] → h2.get? b = some o → h'.get? b = some o) → Q (.int (preSum (fun i => ns.getD i 0) its.toArray.size) t') { s with heap := h', toks := tk } := fun h2 up h' tk t' kp => by
    rw [show its.toArray.size = ns.length by simp [hn], preSum_is]
    exact h h' tk t' fun b o e => kp b o (by simpa using Nat.ne_of_lt (Heap.lt_size e)) (up b o e)
  cases k with
  | true =>
    refine call_sum_walkG (wpAny_pyIter_list q ⟨s.heap.objs.size, [s.heap.objs.size, l], [s.heap.objs.size], its.toArray.size, fun i v => its.toArray[i]? = some v, fun i h => h.IsListIter s.heap.objs.size l i ∧ h.IsList l its.toArray, fun i => ns.getD i 0, rfl, Walks.list (A := A.in1) hh _ l (Nat.ne_of_lt hl) its.toArray, ⟨⟨_, Heap.get?_push_size _ rfl, rfl, rfl⟩, Heap.IsList.push q _⟩, fun b hb => ?_, fun i v e => hv i v (by simpa using e), fin _ fun b o e => Heap.get?_push_of_some _ e⟩)
    rw [Heap.size_push]
    rcases List.mem_cons.mp hb with rfl | hb
    · exact Nat.lt_succ_self _
    · rw [List.mem_singleton.mp hb]; exact Nat.lt_succ_of_lt hl
  | false =>
    refine call_sum_walkG (wpAny_pyIter_tuple q ⟨s.heap.objs.size, [s.heap.objs.size, l], [s.heap.objs.size], its.toArray.size, fun i v => its.toArray[i]? = some v, fun i h => h.IsTupleIter s.heap.objs.size l i ∧ h.IsTuple l its.toArray, fun i => ns.getD i 0, rfl, Walks.tuple (A := A.in1) hh _ l (Nat.ne_of_lt hl) its.toArray, ⟨⟨_, Heap.get?_push_size _ rfl, rfl, rfl⟩, (SSq.at (k := false) q fun o e => Heap.get?_push_of_some _ e : SSq false _ l _)⟩, fun b hb => ?_, fun i v e => hv i v (by simpa using e), fin _ fun b o e => Heap.get?_push_of_some _ e⟩)
    rw [Heap.size_push]
    rcases List.mem_cons.mp hb with rfl | hb
    · exact Nat.lt_succ_self _
    · rw [List.mem_singleton.mp hb]; exact Nat.lt_succ_of_lt hl
theorem c_sum {ns : List Int} (h : LT O d (ns.map D.int)) (hc : X.calm = true := by rfl) : CallD X O (.builtin "sum") [d] (.int ns.sum) := fun G pins s σ H vs us Q I r ⟨h1, h2, h3⟩ => by
  cases h2 with | cons i r2 =>
  cases r2
  obtain ⟨kk, ad, ws, rfl, q, is⟩ := h.sq h1 i
  obtain ⟨u, rfl, ru⟩ := vals1 r
  cases ru
  obtain ⟨its, va, sq, _⟩ := Inv_sq I q
  have e := is.toInts
  subst e
  have el := va.length
  rw [List.length_map] at el
  refine call_sum_sq (ns := ns) (I.ok.hd hc) sq (fun i v hv => ?_) el fun h' tk t kp => ⟨.int ns.sum, H, I.kept kp, ⟨t, rfl⟩, h3 _ G H (Ext.refl _) h1 (.int _)⟩
  have hi : i < ns.length := by rw [el]; exact (List.getElem?_eq_some_iff.mp hv).1
  obtain ⟨w, hw, rw'⟩ := va.get (i := i) (x := .int ns[i]) (by simp [hi])
  rw [hv] at hw
  cases hw
  obtain ⟨t, e⟩ := rw'
  exact ⟨t, by rw [e, getD_in hi]⟩
theorem call_all_sq {prog : Program} {w : World} {A : Around} {E : Value → Shared → Prop} {s : Shared} {k : Bool} {l : Addr} {its : List Value} {bs : List Bool} {Q : Value → Shared → Prop} (hh : A.handled = none) (q : SSq k s.heap l its.toArray) (hv : ∀ (i : Nat) (v : Value), its[i]? = some v → v = .bool (bs.getD i true)) (hn : bs.length = its.length) (al : Bool)
    (h : ∀ h' tk, (∀ b o, s.heap.get? b = some o → h'.get? b = some o) → Q (.bool (if al then bs.all id else bs.any id)) { s with heap := h', toks := tk }) : wpAny (model prog w) A (call (.builtin (if al then "all" else "any")) [.ref l]) Q E s := by
  have hl := ssq_lt q
  have ea : (List.range its.toArray.size).all (fun i => bs.getD i true) = bs.all id := by
    have : bs = (List.range bs.length).map fun i => bs.getD i true := by
      apply List.ext_getElem
      · simp
      · intro i h1 h2; simp; rw [List.getElem?_eq_getElem h1]; rfl
    conv => rhs; rw [this, List.all_map]
    rw [show its.toArray.size = bs.length by simp [hn]]
    rfl
  have eb : (List.range its.toArray.size).any (fun i => bs.getD i true) = bs.any id := by
    have : bs = (List.range bs.length).map fun i => bs.getD i true := by
      apply List.ext_getElem
      · simp
      · intro i h1 h2; simp; rw [List.getElem?_eq_getElem h1]; rfl
    conv => rhs; rw [this, List.any_map]
    rw [show its.toArray.size = bs.length by simp [hn]]
    rfl
  have kp' : ∀ (h2 : Heap), (∀ b o, s.heap.get? b = some o → h2.get? b = some o) → ∀ h' : Heap, (∀ b o, b ∉ [s.heap.objs.size] → h2.get? b = some o → h'.get? b = some o) → ∀ b o, s.heap.get? b = some o → h'.get? b = some o := fun h2 up h' kp b o e => kp b o (by simpa using Nat.ne_of_lt (Heap.lt_size e)) (up b o e)
  have tr : TruthOf prog w A.in1 (fun i v => its.toArray[i]? = some v) (fun i => bs.getD i true) := fun i v s Q E hP hQ => by
    rw [hv i v (by simpa using hP)]; exact wpAny_truthy_bool hQ
  cases k with
  | true =>
    have W := Walks.list (prog := prog) (w := w) (A := A.in1) hh s.heap.objs.size l (Nat.ne_of_lt hl) its.toArray
    have st : (s.heap.push { cls := .type "list_iterator", data := .fields #[.ref l, .int 0 0] }).IsListIter s.heap.objs.size l 0 ∧ (s.heap.push { cls := .type "list_iterator", data := .fields #[.ref l, .int 0 0] }).IsList l its.toArray := ⟨⟨_, Heap.get?_push_size _ rfl, rfl, rfl⟩, Heap.IsList.push q _⟩
    cases al with
    | true => exact call_all_walk (wpAny_pyIter_list q ⟨_, _, _, _, _, _, _, rfl, W, st, tr, fun h' tk kp => by rw [ea]; exact h h' tk (kp' _ (fun b o e => Heap.get?_push_of_some _ e) h' kp)⟩)
    | false => exact call_any_walk (wpAny_pyIter_list q ⟨_, _, _, _, _, _, _, rfl, W, st, tr, fun h' tk kp => by rw [eb]; exact h h' tk (kp' _ (fun b o e => Heap.get?_push_of_some _ e) h' kp)⟩)
  | false =>
    have W := Walks.tuple (prog := prog) (w := w) (A := A.in1) hh s.heap.objs.size l (Nat.ne_of_lt hl) its.toArray
    have st : (s.heap.push { cls := .type "tuple_iterator", data := .fields #[.ref l, .int 0 0] }).IsTupleIter s.heap.objs.size l 0 ∧ (s.heap.push { cls := .type "tuple_iterator", data := .fields #[.ref l, .int 0 0] }).IsTuple l its.toArray := ⟨⟨_, Heap.get?_push_size _ rfl, rfl, rfl⟩, (SSq.at (k := false) q fun o e => Heap.get?_push_of_some _ e : SSq false _ l _)⟩
    cases al with
    | true => exact call_all_walk (wpAny_pyIter_tuple q ⟨_, _, _, _, _, _, _, rfl, W, st, tr, fun h' tk kp => by rw [ea]; exact h h' tk (kp' _ (fun b o e => Heap.get?_push_of_some _ e) h' kp)⟩)
    | false => exact call_any_walk (wpAny_pyIter_tuple q ⟨_, _, _, _, _, _, _, rfl, W, st, tr, fun h' tk kp => by rw [eb]; exact h h' tk (kp' _ (fun b o e => Heap.get?_push_of_some _ e) h' kp)⟩)
theorem c_allany {bs : List Bool} (al : Bool) (h : LT O d (bs.map D.bl)) (hc : X.calm = true) : CallD X O (.builtin (if al then "all" else "any")) [d] (.bl (if al then bs.all id else bs.any id)) := fun G pins s σ H vs us Q I r ⟨h1, h2, h3⟩ => by
  cases h2 with | cons i r2 =>
  cases r2
  obtain ⟨kk, ad, ws, rfl, q, is⟩ := h.sq h1 i
  obtain ⟨u, rfl, ru⟩ := vals1 r
  cases ru
  obtain ⟨its, va, sq, _⟩ := Inv_sq I q
  have e1 := is.length
  have e2 := va.length
  rw [List.length_map] at e1
  refine call_all_sq (bs := bs) (I.ok.hd hc) sq (fun i v hv => ?_) (by omega) al fun h' tk kp => ⟨.bl _, H, I.kept kp, rfl, h3 _ G H (Ext.refl _) h1 (.bl _)⟩
  have hi : i < bs.length := by rw [e1, e2]; exact (List.getElem?_eq_some_iff.mp hv).1
  obtain ⟨w, hw, iw⟩ := is.get (i := i) (d := .bl bs[i]) (by simp [hi])
  obtain ⟨z, hz, rz⟩ := va.get hw
  rw [hv] at hz
  cases hz
  cases iw
  rw [getD_in hi]
  exact rz
theorem c_all {bs : List Bool} (h : LT O d (bs.map D.bl)) (hc : X.calm = true := by rfl) : CallD X O (.builtin "all") [d] (.bl (bs.all id)) := c_allany true h hc
def rSlW (K : PySem.W.Frag) : V → Option Int → Option Int → Hp → VK → Prop := fun x lo hi H Q => ∃ a xs, x = .ref a ∧ SqT K H a xs ∧ (HT.sIx xs.length 0 lo = 0 ∧ HT.sIx xs.length xs.length hi = xs.length) ∧ Q (.ref a) H
end
end DL
set_option Elab.async false
set_option linter.all false
set_option maxRecDepth 100000
namespace DL
open PySem PySem.Spec PyProof.Rows L2
mutual
def npD : D → Bool
  | .ptr _ => false
  | .tup xs => npDs xs
  | .lst xs => npDs xs
  | .scr xs => npDs xs
  | .dct _ xs => npDs xs
  | _ => true
def npDs : List D → Bool
  | [] => true
  | d :: ds => npD d && npDs ds
end
section
variable {K : PySem.W.Frag} {G G' : Wd} {t : List Addr}
mutual
theorem Is.cut : ∀ {d : D} {v : V}, Is K G' d v → npD d = true → ∀ l, Is K ⟨G'.g, l⟩ d v
  | _, _, .non, _, l => .non
  | _, _, .bl b, _, l => .bl b
  | _, _, .int i, _, l => .int i
  | _, _, .str x, _, l => .str x
  | _, _, .tup h r, e, l => .tup h (Iss.cut r e l)
  | _, _, .lst h r, e, l => .lst h (Iss.cut r e l)
  | _, _, .scr h r, e, l => .scr h (Iss.cut r e l)
  | _, _, .ptr n h, e, l => by cases e
  | _, _, .ty n, _, l => .ty n
  | _, _, .fn n, _, l => .fn n
  | _, _, .dct h hl r, e, l => .dct h hl (Iss.cut r e l)
theorem Iss.cut : ∀ {ds : List D} {vs : List V}, Iss K G' ds vs → npDs ds = true → ∀ l, Iss K ⟨G'.g, l⟩ ds vs
  | _, _, .nil, _, l => .nil
  | _, _, .cons h r, e, l => by
    have e := (Bool.and_eq_true _ _).mp e
    exact .cons (Is.cut h e.1 l) (Iss.cut r e.2 l)
end
mutual
theorem Is.back (e : G'.l = G.l ++ t) : ∀ {d : D} {v v0 : V}, Is K G d v0 → Is K G' d v → Is K ⟨G'.g, G.l⟩ d v
  | _, _, _, .non, h => by cases h; exact .non
  | _, _, _, .bl b, h => by cases h; exact .bl b
  | _, _, _, .int i, h => by cases h; exact .int i
  | _, _, _, .str x, h => by cases h; exact .str x
  | _, _, _, .tup _ r0, h => by cases h with | tup h r => exact .tup h (Iss.back e r0 r)
  | _, _, _, .lst _ r0, h => by cases h with | lst h r => exact .lst h (Iss.back e r0 r)
  | _, _, _, .scr _ r0, h => by cases h with | scr h r => exact .scr h (Iss.back e r0 r)
  | _, _, _, .ptr n q, h => by
    cases h with
    | ptr _ h =>
      refine .ptr n ?_
      rw [e, List.getElem?_append_left (List.getElem?_eq_some_iff.mp q).1] at h
      exact h
  | _, _, _, .ty n, h => by cases h; exact .ty n
  | _, _, _, .fn n, h => by cases h; exact .fn n
  | _, _, _, .dct _ _ r0, h => by cases h with | dct h hl r => exact .dct h hl (Iss.back e r0 r)
theorem Iss.back (e : G'.l = G.l ++ t) : ∀ {ds : List D} {vs v0 : List V}, Iss K G ds v0 → Iss K G' ds vs → Iss K ⟨G'.g, G.l⟩ ds vs
  | _, _, _, .nil, h => by cases h; exact .nil
  | _, _, _, .cons q r, h => by cases h with | cons h1 h2 => exact .cons (Is.back e q h1) (Iss.back e r h2)
end
theorem FsIs.back (e : G'.l = G.l ++ t) : ∀ {fs : List (Str × D)} {vs v0 : List (Str × V)}, FsIs K G fs v0 → FsIs K G' fs vs → FsIs K ⟨G'.g, G.l⟩ fs vs
  | _, _, _, .nil, h => by cases h; exact .nil
  | _, _, _, .cons q r, h => by cases h with | cons h1 h2 => exact .cons (Is.back e q h1) (FsIs.back e r h2)
theorem SA.cut {H H' : Hp} {O O2 : Sto} (s : SA K G H O) (e : Ext G G') (s' : SA K G' H' (O ++ O2)) : Ext G ⟨G'.g, G.l⟩ ∧ SA K ⟨G'.g, G.l⟩ H' O := by
  obtain ⟨t, et⟩ := e.l
  refine ⟨⟨e.g, [], (List.append_nil _).symm⟩, ⟨s'.sub, s.len, s.nd, fun a ha => s'.liv a (by rw [et]; exact List.mem_append_left _ ha), fun n m h => ?_⟩⟩
  have hn := (List.getElem?_eq_some_iff.mp h).1
  obtain ⟨a, q1, q2, q3⟩ := s'.mt n m (by rw [List.getElem?_append_left hn]; exact h)
  obtain ⟨a0, p1, p2, p3⟩ := s.mt n m h
  rw [et, List.getElem?_append_left (by rw [s.len]; exact hn)] at q1
  refine ⟨a, q1, q2, ?_⟩
  cases m with
  | lst xs =>
    obtain ⟨vs, g1, g2⟩ := q3
    obtain ⟨v0, h1, h2⟩ := p3
    exact ⟨vs, g1, Iss.back et h2 g2⟩
  | ins C fs =>
    obtain ⟨dx, vs, g1, g2⟩ := q3
    obtain ⟨dx0, v0, h1, h2⟩ := p3
    exact ⟨dx, vs, g1, FsIs.back et h2 g2⟩
  | exc C fs =>
    obtain ⟨ob, g1, g2, g3⟩ := q3
    obtain ⟨ob0, h1, h2, h3⟩ := p3
    refine ⟨ob, g1, g2, ?_⟩
    rcases h3 with h3 | ⟨dx0, v0, b1, b2, b3⟩
    · exact .inl h3
    · refine g3.imp id ?_
      rintro ⟨dx, vs, a1, a2, a3⟩
      exact ⟨dx, vs, a1, a2, FsIs.back et b3 a3⟩
  | dct ks xs =>
    obtain ⟨vs, g1, g2, g3⟩ := q3
    obtain ⟨v0, h1, h2, h3⟩ := p3
    exact ⟨vs, g1, g2, Iss.back et h3 g3⟩
end
section
variable {X : Cx} {ρ : Rho} {O : Sto} {e a b c : Expr} {es : List Expr} {d da db : D} {ds : List D} {R : D → Sto → Prop} {pos p : Pos} {x : Str} {rest : List Stmt} {P : Post}
theorem xs_keep (h : Exs X ρ O rest { nx := fun _ _ => False, rt := fun d O' => (∃ O2, O' = O ++ O2) ∧ npD d = true ∧ P.rt d O }) : Exs X ρ O rest P := fun G pins s σ H E I ⟨q1, q2, q3⟩ => by
  refine h G pins s σ H E I ⟨q1, q2, ⟨fun σ' ρ' O' G3 H3 e3 s3 n3 q => q.elim, fun v d O' G3 H3 e3 s3 i3 r => ?_, fun σ' ρ' O' G3 H3 e3 s3 n3 q => q.elim, fun σ' ρ' O' G3 H3 e3 s3 n3 q => q.elim⟩⟩
  obtain ⟨⟨O2, rfl⟩, r2, r3⟩ := r
  obtain ⟨e4, s4⟩ := q1.cut e3 s3
  exact q3.rt v d O _ H3 e4 s4 (i3.cut r2 _) r3
def relSp (pre : List D → Prop) (f : List D → D → Prop) : SpD := fun ds O R => pre ds ∧ ∀ d, f ds d → R d O
theorem x_asgE {tg : Expr} (he : Ev X ρ O e fun d O' => ∃ ρ1, Tg X tg d ρ ρ1 ∧ P.nx ρ1 O') (hs : swapsWithSole [tg] e pos.line X.env = pure false := by rfl) (hw : swappedStores [tg] e X.env = pure none := by rfl)
    (h1 : (assignEach [tg] X.env).map (·.2) = [assign tg X.env] := by rfl) : Ex X ρ O (.Assign [tg] e pos) P := fun G =>
  PS.imp (ps_asg (he G) (g := fun v σ H Q => ∃ G1 d ρ1, Tg X tg d ρ ρ1 ∧ Is X.K G1 d v ∧ Same G1.g H ∧ EnvR X.K G1 σ ρ ∧ ∀ σ', EnvR X.K G1 σ' ρ1 → Q σ' H) (fun pins s σ H v u Q I r ⟨G1, d, ρ1, ht, q⟩ => ht G1 pins s σ H v u Q I r q) hs hw h1) fun E σ H ⟨q1, q2, q3⟩ =>
    ⟨q1, q2, fun v d O' G' H' e1 s1 i1 ⟨ρ1, t1, r1⟩ => ⟨G', d, ρ1, t1, i1, s1.sub, q2.ext e1, fun σ' n' => q3.nx _ _ O' G' H' e1 s1 n' r1⟩⟩
theorem st0 {m : Option MO} {O2 : Sto} : (O ++ m :: O2)[O.length]? = some m := by
  rw [List.getElem?_append_right (Nat.le_refl _), Nat.sub_self]; rfl
theorem ss0 {m z : Option MO} {O2 : Sto} : (O ++ m :: O2).set O.length z = O ++ z :: O2 := by
  rw [List.set_append_right (h := Nat.le_refl _), Nat.sub_self]; rfl
section
variable {α : Type} {ps : List α} {f g : α → D} {h : α → Option D} {tg iter elt : Expr} {ifs : List Expr} {scope : Scope}
theorem fm_some (ps : List α) (g : α → D) : (ps.map fun q => some (g q)).filterMap id = ps.map g := by
  induction ps with
  | nil => rfl
  | cons a l ih => rw [List.map_cons, List.filterMap_cons, ih]; rfl
theorem fm_map (ps : List α) (h : α → Option D) : (ps.map h).filterMap id = ps.filterMap h := by
  rw [List.filterMap_map]; rfl
theorem ev_compF (h : α → Option D) (T F : List Str) (js : List Nat) (hi : EvI X ρ O tg iter (ps.map f)) (hsz : ps.length ≤ sizeLine) (turn : ∀ q, q ∈ ps → CTurn X T F js ρ O scope tg elt ifs (f q) (h q))
    (hfl : F.length = js.length := by rfl) (hB : freeB X.N X.env.scope.names scope.names F js = true := by rfl) (hc : X.calm = true := by rfl) (hk : scope.kind = .function := by rfl) (hs : ∀ x, foldedSetIterable iter X.env x = pure x := by intro _; rfl) :
    EvP X ρ O (.ListComp elt [⟨tg, iter, ifs, 0⟩] scope pos) (.lst (ps.filterMap h)) := by
  rw [← fm_map]
  refine ev_compZ T F js hi (by rw [List.length_map, List.length_map]) (by rw [List.length_map]; exact hsz) (fun i x z h1 h2 => ?_) hfl hB hc hk hs
  rw [List.getElem?_map] at h1 h2
  cases e : ps[i]? with
  | none => rw [e] at h1; cases h1
  | some q => rw [e] at h1 h2; cases h1; cases h2; exact turn q (List.mem_of_getElem? e)
theorem ev_compM (g : α → D) (T F : List Str) (js : List Nat) (hi : EvI X ρ O tg iter (ps.map f)) (hsz : ps.length ≤ sizeLine) (turn : ∀ q, q ∈ ps → CTurn X T F js ρ O scope tg elt ifs (f q) (some (g q)))
    (hfl : F.length = js.length := by rfl) (hB : freeB X.N X.env.scope.names scope.names F js = true := by rfl) (hc : X.calm = true := by rfl) (hk : scope.kind = .function := by rfl) (hs : ∀ x, foldedSetIterable iter X.env x = pure x := by intro _; rfl) :
    EvP X ρ O (.ListComp elt [⟨tg, iter, ifs, 0⟩] scope pos) (.lst (ps.map g)) := by
  rw [← fm_some, fm_map]
  exact ev_compF (fun q => some (g q)) T F js hi hsz turn hfl hB hc hk hs
theorem ei_LF {xs : List D} (he : EvP X ρ O e d) (fa : LF d xs) : EvI X ρ O tg e xs := by
  rcases fa with rfl | rfl | rfl
  · exact ei_lst he
  · exact ei_scr he
  · exact ei_tup he
end
end
end DL
set_option Elab.async false
set_option linter.all false
set_option maxRecDepth 100000
namespace DL
open PySem PySem.Spec PyProof.Rows L2
def cutA {α : Type} (a : List α) (lo hi : Option Int) : List α := (a.drop (HT.sIx a.length 0 lo)).take (HT.sIx a.length a.length hi - HT.sIx a.length 0 lo)
theorem zipD_map {α β : Type} {f : α → D} {g : β → D} : ∀ (a : List α) (b : List β), zipD (a.map f) (b.map g) = (a.zip b).map fun q => .tup [f q.1, g q.2]
  | [], _ => rfl
  | _ :: _, [] => rfl
  | x :: a, y :: b => by
    have ih := zipD_map (f := f) (g := g) a b
    unfold zipD at ih ⊢
    rw [List.map_cons, List.map_cons, List.zipWith_cons_cons, ih]
    rfl
section
variable {X : Cx} {ρ : Rho} {O : Sto} {e a b c : Expr} {es : List Expr} {d da db : D} {ds : List D} {R : D → Sto → Prop} {pos p : Pos} {x : Str} {rest : List Stmt} {P : Post}
theorem ez_zipM {α β : Type} {f : α → D} {g : β → D} {as : List α} {bs : List β} (ha : EvP X ρ O a da) (hb : EvP X ρ O b db) (fa : LF da (as.map f)) (fb : LF db (bs.map g)) (hm : X.mg "zip" = none) (hg : Gl X "zip" := by rfl) (hs : starEach [a, b] X.env = [(false, eval a X.env), (false, eval b X.env)] := by rfl) (hs2 : starEach [b] X.env = [(false, eval b X.env)] := by rfl) :
    EvZ X ρ O (.Call (.Name "zip" p) [a, b] [] pos) ((as.zip bs).map fun q => .tup [f q.1, g q.2]) "zip" := by
  rw [← zipD_map]
  exact ez_zip ha hb fa fb hm hg hs hs2
end
theorem atI_map {α : Type} {f : α → D} {a : List α} {i : Int} {v : α} (h0 : 0 ≤ i) (h : a[i.toNat]? = some v) : atI (a.map f) i = some (f v) := by
  obtain ⟨k, rfl⟩ := Int.eq_ofNat_of_zero_le h0
  rw [Int.toNat_natCast] at h
  exact atI_nat (by rw [List.getElem?_map, h]; rfl)
def sm {α : Type} (g : α → Int) : List α → Int
  | [] => 0
  | a :: l => g a + sm g l
section
variable {α β : Type} {g h : α → Int} {l m : List α}
theorem sm_app : sm g (l ++ m) = sm g l + sm g m := by
  induction l with
  | nil => exact (Int.zero_add _).symm
  | cons a l ih => show g a + sm g (l ++ m) = (g a + sm g l) + sm g m; rw [ih]; omega
theorem sm_perm (p : l.Perm m) : sm g l = sm g m := by
  induction p with
  | nil => rfl
  | cons a _ ih => unfold sm; rw [ih]
  | swap a b l => unfold sm; unfold sm; omega
  | trans _ _ h1 h2 => rw [h1, h2]
theorem sm_take {i : Nat} {a : α} (e : l[i]? = some a) : sm g (l.take (i + 1)) = sm g (l.take i) + g a := by
  rw [List.take_add_one, e, sm_app]
  show _ + (g a + 0) = _
  omega
theorem sm_sum (g : α → Int) (l : List α) : (l.map g).sum = sm g l := by
  induction l with
  | nil => rfl
  | cons a l ih => rw [List.map_cons, List.sum_cons, ih]; rfl
theorem sum_sm (l : List Int) : l.sum = sm (fun i => i) l := by rw [← sm_sum, List.map_id']
theorem sm_le (q : ∀ a ∈ l, g a ≤ h a) : sm g l ≤ sm h l := by
  induction l with
  | nil => exact Int.le_refl _
  | cons a l ih =>
    have h1 := q a List.mem_cons_self
    have h2 := ih fun b hb => q b (List.mem_cons_of_mem _ hb)
    unfold sm
    omega
theorem sm_eq (q : ∀ a ∈ l, g a = h a) : sm g l = sm h l := by
  induction l with
  | nil => rfl
  | cons a l ih =>
    have h1 := q a List.mem_cons_self
    have h2 := ih fun b hb => q b (List.mem_cons_of_mem _ hb)
    unfold sm
    omega
theorem sm_add : sm (fun a => g a + h a) l = sm g l + sm h l := by
  induction l with
  | nil => rfl
  | cons a l ih => unfold sm; rw [ih]; omega
theorem sm_zero : sm (fun _ : α => (0 : Int)) l = 0 := by
  induction l with
  | nil => rfl
  | cons a l ih => unfold sm; rw [ih]; rfl
theorem sm_pos (q : ∀ a ∈ l, 0 ≤ g a) : 0 ≤ sm g l := by
  have := sm_le (g := fun _ => 0) (h := g) q
  rw [sm_zero] at this
  exact this
theorem sm_bd {B : Int} (q : ∀ a ∈ l, g a ≤ B) : sm g l ≤ l.length * B := by
  induction l with
  | nil => show (0 : Int) ≤ ((0 : Nat) : Int) * B; simp
  | cons a l ih =>
    have h1 := q a List.mem_cons_self
    have h2 := ih fun b hb => q b (List.mem_cons_of_mem _ hb)
    unfold sm
    rw [List.length_cons, Int.natCast_add, Int.add_mul]
    show _ ≤ _ + (1 : Int) * B
    omega
theorem sm_bd' {B : Int} {n : Nat} (hB : 0 ≤ B) (hn : l.length ≤ n) (q : ∀ a ∈ l, g a ≤ B) : sm g l ≤ n * B := by
  have h1 := sm_bd q
  have h2 : (l.length : Int) * B ≤ (n : Int) * B := Int.mul_le_mul_of_nonneg_right (by omega) hB
  omega
theorem sm_zip_snd {a : List β} {b : List Int} (e : a.length = b.length) : sm (fun q : β × Int => q.2) (a.zip b) = b.sum := by
  induction a generalizing b with
  | nil => cases b with | nil => rfl | cons _ _ => cases e
  | cons x a ih =>
    cases b with
    | nil => cases e
    | cons y b =>
      rw [List.zip_cons_cons, List.sum_cons]
      unfold sm
      rw [ih (by simpa using e)]
end
theorem bitsP {b : Int} {n : Nat} (h0 : 0 ≤ b) (h1 : b < 2 ^ n) : PySem.Builtin.Int.intBits b ≤ n := by
  unfold PySem.Builtin.Int.intBits
  split
  · exact Nat.zero_le _
  · rename_i hz
    have hn : b.natAbs < 2 ^ n := by
      have e : ((2 ^ n : Nat) : Int) = 2 ^ n := by rw [Int.natCast_pow]; rfl
      omega
    have hp : b.natAbs ≠ 0 := by
      intro z; apply hz; rw [Int.natAbs_eq_zero.mp z]; rfl
    have := (Nat.log2_lt hp).mpr hn
    omega
theorem mulP {a b : Int} {m n : Nat} (a0 : 0 ≤ a) (a1 : a < 2 ^ m) (b0 : 0 ≤ b) (b1 : b < 2 ^ n) (h : m + n ≤ 134217728 := by decide) : IntMulOk a b := IntMulOk.of_le (bitsP a0 a1) (bitsP b0 b1) h
end DL
set_option Elab.async false
set_option linter.all false
set_option maxRecDepth 100000
namespace DL
open PySem PySem.Spec PyProof.Rows L2
section
variable {prog : Program} {w : World} {A : Around} {E : Value → Shared → Prop} {s : Shared}
end
section
variable {X : Cx} {ρ : Rho} {O : Sto} {e a b c st : Expr} {es : List Expr} {d da db : D} {ds xs : List D} {R : D → Sto → Prop} {pos p p2 : Pos} {x : Str} {rest : List Stmt} {P : Post}
theorem reps {K : PySem.W.Frag} {G : Wd} {vs : List V} (r : Iss K G xs vs) (k : Nat) : Iss K G (List.replicate k xs).flatten (List.replicate k vs).flatten := by
  induction k with
  | zero => exact .nil
  | succ k ih => rw [List.replicate_succ, List.replicate_succ, List.flatten_cons, List.flatten_cons]; exact r.append ih
theorem rep1 {d : D} (n : Nat) : (List.replicate n [d]).flatten = List.replicate n d := by
  induction n with
  | zero => rfl
  | succ n ih => rw [List.replicate_succ, List.flatten_cons, ih]; rfl
end
theorem fm_if {α : Type} (p : α → Bool) (g : α → D) (l : List α) : l.filterMap (fun q => if p q = true then some (g q) else none) = (l.filter p).map g := by
  induction l with
  | nil => rfl
  | cons a l ih =>
    rw [List.filterMap_cons, List.filter_cons]
    cases h : p a with
    | true => simp [ih]
    | false => simp [ih]
end DL
set_option Elab.async false
set_option linter.all false
set_option maxRecDepth 100000
namespace DL
open PySem PySem.Spec PyProof.Rows L2
section
variable {prog : Program} {w : World} {A : Around} {E : Value → Shared → Prop} {s : Shared}
theorem noFill_tup_mul : fillsNumberSlot (.type "tuple") "mul" = pure false :=
  PySem.fillsNumberSlot_seq (id := "tuple.__mul__") (r := some (.builtin "tuple.__rmul__")) F.slot_tuple_mul.lookup (by decide +kernel) F.slot_tuple_rmul.lookup (by decide +kernel)
theorem rep_tup : seqRepeat? (.type "tuple") = pure (some (.builtin "tuple.__mul__")) := by
  unfold seqRepeat?
  rw [PySem.seqSlot_of (T := "tuple") (name := "__mul__") F.slot_tuple_mul.lookup (by decide +kernel), PySem.seqSlot_of (T := "tuple") (name := "__rmul__") F.slot_tuple_rmul.lookup (by decide +kernel)]
  rfl
theorem rmul_int_tup {a : Int} {t : Tok} {l : Addr} {its : List Value} {Q : Value → Shared → Prop} (ht : IsTup s.heap l its.toArray) (h : Q .notImplemented s) : wpAny (model prog w) A (call (.builtin "int.__rmul__") [.int a t, .ref l]) Q E s := by
  refine wpAny_call_entry F.slot_int_rmul (typeIs_int s a t) F.entry_int_rmul ?_ (F.args_int_rmul_2 _ _)
  obtain ⟨o, ho, hc, n, hd⟩ := ht
  show wpAny (model prog w) _ (asInt? (.ref l) >>= _) _ _ s
  refine wpAny_bind ?_
  unfold asInt?
  refine wpAny_bind (wpAny_load ho ?_)
  rw [hd]
  refine wpAny_pure ?_
  exact wpAny_bind (wpAny_rule (wpAny_pure ⟨_, rfl, h⟩))
theorem mul_tup {k : Int} {t : Tok} {l : Addr} {its : List Value} {Q : Value → Shared → Prop} (ht : IsTup s.heap l its.toArray) (h1 : 1 ≤ k) (h2 : k < 2 ^ 62) (hn : its ≠ []) (hz : its.length * k.toNat ≤ sizeLine)
    (hq1 : k = 1 → Q (.ref l) s) (hq2 : k ≠ 1 → Q (.ref s.heap.objs.size) { s with heap := s.heap.push { cls := .type "tuple", data := .seq (List.replicate k.toNat its).flatten.toArray } }) : wpAny (model prog w) A (call (.builtin "tuple.__mul__") [.ref l, .int k t]) Q E s := by
  refine wpAny_call_entry F.slot_tuple_mul ht.typeIs F.entry_tuple_mul ?_ (F.args_tuple_mul_2 _ _)
  show wpAny (model prog w) _ (asIndex (.int k t) >>= _) _ _ s
  refine wpAny_bind ?_
  show wpAny (model prog w) _ (pure k) _ _ s
  refine wpAny_pure ?_
  rw [if_neg (by rw [Bool.or_eq_true, decide_eq_true_eq, decide_eq_true_eq]; omega)]
  refine wpAny_bind (tupleItemsOf_ ht ?_)
  have he : its.toArray.isEmpty = false := by cases its with | nil => exact absurd rfl hn | cons a l => rfl
  by_cases hk : k = 1
  · rw [if_pos (by rw [hk, Bool.or_eq_true]; exact Or.inr rfl)]
    unfold Builtin.Tuple.tupleIsExact
    refine wpAny_bind (wpAny_bind (wpAny_typeOf ht.typeIs (wpAny_pure ?_)))
    rw [if_pos (by decide)]
    exact wpAny_bind (wpAny_rule (wpAny_pure ⟨_, rfl, hq1 hk⟩))
  · have hk2 : (k == 1) = false := by simpa using hk
    rw [if_neg (by rw [he, hk2]; exact Bool.false_ne_true)]
    rw [if_neg (by rw [he, Bool.or_false, decide_eq_true_eq]; omega)]
    have hs : ((its.toArray.size : Nat) : Int) * k ≤ (sizeLine : Nat) := by
      rw [List.size_toArray]
      have e : k = ((k.toNat : Nat) : Int) := by omega
      rw [e]
      exact_mod_cast hz
    have hl := sizeLine_eq
    rw [hl] at hs
    rw [if_neg (by omega)]
    have ht2 : Builtin.Tuple.tupleTooMany (((its.toArray.size : Nat) : Int) * k) = false := by
      unfold Builtin.Tuple.tupleTooMany
      rw [hl]
      exact decide_eq_false (by omega)
    rw [if_neg (by rw [ht2]; exact Bool.false_ne_true)]
    have e : List.foldl (fun x1 x2 => x1 ++ x2) #[] (List.replicate k.toNat its.toArray) = (List.replicate k.toNat its).flatten.toArray := by
      have := foldl_rep its k.toNat []
      rw [List.nil_append] at this
      exact this
    rw [e]
    exact wpAny_bind (m := Builtin.Tuple.tupleExact _) (wpAny_newObj_type (wpAny_pure ⟨_, rfl, hq2 hk⟩) (by
      show (List.replicate k.toNat its).flatten.toArray.size ≤ sizeLine
      rw [List.size_toArray, len_rep, Nat.mul_comm]
      exact hz))
end
section
variable {X : Cx} {O : Sto} {xs : List D}
theorem o_repT {i : Int} (h1 : 1 ≤ i) (h2 : i < 2 ^ 62) (hn : xs ≠ []) (hz : xs.length * i.toNat ≤ sizeLine) : Op2 X O (binaryOp .Mult) (.tup xs) (.int i) (.tup (List.replicate i.toNat xs).flatten) := fun G pins s σ H x y v u Q I rx ry ⟨sa, j1, j2, k⟩ => by
  cases j2
  have j := j1
  obtain ⟨q, vs, rfl, g, r⟩ := tup_sq sa j1
  cases rx
  obtain ⟨t, rfl⟩ := ry
  obtain ⟨its, rr, ht, hzz⟩ := I.tuple g
  have hlen := rr.length
  have hn2 : its ≠ [] := by
    rintro rfl
    have := r.length
    rw [hlen] at this
    exact hn (List.eq_nil_of_length_eq_zero this)
  refine wpAny_binaryOp_repeat_ref (T := "tuple") (U := "int") (by decide) ht.typeIs (fun s' => typeIs_int s' i t) noFill_tup_mul F.fills_int_mul F.slot_int_rmul rep_tup F.slot_int_index.lookup
    (rmul_int_tup ht ⟨rfl, ht.typeIs, mul_tup ht h1 h2 hn2 (by rw [← hlen, ← r.length]; exact hz) (fun e => ?_) (fun e => ?_)⟩)
  · subst e
    refine ⟨.ref q, H, I, rfl, k _ G H (Ext.refl _) sa ?_⟩
    have : (List.replicate (1 : Int).toNat xs).flatten = xs := by show (xs ++ []) = xs; rw [List.append_nil]
    rw [this]
    exact j
  · obtain ⟨e4, s4⟩ := sa.laid (o := .tup (List.replicate i.toNat vs).flatten) (p := s.heap.objs.size) (I.hok.fresh (Nat.le_refl _))
    refine ⟨.ref _, _, I.laid (t' := s.toks) (o := .tup (List.replicate i.toNat vs).flatten) (fun b ob q => Heap.get?_push_of_some _ q) (Nat.le_refl _) ?_, rfl, k _ _ _ e4 s4 (.tup (SqT.of upd_same) ((reps r _).ext e4))⟩
    exact ⟨by rw [len_rep, Nat.mul_comm, ← r.length]; exact hz, _, rr.rep i.toNat, TupN.new _ _⟩
end
end DL
set_option Elab.async false
set_option linter.all false
set_option maxRecDepth 100000
namespace DL
open PySem PySem.Spec PyProof.Rows L2
def putD (f : Str) (d : D) : List (Str × D) → List (Str × D)
  | [] => [(f, d)]
  | (g, x) :: r => if g = f then (g, d) :: r else (g, x) :: putD f d r
section
variable {K : PySem.W.Frag} {G : Wd}
theorem FsIs.look {f : Str} {d : D} : ∀ {fs : List (Str × D)} {vs : List (Str × V)}, FsIs K G fs vs → fs.lookup f = some d → ∃ v, vs.lookup f = some v ∧ Is K G d v
  | _, _, .nil, e => by cases e
  | _, _, .cons (f := g) h r, e => by
    rw [List.lookup_cons] at e
    cases hc : f == g with
    | true =>
      rw [hc] at e
      cases e
      exact ⟨_, by rw [List.lookup_cons, hc], h⟩
    | false =>
      rw [hc] at e
      obtain ⟨v, e1, e2⟩ := FsIs.look r e
      exact ⟨v, by rw [List.lookup_cons, hc]; exact e1, e2⟩
theorem FsIs.none {f : Str} : ∀ {fs : List (Str × D)} {vs : List (Str × V)}, FsIs K G fs vs → fs.lookup f = Option.none → vs.lookup f = Option.none
  | _, _, .nil, e => rfl
  | _, _, .cons (f := g) h r, e => by
    rw [List.lookup_cons] at e
    cases hc : f == g with
    | true => rw [hc] at e; cases e
    | false =>
      rw [hc] at e
      rw [List.lookup_cons, hc]
      exact FsIs.none r e
theorem FsIs.put {f : Str} {d : D} {v : V} (i : Is K G d v) : ∀ {fs : List (Str × D)} {vs : List (Str × V)}, FsIs K G fs vs → FsIs K G (putD f d fs) (putF f v vs)
  | _, _, .nil => .cons i .nil
  | _, _, .cons (f := g) h r => by
    unfold putD putF
    by_cases e : g = f
    · rw [if_pos e, if_pos e]; exact .cons i r
    · rw [if_neg e, if_neg e]; exact .cons h (FsIs.put i r)
theorem FsIs.len : ∀ {fs : List (Str × D)} {vs : List (Str × V)}, FsIs K G fs vs → fs.length = vs.length
  | _, _, .nil => rfl
  | _, _, .cons _ r => by rw [List.length_cons, List.length_cons, r.len]
end
theorem SA.ins {K : PySem.W.Frag} {G : Wd} {H : Hp} {O : Sto} {q : Nat} {C : Addr} {fs : List (Str × D)} {v : V} (s : SA K G H O) (i : Is K G (.ptr q) v) (h : O[q]? = some (some (.ins C fs))) : ∃ a dx vs, v = .ref a ∧ G.l[q]? = some a ∧ H a = some (.ins C dx vs) ∧ FsIs K G fs vs := by
  cases i with
  | ptr _ ha =>
    obtain ⟨a, h1, h2, dx, vs, h3, h4⟩ := s.mt q _ h
    cases Option.some.inj (ha.symm.trans h1)
    exact ⟨_, dx, vs, rfl, h1, h3, h4⟩
section
variable {X : Cx} {ρ : Rho} {O : Sto} {e a b c o value : Expr} {es : List Expr} {d da db : D} {ds : List D} {R : D → Sto → Prop} {pos p apos pos' : Pos} {x f m : Str} {rest : List Stmt} {P : Post} {q : Nat} {C : Addr} {fs : List (Str × D)}
theorem ev_fld (he : EvP X ρ O e (.ptr q)) (hq : O[q]? = some (some (.ins C fs))) (c : Cls X.K C) (n : NoAttr X.K C f) (hl : fs.lookup f = some d) (hb : attributeBase e f X.env (eval e X.env) = eval e X.env := by rfl) : EvP X ρ O (.Attribute e f pos) d := fun G =>
  PE.imp (pe_fld (he G) hb) fun σ H Q ⟨h1, h2, h3⟩ => ⟨h1, h2, fun v G1 H1 e1 s1 i1 => by
    obtain ⟨a, dx, vs, rfl, g1, g2, g3⟩ := s1.ins i1 hq
    obtain ⟨v, l, iv⟩ := g3.look hl
    exact ⟨a, C, dx, vs, v, rfl, g2, c, n, l, h3 v G1 H1 e1 s1 iv⟩⟩
theorem x_fld (hv : EvP X ρ O value d) (ho : EvP X ρ O o (.ptr q)) (hq : O[q]? = some (some (.ins C fs))) (c : Cls X.K C) (n : NoAttr X.K C f) (hz : fs.length < 1000) (h : P.nx ρ (O.set q (some (.ins C (putD f d fs))))) (hs : swapsWith value (some (.Attribute o f pos')) pos.line X.env = pure false := by rfl) :
    Ex X ρ O (.Assign [.Attribute o f pos'] value pos) P := fun G pins s σ H E I ⟨h1, h2, h3⟩ => by
  refine plainObj_wpAny_Assign_Attribute (thn (hv G pins s σ H (fun v H1 => ∃ G1, Ext G G1 ∧ SA X.K G1 H1 O ∧ Is X.K G1 d v) I ⟨h1, h2, fun v G' H' e s i => ⟨G', e, s, i⟩⟩) fun u s1 ⟨y, H1, I1, ry, G1, e1, sa1, i1⟩ =>
    thn (ho G1 pins s1 σ H1 (fun v H2 => ∃ G2, Ext G1 G2 ∧ SA X.K G2 H2 O ∧ Is X.K G2 (.ptr q) v) I1 ⟨sa1, h2.ext e1, fun v G' H' e s i => ⟨G', e, s, i⟩⟩) fun ov s2 ⟨x, H2, I2, rx, G2, e2, sa2, i2⟩ => ?_) hs
  obtain ⟨a, dx, vs, rfl, g1, g2, g3⟩ := sa2.ins i2 hq
  obtain rfl : ov = Value.ref a := rx
  refine setattr_ok I2 g2 c n (by rw [← g3.len]; exact hz) ry fun s3 I3 => ⟨σ, _, I3, ?_⟩
  exact h3.nx σ ρ _ G2 _ (e1.trans e2) (sa2.put (m' := .ins C (putD f d fs)) hq g1 ⟨dx, _, upd_same, g3.put (i1.ext e2)⟩) (h2.ext (e1.trans e2)) h
structure MethOk (P : Program) (w : World) (K : PySem.W.Frag) (mg : Str → Option Value) (base : Heap) (C : Addr) (k : Nat) (m : Str) (sp : SpD) : Prop where
  ex : ∃ f fd ps, FnOk P w K mg base CX0 k f fd ps (toSp K sp) ∧ Meth K C m f ∧ Binds K fd ps []
  cls : Cls K C
theorem ev_meth {k : Nat} {sp : SpD} {pl : Sem Bool} (M : MethOk X.prog X.w X.K X.mg X.base C k m sp) (hr : Room k X.A) (ho : EvP X ρ O o (.ptr q)) (hq : O[q]? = some (some (.ins C fs))) (hno : fs.lookup m = none) (ha : EvPs X ρ O (e :: es) ds) (hs : sp (.ptr q :: ds) O R)
    (hst : starEach (e :: es) X.env = (false, eval e X.env) :: starEach es X.env := by rfl) (hpl : (backTo pos (starEach es X.env)).any (·.1) = false := by rfl)
    (ht : eval (.Call (.Attribute o m apos) (e :: es) [] pos) X.env = (do
      let ov ← eval o X.env
      standAt apos.atName
      let (f, first) ← holding [ov] (getMethod ov m pl)
      callWith pos f first (backTo pos (starEach (e :: es) X.env)) (backToKw pos (keywordEach [] X.env))) := by rfl) : Ev X ρ O (.Call (.Attribute o m apos) (e :: es) [] pos) R := fun G pins s σ H Q I ⟨h1, h2, h3⟩ => by
  obtain ⟨f, fd, ps, g1, g2, g3⟩ := M.ex
  refine pe_meth (t := fun σ H Q => ∃ G1, SA X.K G1 H O ∧ EnvR X.K G1 σ ρ ∧ ∀ vs G' H', Ext G1 G' → SA X.K G' H' O → Iss X.K G' ds vs → Q vs H') (ho G) M.cls g2 g1 hr g3 .nil pass0 (fun pos pins s σ H Q I ⟨G1, z⟩ => ha G1 pos pins s σ H Q I z) hst hpl ht pins s σ H Q I ⟨h1, h2, fun v G1 H1 e1 s1 i1 => ?_⟩
  obtain ⟨a, dx, vs, rfl, k1, k2, k3⟩ := s1.ins i1 hq
  refine ⟨a, dx, vs, rfl, k2, k3.none hno, G1, s1, h2.ext e1, fun us G2 H2 e2 s2 i2 => ?_⟩
  show toSp X.K sp (V.ref a :: (us ++ [])) H2 Q E0
  rw [List.append_nil]
  exact ⟨G2, O, .ptr q :: ds, R, s2, .cons (i1.ext e2) i2, hs, fun v d O' G' H' e3 s3 i3 r3 => h3 v d O' G' H' ((e1.trans e2).trans e3) s3 i3 r3⟩
theorem ev_meth0 {k : Nat} {sp : SpD} {pl : Sem Bool} (M : MethOk X.prog X.w X.K X.mg X.base C k m sp) (hr : Room k X.A) (ho : EvP X ρ O o (.ptr q)) (hq : O[q]? = some (some (.ins C fs))) (hno : fs.lookup m = none) (hs : sp [.ptr q] O R)
    (ht : eval (.Call (.Attribute o m apos) [] [] pos) X.env = (do
      let ov ← eval o X.env
      standAt apos.atName
      let (f, first) ← holding [ov] (getMethod ov m pl)
      callWith pos f first (backTo pos (starEach [] X.env)) (backToKw pos (keywordEach [] X.env))) := by rfl) : Ev X ρ O (.Call (.Attribute o m apos) [] [] pos) R := fun G pins s σ H Q I ⟨h1, h2, h3⟩ => by
  obtain ⟨f, fd, ps, g1, g2, g3⟩ := M.ex
  refine pe_meth0 (ho G) M.cls g2 g1 hr g3 .nil pass0 ht pins s σ H Q I ⟨h1, h2, fun v G1 H1 e1 s1 i1 => ?_⟩
  obtain ⟨a, dx, vs, rfl, k1, k2, k3⟩ := s1.ins i1 hq
  refine ⟨a, dx, vs, rfl, k2, k3.none hno, ?_⟩
  show toSp X.K sp (V.ref a :: []) H1 Q E0
  exact ⟨G1, O, [.ptr q], R, s1, .cons i1 .nil, hs, fun v d O' G' H' e3 s3 i3 r3 => h3 v d O' G' H' (e1.trans e3) s3 i3 r3⟩
structure MakeOk (P : Program) (w : World) (K : PySem.W.Frag) (mg : Str → Option Value) (base : Heap) (C : Addr) (k : Nat) (x : Str) (sp : SpD) : Prop where
  ex : ∃ f fd ps, FnOk P w K mg base CX0 k f fd ps (toSp K sp) ∧ Mk K C f ∧ Binds K fd ps []
  at_ : mg x = some (.ref C)
theorem made {K : PySem.W.Frag} {G : Wd} {H : Hp} {y dx : Addr} (s : SA K G H O) (h1 : H y = none) (h2 : H dx = none) (h3 : dx ≠ y) : Ext G ⟨G.g, G.l ++ [y]⟩ ∧ SA K ⟨G.g, G.l ++ [y]⟩ (upd (upd H dx (.own y)) y (.ins C dx [])) (O ++ [some (.ins C [])]) :=
  (s.grow (same_upd h2)).new (by rw [upd_ne]; exact h1; exact fun e => h3 e.symm) ⟨dx, [], upd_same, .nil⟩
end
end DL
set_option Elab.async false
set_option linter.all false
set_option maxRecDepth 100000
namespace DL
open PySem PySem.Spec PyProof.Rows L2
section
variable {X : Cx} {ρ : Rho} {O : Sto} {e a b c o ix value : Expr} {es : List Expr} {d da db : D} {ds xs : List D} {R : D → Sto → Prop} {pos p apos tpos : Pos} {x f m : Str} {rest : List Stmt} {P : Post} {q j : Nat} {i : Int}
theorem SA.lstAt {K : PySem.W.Frag} {G : Wd} {H : Hp} {v : V} (s : SA K G H O) (h1 : Is K G (.ptr q) v) (h : O[q]? = some (some (.lst xs))) : ∃ ad vs, v = .ref ad ∧ G.l[q]? = some ad ∧ H ad = some (.lst vs) ∧ Iss K G xs vs := by
  cases h1 with
  | ptr _ ha =>
    obtain ⟨ad, g1, g2, vs, g3, g4⟩ := s.mt q _ h
    cases Option.some.inj (ha.symm.trans g1)
    exact ⟨_, vs, rfl, g1, g3, g4⟩
theorem x_item (hv : EvP X ρ O value d) (ho : EvP X ρ O o (.ptr q)) (hq : O[q]? = some (some (.lst xs))) (hi : EvP X ρ O ix (.int i)) (hj : ixN xs.length i = some j) (h : P.nx ρ (O.set q (some (.lst (xs.set j d)))))
    (hs : swapsWithSole [.Subscript o ix tpos] value pos.line X.env = pure false := by rfl) (hw : swappedStores [.Subscript o ix tpos] value X.env = pure none := by rfl)
    (h1 : (assignEach [.Subscript o ix tpos] X.env).map (·.2) = [assign (.Subscript o ix tpos) X.env] := by rfl)
    (ha : ∀ v, assign (.Subscript o ix tpos) X.env v = (do
      let ov ← holding [v] (eval o X.env)
      let iv ← holding [v, ov] (eval ix X.env)
      standAt tpos
      holding [v, ov, iv] (setItem ov iv v)
      release [v, ov, iv] []) := by intro _; rfl) : Ex X ρ O (.Assign [.Subscript o ix tpos] value pos) P := fun G => by
  refine PS.imp (ps_asg (hv G) (pg_sub (to := fun σ H Q => ∃ G1, SA X.K G1 H O ∧ EnvR X.K G1 σ ρ ∧ ∀ v G' H', Ext G1 G' → SA X.K G' H' O → Is X.K G' (.ptr q) v → Q v H') (ti := fun σ H Q => ∃ G1, SA X.K G1 H O ∧ EnvR X.K G1 σ ρ ∧ ∀ v G' H', Ext G1 G' → SA X.K G' H' O → Is X.K G' (.int i) v → Q v H')
    (fun pins s σ H Q I ⟨G1, z⟩ => ho G1 pins s σ H Q I z) (fun pins s σ H Q I ⟨G1, z⟩ => hi G1 pins s σ H Q I z) set_list ha) hs hw h1) fun E σ H ⟨q1, q2, q3⟩ => ?_
  refine ⟨q1, q2, fun y G1 H1 e1 s1 i1 => ⟨G1, s1, q2.ext e1, fun ov G2 H2 e2 s2 i2 => ⟨G2, s2, q2.ext (e1.trans e2), fun iv G3 H3 e3 s3 i3 => ?_⟩⟩⟩
  obtain ⟨ad, vs, rfl, g1, g3, g4⟩ := s3.lstAt (i2.ext e3) hq
  cases i3
  refine ⟨ad, vs, i, j, rfl, rfl, g3, by rw [← g4.length]; exact hj, ?_⟩
  exact q3.nx σ ρ _ G3 _ ((e1.trans e2).trans e3) (s3.put (m' := .lst (xs.set j d)) hq g1 ⟨_, upd_same, g4.set (i1.ext (e2.trans e3)) j⟩) (q2.ext ((e1.trans e2).trans e3)) h
end
end DL
set_option Elab.async false
set_option linter.all false
set_option maxRecDepth 100000
set_option maxHeartbeats 1000000
namespace DL
open PySem PySem.Spec PyProof.Rows L2 PySem.W
structure EW (n : Nat) (k : Bool) (l i : Nat) (j : Int) (xs : Array Value) (f0 f1 old : Value) (h : Heap) : Prop where
  z : h.get? (n + 1) = some { cls := .type "enumerate", dict := none, data := .fields #[f0, f1, .ref n, .int j 0, .none, old], slots := #[] }
  w : SIt k h n l i
  s : SSq k h l xs
  b : l < n
def Oth2 (n : Nat) (h h' : Heap) : Prop := ∀ c o, c ≠ n → c ≠ n + 1 → h.get? c = some o → h'.get? c = some o
theorem Oth2.refl (n : Nat) (h : Heap) : Oth2 n h h := fun _ _ _ _ e => e
theorem Oth2.on {n : Nat} {h h1 h2 : Heap} (p : Oth2 n h h1) (q : Oth2 n h1 h2) : Oth2 n h h2 := fun c o c1 c2 e => q c o c1 c2 (p c o c1 c2 e)
theorem Oth2.more {n : Nat} {h h' : Heap} {o : Obj} (p : Oth2 n h h') : Oth2 n h (h'.push o) := p.on fun c u _ _ q => Heap.get?_push_of_some _ q
section
variable {prog : Program} {w : World} {A : Around} {E : Value → Shared → Prop} {s : Shared} {n l i : Nat} {j : Int} {k : Bool} {xs : Array Value} {f0 f1 old v : Value}
theorem EW.set {m : Nat} {vs : Array Value} {Q : Unit → Shared → Prop} (W : EW n k l i j xs f0 f1 old s.heap) (hm : m < 6)
    (hQ : ∀ h', h'.get? (n + 1) = some { cls := .type "enumerate", dict := none, data := .fields ((#[f0, f1, .ref n, .int j 0, .none, old] : Array Value).setIfInBounds m v), slots := #[] } → SIt k h' n l i → SSq k h' l xs → Oth2 n s.heap h' → h'.objs.size = s.heap.objs.size → Q () { s with heap := h' }) : wpAny (model prog w) A (setField (.ref (n + 1)) m v) Q E s :=
  wpAny_setField_rec W.z hm fun h' g e => hQ h' g (W.w.at fun o => e.extBut _ _ (ap (by omega))) (W.s.at fun o => e.extBut _ _ (ap (by have := W.b; omega))) (fun c o _ c2 q => e.extBut _ _ c2 q) e.1
theorem EW.set0 {Q : Unit → Shared → Prop} (W : EW n k l i j xs f0 f1 old s.heap) (hQ : ∀ h', EW n k l i j xs v f1 old h' → Oth2 n s.heap h' → h'.objs.size = s.heap.objs.size → Q () { s with heap := h' }) : wpAny (model prog w) A (setField (.ref (n + 1)) 0 v) Q E s := W.set (vs := #[]) (by decide) fun h' a b c d e => hQ h' ⟨a, b, c, W.b⟩ d e
theorem EW.set1 {Q : Unit → Shared → Prop} (W : EW n k l i j xs f0 f1 old s.heap) (hQ : ∀ h', EW n k l i j xs f0 v old h' → Oth2 n s.heap h' → h'.objs.size = s.heap.objs.size → Q () { s with heap := h' }) : wpAny (model prog w) A (setField (.ref (n + 1)) 1 v) Q E s := W.set (vs := #[]) (by decide) fun h' a b c d e => hQ h' ⟨a, b, c, W.b⟩ d e
theorem EW.set3 {j' : Int} {Q : Unit → Shared → Prop} (W : EW n k l i j xs f0 f1 old s.heap) (hQ : ∀ h', EW n k l i j' xs f0 f1 old h' → Oth2 n s.heap h' → h'.objs.size = s.heap.objs.size → Q () { s with heap := h' }) : wpAny (model prog w) A (setField (.ref (n + 1)) 3 (rawInt j')) Q E s := W.set (vs := #[]) (by decide) fun h' a b c d e => hQ h' ⟨a, b, c, W.b⟩ d e
theorem EW.set4 {Q : Unit → Shared → Prop} (W : EW n k l i j xs f0 f1 old s.heap) (hQ : ∀ h', EW n k l i j xs f0 f1 old h' → Oth2 n s.heap h' → h'.objs.size = s.heap.objs.size → Q () { s with heap := h' }) : wpAny (model prog w) A (setField (.ref (n + 1)) 4 .none) Q E s := W.set (vs := #[]) (by decide) fun h' a b c d e => hQ h' ⟨a, b, c, W.b⟩ d e
theorem EW.set5 {Q : Unit → Shared → Prop} (W : EW n k l i j xs f0 f1 old s.heap) (hQ : ∀ h', EW n k l i j xs f0 f1 v h' → Oth2 n s.heap h' → h'.objs.size = s.heap.objs.size → Q () { s with heap := h' }) : wpAny (model prog w) A (setField (.ref (n + 1)) 5 v) Q E s := W.set (vs := #[]) (by decide) fun h' a b c d e => hQ h' ⟨a, b, c, W.b⟩ d e
theorem EW.inner {Q : Value → Shared → Prop} (W : EW n k l i j xs f0 f1 old s.heap) (h : Q (.ref n) s) : wpAny (model prog w) A (field (.ref (n + 1)) 2) Q E s := wpAny_field W.z rfl (x := .ref n) rfl h
theorem EW.draw {x : Value} {Q : Value → Shared → Prop} (W : EW n k l i j xs f0 f1 old s.heap) (hx : xs[i]? = some x) (hQ : ∀ h', EW n k l (i + 1) j xs f0 f1 old h' → Oth2 n s.heap h' → h'.objs.size = s.heap.objs.size → Q x { s with heap := h' }) : wpAny (model prog w) A (Builtin.SmallTypes.nextOf (.ref n)) Q E s :=
  sq_item W.w W.s hx fun h' g e => hQ h' ⟨e.extBut _ _ (ap (by omega)) W.z, g, W.s.at fun o => e.extBut _ _ (ap (by have := W.b; omega)), W.b⟩ (fun c o c1 _ q => e.extBut _ _ c1 q) e.1
theorem EW.free {Q : Bool → Shared → Prop} (W : EW n k l i j xs f0 f1 old s.heap) (hf : ZF f0) (y : Q true s) (z : ∀ h' f, EW n k l i j xs f0 f old h' → Oth2 n s.heap h' → h'.objs.size = s.heap.objs.size → Q false { s with heap := h' }) : wpAny (model prog w) A (Builtin.SmallTypes.ownedTupleIsFree (.ref (n + 1))) Q E s := by
  obtain ⟨h, g, d, tk, os⟩ := s
  have hz := W.z
  dsimp only at hz
  rcases hf with rfl | ⟨c, rfl⟩
  · wp_walk
    exact y
  · wp_walk using alive_as
    cases h.get? (Int.toNat (c : Int)) with
    | none => wp_walk; exact y
    | some o =>
      by_cases m : f1 = .bool true
      · subst m
        wp_walk
        exact z _ _ W (Oth2.refl _ _) rfl
      · wp_walk using W.set1
        exact fun h' V o1 o2 => wpAny_pure (z h' _ V o1 o2)
theorem EW.more {h : Heap} {o : Obj} (W : EW n k l i j xs f0 f1 old h) : EW n k l i j xs f0 f1 old (h.push o) :=
  have e : ∀ c u, h.get? c = some u → (h.push o).get? c = some u := fun c u q => Heap.get?_push_of_some _ q
  ⟨e _ _ W.z, W.w.at (e _), W.s.at (e _), W.b⟩
theorem enum_item {x : Value} {Q : Value → Shared → Prop} (W : EW n k l i j xs f0 f1 old s.heap) (hf : ZF f0) (hx : xs[i]? = some x)
    (hQ : ∀ h' t f0' f1' old' tk', EW n k l (i + 1) (j + 1) xs f0' f1' old' h' → ZF f0' → IsPair h' s.heap.objs.size (.int j t) x → Oth2 n s.heap h' → Q (.ref s.heap.objs.size) { s with heap := h', toks := tk' }) :
    wpAny (model prog w) A (Builtin.«enumerate.__next__» ⟨[.ref (n + 1)], []⟩) (fun fin s' => ∃ v, fin = .done (.ret v) ∧ Q v s') E s := by
  obtain ⟨h, g, d, tk, os⟩ := s
  dsimp only at W hQ
  have z := W.z
  have lt : n + 1 < h.objs.size := Heap.lt_size z
  wp_walk using W.inner, W.draw hx
  intro h1 W1 o1 z1
  have t1 := W1.z
  wp_walk using EW.set3 (s := ⟨h1, g, d, tk + 1, os⟩) W1
  intro h2 W2 o2 z2
  wp_walk using EW.set4 (s := ⟨h2, g, d, tk + 1, os⟩) W2
  intro h3 W3 o3 z3
  have zl : h3.objs.size = h.objs.size := z3.trans (z2.trans z1)
  have ol : Oth2 n h h3 := o1.on (o2.on o3)
  have W4 : EW n k l (i + 1) (j + 1) xs f0 f1 old (h3.push { cls := .type "tuple", data := .seq #[.int j tk, x] }) := W3.more
  have t4 := W4.z
  have pr : IsPair (h3.push { cls := .type "tuple", data := .seq #[.int j tk, x] }) h3.objs.size (.int j tk) x := Heap.get?_push_size _ rfl
  have far : ∀ m, m ≤ 1 → h3.objs.size ≠ n + m := fun m hm => by omega
  have far0 : h3.objs.size ≠ n := far 0 (by decide)
  have far1 : h3.objs.size ≠ n + 1 := far 1 (by decide)
  rw [← zl] at hQ
  wp_walk using EW.free (s := ⟨h3.push _, g, d, tk + 1, os⟩) W4 hf, EW.set5 (s := ⟨h3.push _, g, d, tk + 1, os⟩) W4
  · intro h5 W5 o5 z5
    wp_walk using EW.set0 (s := ⟨h5, g, d, tk + 1, os⟩) W5
    intro h6 W6 o6 z6
    wp_walk using EW.set1 (s := ⟨h6, g, d, tk + 1, os⟩) W6
    intro h7 W7 o7 z7
    wp_walk
    exact ⟨_, rfl, hQ h7 tk _ _ _ _ W7 (.inr ⟨_, rfl⟩) (o7 _ _ far0 far1 (o6 _ _ far0 far1 (o5 _ _ far0 far1 pr))) (ol.more.on (o5.on (o6.on o7)))⟩
  · intro h5 f W5 o5 z5
    wp_walk
    exact ⟨_, rfl, hQ h5 tk _ _ _ _ W5 hf (o5 _ _ far0 far1 pr) (ol.more.on o5)⟩
theorem enum_end {Q : PySem.Fin → Shared → Prop} (hh : A.handled = none) (W : EW n k l i j xs f0 f1 old s.heap) (he : xs[i]? = none) (hE : ∀ h' e, Oth2 n s.heap h' → (∃ o, h'.get? e = some o ∧ o.cls = .type "StopIteration") → E (.ref e) { s with heap := h' }) :
    wpAny (model prog w) A (Builtin.«enumerate.__next__» ⟨[.ref (n + 1)], []⟩) Q E s := by
  obtain ⟨h, g, d, tk, os⟩ := s
  dsimp only at W hE
  wp_walk using W.inner, sq_end hh W.w W.s he
  exact fun h' e x y => hE h' e (fun c o c1 _ q => x c o c1 q) y
def etn (k : Bool) (n l i : Nat) (h : Heap) : Prop := ∃ f0 f1 old, ZF f0 ∧ h.get? (n + 1) = some { cls := .type "enumerate", dict := none, data := .fields #[f0, f1, .ref n, .int i 0, .none, old], slots := #[] } ∧ SIt k h n l i
theorem EW.tn {h : Heap} (W : EW n k l i i xs f0 f1 old h) (hf : ZF f0) : etn k n l i h := ⟨f0, f1, old, hf, W.z, W.w⟩
theorem go_enum {tg : Expr} {u : Value} {Q : Unit → Shared → Prop} (W : EW n k l i j xs f0 f1 old s.heap) (hf : ZF f0) (hQ : ∀ h' f, EW n k l i j xs f f1 old h' → ZF f → Oth2 n s.heap h' → Q () { s with heap := h' }) : wpAny (model prog w) A (letOwnedTupleGo tg (.ref (n + 1)) u) Q E s := by
  have same : Q () s := hQ s.heap _ W hf (Oth2.refl _ _)
  obtain ⟨h, g, d, tk, os⟩ := s
  have z := W.z
  dsimp only at z
  unfold letOwnedTupleGo
  cases tg <;> try exact wpAny_pure same
  all_goals cases u <;> try exact wpAny_pure same
  all_goals
    wp_walk
    split
    · exact wpAny_bind (wpAny_rule (W.set0 (s := ⟨h, g, d, tk, os⟩) (v := .none) fun h' V o z => hQ h' _ V (.inl rfl) o))
    · exact wpAny_pure same
theorem through_any {M : Model} {c : Value} {Q : Bool → Shared → Prop} (h : ∀ b, Q b s) : wpAny M A (Builtin.SmallTypes.calledThroughType c) Q E s := wpAny_bind (wpAny_stack_any fun _ => wpAny_pure (h _))
end
theorem enum_made (k : Bool) (l : Addr) (xs : Array Value) :
    Meets (Builtin.«enumerate.__new__» ⟨[.type "enumerate", .ref l], []⟩) (fun _ R s => SSq k s.heap l xs ∧
      ∀ h', EW s.heap.objs.size k l 0 0 xs .none (.bool false) .none h' → (∀ c o, s.heap.get? c = some o → h'.get? c = some o) → R (.ok (.ret (.ref (s.heap.objs.size + 1)))) { s with heap := h' }) :=
  .of_wp fun prog w A R s q => by
    obtain ⟨h, g, d, tk, os⟩ := s
    obtain ⟨t, q⟩ := q
    have hsub := sub_enumerate
    have lt : l < h.objs.size := by
      cases k with
      | true => obtain ⟨o, g, _⟩ := (t : h.IsList l xs); exact Heap.lt_size g
      | false => obtain ⟨o, g, _⟩ := (t : h.IsTuple l xs); exact Heap.lt_size g
    wp_walk using through_any
    intro b
    have fin : ∀ a, a.isFreed = false → (∀ (h : Heap) c, h.get? c = some a → SIt k h c l 0) → R (.ok (.ret (.ref (h.push a).objs.size))) ⟨(h.push a).push { cls := .type "enumerate", data := .fields #[.none, .bool false, .ref h.objs.size, .int 0 0, .none, .none] }, g, d, tk, os⟩ := fun a fa ia => by
      have up : ∀ c u, h.get? c = some u → ((h.push a).push { cls := .type "enumerate", data := .fields #[.none, .bool false, .ref h.objs.size, .int 0 0, .none, .none] }).get? c = some u := fun c u e => Heap.get?_push_of_some _ (Heap.get?_push_of_some _ e)
      rw [Heap.size_push]
      refine q _ ⟨?_, ia _ _ (Heap.get?_push_of_some _ (Heap.get?_push_size _ fa)), t.at (up _), lt⟩ up
      rw [← Heap.size_push h a]
      exact Heap.get?_push_size _ rfl
    cases b
    all_goals
      wp_walk using iter_sq t
      intro a fa ia
      wp_walk
      exact ⟨_, rfl, fin a fa ia⟩
theorem call_enum {prog : Program} {w : World} {A : Around} {E : Value → Shared → Prop} {s : Shared} {k : Bool} {l : Addr} {xs : Array Value} {Q : Value → Shared → Prop} (t : SSq k s.heap l xs)
    (hQ : ∀ h', etn k s.heap.objs.size l 0 h' → (∀ c o, s.heap.get? c = some o → h'.get? c = some o) → Q (.ref (s.heap.objs.size + 1)) { s with heap := h' }) : wpAny (model prog w) A (call (.type "enumerate") [.ref l]) Q E s :=
  callType_new F.called_enumerate (by decide) (F.typeCall_enumerate_1 _) (F.newCall_enumerate_1 _) (fun obj => F.args_object_init_2 obj _) F.entry_enumerate_new (enum_made k l xs) ⟨t, fun h' W up => ⟨⟨_, W.z, rfl⟩, hQ h' (W.tn (.inl rfl)) up⟩⟩
end DL
set_option Elab.async false
set_option linter.all false
set_option maxRecDepth 100000
set_option maxHeartbeats 1000000
namespace DL
open PySem PySem.Spec PyProof.Rows L2 PySem.W
def Ite (k : Bool) (K : PySem.W.Frag) (l : Addr) : It :=
  ⟨fun i H => ∃ as a, Sq k K H l as ∧ as[i]? = some a,
   fun i H x H' => ∃ T a, H T = none ∧ H' = upd H T (.tup [.int (i : Nat), a]) ∧ x = .ref T ∧ ∀ as, Sq k K H l as → as[i]? = some a,
   fun i H => ∃ as, Sq k K H l as ∧ as.length ≤ i⟩
def efp (n : Nat) : List Addr := [n, n + 1]
theorem etn_keep {k : Bool} {n l i : Nat} {h h' : Heap} (st : etn k n l i h) (q : ∀ b ∈ efp n, ∀ o, h.get? b = some o → h'.get? b = some o) : etn k n l i h' := by
  obtain ⟨f0, f1, old, hf, z, w⟩ := st
  exact ⟨f0, f1, old, hf, q _ (by simp [efp]) _ z, w.at (q _ (by simp [efp]))⟩
theorem etn_obj {k : Bool} {n l i : Nat} {h : Heap} (st : etn k n l i h) : ∀ b ∈ efp n, ∃ o, h.get? b = some o ∧ ∀ v, o.data ≠ .cell v := by
  obtain ⟨f0, f1, old, hf, z, w⟩ := st
  intro b hb
  rcases List.mem_cons.mp hb with rfl | hb
  · exact w.obj
  · cases List.mem_singleton.mp hb
    exact ⟨_, z, fun v e => by cases e⟩
theorem Oth2.fp {n : Nat} {h h' : Heap} (p : Oth2 n h h') : ∀ c o, c ∉ efp n → h.get? c = some o → h'.get? c = some o := fun c o hc => p c o (fun e => hc (by simp [efp, e])) (fun e => hc (by simp [efp, e]))
theorem turn_enum {P : Program} {w : World} {K : PySem.W.Frag} {tg : Expr} (k : Bool) (n l : Nat) (hl : l < n) : Turn P w K tg (Ite k K l) (efp n) (n + 1) (etn k n l) where
  mem := by simp [efp]
  obj := fun i h st => etn_obj st
  keep := fun i h h' st q => etn_keep st q
  item := by
    intro X hP hw hK hc i pins s σ H E I hf st hg
    subst hP hw hK
    obtain ⟨as, a, q1, ga⟩ := hg
    obtain ⟨ia, va, sa, _⟩ := Inv_sq I q1
    obtain ⟨ua, hua, rua⟩ := va.get ga
    have hTn : s.heap.objs.size ∉ efp n := fun m => let ⟨o, e, _⟩ := etn_obj st _ m; Nat.lt_irrefl _ (Heap.lt_size e)
    obtain ⟨f0, f1, old, zf, z, w1⟩ := st
    refine next_by ⟨_, z, rfl⟩ F.slot_enumerate_next F.entry_enumerate_next (F.args_enumerate_next_1 _) (enum_item (x := ua) ⟨z, w1, sa, hl⟩ zf (by simpa using hua) fun h1 t f0' f1' old' tk' W1 zf1 pr o1 => ⟨_, rfl, go_enum (s := { s with heap := h1, toks := tk' }) W1 zf1 fun h2 f W2 zf2 o2 => ?_⟩)
    have Iz : L2.Inv X pins σ H { s with heap := h2, toks := tk' } := Inv_tur5 I hf (o1.on o2).fp
    have fr : H s.heap.objs.size = none := I.hok.fresh (Nat.le_refl _)
    refine ⟨.ref s.heap.objs.size, upd H s.heap.objs.size (.tup [.int (i : Nat), a]), ?_, rfl, ⟨_, a, fr, rfl, rfl, fun cs q => ?_⟩, ?_, fun c hb => ?_⟩
    · refine Inv_track Iz (I.fpOk (Nat.le_refl _) fr) I.sz ⟨show 2 ≤ sizeLine by decide, [.int i t, ua], .cons ⟨t, rfl⟩ (.cons rua .nil), ?_⟩
      exact ⟨_, o2.fp _ _ hTn pr, rfl, rfl, _, rfl⟩
    · rw [Inv_sq_inj I q q1]; exact ga
    · exact EW.tn (i := i + 1) W2 zf2
    · rw [upd_ne (fun e => hTn (by rw [← e]; exact hb))]; exact (hf c hb).1
  done := by
    intro X hP hw hK hc i pins s σ H E I hf st hg
    subst hP hw hK
    obtain ⟨as, q1, hend⟩ := hg
    obtain ⟨ia, va, sa, _⟩ := Inv_sq I q1
    obtain ⟨f0, f1, old, zf, z, w1⟩ := st
    have e1 := va.length
    exact next_by ⟨_, z, rfl⟩ F.slot_enumerate_next F.entry_enumerate_next (F.args_enumerate_next_1 _) (enum_end (I.ok.hd hc) ⟨z, w1, sa, hl⟩ (by simp; omega) fun h' e p q => ⟨q, rfl, Inv_tur5 (t' := s.toks) I hf p.fp⟩)
  self := fun A i s Q E st h => by
    obtain ⟨f0, f1, old, zf, z, _⟩ := st
    exact own_iter ⟨_, z, rfl⟩ F.slot_enumerate_iter F.entry_enumerate_iter (F.args_enumerate_iter_1 _) F.slot_enumerate_next (wpAny_pure ⟨rfl, rfl⟩) h
theorem ite_yields {K : PySem.W.Frag} {G : Wd} {k : Bool} {l : Addr} {vs : List V} {xs : List D} (h1 : Sq k K G.g l vs) (r1 : Iss K G xs vs) : Yields K G (Ite k K l) (xs.zipIdx.map fun p => .tup [.int (p.2 : Nat), p.1]) where
  go := fun i H e hi => by
    have hi : i < xs.length := by simpa using hi
    obtain ⟨a, ha, _⟩ := r1.get (i := i) (d := xs[i]) (by simp)
    exact ⟨vs, a, h1.same e, ha⟩
  stop := fun i H e hi => by
    have hi : xs.length ≤ i := by simpa using hi
    exact ⟨vs, h1.same e, by rw [← r1.length]; exact hi⟩
  yld := fun i v H H' G2 O2 e s y hi => by
    obtain ⟨T, a, hT, rfl, rfl, y1⟩ := y
    obtain ⟨x, hx, ix⟩ := r1.getV (y1 vs (h1.same (e.g.trans s.sub)))
    obtain ⟨e3, s3⟩ := s.laid (o := .tup [.int (i : Nat), a]) hT
    refine ⟨.tup [.int (i : Nat), x], _, ?_, e3, s3, .tup (SqT.of upd_same) (.cons (.int _) (.cons (ix.ext (e.trans e3)) .nil))⟩
    rw [List.getElem?_map, List.getElem?_zipIdx, hx]
    simp
section
variable {X : Cx} {ρ : Rho} {O : Sto} {e a b c : Expr} {es : List Expr} {d da db : D} {ds : List D} {R : D → Sto → Prop} {pos p : Pos} {x : Str} {xs ys : List D}
theorem ez_enum (ha : EvP X ρ O a da) (fa : LF da xs) (hm : X.mg "enumerate" = none) (hg : Gl X "enumerate" := by rfl) (hs : starEach [a] X.env = [(false, eval a X.env)] := by rfl) :
    EvZ X ρ O (.Call (.Name "enumerate" p) [a] [] pos) (xs.zipIdx.map fun p => .tup [.int (p.2 : Nat), p.1]) "enumerate" := fun G tg pins s σ H R I sa en k => by
  refine Call_ (ld_blt I hg hm boot_enumerate (PyProof.Rows.callWith_type1 (thn (es_cons ha es_nil hs G pos pins s σ H (fun vs H' => ∃ G', Ext G G' ∧ SA X.K G' H' O ∧ Iss X.K G' [da] vs) I ⟨sa, en, fun vs G' H' e1 s1 i1 => ⟨G', e1, s1, i1⟩⟩) fun us s1 ⟨vs, H1, I1, r1, G1, e1, sa1, is1⟩ => ?_) (by rw [hs]; rfl) rfl))
  cases is1 with | cons i1 is1 =>
  cases is1
  obtain ⟨k1, l1, v1, rfl, q1, j1⟩ := fa.sq i1
  obtain ⟨u, rfl, ru⟩ := vals1 r1
  cases ru
  obtain ⟨t1, w1, g1, z1⟩ := Inv_sq I1 (q1.same sa1.sub)
  have lt : l1 < s1.heap.objs.size := by
    cases k1 with
    | true => obtain ⟨o, g, _⟩ := (g1 : s1.heap.IsList l1 _); exact Heap.lt_size g
    | false => obtain ⟨o, g, _⟩ := (g1 : s1.heap.IsTuple l1 _); exact Heap.lt_size g
  refine call_enum g1 fun h' Z kp => ?_
  have Ik : L2.Inv X pins σ H1 { s1 with heap := h', toks := s1.toks } := I1.kept kp
  refine ⟨⟨s1.heap.objs.size + 1, efp s1.heap.objs.size, etn k1 s1.heap.objs.size l1, Ite k1 X.K l1, H1, rfl, Ik, turn_enum k1 _ l1 lt, Z, fun b hb => ?_, k _ G1 H1 e1 sa1 (ite_yields q1 j1)⟩, ?_⟩
  · have hb' : s1.heap.objs.size ≤ b := by
      rcases List.mem_cons.mp hb with rfl | hb
      · exact Nat.le_refl _
      · cases List.mem_singleton.mp hb; exact Nat.le_succ _
    exact I1.fpOk hb' (I1.hok.fresh hb')
  · obtain ⟨f0, f1, old, _, hz, _⟩ := Z
    exact ⟨_, hz, rfl⟩
theorem ez_enumM {α : Type} {f : α → D} {as : List α} (ha : EvP X ρ O a da) (fa : LF da (as.map f)) (hm : X.mg "enumerate" = none) (hg : Gl X "enumerate" := by rfl) (hs : starEach [a] X.env = [(false, eval a X.env)] := by rfl) :
    EvZ X ρ O (.Call (.Name "enumerate" p) [a] [] pos) (as.zipIdx.map fun p => .tup [.int (p.2 : Nat), f p.1]) "enumerate" := by
  have e : (as.zipIdx.map fun p => D.tup [.int (p.2 : Nat), f p.1]) = ((as.map f).zipIdx.map fun p => D.tup [.int (p.2 : Nat), p.1]) := by
    rw [List.zipIdx_map, List.map_map]
    rfl
  rw [e]
  exact ez_enum ha fa hm hg hs
end
end DL
set_option Elab.async false
set_option linter.all false
set_option maxRecDepth 100000
set_option maxHeartbeats 1000000
namespace DL
open PySem PySem.Spec PyProof.Rows L2
section
variable {X : Cx} {ρ : Rho} {O : Sto} {e a b c o value : Expr} {es : List Expr} {d da db : D} {ds : List D} {R : D → Sto → Prop} {pos p p2 apos pos' : Pos} {x y f m : Str} {rest : List Stmt} {P : Post} {q : Nat} {C C2 : Addr} {fs : List (Str × D)}
theorem ev_gint {i : Int} {t : Tok} (hm : X.mg x = some (.int i t)) (hg : Gl X x := by rfl) (hd : (x == ("__debug__" : Str)) = false := by decide) : EvP X ρ O (.Name x pos) (.int i) := fun G =>
  PE.imp (pe_glob (v := .int i) hg hm ⟨t, rfl⟩ hd) fun σ H Q ⟨h1, h2, h3⟩ => h3 _ G H (Ext.refl _) h1 (.int i)
structure ClsTy (K : PySem.W.Frag) (C : Addr) : Prop where
  cls : Cls K C
  ha : PySem.W.findIn K (.ref C) "__class__" = some (some (.builtin "object.__class__"))
  hn : PySem.W.specialIn K (.builtin "object.__class__") "__get__" = some (some (.builtin "getset_descriptor.__get__"))
  htk : PySem.W.takesIn K (.builtin "object.__class__") = some true
  hm : PySem.W.mroIn K C (.type "object") = some true
structure OfCls (P : Program) (w : World) (K : PySem.W.Frag) (mg : Str → Option Value) (base : Heap) (x : Str) (k : Nat) (m : Str) (sp : SpD) : Prop where
  ex : ∃ C mc f fd ps, mg x = some (.ref C) ∧ PySem.W.specialIn K (.ref C) "__getattribute__" = some (some (.builtin "type.__getattribute__")) ∧ PySem.W.readsIn K C mc = true ∧ PySem.W.findCls K (.ref C) mc m = some (.val (.ref f)) ∧ PySem.W.handedIn (.ref f) = true ∧
    FnOk P w K mg base CX0 k f fd ps (toSp K sp) ∧ PySem.W.keepIn K (.ref f) = true ∧ Binds K fd ps []
end
end DL
set_option Elab.async false
set_option linter.all false
set_option maxRecDepth 100000
set_option maxHeartbeats 1000000
namespace DL
open PySem PySem.Spec PyProof.Rows L2
def EvTE (X : Cx) (ρ : Rho) (O : Sto) (e : Expr) (R : Bool → Sto → Prop) : Prop :=
  ∀ G, PT X e (fun σ H Q => SA X.K G H O ∧ EnvR X.K G σ ρ ∧ ∀ k O' G' H', Ext G G' → SA X.K G' H' O' → R k O' → Q k H')
section
variable {X : Cx} {ρ : Rho} {O : Sto} {e a b c : Expr} {body orelse : List Stmt} {d da db : D} {pos : Pos} {P : Post}
theorem et_cmpE {op : CmpOp} {Ra : D → Sto → Prop} {R : Bool → Sto → Prop} (ha : Ev X ρ O a Ra) (hb : ∀ da O1, Ra da O1 → ∃ db k, EvP X ρ O1 b db ∧ Op2 X O1 (compareOp op) da db (.bl k) ∧ R k O1) (hm : behindInMarks op b = false := by first | exact nomark _ | (with_unfolding_all rfl)) :
    EvTE X ρ O (.Compare a [op] [b] pos) R := fun G pins s σ H Q I ⟨h1, h2, h3⟩ => by
  refine wpAny_isTrue_Compare1 (thn (ha G pins s σ H _ I ⟨h1, h2, fun v da O1 G1 H1 e1 s1 i1 r1 => (⟨G1, da, O1, e1, s1, i1, r1⟩ : ∃ G1 da O1, Ext G G1 ∧ SA X.K G1 H1 O1 ∧ Is X.K G1 da v ∧ Ra da O1)⟩) fun v s1 ⟨x, H1, I1, r1, G1, da, O1, e1, sa1, i1, ra⟩ => ?_) hm
  obtain ⟨db, k, g1, g2, g3⟩ := hb da O1 ra
  refine thn (g1 G1 pins s1 σ H1 _ I1 ⟨sa1, h2.ext e1, fun u G2 H2 e2 s2 i2 => (⟨G2, e2, s2, i2⟩ : ∃ G2, Ext G1 G2 ∧ SA X.K G2 H2 O1 ∧ Is X.K G2 db u)⟩) fun u s2 ⟨y, H2, I2, r2, G2, e2, sa2, i2⟩ => ?_
  refine thn (g2 G2 pins s2 σ H2 x y v u _ I2 r1 r2 ⟨sa2, i1.ext e2, i2, fun w G3 H3 e3 s3 i3 => (⟨G3, e3, s3, i3⟩ : ∃ G3, Ext G2 G3 ∧ SA X.K G3 H3 O1 ∧ Is X.K G3 (.bl k) w)⟩) fun z s3 ⟨zv, H3, I3, r3, G3, e3, sa3, i3⟩ => ?_
  cases i3
  cases r3
  exact wpAny_truthy_bool ⟨H3, I3, h3 k O1 G3 H3 ((e1.trans e2).trans e3) sa3 g3⟩
theorem x_ifE {R : Bool → Sto → Prop} (hc : EvTE X ρ O c R) (h : ∀ k O', R k O' → (k = true → Exs X ρ O' body P) ∧ (k = false → Exs X ρ O' orelse P)) : Ex X ρ O (.If c body orelse pos) P := fun G =>
  PS.imp (ps_if (hc G) (t := fun E σ H => ∃ G1 O', R true O' ∧ SA X.K G1 H O' ∧ EnvR X.K G1 σ ρ ∧ Conts X.K G1 P E) (fun pins s σ H E I ⟨G1, O', z, q⟩ => (h true O' z).1 rfl G1 pins s σ H E I q)
    (u := fun E σ H => ∃ G1 O', R false O' ∧ SA X.K G1 H O' ∧ EnvR X.K G1 σ ρ ∧ Conts X.K G1 P E) (fun pins s σ H E I ⟨G1, O', z, q⟩ => (h false O' z).2 rfl G1 pins s σ H E I q)) fun E σ H ⟨q1, q2, q3⟩ =>
    ⟨q1, q2, fun k O' G' H' e1 s1 r1 => by
      cases k with
      | true => exact iteT ⟨G', O', r1, s1, q2.ext e1, q3.ext e1⟩
      | false => exact iteF ⟨G', O', r1, s1, q2.ext e1, q3.ext e1⟩⟩
end
end DL
set_option Elab.async false
set_option linter.all false
set_option maxRecDepth 100000
set_option maxHeartbeats 1000000
namespace DL
open PySem PySem.Spec PyProof.Rows L2
section
variable {X : Cx} {ρ : Rho} {O : Sto} {a b : Expr} {pos : Pos} {R : D → Sto → Prop} {xs : List D}
end
end DL
set_option Elab.async false
set_option linter.all false
set_option maxRecDepth 100000
set_option maxHeartbeats 1000000
namespace DL
open PySem PySem.Spec PyProof.Rows L2 PySem.W
section
variable {X : Cx} {ρ : Rho} {O : Sto} {d : D} {xs ys : List D}
theorem Iss.toBls {K : PySem.W.Frag} {G : Wd} : ∀ {bs : List Bool} {vs : List V}, Iss K G (bs.map D.bl) vs → vs = bs.map V.bl
  | [], _, .nil => rfl
  | b :: bs, _, .cons h r => by cases h; rw [Iss.toBls r]; rfl
def lstI (ns : List Int) : Int := ns.getD (argBest (fun i j => decide (ns.getD i 0 < ns.getD j 0)) (ns.length - 1)) 0
def grtI (ns : List Int) : Int := ns.getD (argBest (fun i j => decide (ns.getD i 0 > ns.getD j 0)) (ns.length - 1)) 0
end
end DL
set_option Elab.async false
set_option linter.all false
set_option maxRecDepth 100000
set_option maxHeartbeats 1000000
namespace DL
open PySem PySem.Spec PyProof.Rows L2 PySem.W
structure FunD (K : PySem.W.Frag) (x qual : Str) (st : Stmt) (f : Addr) (fd : FuncData) (dv : List Value) : Prop where
  ex : ∃ (T : Addr) (cT : Value) (dT : Option Addr) (nT : Nat) (sT : Array (Option Value)) (oc : Value) (od : Option Addr) (kV doc pm : Value) (an : Option Addr) (cdv ct : Value) (osl : Array (Option Value)),
    fd = PySem.W.fnOf x qual (defArgs st) (defBody st) (defScope st) (.ref T) kV doc pm an cdv ct ∧ K.lookup f = some ⟨oc, od, .func fd, osl⟩ ∧ PySem.W.codeIn K cdv qual = true ∧ K.lookup T = some ⟨cT, dT, .seq dv.toArray nT, sT⟩
  kp : PySem.W.keepIn K (.ref f) = true
section
variable {P : Program} {w : World} {K : PySem.W.Frag} {mg : Str → Option Value} {base : Heap}
end
section
variable {X : Cx} {ρ : Rho} {O : Sto} {a : Expr} {pos p : Pos} {R : D → Sto → Prop} {xs : List D} {d : D}
theorem ev_listM (hm : X.mg "list" = none) (ha : EvP X ρ O a d) (h : LT O d xs) (k : R (.ptr O.length) (O ++ [some (.lst xs)])) (hg : Gl X "list" := by rfl) (he : starEach [a] X.env = [(false, eval a X.env)] := by rfl) (hpl : (backTo pos (starEach [] X.env)).any (·.1) = false := by rfl) : Ev X ρ O (.Call (.Name "list" p) [a] [] pos) R := fun G => by
  refine PE.imp (pe_callTy call_list_of hg hm (by first | rfl | decide +kernel) (es_cons ha es_nil he G) (by decide) (by decide) he hpl) fun σ H Q ⟨q1, q2, q3⟩ => ⟨q1, q2, fun vs G1 H1 e1 s1 i1 => ?_⟩
  have done : ∀ (ws : List V), Iss X.K G1 xs ws → ∀ l, H1 l = none → Q (.ref l) (upd H1 l (.lst ws)) := fun ws r l hl => by
    have e : Ext G1 ⟨G1.g, G1.l ++ [l]⟩ := ⟨Same.refl _, [l], rfl⟩
    obtain ⟨e2, s2⟩ := s1.new (m := .lst xs) hl ⟨ws, upd_same, r.ext e⟩
    refine q3 _ _ _ _ _ (e1.trans e2) s2 (.ptr _ ?_) k
    rw [← s1.len, List.getElem?_append_right (Nat.le_refl _), Nat.sub_self]
    rfl
  cases i1 with
  | cons i r =>
    cases r
    rcases h with h | rfl
    · obtain ⟨p, ws, rfl, q, r⟩ := h.sq s1 i
      exact ⟨p, ws, rfl, .inl q, done ws r⟩
    · obtain ⟨p, ws, rfl, q, r⟩ := tup_sq s1 i
      exact ⟨p, ws, rfl, .inr q, done ws r⟩
end
end DL
set_option Elab.async false
set_option linter.all false
set_option maxRecDepth 100000
set_option maxHeartbeats 1000000
namespace DL
open PySem PySem.Spec PyProof.Rows L2 PySem.W
def minP (ps : List (Int × Int)) : Int × Int := ps.getD (argBest (fun i j => ltP (ps.getD i (0, 0)) (ps.getD j (0, 0))) (ps.length - 1)) (0, 0)
def PairAt (h : Heap) (v : Value) (p : Int × Int) : Prop := ∃ a o n t u, v = .ref a ∧ h.get? a = some o ∧ o.cls = .type "tuple" ∧ o.data = .seq #[.int p.1 t, .int p.2 u] n
section
variable {prog : Program} {w : World} {A : Around} {E : Value → Shared → Prop} {s : Shared}
end
section
variable {X : Cx} {O : Sto} {d : D} {k : Nat}
end
end DL
set_option Elab.async false
set_option linter.all false
set_option maxRecDepth 100000
set_option maxHeartbeats 1000000
namespace DL
open PySem PySem.Spec PyProof.Rows L2 PySem.W
section
variable {X : Cx} {ρ : Rho} {O : Sto} {e : Expr} {p p2 pos pos2 : Pos}
end
end DL
set_option Elab.async false
set_option linter.all false
set_option maxRecDepth 100000
set_option maxHeartbeats 1000000
namespace DL
open PySem PySem.Spec PyProof.Rows L2 PySem.W
structure MakeOkN (P : Program) (w : World) (K : PySem.W.Frag) (mg : Str → Option Value) (base : Heap) (C : Addr) (k : Nat) (x : Str) (sp : SpD) : Prop where
  ex : ∃ f fd ps, FnOk P w K mg base CX0 k f fd ps (toSp K sp) ∧ Mk K C f ∧ Binds K fd ps [.none]
  at_ : mg x = some (.ref C)
section
variable {X : Cx} {ρ : Rho} {O : Sto} {e : Expr} {es : List Expr} {ds : List D} {R : D → Sto → Prop} {pos p : Pos} {x : Str} {C : Addr}
end
end DL
set_option Elab.async false
set_option linter.all false
set_option maxRecDepth 100000
set_option maxHeartbeats 1000000
namespace DL
open PySem PySem.Spec PyProof.Rows L2
theorem Ev.keep {X : Cx} {ρ : Rho} {O : Sto} {e : Expr} {d0 : D} (h : Ev X ρ O e fun d O' => (∃ O2, O' = O ++ O2) ∧ npD d = true ∧ d = d0) : EvP X ρ O e d0 := fun G => PE.imp (h G) fun σ H Q ⟨q1, q2, q3⟩ => ⟨q1, q2, fun v d O' G' H' e1 s1 i1 r => by
  obtain ⟨⟨O2, rfl⟩, hn, rfl⟩ := r
  obtain ⟨e2, s2⟩ := q1.cut e1 s1
  exact q3 v _ H' e2 s2 (i1.cut hn _)⟩
end DL
set_option Elab.async false
set_option linter.all false
set_option maxRecDepth 100000
set_option maxHeartbeats 1000000
namespace DL
open PySem PySem.Spec PyProof.Rows L2
section
variable {X : Cx} {ρ : Rho} {O : Sto} {a b : Expr} {pos : Pos}
theorem et_blE {R : Bool → Sto → Prop} (ha : Ev X ρ O a fun d O' => ∃ k, d = .bl k ∧ R k O') (he : ∀ whole, isTrue a X.env whole = (do let v ← whole; standAt a.pos; holding [v] (truthy v)) := by intro _; rfl) : EvTE X ρ O a R := fun G =>
  (pt_truth (ha G) he).imp fun σ H Q ⟨q1, q2, q3⟩ => ⟨q1, q2, fun v d O' G' H' e1 s1 i1 r => by
    obtain ⟨k, rfl, r⟩ := r
    cases i1
    exact ⟨k, rfl, q3 k O' G' H' e1 s1 r⟩⟩
theorem et_notE {R : Bool → Sto → Prop} (ha : EvTE X ρ O a fun k O' => R (!k) O') : EvTE X ρ O (.UnaryOp .Not a pos) R := fun G =>
  (pt_not (ha G)).imp fun σ H Q ⟨q1, q2, q3⟩ => ⟨q1, q2, fun k O' G' H' e1 s1 r => q3 (!k) O' G' H' e1 s1 r⟩
end
end DL
set_option Elab.async false
set_option linter.all false
set_option maxRecDepth 100000
set_option maxHeartbeats 1000000
namespace DL
open PySem PySem.Spec PyProof.Rows L2
section
variable {X : Cx} {ρ : Rho} {O : Sto} {a e : Expr} {d : D}
def rCnt (K : PySem.W.Frag) : V → List V → Hp → VK → Prop := fun x vs H Q => ∃ (p : Addr) (ns : List Int) (k : Int), x = .ref p ∧ vs = [.int k] ∧ SqL K H p (ns.map V.int) ∧ Q (.int ((ns.count k : Nat) : Int)) H
end
section
variable {prog : Program} {w : World} {A : Around} {E : Value → Shared → Prop} {s : Shared}
end
section
variable {X : Cx} {O : Sto} {xs : List D}
end
end DL
set_option Elab.async false
set_option linter.all false
set_option maxRecDepth 100000
set_option maxHeartbeats 1000000
namespace DL
open PySem PySem.Spec PyProof.Rows L2
section
variable {X : Cx} {ρ : Rho} {O : Sto} {a b : Expr} {d : D} {pos : Pos}
end
end DL
set_option Elab.async false
set_option linter.all false
set_option maxRecDepth 100000
set_option maxHeartbeats 1000000
namespace DL
open PySem PySem.Spec PyProof.Rows L2
def stepL {α : Type} (l : List α) (lo : Nat) : List α := (List.range ((l.length - lo + 1) / 2)).filterMap fun k => l[lo + 2 * k]?
def LoIs (o : Option Int) (lo : Nat) : Prop := (o = none ∧ lo = 0) ∨ (o = some 1 ∧ lo = 1)
section
variable {X : Cx} {ρ : Rho} {O : Sto} {e a b c st : Expr} {d da db : D} {xs ys : List D} {R : D → Sto → Prop} {pos p p2 : Pos} {P : Post} {q : Nat}
end
end DL
set_option Elab.async false
set_option linter.all false
set_option maxRecDepth 100000
set_option maxHeartbeats 1000000
namespace DL
open PySem PySem.Spec PyProof.Rows L2
section
variable {prog : Program} {w : World} {A : Around} {E : Value → Shared → Prop} {s : Shared}
end
section
variable {X : Cx} {ρ : Rho} {O : Sto} {a st lo : Expr} {xs : List D} {pos p2 : Pos}
end
end DL
set_option Elab.async false
set_option linter.all false
set_option maxRecDepth 100000
set_option maxHeartbeats 1000000
namespace DL
open PySem PySem.Spec PyProof.Rows L2
section
variable {X : Cx} {ρ : Rho} {O : Sto} {e : Expr} {C C2 : Addr} {x : Str} {p p2 pos : Pos} {R : D → Sto → Prop}
end
end DL
set_option Elab.async false
set_option linter.all false
set_option maxRecDepth 100000
set_option maxHeartbeats 1000000
namespace DL
open PySem PySem.Spec PyProof.Rows L2
section
variable {X : Cx} {ρ : Rho} {O : Sto} {o ix e : Expr} {pos tpos : Pos} {P : Post} {q : Nat}
def rGetL : V → V → Hp → VK → Prop := fun x y H Q => ∃ (p : Addr) (xs : List V) (i : Nat) (v : V), x = .ref p ∧ y = .int (i : Int) ∧ i < 1000000 ∧ H p = some (.lst xs) ∧ xs[i]? = some v ∧ Q v H
end
end DL
set_option Elab.async false
set_option linter.all false
set_option maxRecDepth 100000
set_option maxHeartbeats 1000000
namespace DL
open PySem PySem.Spec PyProof.Rows L2 PySem.W
section
variable {prog : Program} {w : World} {A : Around} {E : Value → Shared → Prop} {s : Shared} {n l : Nat} {j : Int} {xs : Array Value} {v : Value}
def RV (n l : Nat) (j : Int) (h : Heap) : Prop := h.get? n = some { cls := .type "reversed", dict := none, data := .fields #[.ref l, rawInt j], slots := #[] }
end
def Itv (K : PySem.W.Frag) (l : Addr) : It :=
  ⟨fun i H => ∃ xs x, SqT K H l xs ∧ xs.reverse[i]? = some x, fun i H x H' => H' = H ∧ ∀ xs, SqT K H l xs → xs.reverse[i]? = some x, fun i H => ∃ xs, SqT K H l xs ∧ xs.length ≤ i⟩
section
variable {X : Cx} {ρ : Rho} {O : Sto} {a : Expr} {pos p : Pos} {xs : List D}
end
end DL
set_option Elab.async false
set_option linter.all false
set_option maxRecDepth 100000
set_option maxHeartbeats 1000000
namespace DL
open PySem PySem.Spec PyProof.Rows L2 PySem.W
section
variable {prog : Program} {w : World} {A : Around} {E : Value → Shared → Prop} {s : Shared} {l : Nat} {k : Int} {t : Tok} {vs : List Value} {ns : List Int}
end
section
variable {X : Cx} {ρ : Rho} {O : Sto} {a e : Expr}
def rIdx (K : PySem.W.Frag) : V → List V → Hp → VK → Prop := fun x vs H Q => ∃ (p : Addr) (ns : List Int) (k : Int), x = .ref p ∧ vs = [.int k] ∧ SqT K H p (ns.map V.int) ∧ k ∈ ns ∧ Q (.int ((ns.idxOf k : Nat) : Int)) H
end
end DL
set_option Elab.async false
set_option linter.all false
set_option maxRecDepth 100000
set_option maxHeartbeats 1000000
namespace L2
open PySem PySem.Spec PyProof.Rows
def Mild {α : Type} : Sem α → Prop
  | .pure _ => True
  | .raise _ => True
  | .unsupported _ => True
  | .finish _ => True
  | .rule _ k => Mild (k ())
  | .at _ k => Mild (k ())
  | .load _ _ k => ∀ o, Mild (k o)
  | .update _ _ f k => (∀ o : Obj, (f o).dict = o.dict ∧ (o.data ≠ .freed → (f o).data ≠ .freed)) ∧ Mild (k ())
  | .alloc _ k => ∀ a, Mild (k a)
  | .loadIfAlive _ k => ∀ o, Mild (k o)
  | .point _ k => Mild (k ())
  | .fresh k => ∀ t, Mild (k t)
  | .ask k => ∀ t, Mild (k t)
  | .handled _ k => ∀ t, Mild (k t)
  | .stack k => ∀ t, Mild (k t)
  | .thread k => ∀ t, Mild (k t)
  | _ => False
theorem Mild.bind {α β : Type} {t : Sem α} {k : α → Sem β} (h : Mild t) (g : ∀ a, Mild (k a)) : Mild (t >>= k) := by
  show Mild (Sem.bind t k)
  induction t with
  | pure a => exact g a
  | raise _ => trivial
  | unsupported _ => trivial
  | finish _ => trivial
  | rule _ _ ih => exact ih () h
  | «at» _ _ ih => exact ih () h
  | load _ _ _ ih => exact fun o => ih o (h o)
  | update _ _ _ _ ih => exact ⟨h.1, ih () h.2⟩
  | alloc _ _ ih => exact fun o => ih o (h o)
  | loadIfAlive _ _ ih => exact fun o => ih o (h o)
  | point _ _ ih => exact ih () h
  | fresh _ ih => exact fun o => ih o (h o)
  | ask _ ih => exact fun o => ih o (h o)
  | handled _ _ ih => exact fun o => ih o (h o)
  | stack _ ih => exact fun o => ih o (h o)
  | thread _ ih => exact fun o => ih o (h o)
  | _ => exact h.elim
def DK (h h' : Heap) : Prop := ∀ b o, h.get? b = some o → ∃ o', h'.get? b = some o' ∧ o'.dict = o.dict
theorem DK.refl (h : Heap) : DK h h := fun _ o e => ⟨o, e, rfl⟩
theorem DK.trans {h h1 h2 : Heap} (x : DK h h1) (y : DK h1 h2) : DK h h2 := fun b o e => by
  obtain ⟨o1, e1, d1⟩ := x b o e
  obtain ⟨o2, e2, d2⟩ := y b o1 e1
  exact ⟨o2, e2, d2.trans d1⟩
theorem DK.push {h : Heap} (o : Obj) : DK h (h.push o) := fun b o' e => ⟨o', Heap.get?_push_of_some _ e, rfl⟩
theorem DK.update {h : Heap} {a : Addr} {f : Obj → Obj} (hf : ∀ o : Obj, (f o).dict = o.dict ∧ (o.data ≠ .freed → (f o).data ≠ .freed)) : DK h (h.update a f) := fun b o e => by
  by_cases hb : a = b
  · subst hb
    have hn : o.data ≠ .freed := fun z => by
      unfold Heap.get? at e
      split at e
      · cases e
      · rename_i hx
        obtain ⟨c, d, x, l⟩ := o
        subst z
        exact hx _ _ _ e
    refine ⟨f o, Heap.get?_update_self f e ?_, (hf o).1⟩
    have := (hf o).2 hn
    revert this
    generalize f o = z
    obtain ⟨c, d, y, l⟩ := z
    intro this
    cases y <;> first | rfl | exact absurd rfl this
  · exact ⟨o, (Heap.get?_update_other _ _ hb).trans e, rfl⟩
theorem Mild.wp {α : Type} {M : Model} {Γ : PySem.Ctx} {t : Sem α} (h : Mild t) : ∀ {Q : α → Pos → Shared → Prop} {E : Value → Pos → Shared → Prop} {p : Pos} {s : Shared} {h0 : Heap}, DK h0 s.heap → Sem.wp M Γ t Q E p s → Sem.wp M Γ t (fun a p' s' => Q a p' s' ∧ DK h0 s'.heap) (fun e p' s' => E e p' s' ∧ DK h0 s'.heap) p s := by
  induction t with
  | pure a => exact fun d q => ⟨q, d⟩
  | raise _ => exact fun d q => ⟨q, d⟩
  | unsupported _ => exact fun d q => q.elim
  | finish _ => exact fun d q => q.elim
  | rule _ _ ih => exact fun d q => ih () h d q
  | «at» _ _ ih => exact fun d q => ih () h d q
  | load _ _ _ ih => exact fun d ⟨o, e, q⟩ => ⟨o, e, ih o (h o) d q⟩
  | update _ _ _ _ ih => exact fun d ⟨e, q⟩ => ⟨e, ih () h.2 (d.trans (DK.update h.1)) q⟩
  | alloc _ _ ih => exact fun d q => ih _ (h _) (d.trans (DK.push _)) q
  | loadIfAlive _ _ ih => exact fun d q => ih _ (h _) d q
  | point _ _ ih => exact fun d q => ih () h d q
  | fresh _ ih => exact fun d q => ih _ (h _) d q
  | ask _ ih => exact fun d q => ih _ (h _) d q
  | handled _ _ ih => exact fun d q => ih _ (h _) d q
  | stack _ ih => exact fun d q => ih _ (h _) d q
  | thread _ ih => exact fun d q => ih _ (h _) d q
  | _ => exact h.elim
theorem Mild.any {α : Type} {M : Model} {A : Around} {t : Sem α} {Q : α → Shared → Prop} {E : Value → Shared → Prop} {s : Shared} (h : Mild t) (q : wpAny M A t Q E s) : wpAny M A t (fun a s' => Q a s' ∧ DK s.heap s'.heap) (fun e s' => E e s' ∧ DK s.heap s'.heap) s :=
  fun Γ p hi => h.wp (DK.refl _) (q Γ p hi)
theorem mild_field {v : Value} {i : Nat} : Mild (field v i) := by
  unfold field fieldsOf
  refine Mild.bind ?_ fun vs => ?_
  · cases v with
    | ref a =>
      refine Mild.bind (fun _ => trivial) fun o => ?_
      split <;> trivial
    | _ => trivial
  · split <;> trivial
theorem mild_setField {v x : Value} {i : Nat} : Mild (setField v i x) := by
  unfold setField
  cases v with
  | ref a =>
    show Mild (updateField a i x)
    unfold updateField
    refine Mild.bind (fun _ => trivial) fun o => ?_
    split
    · split
      · refine ⟨fun o => ?_, trivial⟩
        obtain ⟨c, d, y, l⟩ := o
        cases y <;> exact ⟨rfl, fun z => by first | exact z | (intro q; cases q)⟩
      · trivial
    · trivial
  | _ => trivial
theorem mild_setFlight {e : Value} {f : Option Addr} : Mild (setFlight e f) := by
  unfold setFlight
  refine Mild.bind mild_field fun tb => ?_
  split
  · exact mild_setField
  · trivial
theorem mild_stack : Mild stack := fun _ => trivial
theorem mild_ready : ∀ l : List Env, Mild (readyFrames l)
  | [] => trivial
  | env :: outer => by
    unfold readyFrames
    split
    · refine Mild.bind (fun _ => trivial) fun o => ?_
      split
      · trivial
      · refine Mild.bind ?_ fun im => Mild.bind ?_ fun back => Mild.bind ⟨fun o => ⟨rfl, id⟩, trivial⟩ fun _ => mild_ready outer
        · unfold behindIsImport
          split
          · trivial
          · split
            · trivial
            · exact Mild.bind mild_field fun _ => trivial
        · unfold keptBack underTheClaimsCaller
          split
          · split
            · trivial
            · exact Mild.bind (Mild.bind mild_stack fun _ => trivial) fun _ => trivial
          · trivial
    · trivial
theorem mild_frameOf {env : Env} : Mild (PySem.frameOf env) := by
  unfold PySem.frameOf frameEnvs
  refine Mild.bind (Mild.bind mild_stack fun _ => trivial) fun es => Mild.bind ?_ fun o => ?_
  · unfold frameObject
    split
    · trivial
    · exact Mild.bind (mild_ready _) fun _ => trivial
  · split <;> trivial
theorem mild_place {f : Addr} {b : Bool} : Mild (entryPlaceOf f b) := by
  unfold entryPlaceOf
  refine Mild.bind mild_stack fun a => ?_
  split <;> trivial
theorem mild_newEntry {a b c d e : Value} {l : List Value} : Mild (EntryCells.newEntry a b c d e l) := by
  unfold EntryCells.newEntry newFields newObj newObjAsIs
  dsimp only
  split <;> split <;> first | trivial | exact fun _ => trivial
theorem mild_note {e : Value} {env : Env} : Mild (noteFrame e env) := by
  unfold noteFrame
  split
  · refine Mild.bind mild_field fun hd => ?_
    have rest : ∀ (f : Addr) (hd : Value), Mild (do setField e 1 (← EntryCells.newEntry hd (← PySem.frameOf env) .none (rawInt f) .none (← entryPlaceOf f (hd != .none)))) := fun f hd =>
      Mild.bind mild_frameOf fun _ => Mild.bind mild_place fun _ => Mild.bind mild_newEntry fun _ => mild_setField
    split
    · refine Mild.bind mild_field fun x => ?_
      split
      · trivial
      · exact Mild.bind mild_setField fun _ => rest _ _
    · exact rest _ _
  · trivial
theorem mild_leaving {e : Value} {env : Env} : Mild (leaving env e) := Mild.bind mild_note fun _ => mild_setFlight
def Flies (B : Heap) (l : List Env) (a C : Addr) (od : Option Addr) (h : Heap) : Prop :=
  (∃ t, Heap.FlyingW B l a (.ref C) (.ref t) h) ∧ ∃ oe, h.get? a = some oe ∧ oe.dict = od
structure Gone (P : Program) (w : World) (outer : List Env) (H H' : Hp) (s s' : Shared) (a C : Addr) (od : Option Addr) (B : Heap) : Prop where
  os : s'.os = s.os
  bare : AllBare s'.gens
  fly : Flies B outer a C od s'.heap
  un : Un (frs outer) [] H H' s.heap s'.heap
  hok : HOk P w H' s'.heap
  old : ∀ b o, s.heap.get? b = some o → b ∉ frs outer → ∃ o', B.get? b = some o'
  trk : ∀ b u, H' b = some u → ∃ o', B.get? b = some o'
def CX1 (P : Program) (w : World) : CXT := fun outer H s E e s' => ∃ a C od B H', e = .ref a ∧ Gone P w outer H H' s s' a C od B ∧ E (.ref C) od H'
section
variable {P : Program} {w : World}
theorem hok_in {H : Hp} {h h' B : Heap} (ok : HOk P w H h) (k1 : B.StaysIn h) (k2 : B.StaysIn h') (t : ∀ b u, H b = some u → ∃ o', B.get? b = some o') : HOk P w H h' := fun a o e =>
  (ok a o e).stay (fun b u hb q => by
    have hb' : ∃ v, H b = some v := by
      rcases hb with rfl | hb
      · exact ⟨o, e⟩
      · exact ⟨_, hb⟩
    obtain ⟨v, hv⟩ := hb'
    obtain ⟨o', h1⟩ := t b v hv
    have h2 := k1 b o' h1
    rw [q] at h2
    cases h2
    exact k2 b _ h1) (fun _ q => q) fun _ _ q => q
theorem HOk.get {H : Hp} {h : Heap} {a : Addr} {o : HO} (x : HOk P w H h) (e : H a = some o) : ∃ ob, h.get? a = some ob := by
  have x := x a o e
  induction o with
  | lst xs => obtain ⟨_, _, _, _, e⟩ := x; exact ⟨_, e⟩
  | tup xs => obtain ⟨_, _, _, _, e, _⟩ := x; exact ⟨_, e⟩
  | dK kvs => obtain ⟨_, _, _, _, o, _, _, e, _⟩ := x; exact ⟨_, e⟩
  | dT kvs => obtain ⟨_, _, _, _, o, _, _, e, _⟩ := x; exact ⟨_, e⟩
  | set S n => obtain ⟨o, _, _, _, e, _⟩ := x; exact ⟨_, e⟩
  | ins C dx fs => obtain ⟨_, _, _, e, _⟩ := x; exact ⟨_, e⟩
  | own y => exact x
  | xd fs => obtain ⟨_, ⟨_, _, _, e, _⟩, _⟩ := x; exact ⟨_, e⟩
  | rng lo hi => obtain ⟨_, _, _, e⟩ := x; exact ⟨_, e⟩
  | frz ob u => obtain ⟨e, _⟩ := x; exact ⟨_, e⟩
  | tbl ps => exact ⟨_, show h.get? a = some _ from x⟩
  | met f y => exact ⟨_, show h.get? a = some _ from x⟩
  | ext φ => obtain ⟨_, q, _⟩ := x; exact q
theorem hide_get {h : Heap} {as : List Addr} {b : Addr} {o : Obj} (e : h.get? b = some o) (n : b ∉ as) : (PySem.W.hideAll h as).get? b = some o := PySem.W.hideAll_get _ e n
end
section
variable {CX : CXT} {P : Program} {w : World} {K : PySem.W.Frag} {mg : Str → Option Value} {base : Heap} {N : List Str} {qual : Str} {scope : Scope} {f : Addr} {cd : Value} {A : Around} {outer : List Env} {s : Shared} {H : Hp} {E : XK}
theorem pass1 : Passes (CX1 P w) (cxOf (CX1 P w) P w K mg base N qual scope f cd A outer s H E) E := fun pins σ H1 s1 e s2 I hc => by
  obtain ⟨a, C, od, B, H2, rfl, g, he⟩ := hc
  obtain ⟨⟨t, fl⟩, hd⟩ := g.fly
  show wpAny _ _ (leaving _ _) _ _ s2
  have hne : ∀ b o, s.heap.get? b = some o → b ≠ s.heap.objs.size := fun b o e z => Nat.lt_irrefl _ (z ▸ Heap.lt_size e)
  have hst : ∀ b o, s.heap.get? b = some o → b ∉ frs outer → b ∉ frs (envOfC qual scope s.heap.objs.size f cd :: outer) := fun b o e n z => by
    unfold frs at z n
    rw [List.filterMap_cons] at z
    have z : b ∈ s.heap.objs.size :: List.filterMap (fun x : Env => x.frame) outer := z
    rcases List.mem_cons.mp z with z | z
    · exact hne b o e z
    · exact n z
  have hin : ∀ b, b ∈ frs outer → b ∈ frs (envOfC qual scope s.heap.objs.size f cd :: outer) := fun b z => by
    unfold frs at z ⊢
    rw [List.filterMap_cons]
    exact List.mem_cons_of_mem _ z
  obtain ⟨oe, ho0, ho1⟩ := hd
  refine wpAny_mono (mild_leaving.any (wpAny_leaves_onW (E := fun _ _ => False) (Q := fun _ s' => ∃ h', s' = { s2 with heap := h' } ∧ Heap.FlyingW B outer a (.ref C) (.ref t) h' ∧ s2.heap.UpToSlots h') I.ok.frames rfl fl fun h' fl' sm => ⟨h', rfl, fl', sm⟩)) (fun _ s3 ⟨⟨h', e3, fl', sm⟩, dk⟩ => ?_) fun _ _ z => z.1.elim
  subst e3
  obtain ⟨oe', ho2, ho3⟩ := dk a oe ho0
  refine ⟨a, C, od, B, H2, rfl, ⟨g.os.trans I.os, g.bare, ⟨⟨t, fl'⟩, oe', ho2, ho3.trans ho1⟩, ?_, hok_in g.hok fl.1 fl'.1 g.trk, ?_, g.trk⟩, he⟩
  · have hu : Un (frs outer) [] H H1 s.heap s1.heap := I.base
    refine ⟨fun b o q n hb _ => ?_, fun b o q n hb _ => ?_, fun b o q n _ => ?_, fun b o q _ => ?_, fun b xs q => g.un.tups b xs (hu.tups b xs q), fun b o u q => g.un.frzs b o u (hu.frzs b o u q), fun b ps q => ?_⟩
    · have q1 := hu.keep b o q n hb (by simp)
      have n1 := hu.free b o q n (by simp)
      have q2 := g.un.keep b o q1 n1 (hst b o q hb) (by simp)
      obtain ⟨o', ho⟩ := g.old b o q1 (hst b o q hb)
      have h2 := fl.1 b o' ho
      rw [q2] at h2
      cases h2
      exact fl'.1 b _ ho
    · obtain ⟨sl, q1⟩ := hu.slot b o q n hb (by simp)
      have n1 := hu.free b o q n (by simp)
      obtain ⟨sl2, q2⟩ := g.un.slot b _ q1 n1 (hin b hb) (by simp)
      obtain ⟨_, oo, ho, hnf⟩ := fl.2.2.1.mem (hin b hb)
      rw [q2] at ho
      cases ho
      obtain ⟨sl3, q3⟩ := sm b _ q2 hnf
      exact ⟨sl3, q3⟩
    · obtain ⟨o1, q1⟩ := hu.there b o q (by simp)
      exact g.un.free b o1 q1 (hu.free b o q n (by simp)) (by simp)
    · obtain ⟨o1, q1⟩ := hu.there b o q (by simp)
      by_cases hb : b ∈ frs outer
      · obtain ⟨_, oo, ho, hnf⟩ := fl.2.2.1.mem (hin b hb)
        obtain ⟨sl3, q3⟩ := sm b _ ho hnf
        exact ⟨_, q3⟩
      · obtain ⟨o', ho⟩ := g.old b o1 q1 (hst b o q hb)
        exact ⟨o', fl'.1 b _ ho⟩
    · obtain ⟨m1, e1⟩ := hu.tbls b ps q
      obtain ⟨m2, e2⟩ := g.un.tbls b _ e1
      exact ⟨m1 ++ m2, by rw [e2, Array.append_assoc]⟩
  · intro b o q hb
    have hu : Un (frs outer) [] H H1 s.heap s1.heap := I.base
    obtain ⟨o1, q1⟩ := hu.there b o q (by simp)
    exact g.old b o1 q1 (hst b o q hb)
theorem raise2 {pins : List (Addr × Obj)} {σ : St} {H1 : Hp} {s1 : Shared} {a C t : Addr} {oe : Obj} {vs : Array Value} (I : Inv (cxOf (CX1 P w) P w K mg base N qual scope f cd A outer s H E) pins σ H1 s1) (n1 : H1 a = none) (n0 : s.heap.get? a = none)
    (ho : s1.heap.get? a = some oe) (hc : oe.cls = .ref C) (hv : oe.data = .fields vs) (h1 : vs[1]? = some .none) (h0 : vs[0]? = some (.ref t)) (he : E (.ref C) oe.dict H1) : (cxOf (CX1 P w) P w K mg base N qual scope f cd A outer s H E).xe (.ref a) s1 := by
  show wpAny _ _ (leaving _ _) _ _ _
  have hu : Un (frs outer) [] H H1 s.heap s1.heap := I.base
  have hne : ∀ b o, s.heap.get? b = some o → b ≠ s.heap.objs.size := fun b o e z => Nat.lt_irrefl _ (z ▸ Heap.lt_size e)
  have hst : ∀ b o, s.heap.get? b = some o → b ∉ frs outer → b ∉ frs (envOfC qual scope s.heap.objs.size f cd :: outer) := fun b o e n z => by
    unfold frs at z n
    rw [List.filterMap_cons] at z
    have z : b ∈ s.heap.objs.size :: List.filterMap (fun x : Env => x.frame) outer := z
    rcases List.mem_cons.mp z with z | z
    · exact hne b o e z
    · exact n z
  have hsub : ∀ b, b ∈ frs outer → b ∈ frs (envOfC qual scope s.heap.objs.size f cd :: outer) := fun b z => by
    unfold frs at z ⊢
    rw [List.filterMap_cons]
    exact List.mem_cons_of_mem _ z
  generalize hB : PySem.W.hideAll s1.heap (a :: frs (envOfC qual scope s.heap.objs.size f cd :: outer)) = B
  have hin : ∀ env ∈ (envOfC qual scope s.heap.objs.size f cd :: outer), ∀ b, env.frame = some b → b ∈ a :: frs (envOfC qual scope s.heap.objs.size f cd :: outer) := fun env he b hb => List.mem_cons_of_mem _ (List.mem_filterMap.mpr ⟨env, he, hb⟩)
  have ff : s1.heap.FunFrames B (envOfC qual scope s.heap.objs.size f cd :: outer) := hB ▸ PySem.W.funFrames_hide I.stack hin
  have of : ∀ b o, B.get? b = some o → s1.heap.get? b = some o := fun b o q => PySem.W.of_hideAll _ (hB ▸ q)
  have to : ∀ b o, s1.heap.get? b = some o → b ≠ a → b ∉ frs (envOfC qual scope s.heap.objs.size f cd :: outer) → B.get? b = some o := fun b o q n1 n2 => hB ▸ hide_get q (fun z => by
    rcases List.mem_cons.mp z with z | z
    · exact n1 z
    · exact n2 z)
  have ba : B.get? a = none := hB ▸ PySem.W.hideAll_none _ List.mem_cons_self
  have trk : ∀ b u, H1 b = some u → ∃ o', B.get? b = some o' := fun b u q => by
    have hb : b ∉ frs (envOfC qual scope s.heap.objs.size f cd :: outer) := fun z => by
      have := I.stkFree b z
      rw [q] at this
      cases this
    obtain ⟨o, ho⟩ : ∃ o, s1.heap.get? b = some o := I.hok.get q
    exact ⟨o, to b o ho (ne_of_none q n1) hb⟩
  refine wpAny_mono (mild_leaving.any (wpAny_leaving_firstW (E := fun _ _ => False) (Q := fun _ s' => ∃ h', s' = { s1 with heap := h' } ∧ Heap.LeftW B (envOfC qual scope s.heap.objs.size f cd :: outer) a oe.cls (.ref t) s1.heap h') I.ok.frames ff rfl ho of ba hv h1 h0 fun h' l => ⟨h', rfl, l⟩)) (fun _ s3 ⟨⟨h', e3, k1, ⟨_, _, k2⟩, k3, sm⟩, dk⟩ => ?_) fun _ _ z => z.1.elim
  subst e3
  obtain ⟨oe', ho2, ho3⟩ := dk a oe ho
  have na : ∀ b o, s.heap.get? b = some o → b ≠ a := fun b o q z => by rw [z, n0] at q; cases q
  refine ⟨a, C, oe.dict, B, H1, rfl, ⟨I.os, I.bare, ⟨⟨t, k1, ba, k2, hc ▸ k3⟩, oe', ho2, ho3⟩, ?_, hok_in I.hok of k1 trk, ?_, trk⟩, he⟩
  · refine ⟨fun b o q n hb _ => ?_, fun b o q n hb _ => ?_, fun b o q n _ => hu.free b o q n (by simp), fun b o q _ => ?_, hu.tups, hu.frzs, hu.tbls⟩
    · exact k1 b o (to b o (hu.keep b o q n hb (by simp)) (na b o q) (hst b o q hb))
    · obtain ⟨sl, q1⟩ := hu.slot b o q n hb (by simp)
      obtain ⟨_, oo, ho, hnf⟩ := ff.mem (hsub b hb)
      rw [q1] at ho
      cases ho
      obtain ⟨sl3, q3⟩ := sm b _ q1 hnf
      exact ⟨sl3, q3⟩
    · obtain ⟨o1, q1⟩ := hu.there b o q (by simp)
      by_cases hb : b ∈ frs outer
      · obtain ⟨_, oo, ho, hnf⟩ := ff.mem (hsub b hb)
        obtain ⟨sl3, q3⟩ := sm b _ ho hnf
        exact ⟨_, q3⟩
      · exact ⟨o1, k1 b _ (to b o1 q1 (na b o q) (hst b o q hb))⟩
  · intro b o q hb
    obtain ⟨o1, q1⟩ := hu.there b o q (by simp)
    exact ⟨o1, to b o1 q1 (na b o q) (hst b o q hb)⟩
end
end L2
set_option Elab.async false
set_option linter.all false
set_option maxRecDepth 100000
set_option maxHeartbeats 1000000
namespace DL
open PySem PySem.Spec PyProof.Rows L2
def Fds (K : PySem.W.Frag) (G : Wd) (od : Option Addr) (fs : List (Str × D)) : Prop := fs = [] ∨ ∃ dx vs, od = some dx ∧ G.g dx = some (.xd vs) ∧ FsIs K G fs vs
abbrev XR := Addr → List (Str × D) → Sto → Prop
abbrev SpX := List D → Sto → (D → Sto → Prop) → XR → Prop
def toSpX (K : PySem.W.Frag) (sp : SpX) : Sp := fun vs H Q E => ∃ G O ds R RX, SA K G H O ∧ Iss K G ds vs ∧ sp ds O R RX ∧ (∀ v d O' G' H', Ext G G' → SA K G' H' O' → Is K G' d v → R d O' → Q v H') ∧
  ∀ C fs od O' G' H', Ext G G' → SA K G' H' O' → Fds K G' od fs → RX C fs O' → E (.ref C) od H'
def Thr (X : Cx) (C : Addr) (od : Option Addr) (σ : L2.St) (H' : Hp) : Prop := ∀ pins H1 s1 a B s2, L2.Inv X pins σ H1 s1 → Gone X.prog X.w X.stack H1 H' s1 s2 a C od B → X.xe (.ref a) s2
def ThrM (X : Cx) (C : Addr) (od : Option Addr) (σ : L2.St) (H' : Hp) : Prop := ∀ pins s1 a t oe vs, L2.Inv X pins σ H' s1 → H' a = none → X.s₀.heap.get? a = none → s1.heap.get? a = some oe → oe.cls = .ref C → oe.data = .fields vs → vs[1]? = some .none → vs[0]? = some (.ref t) → oe.dict = od → X.xe (.ref a) s1
abbrev XC := Addr → List (Str × D) → Rho → Sto → Prop
def ContX (X : Cx) (mk : Prop) (G : Wd) (RX : XC) : Prop := ∀ C fs od σ ρ O' G' H', Ext G G' → SA X.K G' H' O' → EnvR X.K G' σ ρ → Fds X.K G' od fs → RX C fs ρ O' → Thr X C od σ H' ∧ (mk → ThrM X C od σ H')
theorem ContX.ext {X : Cx} {mk : Prop} {G G' : Wd} {RX : XC} (h : ContX X mk G RX) (e : Ext G G') : ContX X mk G' RX := fun C fs od σ ρ O' G2 H' e2 => h C fs od σ ρ O' G2 H' (e.trans e2)
def EvX (X : Cx) (mk : Prop) (ρ : Rho) (O : Sto) (e : Expr) (R : D → Sto → Prop) (RX : XC) : Prop :=
  ∀ G, PE X e (fun σ H Q => SA X.K G H O ∧ EnvR X.K G σ ρ ∧ (∀ v d O' G' H', Ext G G' → SA X.K G' H' O' → Is X.K G' d v → R d O' → Q v H') ∧ ContX X mk G RX)
def ExX (X : Cx) (mk : Prop) (ρ : Rho) (O : Sto) (st : Stmt) (P : Post) (RX : XC) : Prop := ∀ G, PS X st (fun E σ H => SA X.K G H O ∧ EnvR X.K G σ ρ ∧ Conts X.K G P E ∧ ContX X mk G RX)
def ExsX (X : Cx) (mk : Prop) (ρ : Rho) (O : Sto) (st : List Stmt) (P : Post) (RX : XC) : Prop := ∀ G, PSs X st (fun E σ H => SA X.K G H O ∧ EnvR X.K G σ ρ ∧ Conts X.K G P E ∧ ContX X mk G RX)
section
variable {X : Cx} {mk : Prop} {ρ : Rho} {O : Sto} {e a b c o : Expr} {es : List Expr} {d da db : D} {ds : List D} {R : D → Sto → Prop} {RX : XC} {pos p apos : Pos} {x m : Str} {st : Stmt} {rest body orelse : List Stmt} {P : Post} {C : Addr} {q : Nat} {fs : List (Str × D)}
theorem _root_.DL.Exs.x_ (h : Exs X ρ O rest P) : ExsX X mk ρ O rest P RX := fun G => PSs.imp (h G) fun E σ H ⟨h1, h2, h3, _⟩ => ⟨h1, h2, h3⟩
theorem xX_nil (h : P.nx ρ O) : ExsX X mk ρ O [] P RX := Exs.x_ (xs_nil h)
theorem xX_cons (h : ExX X mk ρ O st { P with nx := fun ρ' O' => ExsX X mk ρ' O' rest P RX } RX) : ExsX X mk ρ O (st :: rest) P RX := fun G =>
  PSs.imp (pss_cons (h G) (u := fun E σ H => ∃ G1 ρ1 O1, SA X.K G1 H O1 ∧ EnvR X.K G1 σ ρ1 ∧ ExsX X mk ρ1 O1 rest P RX ∧ Conts X.K G1 P E ∧ ContX X mk G1 RX) (fun pins s σ H E I ⟨G1, ρ1, O1, q1, q2, q3, q4, q5⟩ => q3 G1 pins s σ H E I ⟨q1, q2, q4, q5⟩)) fun E σ H ⟨h1, h2, h3, h4⟩ =>
    ⟨h1, h2, ⟨fun σ1 ρ1 O1 G1 H1 e1 s1 n1 q1 => ⟨G1, ρ1, O1, s1, n1, q1, h3.ext e1, h4.ext e1⟩, h3.rt, h3.bk, h3.ct⟩, h4⟩
theorem xX_if {k : Bool} (hc : EvT X ρ O c k) (h1 : k = true → ExsX X mk ρ O body P RX) (h2 : k = false → ExsX X mk ρ O orelse P RX) : ExX X mk ρ O (.If c body orelse pos) P RX := fun G =>
  PS.imp (ps_if (hc G) (t := fun E σ H => ∃ G1, k = true ∧ SA X.K G1 H O ∧ EnvR X.K G1 σ ρ ∧ Conts X.K G1 P E ∧ ContX X mk G1 RX) (fun pins s σ H E I ⟨G1, z, q⟩ => h1 z G1 pins s σ H E I q)
    (u := fun E σ H => ∃ G1, k = false ∧ SA X.K G1 H O ∧ EnvR X.K G1 σ ρ ∧ Conts X.K G1 P E ∧ ContX X mk G1 RX) (fun pins s σ H E I ⟨G1, z, q⟩ => h2 z G1 pins s σ H E I q)) fun E σ H ⟨q1, q2, q3, q4⟩ =>
    ⟨q1, q2, fun G' H' e1 s1 => by
      cases k with
      | true => exact iteT ⟨G', rfl, s1, q2.ext e1, q3.ext e1, q4.ext e1⟩
      | false => exact iteF ⟨G', rfl, s1, q2.ext e1, q3.ext e1, q4.ext e1⟩⟩
theorem xX_expr (h : EvX X mk ρ O e (fun _ O' => P.nx ρ O') RX) (hs : swapsWith e none pos.line X.env = pure false := by rfl) : ExX X mk ρ O (.Expr e pos) P RX := fun G => PS.imp (ps_expr (h G) hs) fun E σ H ⟨h1, h2, h3, h4⟩ =>
  ⟨h1, h2, fun v d O' G' H' e1 s1 i1 r1 => h3.nx σ ρ O' G' H' e1 s1 (h2.ext e1) r1, h4⟩
theorem xX_set (i : Nat) (he : EvX X mk ρ O e (fun d O' => P.nx (ρ.set i (some d)) O') RX) (hN : X.N.Nodup) (hi : X.N[i]? = some x := by rfl) (hx : Loc X.env.scope x := by first | exact Or.inl rfl | exact Or.inr rfl) {p : Pos}
    (hs : swapsWith e (some (.Name x p)) pos.line X.env = pure false := by rfl) (hf : X.fn x = true ∨ X.env.scope.names.lookup x = some .local := by first | exact .inl rfl | exact .inr rfl | assumption) : ExX X mk ρ O (.Assign [.Name x p] e pos) P RX := fun G =>
  PS.imp (ps_set hN hi hx (he G) hs hf) fun E σ H ⟨h1, h2, h3, h4⟩ => ⟨h1, h2, fun v d O' G' H' e1 s1 i1 r1 => h3.nx _ _ O' G' H' e1 s1 ((h2.ext e1).set i i1) r1, h4⟩
theorem run_fnX {CX : CXT} {k : Nat} {f : Addr} {fd : FuncData} {ps : List Str} {sp : Sp} {E : XK} {pins : List (Addr × Obj)} {σ : L2.St} {H : Hp} {s : Shared} {Q : VK} {us : List Value} {vs : List V} (F : FnOk X.prog X.w X.K X.mg X.base CX k f fd ps sp) (hr : Room k X.A) (hb : Binds X.K fd ps [])
    (I : L2.Inv X pins σ H s) (r : Vals vs us) (h : sp vs H Q E) (hx : ∀ e s', CX X.stack H s E e s' → X.xe e s') : wpAny (model X.prog X.w) X.A (call (.ref f) us) (EP X pins σ Q) X.xe s := by
  have hl : us.length = ps.length := by rw [← r.length]; exact F.len _ _ _ _ h
  have hb' := hb s us I.kIn (by rw [List.append_nil]; exact hl)
  rw [List.append_nil] at hb'
  refine wpAny_call (codeAny_mono (F.run X.A X.stack s H ⟨us, []⟩ us vs Q E hr I.env0 hb' r h) fun r s' hq => ?_)
  match r, hq with
  | .error e, hq => exact hx e s' hq
  | .ok (.ret u), hq => exact I.after hq
theorem thr_of {G : Wd} {H' H1 : Hp} {σ : L2.St} {pins : List (Addr × Obj)} {s1 s2 : Shared} {e : Value} {E : XK} (I : L2.Inv X pins σ H1 s1) (k : ∀ C od H2, E (.ref C) od H2 → Thr X C od σ H2) (h : CX1 X.prog X.w X.stack H1 s1 E e s2) : X.xe e s2 := by
  obtain ⟨a, C, od, B, H2, rfl, g, he⟩ := h
  exact k C od H2 he pins H1 s1 a B s2 I g
def EOf (X : Cx) (σ : L2.St) : XK := fun c od H' => ∀ C, c = .ref C → Thr X C od σ H'
theorem eof_thr {σ : L2.St} : ∀ C od H2, EOf X σ (.ref C) od H2 → Thr X C od σ H2 := fun C od H2 h => h C rfl
structure DefX (P : Program) (w : World) (K : PySem.W.Frag) (mg : Str → Option Value) (base : Heap) (k : Nat) (x : Str) (sp : SpX) : Prop where
  ex : ∃ f fd ps, FnOk P w K mg base (CX1 P w) k f fd ps (toSpX K sp) ∧ mg x = some (.ref f) ∧ PySem.W.keepIn K (.ref f) = true ∧ Binds K fd ps []
theorem evX_call {k : Nat} {sp : SpX} (F : DefX X.prog X.w X.K X.mg X.base k x sp) (hr : Room k X.A) (ha : EvPs X ρ O (e :: es) ds) (hs : sp ds O R fun C fs O' => RX C fs ρ O') (hg : Gl X x := by rfl) (hdb : (x == ("__debug__" : Str)) = false := by decide)
    (he : starEach (e :: es) X.env = (false, eval e X.env) :: starEach es X.env := by rfl) (hpl : (backTo pos (starEach es X.env)).any (·.1) = false := by rfl) : EvX X mk ρ O (.Call (.Name x p) (e :: es) [] pos) R RX := fun G pins s σ H Q I ⟨h1, h2, h3, h4⟩ => by
  obtain ⟨f, fd, ps, g1, g2, g3, g4⟩ := F.ex
  refine wpAny_Call_Name_kw (ld_glob I hg g2 ?_ hdb)
  refine PySem.W.callWith_K (h₀ := X.base) I.ok.mod.kin g3 (thn (ha G pos pins s σ H (fun vs H' => ∃ G', Ext G G' ∧ SA X.K G' H' O ∧ Iss X.K G' ds vs) I ⟨h1, h2, fun vs G' H' e1 s1 i1 => ⟨G', e1, s1, i1⟩⟩) fun us s1 ⟨vs, H1, I1, r, G1, e1, sa, i1⟩ => ⟨I1.kIn, ?_⟩) he hpl
  refine run_fnX (E := EOf X σ) g1 hr g4 I1 r ⟨G1, O, ds, R, _, sa, i1, hs, fun v d O' G' H' e2 s2 i2 r2 => h3 v d O' G' H' (e1.trans e2) s2 i2 r2, fun C fs od O' G' H' e2 s2 f2 r2 => ?_⟩ fun e s' hx => thr_of (G := G) (H' := H) I1 eof_thr hx
  intro C' hC
  cases hC
  exact (h4 _ fs od σ ρ O' G' H' (e1.trans e2) s2 (h2.ext (e1.trans e2)) f2 r2).1
structure MethX (P : Program) (w : World) (K : PySem.W.Frag) (mg : Str → Option Value) (base : Heap) (C : Addr) (k : Nat) (m : Str) (sp : SpX) : Prop where
  ex : ∃ f fd ps, FnOk P w K mg base (CX1 P w) k f fd ps (toSpX K sp) ∧ Meth K C m f ∧ Binds K fd ps []
  cls : Cls K C
theorem evX_meth {k : Nat} {sp : SpX} {pl : Sem Bool} (M : MethX X.prog X.w X.K X.mg X.base C k m sp) (hr : Room k X.A) (ho : EvP X ρ O o (.ptr q)) (hq : O[q]? = some (some (.ins C fs))) (hno : fs.lookup m = none) (ha : EvPs X ρ O (e :: es) ds)
    (hs : sp (.ptr q :: ds) O R fun C fs O' => RX C fs ρ O') (hst : starEach (e :: es) X.env = (false, eval e X.env) :: starEach es X.env := by rfl) (hpl : (backTo pos (starEach es X.env)).any (·.1) = false := by rfl)
    (ht : eval (.Call (.Attribute o m apos) (e :: es) [] pos) X.env = (do
      let ov ← eval o X.env
      standAt apos.atName
      let (f, first) ← holding [ov] (getMethod ov m pl)
      callWith pos f first (backTo pos (starEach (e :: es) X.env)) (backToKw pos (keywordEach [] X.env))) := by rfl) : EvX X mk ρ O (.Call (.Attribute o m apos) (e :: es) [] pos) R RX := fun G pins s σ H Q I ⟨h1, h2, h3, h4⟩ => by
  obtain ⟨f, fd, ps, g1, g2, g3⟩ := M.ex
  refine PySem.W.methodCall_KW (pl := pl) (thn (ho G pins s σ H (fun v H' => ∃ G', Ext G G' ∧ SA X.K G' H' O ∧ Is X.K G' (.ptr q) v) I ⟨h1, h2, fun v G' H' e s i => ⟨G', e, s, i⟩⟩) fun u s1 ⟨y, H1, I1, ry, G1, e1, sa1, i1⟩ => ?_) ht
  obtain ⟨a, dx, vs, rfl, k1, k2, k3⟩ := sa1.ins i1 hq
  obtain rfl : u = Value.ref a := ry
  refine getmeth_ok I1 k2 M.cls g2 (k3.none hno) ?_
  refine PySem.W.callWith_K (first := [.ref a]) (h₀ := X.base) I.ok.mod.kin g2.kp (thn (ha G1 pos pins s1 σ H1 (fun vs H' => ∃ G', Ext G1 G' ∧ SA X.K G' H' O ∧ Iss X.K G' ds vs) I1 ⟨sa1, h2.ext e1, fun vs G' H' e1 s1 i1 => ⟨G', e1, s1, i1⟩⟩) fun us s2 ⟨ws, H2, I2, r, G2, e2, sa2, i2⟩ => ⟨I2.kIn, ?_⟩) hst hpl
  have e12 := e1.trans e2
  refine run_fnX (us := .ref a :: us) (vs := .ref a :: ws) (E := EOf X σ) g1 hr g3 I2 (.cons rfl r) ⟨G2, O, .ptr q :: ds, R, _, sa2, .cons (i1.ext e2) i2, hs, fun v d O' G' H' e3 s3 i3 r3 => h3 v d O' G' H' (e12.trans e3) s3 i3 r3, fun C fs od O' G' H' e3 s3 f3 r3 => ?_⟩ fun e s' hx => thr_of (G := G) (H' := H) I2 eof_thr hx
  intro C' hC
  cases hC
  exact (h4 _ fs od σ ρ O' G' H' (e12.trans e3) s3 (h2.ext (e12.trans e3)) f3 r3).1
structure OfClsX (P : Program) (w : World) (K : PySem.W.Frag) (mg : Str → Option Value) (base : Heap) (x : Str) (k : Nat) (m : Str) (sp : SpX) : Prop where
  ex : ∃ C mc f fd ps, mg x = some (.ref C) ∧ PySem.W.specialIn K (.ref C) "__getattribute__" = some (some (.builtin "type.__getattribute__")) ∧ PySem.W.readsIn K C mc = true ∧ PySem.W.findCls K (.ref C) mc m = some (.val (.ref f)) ∧ PySem.W.handedIn (.ref f) = true ∧
    FnOk P w K mg base (CX1 P w) k f fd ps (toSpX K sp) ∧ PySem.W.keepIn K (.ref f) = true ∧ Binds K fd ps []
theorem evX_ofCls {k : Nat} {sp : SpX} {pl : Sem Bool} (M : OfClsX X.prog X.w X.K X.mg X.base x k m sp) (hr : Room k X.A) (ha : EvPs X ρ O (e :: es) ds) (hs : sp ds O R fun C fs O' => RX C fs ρ O') (hg : Gl X x := by rfl) (hdb : (x == ("__debug__" : Str)) = false := by decide)
    (hst : starEach (e :: es) X.env = (false, eval e X.env) :: starEach es X.env := by rfl) (hpl : (backTo pos (starEach es X.env)).any (·.1) = false := by rfl)
    (ht : eval (.Call (.Attribute (.Name x p) m apos) (e :: es) [] pos) X.env = (do
      let ov ← eval (.Name x p) X.env
      standAt apos.atName
      let (f, first) ← holding [ov] (getMethod ov m pl)
      callWith pos f first (backTo pos (starEach (e :: es) X.env)) (backToKw pos (keywordEach [] X.env))) := by rfl) : EvX X mk ρ O (.Call (.Attribute (.Name x p) m apos) (e :: es) [] pos) R RX := fun G pins s σ H Q I ⟨h1, h2, h3, h4⟩ => by
  obtain ⟨C, mc, f, fd, ps, g1, g2, g3, g4, g5, g6, g7, g8⟩ := M.ex
  refine PySem.W.methodCall_KW (pl := pl) (ld_glob I hg g1 (PySem.W.method_cls I.kIn g2 (PySem.W.cls_value I.kIn g3 g4 g5 ?_)) hdb) ht
  have I1 : L2.Inv X pins σ H { s with toks := s.toks + 1 } := I.kept fun _ _ e => e
  refine PySem.W.callWith_K (first := []) (h₀ := X.base) I.ok.mod.kin g7 (thn (ha G pos pins _ σ H (fun vs H' => ∃ G', Ext G G' ∧ SA X.K G' H' O ∧ Iss X.K G' ds vs) I1 ⟨h1, h2, fun vs G' H' e1 s1 i1 => ⟨G', e1, s1, i1⟩⟩) fun us s2 ⟨vs, H2, I2, r, G1, e1, s1, i1⟩ => ⟨I2.kIn, ?_⟩) hst hpl
  refine run_fnX (E := EOf X σ) g6 hr g8 I2 r ⟨G1, O, ds, R, _, s1, i1, hs, fun v d O' G' H' e2 s2 i2 r2 => h3 v d O' G' H' (e1.trans e2) s2 i2 r2, fun C fs od O' G' H' e2 s2 f2 r2 => ?_⟩ fun e s' hx => thr_of (G := G) (H' := H) I2 eof_thr hx
  intro C' hC
  cases hC
  exact (h4 _ fs od σ ρ O' G' H' (e1.trans e2) s2 (h2.ext (e1.trans e2)) f2 r2).1
structure MakeX (P : Program) (w : World) (K : PySem.W.Frag) (mg : Str → Option Value) (base : Heap) (C : Addr) (k : Nat) (x : Str) (sp : SpX) : Prop where
  ex : ∃ f fd ps, FnOk P w K mg base (CX1 P w) k f fd ps (toSpX K sp) ∧ Mk K C f ∧ Binds K fd ps []
  at_ : mg x = some (.ref C)
theorem evX_make {k : Nat} {sp : SpX} (M : MakeX X.prog X.w X.K X.mg X.base C k x sp) (hr : Room (k + 1) X.A) (ha : EvPs X ρ O (e :: es) ds)
    (hs : sp (.ptr O.length :: ds) (O ++ [some (.ins C [])]) (fun d O' => d = .non ∧ R (.ptr O.length) O') fun C fs O' => RX C fs ρ O')
    (hg : Gl X x := by rfl) (hdb : (x == ("__debug__" : Str)) = false := by decide) (he : starEach (e :: es) X.env = (false, eval e X.env) :: starEach es X.env := by rfl) (hpl : (backTo pos (starEach es X.env)).any (·.1) = false := by rfl) :
    EvX X mk ρ O (.Call (.Name x p) (e :: es) [] pos) R RX := fun G pins s σ H Q I ⟨h1, h2, h3, h4⟩ => by
  obtain ⟨f, fd, ps, g1, g2, g3⟩ := M.ex
  refine wpAny_Call_Name_kw (ld_glob I hg M.at_ ?_ hdb)
  refine PySem.W.callWith_K (h₀ := X.base) I.ok.mod.kin g2.kp (thn (ha G pos pins s σ H (fun vs H' => ∃ G', Ext G G' ∧ SA X.K G' H' O ∧ Iss X.K G' ds vs) I ⟨h1, h2, fun vs G' H' e1 s1 i1 => ⟨G', e1, s1, i1⟩⟩) fun us s1 ⟨vs, H1, I1, r, G1, e1, sa, i1⟩ => ⟨I1.kIn, ?_⟩) he hpl
  obtain ⟨e2, sa2⟩ := made (C := C) sa (I1.hok.fresh (Nat.le_succ _)) (I1.hok.fresh (Nat.le_refl _)) (Nat.ne_of_lt (Nat.lt_succ_self _))
  have I2 := L2.Inv.made (C := C) I1
  have e12 := e1.trans e2
  have iy : Is X.K ⟨G1.g, G1.l ++ [s1.heap.objs.size + 1]⟩ (.ptr O.length) (.ref (s1.heap.objs.size + 1)) := .ptr _ (by rw [← sa.len, List.getElem?_append_right (Nat.le_refl _), Nat.sub_self]; rfl)
  have hsp : toSpX X.K sp (V.ref (s1.heap.objs.size + 1) :: vs) (upd (upd H1 s1.heap.objs.size (.own (s1.heap.objs.size + 1))) (s1.heap.objs.size + 1) (.ins C s1.heap.objs.size [])) (fun v H2 => v = .non ∧ Q (.ref (s1.heap.objs.size + 1)) H2) (EOf X σ) := by
    refine ⟨_, _, .ptr O.length :: ds, _, _, sa2, .cons iy (i1.ext e2), hs, fun v d O' G' H' e3 s3 i3 r3 => ?_, fun C fs od O' G' H' e3 s3 f3 r3 => ?_⟩
    · obtain ⟨rfl, r⟩ := r3
      cases i3
      exact ⟨rfl, h3 _ _ O' G' H' (e12.trans e3) s3 (iy.ext e3) r⟩
    · intro C' hC
      cases hC
      exact (h4 _ fs od σ ρ O' G' H' (e12.trans e3) s3 (h2.ext (e12.trans e3)) f3 r3).1
  have r2 : Vals (V.ref (s1.heap.objs.size + 1) :: vs) (Value.ref (s1.heap.objs.size + 1) :: us) := .cons rfl r
  have hl : (Value.ref (s1.heap.objs.size + 1) :: us).length = ps.length := by rw [← r2.length]; exact g1.len _ _ _ _ hsp
  have hb := g3 { s1 with heap := _ } (Value.ref (s1.heap.objs.size + 1) :: us) I2.kIn (by rw [List.append_nil]; exact hl)
  rw [List.append_nil] at hb
  refine wpAny_call (make_map (f := f) I1.kIn g2.makes g2.init (beq_iff_eq.mp g2.fn) (codeAny_mono (g1.run _ X.stack _ _ ⟨Value.ref (s1.heap.objs.size + 1) :: us, []⟩ _ _ _ (EOf X σ) (hr.make C us []) (I2.env0.make C us []) hb r2 hsp) fun r s' hq' => ?_))
  match r, hq' with
  | .error e, hq' => exact thr_of (G := G) (H' := H) I2 eof_thr hq'
  | .ok (.ret u), hq' =>
    obtain ⟨v, H', I3, rv, ev, q3⟩ := I2.after hq'
    subst ev
    exact ⟨rv, ⟨V.ref (s1.heap.objs.size + 1), H', I3, rfl, q3⟩⟩
end
section
variable {P : Program} {w : World} {K : PySem.W.Frag} {mg : Str → Option Value} {base : Heap}
theorem okX {x qual : Str} {st : Stmt} {f : Addr} {fd : FuncData} {N ps : List Str} {k : Nat} {sp : SpX} (F : Fun K x qual st f fd) (S : FnScope N ps (defScope st)) (len : ∀ ds O R RX, sp ds O R RX → ds.length = ps.length)
    (hbody : ∀ (cdv : Value) (A : Around) (outer : List Env) (s : Shared) (H : Hp) (E : XK) (ds : List D) (O : Sto) (R : D → Sto → Prop) (RX : XR), Room k (A.deeper (envOfC qual (defScope st) s.heap.objs.size f cdv)) → sp ds O R RX →
      ExsX (cxOf (CX1 P w) P w K mg base N qual (defScope st) f cdv A outer s H E) True (startD N ds) O (defBody st) { nx := fun _ O' => R .non O', rt := R } fun C fs _ O' => RX C fs O') : FnOk P w K mg base (CX1 P w) (k + 1) f fd ps (toSpX K sp) := by
  obtain ⟨oc, od, kV, doc, pm, an, cdv, ct, osl, rfl, lk, hcd⟩ := F.ex
  refine fn_of lk hcd S (fun vs H Q E h => ?_) fun A outer s H vs Q E hr h => ?_
  · obtain ⟨G, O, ds, R, RX, h1, h2, h3, h4⟩ := h
    rw [← h2.length]
    exact len _ _ _ _ h3
  · obtain ⟨G, O, ds, R, RX, h1, h2, h3, h4, h5⟩ := h
    refine ⟨_, hbody cdv A outer s H E ds O R RX hr h3 G, h1, start_env h2, ⟨fun σ ρ O' G' H' e1 s1 n1 q => h4 _ _ O' G' H' e1 s1 .non q, fun v d O' G' H' e1 s1 i1 q => h4 v d O' G' H' e1 s1 i1 q, fun σ ρ O' G' H' e1 s1 n1 q => q.elim, fun σ ρ O' G' H' e1 s1 n1 q => q.elim⟩, ?_⟩
    intro C fs od σ ρ O' G' H' e1 s1 n1 f1 r1
    have hE := h5 C fs od O' G' H' e1 s1 f1 r1
    refine ⟨fun pins H1 s1 a B s2 I g => pass1 pins σ H1 s1 (.ref a) s2 I ⟨a, C, od, B, H', rfl, g, hE⟩, fun _ pins s1 a t oe vs I x1 x2 x3 x4 x5 x6 x7 x8 => raise2 I x1 x2 x3 x4 x5 x6 x7 (x8 ▸ hE)⟩
end
end DL
set_option Elab.async false
set_option linter.all false
set_option maxRecDepth 100000
set_option maxHeartbeats 1000000
namespace L2
open PySem PySem.Spec PyProof.Rows
theorem exc_cls {K : PySem.W.Frag} {h : Heap} {C : Addr} {bmB : List Value} {newId : String} (X : K.In h) (q : PySem.W.excIn K C bmB newId = true) : OwnCls "e" C bmB newId (fun _ => some (.ref C)) h := by
  unfold PySem.W.excIn at q
  split at q
  · rename_i dd cd sl ho
    split at q
    · rename_i C' bm k0 k1 k2 k3 n k5 hm hs
      have e := X _ _ ho
      obtain ⟨nm, bs, mro, ns, qn, hd, sn, sub, ab, col, del⟩ := cd
      obtain ⟨l⟩ := sl
      simp only [Bool.and_eq_true, beq_iff_eq, Bool.not_eq_true'] at q hm hs
      obtain ⟨⟨⟨⟨⟨q1, q2⟩, q3⟩, q4⟩, q5⟩, q6⟩ := q
      subst q1 q2 hm hs
      subst q3
      exact ⟨rfl, bm, ns, nm, qn, bs, hd, sn, sub, ab, col, dd, k0, k1, k2, k3, k5, _, e, .of_isNs (PySem.W.isNs_of_in X q5), PySem.W.nsMap_none_of_in X q5 q6, PySem.W.tail_of_in X q4⟩
    · cases q
  · cases q
section
variable {X : Cx} {pins : List (Addr × Obj)} {σ : St} {H : Hp} {s : Shared}
theorem name_goes {M : Model} {A : Around} {E : Value → Shared → Prop} {i : Nat} {n : Str} {pos : Pos} {Q : Unit → Shared → Prop} (I : Inv X pins σ H s) (hN : X.N.Nodup) (hi : X.N[i]? = some n) (hl : X.env.kindOf n = some .local)
    (h : ∀ s', Inv X pins (σ.set i none) H s' → Q () s') : wpAny M A (do bindName X.env n .none; unbindBehindTheSuite X.env n pos) Q E s := by
  refine wpAny_bind (wpAny_bindName (store_ok I hN hi (.inl hl) (v := .non) (u := .none) rfl (fun s1 I1 => ?_) (.inr hl)))
  have hiσ : i < σ.length := by rw [I.len]; exact (List.getElem?_eq_some_iff.mp hi).1
  obtain ⟨m, hn, hk⟩ := id I1.loc
  obtain ⟨u, ru, lu⟩ := hk i n .non hi (List.getElem?_set_self hiσ) (.inl hl)
  have hv : m n = some u := by
    rcases lu with ⟨_, e⟩ | ⟨k | k, _⟩
    · exact e
    · rw [hl] at k; cases k
    · rw [hl] at k; cases k
  unfold unbindBehindTheSuite
  refine wpAny_onRaise (wpAny_unbindName_local hl hn hv (by rw [I.ok.kind]; rfl) fun h' u' hn' hs => h _ ?_)
  have ne : ∀ b o, X.s₀.heap.get? b = some o → b ≠ X.env.locals := fun b o e => Nat.ne_of_lt (Nat.lt_of_lt_of_le (Heap.lt_size e) I.ok.above)
  refine ⟨I1.ok, I1.os, I1.bare, ⟨fun b o e n hb hx => (hs.2 b (ne b o e)).trans (I1.base.keep b o e n hb hx), fun b o e n hb hx => ?_, I1.base.free, fun b o e hx => ?_, I1.base.tups, I1.base.frzs, I1.base.tbls⟩, ⟨_, hn', fun j y v' e1 e2 e3 => ?_⟩, fun y c e => ?_, I1.free, I1.freeC, fun p hp => ?_, fun b ob e => ?_, by simpa using I.len⟩
  · obtain ⟨sl, q⟩ := I1.base.slot b o e n hb hx
    exact ⟨sl, (hs.2 b (ne b o e)).trans q⟩
  · obtain ⟨o', q⟩ := I1.base.there b o e hx
    exact ⟨o', (hs.2 b (ne b o e)).trans q⟩
  · have hj : j ≠ i := by
      rintro rfl
      rw [List.getElem?_set_self hiσ] at e2
      cases e2
    rw [List.getElem?_set_ne (Ne.symm hj)] at e2
    obtain ⟨u2, r2, q⟩ := hk j y v' e1 (by rw [List.getElem?_set_ne (Ne.symm hj)]; exact e2) e3
    refine ⟨u2, r2, ?_⟩
    rcases q with ⟨k, e⟩ | ⟨k, c, e, z⟩
    · refine .inl ⟨k, ?_⟩
      have : y ≠ n := fun e => hj (nodup_ix hN e1 (e ▸ hi))
      simp [this, e]
    · exact .inr ⟨k, c, e, z.sameBut hs (I.cne y c e)⟩
  · obtain ⟨w', z⟩ := I1.cell y c e
    exact ⟨w', z.sameBut hs (I.cne y c e)⟩
  · obtain ⟨e, n, ne, nf, d⟩ := I1.pin p hp
    exact ⟨(hs.2 p.1 ne).trans e, n, ne, nf, d⟩
  · refine (I1.hok b ob e).stay (fun c w' hc q => (hs.2 c ?_).trans q) (fun _ q => q) fun _ _ q => q
    intro z
    subst z
    rcases hc with hc | hc
    · rw [← hc, I1.free] at e; cases e
    · rw [I1.free] at hc; cases hc
theorem Gone.on {P : Program} {w : World} {l : List Env} {H H' : Hp} {s s' : Shared} {a C t : Addr} {od : Option Addr} {B h' : Heap} (g : Gone P w l H H' s s' a C od B) (fl' : Heap.FlyingW B l a (.ref C) (.ref t) h') (sm : s'.heap.UpToSlots h') (dk : DK s'.heap h') :
    Gone P w l H H' s { s' with heap := h' } a C od B := by
  obtain ⟨⟨t0, fl⟩, oe, ho0, ho1⟩ := g.fly
  obtain ⟨oe', ho2, ho3⟩ := dk a oe ho0
  refine ⟨g.os, g.bare, ⟨⟨t, fl'⟩, oe', ho2, ho3.trans ho1⟩, ⟨fun b o q n hb _ => ?_, fun b o q n hb _ => ?_, fun b o q n hx => g.un.free b o q n hx, fun b o q _ => ?_, g.un.tups, g.un.frzs, g.un.tbls⟩, hok_in g.hok fl.1 fl'.1 g.trk, g.old, g.trk⟩
  · obtain ⟨o', ho⟩ := g.old b o q hb
    have h2 := fl.1 b o' ho
    rw [g.un.keep b o q n hb (by simp)] at h2
    cases h2
    exact fl'.1 b _ ho
  · obtain ⟨sl, q1⟩ := g.un.slot b o q n hb (by simp)
    obtain ⟨_, oo, ho, hnf⟩ := fl.2.2.1.mem hb
    rw [q1] at ho
    cases ho
    obtain ⟨sl3, q3⟩ := sm b _ q1 hnf
    exact ⟨sl3, q3⟩
  · by_cases hb : b ∈ frs l
    · obtain ⟨_, oo, ho, hnf⟩ := fl.2.2.1.mem hb
      obtain ⟨sl3, q3⟩ := sm b _ ho hnf
      exact ⟨_, q3⟩
    · obtain ⟨o', ho⟩ := g.old b o q hb
      exact ⟨o', fl'.1 b _ ho⟩
theorem Gone.new {P : Program} {w : World} {l : List Env} {H H' : Hp} {s s' : Shared} {a C : Addr} {od : Option Addr} {B : Heap} (g : Gone P w l H H' s s' a C od B) : s.heap.get? a = none ∧ a ∉ frs l ∧ H' a = none := by
  obtain ⟨⟨t, fl⟩, hd⟩ := g.fly
  have hn : a ∉ frs l := fun z => by
    obtain ⟨_, o, ho, hnf⟩ := fl.2.2.1.mem z
    obtain ⟨oe, vs, h1, h2, h3, h4⟩ := fl.first
    rw [h1] at ho
    cases ho
    exact hnf _ h3
  have hb := fl.2.1
  refine ⟨?_, hn, ?_⟩
  · cases q : s.heap.get? a with
    | none => rfl
    | some o =>
      obtain ⟨o', ho⟩ := g.old a o q hn
      rw [hb] at ho
      cases ho
  · cases q : H' a with
    | none => rfl
    | some u =>
      obtain ⟨o', ho⟩ := g.trk a u q
      rw [hb] at ho
      cases ho
abbrev Cx.as (X : Cx) (A : Around) (calm : Bool) (pn : List (Addr × Obj)) (E : Value → Shared → Prop) : Cx := { X with A := A, calm := calm, pn := pn, xe := E }
theorem Inv.as {A : Around} {calm : Bool} {pn pins' : List (Addr × Obj)} {E : Value → Shared → Prop} (I : Inv X pins σ H s) (hd : calm = true → A.handled = none) (hf : A.frames = some X.stack) (hp : ∀ p ∈ pn ++ pins', p ∈ X.pn ++ pins) : Inv (X.as A calm pn E) pins' σ H s :=
  ⟨⟨I.ok.mod, I.ok.kind, I.ok.glob, I.ok.blt, I.ok.above, I.ok.inj, I.ok.has, I.ok.cab, hd, hf, I.ok.stk, I.ok.exf, I.ok.bs, I.ok.bsz, I.ok.noex, I.ok.exfs, I.ok.funs, I.ok.frf⟩, I.os, I.bare, I.base, I.loc, I.cell, I.free, I.freeC, fun p q => I.pin p (hp p q), I.hok, I.len⟩
theorem Inv.asI {A : Around} {calm : Bool} {pn pins' : List (Addr × Obj)} {E : Value → Shared → Prop} (I : Inv (X.as A calm pn E) pins' σ H s) (hd : X.calm = true → X.A.handled = none) (hf : X.A.frames = some X.stack) (hp : ∀ p ∈ X.pn ++ pins, p ∈ pn ++ pins') : Inv X pins σ H s :=
  ⟨⟨I.ok.mod, I.ok.kind, I.ok.glob, I.ok.blt, I.ok.above, I.ok.inj, I.ok.has, I.ok.cab, hd, hf, I.ok.stk, I.ok.exf, I.ok.bs, I.ok.bsz, I.ok.noex, I.ok.exfs, I.ok.funs, I.ok.frf⟩, I.os, I.bare, I.base, I.loc, I.cell, I.free, I.freeC, fun p q => I.pin p (hp p q), I.hok, I.len⟩
theorem Inv.tracked {a : Addr} {ob : Obj} (I : Inv X pins σ H s) (hx : X.ex = []) (h1 : s.heap.get? a = some ob) (h2 : H a = none) (h3 : X.s₀.heap.get? a = none) (h4 : a ≠ X.env.locals) (h5 : ∀ x c, X.env.cells.lookup x = some c → c ≠ a) (h6 : ∀ p ∈ X.pn ++ pins, p.1 ≠ a) :
    Inv X pins σ (upd H a (.ext fun h => h.get? a = some ob)) s := by
  refine ⟨I.ok, I.os, I.bare, ⟨I.base.keep, I.base.slot, fun b o q n hb => ?_, I.base.there, fun b xs q => ?_, fun b o u q => ?_, fun b ps q => ?_⟩, I.loc, I.cell, by rw [upd_ne (Ne.symm h4)]; exact I.free, fun x c q => by rw [upd_ne (h5 x c q)]; exact I.freeC x c q, fun p hp => ?_, fun b u q => ?_, I.len⟩
  · rw [upd_ne]
    · exact I.base.free b o q n hb
    · rintro rfl; rw [h3] at q; cases q
  · have := I.base.tups b xs q
    rw [upd_ne (ne_of_none this h2)]; exact this
  · have := I.base.frzs b o u q
    rw [upd_ne (ne_of_none this h2)]; exact this
  · obtain ⟨m, this⟩ := I.base.tbls b ps q
    exact ⟨m, by rw [upd_ne (ne_of_none this h2)]; exact this⟩
  · obtain ⟨e, n, r⟩ := I.pin p hp
    exact ⟨e, by rw [upd_ne (h6 p hp)]; exact n, r⟩
  · by_cases hb : b = a
    · subst hb
      rw [upd_same] at q
      cases q
      exact ⟨h1, ⟨ob, h1⟩, fun x y e k => k ob e⟩
    · rw [upd_ne hb] at q
      exact (I.hok b u q).stay (fun _ _ _ e => e) (fun c e => by rw [upd_ne (ne_of_none e h2)]; exact e) fun c xs e => by rw [upd_ne (ne_of_none e h2)]; exact e
end
end L2
namespace DL
open PySem PySem.Spec PyProof.Rows L2
abbrev bmV : List Value := [.type "ValueError", .type "Exception", .type "BaseException", .type "object"]
section
variable {X : Cx} {mk : Prop} {ρ : Rho} {O : Sto} {e a b c o : Expr} {es : List Expr} {d da db : D} {ds : List D} {R : D → Sto → Prop} {RX : XC} {pos p np cpos hpos : Pos} {x y n : Str} {st b₀ : Stmt} {rest body suite : List Stmt} {P : Post} {C CB : Addr} {fs : List (Str × D)}
theorem ev_fstr {p1 p2 p3 : Pos} {j : Nat} (he : EvP X ρ O e (.str x)) (hz : (Str.empty ++ x ++ y).length ≤ sizeLine) (hx : x.length ≤ sizeLine) (h1 : (Str.empty ++ x).length ≤ sizeLine) : EvP X ρ O (.JoinedStr [.FormattedValue e (-1) none p1, .Constant (.str y) j p2] p3) (.str (Str.empty ++ x ++ y)) := fun G pins s σ H Q I ⟨h1', h2, h3⟩ => by
  refine JoinedStr_many (joinParts_cons (FormattedValue_plain (thn (he G pins s σ H (fun v H' => ∃ G', Ext G G' ∧ SA X.K G' H' O ∧ Is X.K G' (.str x) v) I ⟨h1', h2, fun v G' H' e s i => ⟨G', e, s, i⟩⟩) fun u s1 ⟨v, H1, I1, r, G1, e1, sa1, i1⟩ => ?_)))
  cases i1
  obtain ⟨t, rfl⟩ := (show ∃ t, u = Value.str x t from r)
  refine formatField_str (fun t' tk => ⟨h1, joinParts_cons ?_⟩) hx
  refine thn (ev_str (X := X) (ρ := ρ) (O := O) (x := y) (j := j) (pos := p2) G1 pins _ σ H1 (fun v H' => ∃ G', Ext G1 G' ∧ SA X.K G' H' O ∧ Is X.K G' (.str y) v) (I1.tok tk) ⟨sa1, h2.ext e1, fun v G' H' e s i => ⟨G', e, s, i⟩⟩) fun u2 s2 ⟨v2, H2, I2, r2, G2, e2, sa2, i2⟩ => ?_
  cases i2
  obtain ⟨t2, rfl⟩ := (show ∃ t, u2 = Value.str y t from r2)
  exact ⟨hz, joinParts_nil ⟨.str (Str.empty ++ x ++ y), H2, I2.tok _, ⟨_, rfl⟩, h3 _ G2 H2 (e1.trans e2) sa2 (.str _)⟩ hz⟩
theorem xX_raise (hx : PySem.W.excIn X.K C bmV "ValueError.__new__" = true) (hm : X.mg x = some (.ref C)) (ha : EvPs X ρ O (e :: es) ds) (hr : RX C [] ρ O) (hmk : mk) (hz : ds.length ≤ 1000 := by simp) (hc : X.calm = true := by rfl) (hex : X.ex = [] := by rfl) (hg : Gl X x := by rfl)
    (hdb : (x == ("__debug__" : Str)) = false := by decide) (he : starEach (e :: es) X.env = (false, eval e X.env) :: starEach es X.env := by rfl) (hpl : (backTo cpos (starEach es X.env)).any (·.1) = false := by rfl) :
    ExX X mk ρ O (.Raise (some (.Call (.Name x np) (e :: es) [] cpos)) none pos) P RX := fun G pins s σ H E I ⟨h1, h2, h3, h4⟩ => by
  obtain ⟨tl, N, nm, q, bs, hdct, sn, sub, ab, col, dd, k0, k1, k2, k3, k5, mN, hC, hN, hni, T⟩ := (exc_cls I.mod.kin hx).obj
  have ha' := ha G cpos pins s σ H (fun vs H' => ∃ G', Ext G G' ∧ SA X.K G' H' O ∧ Iss X.K G' ds vs) I ⟨h1, h2, fun vs G' H' e1 s1 i1 => ⟨G', e1, s1, i1⟩⟩
  refine wpAny_Raise_call_subU (k5 := k5) (k3 := k3) (k2 := k2) (k1 := k1) (k0 := k0) (dd := dd) (col := col) (ab := ab) (sub := sub) (sn := sn) (hdct := hdct) (bs := bs) (N := N) (q := q) (nm := nm) (C := C) (bm := tl) (mN := mN) PySem.F.excBase_ValueError (by decide +kernel) PySem.F.excBase_ValueError (T.hasType PySem.F.excBase_ValueError.hasBase) (I.ok.hd hc) (by rw [he]; exact hpl) hni (ld_glob I hg hm ⟨rfl, ?_⟩ hdb)
  rw [he] at ha' ⊢
  refine Calls.evalArgs_plain (thn ha' fun us s2 ⟨vs, H2, I2, r, G2, e2, sa, i2⟩ => ⟨rfl, ?_, I2.bk _ _ hC, hN.keeps I2.bk, T.keeps I2.bk, fun h' a' hx => ?_⟩)
  · show us.length ≤ sizeLine
    rw [← r.length, ← i2.length]
    exact Nat.le_of_lt (small1000 hz)
  · obtain ⟨t, he', _, _⟩ := hx.there
    refine (h4 C [] none σ ρ O G2 H2 e2 sa (h2.ext e2) (.inl rfl) hr).2 hmk pins { s2 with heap := h' } a' t _ _ (I2.kept (t' := s2.toks) hx.keeps) ?_ ?_ he' rfl rfl rfl rfl rfl
    · cases z : H2 a' with
      | none => rfl
      | some u =>
        obtain ⟨o, z'⟩ := I2.hok.get z
        rw [hx.new] at z'
        cases z'
    · cases z : X.s₀.heap.get? a' with
      | none => rfl
      | some o =>
        have hu : Un X.fs X.ex X.H₀ H2 X.s₀.heap s2.heap := I2.base
        obtain ⟨o', z'⟩ := hu.there a' o z (by rw [hex]; simp)
        rw [hx.new] at z'
        cases z'
abbrev _root_.L2.Cx.tried (X : Cx) (pn : List (Addr × Obj)) (E : Value → Shared → Prop) : Cx := X.as X.A X.calm pn E
abbrev _root_.L2.Cx.held (X : Cx) (v : Value) : Cx := X.as (X.A.mark (some v)) false X.pn fun _ _ => False
abbrev catchW (X : Cx) (pins : List (Addr × Obj)) (E : Ends) (x n : Str) (np hpos : Pos) (b₀ : Stmt) (suite : List Stmt) : Value → Shared → Prop := fun e s₁ => wpAny (model X.prog X.w) X.A (noteFrame e X.env) (fun _ s₂ => wpAny (model X.prog X.w) X.A (setFlight e none) (fun _ s₃ => wpAny (model X.prog X.w) X.A (handleBy e X.env [.ExceptHandler (some (.Name x np)) (some n) (b₀ :: suite) hpos]) (SP X pins E) X.xe s₃) X.xe s₂) X.xe s₁
theorem x_try (i : Nat) (hN : X.N.Nodup) (hm : X.mg x = some (.ref CB)) (hb : ∀ pn E, ExsX (X.tried pn E) False ρ O body P RX)
    (hh : ∀ v C fs ρ' O', RX C fs ρ' O' → PySem.W.exmOne X.K (.ref C) (.ref CB) = some true ∧
      Exs (X.held v) (ρ'.set i (some (.ptr O'.length))) (O' ++ [some (.exc C fs)]) (b₀ :: suite) { nx := fun ρ2 O2 => P.nx (ρ2.set i none) O2, rt := P.rt, bk := fun ρ2 O2 => P.bk (ρ2.set i none) O2, ct := fun ρ2 O2 => P.ct (ρ2.set i none) O2 })
    (hi : X.N[i]? = some n := by rfl) (hl : X.env.kindOf n = some .local := by rfl) (hg : Gl X x := by rfl) (hst : X.stack = X.env :: X.outer := by rfl) (hfr : X.env.frame = some X.env.locals := by rfl) (hex : X.ex = [] := by rfl) (hdb : (x == ("__debug__" : Str)) = false := by decide) :
    Ex X ρ O (.Try body [.ExceptHandler (some (.Name x np)) (some n) (b₀ :: suite) hpos] [] [] pos) P := fun G pins s σ H E I ⟨h1, h2, h3⟩ => by
  refine wpAny_Try_except ?_
  have I0 : L2.Inv (X.tried (X.pn ++ pins) (catchW X pins E x n np hpos b₀ suite)) [] σ H s :=
    I.as I.ok.hd I.ok.frames fun p q => by simpa using q
  refine wpAny_mono (hb (X.pn ++ pins) (catchW X pins E x n np hpos b₀ suite) G [] s σ H E I0 ⟨h1, h2, h3, fun C fs od σ2 ρ2 O2 G2 H2 e2 sa2 n2 f2 r2 => ⟨fun pins2 H1 s1 a' B s2 I1 g => ?_, fun z => z.elim⟩⟩) (fun f s1 hs => ?_) fun e s1 z => z
  · obtain ⟨hq, hsu⟩ := hh (.ref a') C fs ρ2 O2 r2
    have hg1 : Gone X.prog X.w (X.env :: X.outer) H1 H2 s1 s2 a' C od B := hst ▸ g
    obtain ⟨⟨t, fl⟩, hd⟩ := hg1.fly
    obtain ⟨n1, n3, n4⟩ := hg1.new
    have hfrm : X.A.frames = some (X.env :: X.outer) := hst ▸ I.ok.frames
    show wpAny (model X.prog X.w) X.A (noteFrame _ X.env) _ _ s2
    refine wpAny_mono (mild_note.any (wpAny_looks_onW (E := fun _ _ => False) (Q := fun _ s' => ∃ h', s' = { s2 with heap := h' } ∧ Heap.HeldW B (X.env :: X.outer) a' (.ref C) (.ref t) X.env.locals h' ∧ s2.heap.UpToSlots h') hfrm hfr fl fun h4 held4 sm4 => ⟨h4, rfl, held4, sm4⟩)) (fun _ s4 ⟨⟨h4, e4, held4, sm4⟩, dk4⟩ => ?_) fun _ _ z => z.1.elim
    subst e4
    refine wpAny_mono (mild_setFlight.any (wpAny_landsW (E := fun _ _ => False) (s := { s2 with heap := h4 }) (Q := fun _ s' => ∃ h', s' = { s2 with heap := h' } ∧ Heap.FlyingW B (X.env :: X.outer) a' (.ref C) (.ref t) h' ∧ h4.UpToSlots h') held4 fun h5 fl5 sm5 => ⟨h5, rfl, fl5, sm5⟩)) (fun _ s5 ⟨⟨h5, e5, fl5, sm5⟩, dk5⟩ => ?_) fun _ _ z => z.1.elim
    subst e5
    have g5 := hg1.on fl5 (sm4.trans sm5) (dk4.trans dk5)
    have J : ∀ (s' : Shared), Gone X.prog X.w (X.env :: X.outer) H1 H2 s1 s' a' C od B → L2.Inv X pins σ2 H2 s' := fun s' g' => by
      have := I1.call' (ch := []) g'.os (by show Un (frs X.stack) _ _ _ _ _; rw [hst]; exact g'.un) g'.hok g'.bare (fun b z => absurd z (by simp))
      exact this.asI I.ok.hd I.ok.frames fun p q => List.mem_append_left _ q
    have hmark : (X.A.mark (some (.ref a'))).frames = some X.stack := I.ok.frames
    have I5 := J _ g5
    have I5h : L2.Inv (X.held (.ref a')) pins σ2 H2 _ := I5.as (by intro z; cases z) hmark fun p q => q
    refine wpAny_handleBy_cons (codeAny_handlers_test (ld_glob (X := X.held (.ref a')) I5h hg hm ?_ hdb)) (by intro q; cases q)
    obtain ⟨ob, ho1, ho2⟩ := fl5.there
    have LT : PySem.W.Looks (model X.prog X.w) h5 (typeOf (.ref a')) (.ref C) := ho2 ▸ (PySem.W.Looks.ld ho1).andThen .now
    refine (PySem.W.exm_one I5.kIn LT hq).here (codeAny_handlers_suite_as ?_)
    refine wpAny_mono (mild_setFlight.any (lands_againW (E := fun _ _ => False) (Q := fun _ s' => ∃ h', s' = { s2 with heap := h' } ∧ Heap.FlyingW B (X.env :: X.outer) a' (.ref C) (.ref t) h' ∧ h5.UpToSlots h') fl5 fun h6 fl6 sm6 => ⟨h6, rfl, fl6, sm6⟩)) (fun _ s6 ⟨⟨h6, e6, fl6, sm6⟩, dk6⟩ => ?_) fun _ _ z => z.1.elim
    subst e6
    have g6 := g5.on fl6 sm6 dk6
    have I6 := J _ g6
    obtain ⟨ob6, ws, u1, u2, u3, u4⟩ := fl6.first
    obtain ⟨_, ob6', u1', hd6⟩ := g6.fly
    cases Option.some.inj (u1.symm.trans u1')
    have hloc : a' ≠ X.env.locals := fun z => n3 (List.mem_filterMap.mpr ⟨X.env, List.mem_cons_self, by rw [hfr, z]⟩)
    have hs0 : X.s₀.heap.get? a' = none := by
      cases z : X.s₀.heap.get? a' with
      | none => rfl
      | some o =>
        have hu : Un X.fs X.ex X.H₀ H1 X.s₀.heap s1.heap := I1.base
        obtain ⟨o', z'⟩ := hu.there a' o z (by rw [hex]; simp)
        rw [n1] at z'
        cases z'
    have I7 := I6.tracked hex u1 n4 hs0 hloc (fun y c q z => by
      obtain ⟨v, o, z', _⟩ := I1.cell y c q
      rw [z, n1] at z'
      cases z') (fun p hp z => by
      obtain ⟨z', _⟩ := I1.pin p (List.mem_append_left _ hp)
      rw [z, n1] at z'
      cases z')
    have I7h : L2.Inv (X.held (.ref a')) pins σ2 _ _ := I7.as (by intro z; cases z) hmark fun p q => q
    have eG : Ext G2 ⟨G2.g, G2.l ++ [a']⟩ := ⟨Same.refl _, [a'], rfl⟩
    have hfd : fs = [] ∨ ∃ dx vs, ob6.dict = some dx ∧ G2.g dx = some (.xd vs) ∧ FsIs X.K ⟨G2.g, G2.l ++ [a']⟩ fs vs := by
      rcases f2 with z | ⟨dx, vs, z1, z2, z3⟩
      · exact .inl z
      · exact .inr ⟨dx, vs, hd6.trans z1, z2, FsIs.ext eG z3⟩
    obtain ⟨e3, sa3⟩ := sa2.new (p := a') (o := .ext fun h => h.get? a' = some ob6) (m := .exc C fs) n4 ⟨ob6, upd_same, ⟨u2, ws, u3⟩, hfd⟩
    have ia : Is X.K ⟨G2.g, G2.l ++ [a']⟩ (.ptr O2.length) (.ref a') := .ptr _ (by rw [← sa2.len, List.getElem?_append_right (Nat.le_refl _), Nat.sub_self]; rfl)
    refine store_ok (X := X.held (.ref a')) I7h hN hi (.inl hl) (v := .ref a') rfl (fun s8 I8 => ?_) (.inr hl)
    have e23 := e2.trans e3
    refine wpAny_mono (hsu _ pins s8 _ _ { nx := fun σ3 H3 => E.nx (σ3.set i none) H3, rt := E.rt, bk := fun σ3 H3 => E.bk (σ3.set i none) H3, ct := fun σ3 H3 => E.ct (σ3.set i none) H3 } I8 ⟨sa3, (n2.ext e3).set i ia, ?_⟩) (fun f s9 hs => ?_) fun _ _ z => z.elim
    · have dr : ∀ {K : PySem.W.Frag} {G : Wd} {σ : L2.St} {ρ : Rho}, EnvR K G σ ρ → EnvR K G (σ.set i none) (ρ.set i none) := fun {K G σ ρ} h => ⟨by simp [h.len], fun j d' hj => by
        by_cases hij : i = j
        · subst hij
          rw [List.getElem?_set] at hj
          simp at hj
        · rw [List.getElem?_set_ne hij] at hj ⊢
          exact h.get j d' hj⟩
      exact ⟨fun σ3 ρ3 O3 G3 H3 e4 s4 n4 q => h3.nx _ _ O3 G3 H3 (e23.trans e4) s4 (dr n4) q, fun v d' O3 G3 H3 e4 s4 i4 q => h3.rt v d' O3 G3 H3 (e23.trans e4) s4 i4 q, fun σ3 ρ3 O3 G3 H3 e4 s4 n4 q => h3.bk _ _ O3 G3 H3 (e23.trans e4) s4 (dr n4) q, fun σ3 ρ3 O3 G3 H3 e4 s4 n4 q => h3.ct _ _ O3 G3 H3 (e23.trans e4) s4 (dr n4) q⟩
    · have fin : ∀ {σ3 : L2.St} {H3 : Hp}, L2.Inv (X.held (.ref a')) pins σ3 H3 s9 → L2.Inv X pins σ3 H3 s9 := fun I9 => I9.asI I.ok.hd I.ok.frames fun p q => q
      cases f with
      | next =>
        obtain ⟨σ3, H3, I9, q⟩ := hs
        exact name_goes (fin I9) hN hi hl fun s' I' => ⟨_, _, I', q⟩
      | ret u =>
        obtain ⟨v, σ3, H3, I9, r, q⟩ := hs
        exact name_goes (fin I9) hN hi hl fun s' I' => ⟨v, _, _, I', r, q⟩
      | brk =>
        obtain ⟨σ3, H3, I9, q⟩ := hs
        exact name_goes (fin I9) hN hi hl fun s' I' => ⟨_, _, I', q⟩
      | cont =>
        obtain ⟨σ3, H3, I9, q⟩ := hs
        exact name_goes (fin I9) hN hi hl fun s' I' => ⟨_, _, I', q⟩
  · have fin : ∀ {σ3 : L2.St} {H3 : Hp}, L2.Inv (X.tried (X.pn ++ pins) (catchW X pins E x n np hpos b₀ suite)) [] σ3 H3 s1 → L2.Inv X pins σ3 H3 s1 :=
      fun I9 => I9.asI I.ok.hd I.ok.frames fun p q => by simpa using q
    cases f with
    | next =>
      obtain ⟨σ3, H3, I9, q⟩ := hs
      exact pss_nil pins s1 σ3 H3 E (fin I9) q
    | ret u =>
      obtain ⟨v, σ3, H3, I9, r, q⟩ := hs
      exact ⟨v, σ3, H3, fin I9, r, q⟩
    | brk =>
      obtain ⟨σ3, H3, I9, q⟩ := hs
      exact ⟨σ3, H3, fin I9, q⟩
    | cont =>
      obtain ⟨σ3, H3, I9, q⟩ := hs
      exact ⟨σ3, H3, fin I9, q⟩
end
end DL
set_option Elab.async false
set_option linter.all false
set_option maxRecDepth 100000
set_option maxHeartbeats 1000000
namespace L2
open PySem PySem.Spec PyProof.Rows Builtin.ObjectAttr Builtin.Getset_descriptor
structure ExcTy (K : PySem.W.Frag) (C : Addr) : Prop where
  ga : PySem.W.findIn K (.ref C) "__getattribute__" = some (some (.builtin "BaseException.__getattribute__"))
  hk : PySem.W.findIn K (.ref C) "__getattr__" = some none
  mb : PySem.W.mroIn K C (.type "BaseException") = some true
  mo : PySem.W.mroIn K C (.type "object") = some true
  ca : PySem.W.findIn K (.ref C) "__class__" = some (some (.builtin "object.__class__"))
  gn : PySem.W.specialIn K (.builtin "object.__class__") "__get__" = some (some (.builtin "getset_descriptor.__get__"))
  gt : PySem.W.takesIn K (.builtin "object.__class__") = some true
  hd : PySem.W.hasDictIn K C = true
section
variable {prog : Program} {w : World} {A : Around} {E : Value → Shared → Prop} {s : Shared} {K : PySem.W.Frag} {x C : Addr} {n : Str}
theorem exc_check {nv : Value} {Q : Unit → Shared → Prop} (T : ExcTy K C) (X : K.In s.heap) (LT : PySem.W.Looks (model prog w) s.heap (typeOf (.ref x)) (.ref C)) (h : Q () s) : wpAny (model prog w) A (checkBuiltinCall "BaseException.__getattribute__" ⟨[.ref x, nv], []⟩) Q E s := by
  have LI : PySem.W.Looks (model prog w) s.heap (isInstance (.ref x) (.type "BaseException")) true := LT.andThen (PySem.W.looks_mroIn X T.mb)
  exact @PySem.W.check_slot (model prog w) _ _ s "BaseException.__getattribute__" "BaseException" "__getattribute__" (.ref x) [nv] [] _ (by decide +kernel) (by decide +kernel) LI (F.args_bexc_ga (.ref x) nv) h
theorem exc_find (T : ExcTy K C) {h : Heap} {M : Model} (X : K.In h) : PySem.W.Looks M h (find (.ref x) (.ref C) "__class__") (.bind (.builtin "getset_descriptor.__get__") (.builtin "object.__class__")) := by
  have L1 := PySem.W.looks_findIn (M := M) X T.ca
  have L2 := PySem.W.looks_specialIn (M := M) X T.gn
  have L3 := PySem.W.looks_takesIn (M := M) X T.gt
  refine L1.andThen (PySem.W.Looks.andThen (t := getOf _) L2 ?_)
  refine PySem.W.Looks.andThen (t := dataDescriptor? _ _) (L3.andThen .now) ?_
  exact PySem.W.Looks.tag .now
theorem exc_cget {R : Result → Shared → Prop} {tp : Value} (T : ExcTy K C) (X : K.In s.heap) (LT : PySem.W.Looks (model prog w) s.heap (typeOf (.ref x)) (.ref C)) (h : R (.ok (.ret (.ref C))) s) :
    codeAny (model prog w) A (.call (.builtin "getset_descriptor.__get__") ⟨[.builtin "object.__class__", .ref x, tp], []⟩) R s := by
  have LS := PySem.W.looks_mroIn (M := model prog w) X T.mo
  cases s
  refine codeAny_call_builtin PySem.W.KF.slot_gs.plain PySem.W.KF.entry_gs (PySem.W.KF.slot_gs.check _ _ _ _ _ _ _ _ PySem.W.KF.type_class (PySem.W.KF.args_gs _ _ _) ?_)
  unfold Builtin.«getset_descriptor.__get__» descrGet descrGetter descrCheckInstance descrNameAndClass isInstance; rw [PySem.W.dga_obj]
  refine wpAny_bind (wpAny_pure ?_); simp only [PySem.W.KF.owner_class]; repeat lk
  refine ⟨Code.quiet_builtin _ (by decide +kernel), codeAny_builtin PySem.W.KF.entry_class ?_⟩; unfold Builtin.«object.__class__» shownTypeOf; repeat lk
  exact h
theorem exc_entry {tk : Tok} {P : Value → Shared → Prop} (T : ExcTy K C) (X : K.In s.heap) (LT : PySem.W.Looks (model prog w) s.heap (typeOf (.ref x)) (.ref C)) (h : P (.ref C) s) :
    wpAny (model prog w) A (Builtin.«object.__getattribute__» ⟨[.ref x, .str "__class__" tk], []⟩) (fun fin s' => match fin with | .done (.ret v) => P v s' | _ => False) E s := by
  have LF := exc_find (x := x) (M := model prog w) T X
  obtain ⟨hh, gg, d, t, os⟩ := s
  unfold Builtin.«object.__getattribute__» slotArgs
  refine wpAny_bind (wpAny_bind (wpAny_pure (wpAny_bind (wpAny_pure (wpAny_pure ?_)))))
  refine wpAny_bind (wpAny_pure (wpAny_bind (LT.at (wpAny_bind (LF.at ?_)))))
  show wpAny _ _ (holding [_] (call _ [_, .ref x, .ref C]) >>= ret) _ _ _
  exact wpAny_bind (wpAny_holding (wpAny_call (exc_cget T X LT (wpAny_pure h))))
theorem exc_class {Q : Option Value → Shared → Prop} (T : ExcTy K C) (X : K.In s.heap) (LT : PySem.W.Looks (model prog w) s.heap (typeOf (.ref x)) (.ref C)) (h : Q (some (.ref C)) { s with toks := s.toks + 1 }) :
    wpAny (model prog w) A (getAttr? (.ref x) "__class__") Q E s := by
  have LG := PySem.W.looks_findIn (M := model prog w) X T.ga
  have LH := PySem.W.looks_findIn (M := model prog w) X T.hk
  unfold getAttr? getAttrBy? getAttrBy
  refine wpAny_bind (wpAny_mkText (wpAny_bind (wpAny_attempt (wpAny_holding (wpAny_bind (LT.at (wpAny_bind (LG.at ?_))))))))
  show wpAny _ _ (getAttrByItsOwn _ _ _ _ _ _) _ _ _
  unfold getAttrByItsOwn
  refine wpAny_bind (LH.at (wpAny_bind (wpAny_attempt (wpAny_holding ?_))))
  show wpAny _ _ (boundAndCalled _ _ _) _ _ _
  unfold boundAndCalled
  rw [F.excAttr_ValueError.ga.bind]
  refine wpAny_bind (wpAny_pure (wpAny_call (codeAny_call_builtin F.excAttr_ValueError.ga.plain F.entry_bexc_ga (exc_check T X LT (wpAny_mono (exc_entry (s := { s with toks := s.toks + 1 }) (P := fun v s' => v = .ref C ∧ s' = { s with toks := s.toks + 1 }) T X LT ⟨rfl, rfl⟩) (fun fin s' z => ?_) fun _ _ z => z)))))
  rcases fin with (v | _ | _ | _) | _ <;> first | exact z.elim | skip
  obtain ⟨rfl, rfl⟩ := z
  exact PySem.W.handed_on rfl (wpAny_pure h)
theorem kitx_exc (T : ExcTy K C) : PySem.W.KitX K (.ref x) (.ref C) (fun h => ∀ M, PySem.W.Looks M h (typeOf (.ref x)) (.ref C)) where
  ty := fun M _ _ L => L M
  it := fun _ _ X _ => by
    obtain ⟨cd, hc, _⟩ := PySem.W.any_some T.hd
    unfold PySem.W.clsIn at hc; split at hc
    · rename_i ho
      intro _ _ _ _ k q
      exact wpAny_bind (wpAny_loadPart (k _ _ (X _ _ ho)) (wpAny_pure q))
    · cases hc
  ne := fun h tp dd its n sl X ht => by
    obtain ⟨cd, hc, _⟩ := PySem.W.any_some T.hd
    unfold PySem.W.clsIn at hc; split at hc
    · rename_i ho
      by_cases e : C = tp
      · subst e; cases (X _ _ ho).symm.trans ht
      · exact Bool.eq_false_iff.mpr fun q => e (Value.ref.inj (beq_iff_eq.mp q))
    · cases hc
  ca := fun X L k => exc_class T X (L _) k
end
end L2
namespace DL
open PySem PySem.Spec PyProof.Rows L2
section
variable {X : Cx} {ρ : Rho} {O : Sto} {e : Expr} {es : List Expr} {p p2 pos : Pos} {x : Str} {C C2 : Addr} {q : Nat} {fs : List (Str × D)} {k : Bool} {x1 : Nat}
theorem exc_looks {pins : List (Addr × Obj)} {σ : L2.St} {H : Hp} {s : Shared} {a : Addr} {ob : Obj} (I : L2.Inv X pins σ H s) (h : H a = some (.ext fun h => h.get? a = some ob)) (hc : ob.cls = .ref C) : ∀ M, PySem.W.Looks M s.heap (typeOf (.ref a)) (.ref C) := fun M => by
  obtain ⟨ho, _⟩ := I.hok a _ h
  exact hc ▸ (PySem.W.Looks.ld ho).andThen .now
def ExcAt (C : Addr) (v : V) (H : Hp) : Prop := ∃ a ob, v = .ref a ∧ H a = some (.ext fun h => h.get? a = some ob) ∧ ob.cls = .ref C
theorem exc_at {K : PySem.W.Frag} {G : Wd} {H : Hp} {v : V} (s : SA K G H O) (i : Is K G (.ptr q) v) (hq : O[q]? = some (some (.exc C fs))) : ExcAt C v H := by
  cases i with
  | ptr _ ha =>
    obtain ⟨a, h1, h2, ob, h3, ⟨h4, _⟩, _⟩ := s.mt q _ hq
    cases Option.some.inj (ha.symm.trans h1)
    exact ⟨_, ob, rfl, h3, h4⟩
theorem ev_isX (hm : X.mg "isinstance" = none) (he : EvP X ρ O e (.ptr q)) (hq : O[q]? = some (some (.exc C fs))) (T : ExcTy X.K C) (hx : X.mg x = some (.ref C2)) (hk : PySem.W.kitOne X.K (.ref C) (.ref C2) = some k)
    (hg : Gl X "isinstance" := by rfl) (hgx : Gl X x := by rfl) (hdx : (x == ("__debug__" : Str)) = false := by decide) (hs : starEach [e, .Name x p2] X.env = (false, eval e X.env) :: starEach [.Name x p2] X.env := by rfl) (hpl : (backTo pos (starEach [.Name x p2] X.env)).any (·.1) = false := by rfl) :
    EvP X ρ O (.Call (.Name "isinstance" p) [e, .Name x p2] [] pos) (.bl k) := fun G => by
  refine PE.imp (pe_callB (id := "isinstance") (r := fun vs H Q => ∃ v, vs = [v, .ref C2] ∧ ExcAt C v H ∧ Q (.bl k) H) (fun pins s σ H xs us Q I r h => ?_) hg hm (by first | rfl | decide +kernel) (pa_cons (he G) (pa_cons (pe_glob (v := .ref C2) hgx hx rfl hdx) pa_nil rfl) hs) (by decide) (by decide) hs hpl) fun σ H Q ⟨h1, h2, h3⟩ => ?_
  · obtain ⟨v, rfl, ⟨a, ob, rfl, ha, hc⟩, hQ⟩ := h
    obtain ⟨u, u', rfl, ru, ru'⟩ := vals2 r
    cases ru'; cases ru
    exact PySem.W.kia_one (kitx_exc T) I.kIn (exc_looks I ha hc) hk (by intro z; cases z) fun tk => ⟨.bl k, H, I.kept fun _ _ e => e, rfl, hQ⟩
  · exact ⟨h1, h2, fun v G1 H1 e1 s1 i1 => ⟨v, rfl, exc_at s1 i1 hq, h3 _ G1 H1 e1 s1 (.bl k)⟩⟩
theorem ev_isXB {U : String} (hm : X.mg "isinstance" = none) (he : EvP X ρ O e (.ptr q)) (hq : O[q]? = some (some (.exc C fs))) (T : ExcTy X.K C) (hx : X.mg x = none) (hk : PySem.W.kitOne X.K (.ref C) (.type U) = some k) (hv : bootBuiltins x = some (.type U) := by first | rfl | decide +kernel)
    (hg : Gl X "isinstance" := by rfl) (hgx : Gl X x := by rfl) (hn : x ≠ "__name__" := by decide) (hdx : (x == ("__debug__" : Str)) = false := by decide) (hs : starEach [e, .Name x p2] X.env = (false, eval e X.env) :: starEach [.Name x p2] X.env := by rfl) (hpl : (backTo pos (starEach [.Name x p2] X.env)).any (·.1) = false := by rfl) :
    EvP X ρ O (.Call (.Name "isinstance" p) [e, .Name x p2] [] pos) (.bl k) := fun G => by
  refine PE.imp (pe_callB (id := "isinstance") (r := fun vs H Q => ∃ v, vs = [v, .ty U] ∧ ExcAt C v H ∧ Q (.bl k) H) (fun pins s σ H xs us Q I r h => ?_) hg hm (by first | rfl | decide +kernel) (pa_cons (he G) (pa_cons (pe_bltn (v := .ty U) hgx hx hv rfl hn hdx) pa_nil rfl) hs) (by decide) (by decide) hs hpl) fun σ H Q ⟨h1, h2, h3⟩ => ?_
  · obtain ⟨v, rfl, ⟨a, ob, rfl, ha, hc⟩, hQ⟩ := h
    obtain ⟨u, u', rfl, ru, ru'⟩ := vals2 r
    cases ru'; cases ru
    exact PySem.W.kia_one (kitx_exc T) I.kIn (exc_looks I ha hc) hk (by intro z; cases z) fun tk => ⟨.bl k, H, I.kept fun _ _ e => e, rfl, hQ⟩
  · exact ⟨h1, h2, fun v G1 H1 e1 s1 i1 => ⟨v, rfl, exc_at s1 i1 hq, h3 _ G1 H1 e1 s1 (.bl k)⟩⟩
abbrev EvCs (X : Cx) (es : List Expr) (cs : List Addr) : Prop := PA X es fun σ H Q => Q (cs.map V.ref) H
end
end DL
set_option Elab.async false
set_option linter.all false
set_option maxRecDepth 100000
set_option maxHeartbeats 1000000
namespace L2
open PySem PySem.Spec PyProof.Rows
def ItrS (lo : Int) (n : Nat) : It := ⟨fun i _ => i < n, fun i H x H' => H' = H ∧ x = .int (lo + (i : Nat) * 2), fun i _ => n ≤ i⟩
def halfUp (d : Int) : Int := if 0 < d then (d - 1) / 2 + 1 else 0
section
variable {X : Cx} {tg a b c : Expr} {p pos : Pos}
end
end L2
namespace DL
open PySem PySem.Spec PyProof.Rows L2
section
variable {X : Cx} {ρ : Rho} {O : Sto} {a b c : Expr} {p pos : Pos} {P : Post} {st : Stmt} {rest : List Stmt}
def rangeS (lo : Int) (n : Nat) : List D := (List.range n).map fun i => .int (lo + (i : Nat) * 2)
end
end DL
set_option Elab.async false
set_option linter.all false
set_option maxRecDepth 100000
set_option maxHeartbeats 1000000
namespace L2
open PySem PySem.Spec PyProof.Rows Builtin.ObjectAttr
open DL (bmV)
abbrev excArgs (vs : List Value) : Obj := { cls := .type "tuple", data := .seq vs.toArray }
abbrev excBare (C t : Addr) : Obj := { cls := .ref C, data := .fields #[.ref t, .none, .none, .none, .bool false, .none] }
abbrev excHeap (h : Heap) (C : Addr) (vs : List Value) : Heap := (h.push (excArgs vs)).push (excBare C h.objs.size)
section
variable {prog : Program} {w : World} {A : Around} {s : Shared} {K : PySem.W.Frag} {C f N : Addr} {nm q : Str} {bs bm : List Value} {hdct : Bool} {sn : List Str} {sub : List Value} {ab : Bool} {col : Option Bool} {dd : Option Addr} {k0 k1 k2 k3 k5 : Option Value}
theorem exc_makeI {vs : List Value} {R : Result → Shared → Prop} (X : K.In s.heap) (hC : s.heap.get? C = some (excClassObj nm q C N bs bm hdct sn sub ab col dd k0 k1 k2 k3 k5 "ValueError.__new__")) (T : OwnTail s.heap bmV bm)
    (hi : PySem.W.findIn K (.ref C) "__init__" = some (some (.ref f))) (hf : PySem.W.typeIn K (.ref f) = some (.type "function")) (hz : vs.length ≤ sizeLine)
    (h : codeAny (model prog w) (A.under (.builtin "type.__call__" ⟨.ref C :: vs, []⟩)) (.call (.ref f) ⟨.ref (s.heap.objs.size + 1) :: vs, []⟩) (PySem.W.InitBack (s.heap.objs.size + 1) R) { s with heap := excHeap s.heap C vs }) :
    codeAny (model prog w) A (.call (.ref C) ⟨vs, []⟩) R s := by
  obtain ⟨hp, g, d, t, os⟩ := s
  have f1 := tc_lookup
  have f2 := tc_bind (.ref C)
  have hT : (⟨hp, g, d, t, os⟩ : Shared).TypeIs (.ref C) "type" := ⟨_, hC, rfl⟩
  have kp : ∀ b o, hp.get? b = some o → (excHeap hp C vs).get? b = some o := fun b o e => Heap.get?_push_of_some _ (Heap.get?_push_of_some _ e)
  have X1 : K.In (excHeap hp C vs) := fun b o e => kp b o (X b o e)
  have LI := PySem.W.looks_findIn (M := model prog w) X1 hi
  have LB := PySem.W.bind_fn (M := model prog w) X1 (.ref (hp.objs.size + 1)) hf
  have hC1 := kp _ _ hC
  have hget : (excHeap hp C vs).get? (hp.objs.size + 1) = some (excBare C hp.objs.size) := by heap_get
  have hcC : (Value.ref C :: bm).contains (.ref C) = true := by simp
  refine codeAny_of_tree ?_
  show wpAny _ _ (callAny (.ref C) _) _ _ _
  repeat (any_goals (first | assumption | with_reducible refine wpAny_loadPart_at hC ?_ | wp_step))
  refine ⟨rfl, codeAny_call_builtin_at (Code.quiet_builtin _ (by decide +kernel)) entry_typeCall (wpAny_check_type_call_sub hC ?_)⟩
  repeat (first | with_reducible refine wpAny_loadPart_at hC ?_ | with_reducible refine wpAny_madeBy_exc hC ?_ | wp_step)
  refine codeAny_call_builtin_code (Code.quiet_builtin _ F.excBase_ValueError.quiet) (wpAny_check_new_subU F.excBase_ValueError (by decide +kernel) T hC (codeAny_exc_new_subU F.excBase_ValueError (by decide +kernel) F.excBase_ValueError T hC ?_ hz))
  show wpAny _ _ _ _ _ _
  have LT : PySem.W.Looks (model prog w) (excHeap hp C vs) (typeOf (.ref (hp.objs.size + 1))) (.ref C) := (PySem.W.Looks.ld hget).andThen .now
  have LS : PySem.W.Looks (model prog w) (excHeap hp C vs) (isSubtype (.ref C) (.ref C)) true := fun {_ _ _ s'} k z => by
    obtain ⟨h1, g1, d1, t1, o1⟩ := s'
    refine wpAny_isSubtype_exc (k _ _ hC1) ?_
    rw [hcC]
    exact z
  show wpAny _ _ _ _ _ ⟨excHeap hp C vs, g, d, t, os⟩
  unfold isInstance callSpecial? specialOf
  refine wpAny_bind (wpAny_bind (LT.at (LS.at ?_)))
  show wpAny _ _ (holding [_] _ >>= _) _ _ _
  refine wpAny_bind (wpAny_holding (wpAny_bind (wpAny_bind (LT.at (LI.at ?_)))))
  show wpAny _ _ (holding _ _) _ _ _
  refine wpAny_holding (wpAny_bind (LB.at (wpAny_bind (wpAny_call (codeAny_mono h fun r s' z => ?_)))))
  rcases r with e | (v | _ | _ | _) <;> first | exact z | exact z.elim | skip
  obtain ⟨rfl, z⟩ := z
  exact wpAny_pure (wpAny_pure z)
theorem refuse_tail {h : Heap} {tl : List Value} (T : OwnTail h bmV tl) (self : Value) : refuseLoop self "__setattr__" tl = pure () := by
  induction T with
  | base => exact F.store_ValueError.passes self
  | own _ _ _ _ ih => rw [refuseLoop_ref]; exact ih
theorem exc_store {E : Value → Shared → Prop} {a t : Addr} {name : Str} {v : Value} {Q : Unit → Shared → Prop} (X : K.In s.heap) (hC : s.heap.get? C = some (excClassObj nm q C N bs bm true sn sub ab col dd k0 k1 k2 k3 k5 "ValueError.__new__")) (T : OwnTail s.heap bmV bm)
    (ho : s.heap.get? a = some (excBare C t)) (sa : PySem.W.findIn K (.ref C) "__setattr__" = some (some (.builtin "object.__setattr__"))) (na : PySem.W.findIn K (.ref C) name = some none) (mo : PySem.W.mroIn K C (.type "object") = some true) (hd : PySem.W.hasDictIn K C = true)
    (h : ∀ h' tk, h'.get? a = some { excBare C t with dict := some s.heap.objs.size } → h'.Ns1 s.heap.objs.size (fun y => if y = name then some v else none) → (∀ b o, b ≠ a → s.heap.get? b = some o → h'.get? b = some o) → Q () { s with heap := h', toks := tk }) :
    wpAny (model prog w) A (setAttr (.ref a) name v) Q E s := by
  obtain ⟨hp, g, d, tk, os⟩ := s
  have LT : PySem.W.Looks (model prog w) hp (typeOf (.ref a)) (.ref C) := (PySem.W.Looks.ld ho).andThen .now
  have LS := PySem.W.looks_findIn (M := model prog w) X sa
  have LN := PySem.W.looks_findIn (M := model prog w) X na
  have LO : PySem.W.Looks (model prog w) hp (isInstance (.ref a) (.type "object")) true := LT.andThen (PySem.W.looks_mroIn X mo)
  have SF := F.store_ValueError
  have hxs : a ≠ hp.objs.size := Nat.ne_of_lt (Heap.lt_size ho)
  unfold setAttr callSpecial? specialOf
  refine wpAny_bind (wpAny_mkText (wpAny_bind (wpAny_bind (wpAny_bind (LT.at (LS.at (wpAny_holding ?_)))))))
  rw [SF.slot.bind]
  refine wpAny_bind (wpAny_pure (wpAny_bind (wpAny_call (codeAny_call_builtin SF.slot.plain SF.entry (@PySem.W.check_slot (model prog w) _ _ _ "object.__setattr__" "object" "__setattr__" (.ref a) [.str name tk, v] [] _ SF.kind SF.split LO (SF.args (.ref a) (.str name tk) v) ?_)))))
  show wpAny _ _ (Builtin.«object.__setattr__» ⟨[.ref a, .str name tk, v], []⟩) _ _ ⟨hp, g, d, tk + 1, os⟩
  rw [PySem.W.osa_eq, refuse_eq]
  refine wpAny_bind (wpAny_bind (LT.at (wpAny_bind (wpAny_mroOf_exc hC ?_))))
  rw [refuseLoop_ref, refuse_tail T]
  refine wpAny_pure (wpAny_bind (LT.at (wpAny_bind (LN.at (wpAny_bind (wpAny_pure ?_))))))
  show wpAny _ _ (storeInOwnDict _ _ _ _ _ _) _ _ _
  obtain ⟨cd, hc, hd'⟩ := PySem.W.any_some hd
  refine wpAny_bind (wpAny_pure (wpAny_bind (wpAny_bind (wpAny_loadPart ho (wpAny_bind ((PySem.W.looks_clsIn X hc).at ?_))))))
  rw [hd']
  have hx1 : (hp.push { cls := .type "dict", data := .dict #[] }).get? a = some (excBare C t) := Heap.get?_push_of_some _ ho
  generalize hH : ((hp.push { cls := .type "dict", data := .dict #[] }).update a fun o => { o with dict := some hp.objs.size }) = h1
  have ha1 : h1.get? a = some { excBare C t with dict := some hp.objs.size } := hH ▸ Heap.get?_update_self _ hx1 rfl
  have hd1 : h1.get? hp.objs.size = some { cls := .type "dict", data := .dict #[] } := hH ▸ (Heap.get?_update_ne _ _ _ _ (Ne.symm hxs)).trans (Heap.get?_push_at rfl rfl)
  have hk1 : ∀ b o, b ≠ a → hp.get? b = some o → h1.get? b = some o := fun b o n e => hH ▸ (Heap.get?_update_ne _ _ _ _ n).trans (Heap.get?_push_of_some _ e)
  have hn1 : h1.Ns hp.objs.size (fun _ => none) := ⟨_, #[], _, hd1, rfl, fun e he => absurd he (by simp), fun _ => rfl⟩
  show wpAny _ _ (alloc _ >>= fun d => update a (fun o => { o with dict := some d }) >>= fun _ => dictMade (.ref C) a d) _ _ _
  refine wpAny_bind (wpAny_alloc' (wpAny_bind (wpAny_update' hx1 (wpAny_pure ?_))))
  show wpAny _ _ (storeInDict hp.objs.size (.str name tk) name v) _ _ ⟨_, _, _, _, _⟩
  rw [show ((⟨hp, g, d, tk + 1, os⟩ : Shared).heap.push { cls := .type "dict", data := .dict #[] }) = hp.push { cls := .type "dict", data := .dict #[] } from rfl, hH]
  unfold storeInDict newKeyGuard
  refine wpAny_bind (wpAny_pure (wpAny_bind (wpAny_nsSet1 (Heap.Ns1.of_empty hn1) fun h' hn' hs => ?_)))
  obtain ⟨oD, esD, epD, hoD, hdD, hcD⟩ := hn'.count (Within.cons name v Within.nil)
  refine wpAny_bind (wpAny_lookBehind hoD (by rw [hdD]; exact pastItsLine_dict (Nat.le_trans hcD (by rw [List.length_cons, List.length_nil, sizeLine_eq]; omega))) ?_)
  refine wpAny_pure (wpAny_pure (wpAny_pure (h h' _ ((hs.2 a hxs).trans ha1) hn' fun b o n e => (hs.2 b (Nat.ne_of_lt (Heap.lt_size e))).trans (hk1 b o n e))))
end
end L2
namespace L2
open PySem PySem.Spec PyProof.Rows Builtin.ObjectAttr DL
structure ExcI (K : PySem.W.Frag) (C f : Addr) (name : Str) : Prop where
  cls : ∃ (nm q : Str) (N : Addr) (bs bm : List Value) (sn : List Str) (sub : List Value) (ab : Bool) (col : Option Bool) (dd : Option Addr) (k0 k1 k2 k3 k5 : Option Value),
    K.lookup C = some (excClassObj nm q C N bs bm true sn sub ab col dd k0 k1 k2 k3 k5 "ValueError.__new__") ∧ ∀ h, K.In h → OwnTail h bmV bm
  init : PySem.W.findIn K (.ref C) "__init__" = some (some (.ref f))
  fn : PySem.W.typeIn K (.ref f) = some (.type "function")
  sa : PySem.W.findIn K (.ref C) "__setattr__" = some (some (.builtin "object.__setattr__"))
  na : PySem.W.findIn K (.ref C) name = some none
  kp : PySem.W.keepIn K (.ref C) = true
section
variable {X : Cx} {pins : List (Addr × Obj)} {σ : St} {H : Hp} {s : Shared} {C f a t : Addr} {name : Str}
abbrev bareO (C a t : Addr) : HO := .ext fun h => h.get? a = some (excBare C t)
abbrev withO (C a t dx : Addr) : HO := .ext fun h => h.get? a = some { excBare C t with dict := some dx }
theorem Inv.track {b : Addr} {o : HO} (I : Inv X pins σ H s) (fp : FpOk X pins H b) (hs : X.s₀.heap.get? b = none) (new : ObjOk X.prog X.w (upd H b o) s.heap b o) : Inv X pins σ (upd H b o) s := by
  obtain ⟨h2, h4, _, _, h5, h6⟩ := fp
  refine ⟨I.ok, I.os, I.bare, ⟨I.base.keep, I.base.slot, fun c o q n hb => ?_, I.base.there, fun c xs q => ?_, fun c o u q => ?_, fun c ps q => ?_⟩, I.loc, I.cell, by rw [upd_ne (Ne.symm h4)]; exact I.free, fun x c q => by rw [upd_ne (h5 x c q)]; exact I.freeC x c q, fun p hp => ?_, fun c u q => ?_, I.len⟩
  · rw [upd_ne]
    · exact I.base.free c o q n hb
    · rintro rfl; rw [hs] at q; cases q
  · have := I.base.tups c xs q
    rw [upd_ne (ne_of_none this h2)]; exact this
  · have := I.base.frzs c o u q
    rw [upd_ne (ne_of_none this h2)]; exact this
  · obtain ⟨m, this⟩ := I.base.tbls c ps q
    exact ⟨m, by rw [upd_ne (ne_of_none this h2)]; exact this⟩
  · obtain ⟨e, n, r⟩ := I.pin p hp
    exact ⟨e, by rw [upd_ne (h6 p hp)]; exact n, r⟩
  · by_cases hb : c = b
    · subst hb
      rw [upd_same] at q
      cases q
      exact new
    · rw [upd_ne hb] at q
      exact (I.hok c u q).stay (fun _ _ _ e => e) (fun c e => by rw [upd_ne (ne_of_none e h2)]; exact e) fun c xs e => by rw [upd_ne (ne_of_none e h2)]; exact e
theorem exc_init_store {y : V} {u : Value} {A : Around} {E : Value → Shared → Prop} {Q : Unit → Shared → Prop} (Z : ExcI X.K C f name) (T : ExcTy X.K C) (I : Inv X pins σ H s) (e : H a = some (bareO C a t)) (ry : RelV y u)
    (h : ∀ s' dx, H dx = none → Inv X pins σ (upd (upd H a (withO C a t dx)) dx (.xd [(name, y)])) s' → Q () s') : wpAny (model X.prog X.w) A (setAttr (.ref a) name u) Q E s := by
  obtain ⟨nm, q, N, bs, bm, sn, sub, ab, col, dd, k0, k1, k2, k3, k5, hC, hT⟩ := Z.cls
  obtain ⟨ho, _⟩ := I.hok a _ e
  refine exc_store I.kIn (I.kIn _ _ hC) (hT _ I.kIn) ho Z.sa Z.na T.mo T.hd fun h' tk h1 h2 h3 => h _ s.heap.objs.size (I.hok.fresh (Nat.le_refl _)) ?_
  have hne : a ≠ s.heap.objs.size := Nat.ne_of_lt (Heap.lt_size ho)
  have hf : H s.heap.objs.size = none := I.hok.fresh (Nat.le_refl _)
  have I1 : Inv X pins σ (upd H a (withO C a t s.heap.objs.size)) { s with heap := h', toks := tk } :=
    I.write (x := a) (e := a) (by rw [e]; exact True.intro) (.inl rfl) (fun b u n z => h3 b u n z) ⟨_, h1⟩ ⟨h1, ⟨_, h1⟩, fun x y e k => k _ e⟩
  have fp := I.fpOk (b := s.heap.objs.size) (H' := upd H a (withO C a t s.heap.objs.size)) (Nat.le_refl _) (by rw [upd_ne (Ne.symm hne)]; exact hf)
  refine I1.track fp ?_ ⟨_, h2, fun g => ?_⟩
  · cases z : X.s₀.heap.get? s.heap.objs.size with
    | none => rfl
    | some o => exact absurd (Heap.lt_size z) (Nat.not_lt.mpr I.sz)
  · show RelO (List.lookup g [(name, y)]) (if g = name then some u else none)
    by_cases z : g = name
    · rw [if_pos z, z, List.lookup_cons, beq_self_eq_true]; exact ry
    · rw [if_neg z, List.lookup_cons, beq_eq_false_iff_ne.mpr z]; trivial
theorem Inv.forget {φ : Heap → Prop} (I : Inv X pins σ (upd H a (.ext φ)) s) (hn : H a = none) : Inv X pins σ H s := by
  have hs : ∀ b u, H b = some u → upd H a (.ext φ) b = some u := fun b u q => by rw [upd_ne (ne_of_none q hn)]; exact q
  have back : ∀ b u, upd H a (.ext φ) b = some u → u ≠ .ext φ → H b = some u := fun b u q n => by
    by_cases hb : b = a
    · subst hb; rw [upd_same] at q; exact absurd (Option.some.inj q).symm n
    · rw [upd_ne hb] at q; exact q
  have no : ∀ b, upd H a (.ext φ) b = none → H b = none := fun b q => by
    by_cases hb : b = a
    · subst hb; exact hn
    · rw [upd_ne hb] at q; exact q
  refine ⟨I.ok, I.os, I.bare, ⟨I.base.keep, I.base.slot, fun c o q n hb => no c (I.base.free c o q n hb), I.base.there, fun c xs q => back c _ (I.base.tups c xs q) (fun z => by cases z), fun c o u q => back c _ (I.base.frzs c o u q) (fun z => by cases z), fun c ps q => ?_⟩, I.loc, I.cell, no _ I.free, fun x c q => no _ (I.freeC x c q), fun p hp => ?_, fun c u q => ?_, I.len⟩
  · obtain ⟨m, z⟩ := I.base.tbls c ps q
    exact ⟨m, back c _ z (fun z => by cases z)⟩
  · obtain ⟨e, n, r⟩ := I.pin p hp
    exact ⟨e, no _ n, r⟩
  · refine (I.hok c u (hs c u q)).stay (fun _ _ _ e => e) (fun b e => back b _ e fun z => by cases z) fun b xs e => back b _ e fun z => by cases z
end
end L2
set_option Elab.async false
set_option linter.all false
set_option maxRecDepth 100000
set_option maxHeartbeats 1000000
namespace L2
open PySem PySem.Spec PyProof.Rows Builtin.ObjectAttr DL
def spI (C : Addr) (name : Str) : Sp := fun vs H Q _ => ∃ a t v, vs = [.ref a, v] ∧ H a = some (bareO C a t) ∧ ∀ dx, H dx = none → Q .non (upd (upd H a (withO C a t dx)) dx (.xd [(name, v)]))
section
variable {P : Program} {w : World} {K : PySem.W.Frag} {mg : Str → Option Value} {base : Heap} {C f : Addr} {name sn nn qual : Str} {st : Stmt} {fd : FuncData} {p1 p2 p3 p4 : Pos}
theorem ps_init {X : Cx} (Z : ExcI X.K C f name) (T : ExcTy X.K C) (h0 : X.N[0]? = some sn) (h1 : X.N[1]? = some nn) (v0 : Vis X.env.scope sn) (v1 : Vis X.env.scope nn) (d0 : (sn == ("__debug__" : Str)) = false) (d1 : (nn == ("__debug__" : Str)) = false) (c0 : (sn == ("__classdict__" : Str)) = false) (c1 : (nn == ("__classdict__" : Str)) = false)
    (hs : swapsWith (.Name nn p3) (some (.Attribute (.Name sn p1) name p2)) p4.line X.env = pure false) :
    PS X (.Assign [.Attribute (.Name sn p1) name p2] (.Name nn p3) p4) (fun D σ H => ∃ a t v, σ[0]? = some (some (.ref a)) ∧ σ[1]? = some (some v) ∧ H a = some (bareO C a t) ∧ ∀ dx, H dx = none → D.nx σ (upd (upd H a (withO C a t dx)) dx (.xd [(name, v)]))) := by
  intro pins s σ H D I ⟨a, t, v, q0, q1, ha, hD⟩
  refine plainObj_wpAny_Assign_Attribute (thn (pe_var h1 v1 d1 c1 pins s σ H (fun y H1 => y = v ∧ H1 = H) I ⟨v, q1, rfl, rfl⟩) fun u s1 ⟨y, H1, I1, ry, e1, e2⟩ => thn (pe_var h0 v0 d0 c0 pins s1 σ H1 (fun y H2 => y = .ref a ∧ H2 = H1) I1 ⟨_, q0, rfl, rfl⟩) fun ov s2 ⟨x, H2, I2, rx, e3, e4⟩ => ?_) hs
  subst e1 e2 e3 e4
  obtain rfl : ov = Value.ref a := rx
  exact exc_init_store Z T I2 ha ry fun s3 dx hn I3 => ⟨σ, _, I3, hD dx hn⟩
theorem okI (F : Fun K "__init__" qual st f fd) (S : FnScope [sn, nn] [sn, nn] (defScope st)) (Z : ExcI K C f name) (T : ExcTy K C) (hb : defBody st = [.Assign [.Attribute (.Name sn p1) name p2] (.Name nn p3) p4]) (d0 : (sn == ("__debug__" : Str)) = false) (d1 : (nn == ("__debug__" : Str)) = false) (c0 : (sn == ("__classdict__" : Str)) = false) (c1 : (nn == ("__classdict__" : Str)) = false)
    (v0 : Vis (defScope st) sn) (v1 : Vis (defScope st) nn) (hs : ∀ env, swapsWith (.Name nn p3) (some (.Attribute (.Name sn p1) name p2)) p4.line env = pure false) : FnOk P w K mg base CX0 1 f fd [sn, nn] (spI C name) := by
  refine F.ok (k := 0) S (fun vs H Q E h => ?_) (fun cdv A outer s H vs Q E hr h => ?_)
  · obtain ⟨_, _, _, rfl, _⟩ := h; rfl
  · obtain ⟨a, t, v, rfl, ha, hQ⟩ := h
    rw [hb]
    exact ⟨_, pss_cons (ps_init Z T rfl rfl v0 v1 d0 d1 c0 c1 (hs _)) pss_nil, a, t, v, rfl, rfl, ha, hQ⟩
theorem raise_with {M : Model} {A : Around} {E : Value → Shared → Prop} {s : Shared} {env : Env} {x : Sem Value} {Q : Flow → Shared → Prop} {nm q : Str} {N : Addr} {bs bm : List Value} {sn : List Str} {sub : List Value} {ab : Bool} {col : Option Bool} {dd : Option Addr} {k0 k1 k2 k3 k5 : Option Value} (hh : A.handled = none)
    (h : wpAny M A x (fun v s₁ => ∃ e t dx, v = .ref e ∧ s₁.heap.get? C = some (excClassObj nm q C N bs bm true sn sub ab col dd k0 k1 k2 k3 k5 "ValueError.__new__") ∧ OwnTail s₁.heap bmV bm ∧ s₁.heap.get? e = some { excBare C t with dict := some dx } ∧ E (.ref e) s₁) E s) :
    wpAny M A (raiseStmt env (some x) none) Q E s := by
  unfold raiseStmt
  refine wpAny_bind (wpAny_mono h (fun v s1 h1 => ?_) fun _ _ x => x)
  obtain ⟨e, t, dx, rfl, hC, T, he, hE⟩ := h1
  have hcB : (Value.ref C :: bm).contains (.type "BaseException") = true := by rw [List.contains_cons, T.hasType F.excBase_ValueError.hasBase, Bool.or_true]
  obtain ⟨hp, g, d, tk, os⟩ := s1
  repeat (first | with_reducible refine wpAny_loadPart_at he ?_ | with_reducible refine wpAny_loadPart_at hC ?_ | (with_reducible refine wpAny_isSubtype_exc hC ?_; rw [hcB]) | wp_step)
  exact wpAny_raiseNew_none hh hE
end
end L2
namespace DL
open PySem PySem.Spec PyProof.Rows L2
structure InitI (P : Program) (w : World) (K : PySem.W.Frag) (mg : Str → Option Value) (base : Heap) (C : Addr) (k : Nat) (x name : Str) : Prop where
  ex : ∃ f fd ps, FnOk P w K mg base CX0 k f fd ps (spI C name) ∧ ExcI K C f name ∧ Binds K fd ps []
  ty : ExcTy K C
  at_ : mg x = some (.ref C)
section
variable {X : Cx} {mk : Prop} {ρ : Rho} {O : Sto} {e : Expr} {d : D} {RX : XC} {pos np cpos : Pos} {x name : Str} {P : Post} {C : Addr} {k : Nat}
theorem xX_raiseI (M : InitI X.prog X.w X.K X.mg X.base C k x name) (hr : Room (k + 1) X.A) (ha : EvPs X ρ O [e] [d]) (hR : RX C [(name, d)] ρ O) (hmk : mk) (hc : X.calm = true := by rfl) (hex : X.ex = [] := by rfl) (hg : Gl X x := by rfl)
    (hdb : (x == ("__debug__" : Str)) = false := by decide) (he : starEach [e] X.env = (false, eval e X.env) :: starEach [] X.env := by rfl) (hpl : (backTo cpos (starEach [] X.env)).any (·.1) = false := by rfl) :
    ExX X mk ρ O (.Raise (some (.Call (.Name x np) [e] [] cpos)) none pos) P RX := fun G pins s σ H E I ⟨h1, h2, h3, h4⟩ => by
  obtain ⟨f, fd, ps, g1, g2, g3⟩ := M.ex
  obtain ⟨nm, q, N, bs, bm, sn, sub, ab, col, dd, k0, k1, k2, k3, k5, hC, hT⟩ := g2.cls
  rw [arm_exec_Raise]
  refine wpAny_bind (wpAny_standAt (raise_with (C := C) (nm := nm) (q := q) (N := N) (bs := bs) (bm := bm) (sn := sn) (sub := sub) (ab := ab) (col := col) (dd := dd) (k0 := k0) (k1 := k1) (k2 := k2) (k3 := k3) (k5 := k5) (I.ok.hd hc) (wpAny_bind (wpAny_mono (wpAny_Call_Name_kw (ld_glob I hg M.at_ ?_ hdb)) (fun v s3 h3 => wpAny_bind (wpAny_standAt (wpAny_pure h3))) fun _ _ z => z))))
  refine PySem.W.callWith_K (h₀ := X.base) I.ok.mod.kin g2.kp (thn (ha G cpos pins s σ H (fun vs H' => ∃ G', Ext G G' ∧ SA X.K G' H' O ∧ Iss X.K G' [d] vs) I ⟨h1, h2, fun vs G' H' e1 s1 i1 => ⟨G', e1, s1, i1⟩⟩) fun us s1 ⟨vs, H1, I1, r, G1, e1, sa, i1⟩ => ⟨I1.kIn, ?_⟩) he hpl
  obtain ⟨v, rfl, iv⟩ : ∃ v, vs = [v] ∧ Is X.K G1 d v := by
    cases i1 with | cons i r' => cases r' with | nil => exact ⟨_, rfl, i⟩
  have ul : us.length = 1 := r.length.symm
  have ha1 : H1 (s1.heap.objs.size + 1) = none := I1.hok.fresh (Nat.le_succ _)
  have kp : ∀ b o, s1.heap.get? b = some o → (excHeap s1.heap C us).get? b = some o := fun b o e => Heap.get?_push_of_some _ (Heap.get?_push_of_some _ e)
  have hget : (excHeap s1.heap C us).get? (s1.heap.objs.size + 1) = some (excBare C s1.heap.objs.size) := by heap_get
  have s0n : X.s₀.heap.get? (s1.heap.objs.size + 1) = none := by
    cases z : X.s₀.heap.get? (s1.heap.objs.size + 1) with
    | none => rfl
    | some o => exact absurd (Heap.lt_size z) (Nat.not_lt.mpr (Nat.le_succ_of_le I1.sz))
  have I2 : L2.Inv X pins σ (upd H1 (s1.heap.objs.size + 1) (bareO C (s1.heap.objs.size + 1) s1.heap.objs.size)) { s1 with heap := excHeap s1.heap C us } :=
    (I1.kept (t' := s1.toks) kp).track (I1.fpOk (Nat.le_succ _) ha1) s0n ⟨hget, ⟨_, hget⟩, fun _ _ e k => k _ e⟩
  generalize hH2 : upd H1 (s1.heap.objs.size + 1) (bareO C (s1.heap.objs.size + 1) s1.heap.objs.size) = H2 at I2
  have hsp : spI C name [V.ref (s1.heap.objs.size + 1), v] H2 (fun u H' => u = .non ∧ ∃ dx, H2 dx = none ∧ H' = upd (upd H2 (s1.heap.objs.size + 1) (withO C (s1.heap.objs.size + 1) s1.heap.objs.size dx)) dx (.xd [(name, v)])) (fun _ _ _ => False) :=
    ⟨_, _, v, rfl, by rw [← hH2]; exact upd_same, fun dx hn => ⟨rfl, dx, hn, rfl⟩⟩
  have r2 : Vals [V.ref (s1.heap.objs.size + 1), v] (Value.ref (s1.heap.objs.size + 1) :: us) := .cons rfl r
  have hl : (Value.ref (s1.heap.objs.size + 1) :: us).length = ps.length := by rw [← r2.length]; exact g1.len _ _ _ _ hsp
  have hb := g3 { s1 with heap := _ } (Value.ref (s1.heap.objs.size + 1) :: us) I2.kIn (by rw [List.append_nil]; exact hl)
  rw [List.append_nil] at hb
  refine wpAny_call (exc_makeI (f := f) I1.kIn (I1.kIn _ _ hC) (hT _ I1.kIn) g2.init g2.fn (by rw [List.nil_append, ul, sizeLine_eq]; decide) (codeAny_mono (g1.run _ X.stack _ _ ⟨Value.ref (s1.heap.objs.size + 1) :: us, []⟩ _ _ _ (fun _ _ _ => False) (hr.make C us []) (I2.env0.make C us []) hb r2 hsp) fun r s' hq' => ?_))
  match r, hq' with
  | .error e, hq' => exact hq'.elim
  | .ok (.ret u), hq' =>
    obtain ⟨v', H', I3, rv, ev, dx, hn, hH'⟩ := I2.after hq'
    subst ev
    refine ⟨rv, ?_⟩
    have h2a : H2 (s1.heap.objs.size + 1) = some (bareO C (s1.heap.objs.size + 1) s1.heap.objs.size) := by rw [← hH2]; exact upd_same
    have hne : s1.heap.objs.size + 1 ≠ dx := ne_of_none h2a hn
    have h1d : H1 dx = none := by rw [← hH2, upd_ne (Ne.symm hne)] at hn; exact hn
    have hcomm : H' = upd (upd H1 dx (.xd [(name, v)])) (s1.heap.objs.size + 1) (withO C (s1.heap.objs.size + 1) s1.heap.objs.size dx) := by
      rw [hH', ← hH2, upd_upd]
      funext b
      unfold upd
      by_cases hb : b = dx
      · subst hb; rw [if_pos rfl, if_neg (Ne.symm hne), if_pos rfl]
      · rw [if_neg hb, if_neg hb]
    have h3n : upd H1 dx (.xd [(name, v)]) (s1.heap.objs.size + 1) = none := by rw [upd_ne hne]; exact ha1
    obtain ⟨ho, _⟩ := I3.hok (s1.heap.objs.size + 1) (withO C (s1.heap.objs.size + 1) s1.heap.objs.size dx) (by rw [hcomm]; exact upd_same)
    have I4 : L2.Inv X pins σ (upd H1 dx (.xd [(name, v)])) s' := (hcomm ▸ I3).forget h3n
    obtain ⟨e2, sa2⟩ := sa.laid (o := .xd [(name, v)]) h1d
    exact ⟨_, _, dx, rfl, I3.kIn _ _ hC, hT _ I3.kIn, ho, (h4 C [(name, d)] (some dx) σ ρ O _ _ (e1.trans e2) sa2 (h2.ext (e1.trans e2)) (.inr ⟨dx, _, rfl, upd_same, .cons (iv.ext e2) .nil⟩) hR).2 hmk pins s' _ _ _ _ I4 h3n s0n ho rfl rfl rfl rfl rfl⟩
end
end DL
set_option Elab.async false
set_option linter.all false
set_option maxRecDepth 100000
set_option maxHeartbeats 1000000
namespace L2
open PySem PySem.Spec PyProof.Rows Builtin.ObjectAttr
section
variable {prog : Program} {w : World} {A : Around} {E : Value → Shared → Prop} {s : Shared} {K : PySem.W.Frag} {x C : Addr} {n : Str} {ox od : Obj} {u : Value}
theorem exc_finds (T : ExcTy K C) (na : PySem.W.findIn K (.ref C) n = some none) (hl : PySem.W.lookIn n od = some (some u)) : PySem.W.findObj K C (some od) n = some (.value u) := by
  obtain ⟨cd, hc, hd⟩ := PySem.W.any_some T.hd
  have ho : PySem.W.ownOf cd (some od) n = some (some u) := by unfold PySem.W.ownOf; rw [if_pos hd]; exact hl
  unfold PySem.W.findObj
  rw [hc, Option.bind_some, na, Option.bind_some]
  dsimp only
  rw [Option.bind_some, Option.bind_some, ho]
  rfl
theorem exc_value {tk : Tok} {P : Value → Shared → Prop} (X : K.In s.heap) (I : PySem.W.InstAt s.heap x ox C (some od)) (hf : PySem.W.findObj K C (some od) n = some (.value u)) (h : P u s) :
    wpAny (model prog w) A (Builtin.«object.__getattribute__» ⟨[.ref x, .str n tk], []⟩) (fun fin s' => match fin with | .done (.ret v) => P v s' | _ => False) E s := by
  have LT := I.type (M := model prog w)
  have LF := PySem.W.looks_find (M := model prog w) X I hf
  obtain ⟨hh, gg, d, t, os⟩ := s
  unfold Builtin.«object.__getattribute__» slotArgs
  refine wpAny_bind (wpAny_bind (wpAny_pure (wpAny_bind (wpAny_pure (wpAny_pure ?_)))))
  exact wpAny_bind (wpAny_pure (wpAny_bind (LT.at (wpAny_bind (LF.at (wpAny_pure h))))))
theorem exc_get {b : Bool} {Q : Value → Shared → Prop} (T : ExcTy K C) (X : K.In s.heap) (I : PySem.W.InstAt s.heap x ox C (some od)) (na : PySem.W.findIn K (.ref C) n = some none) (hl : PySem.W.lookIn n od = some (some u)) (hu : PySem.W.handedIn u = true) (h : Q u { s with toks := s.toks + 1 }) :
    wpAny (model prog w) A (getAttr (.ref x) n b) Q E s := by
  have LT := I.type (M := model prog w)
  have LG := PySem.W.looks_findIn (M := model prog w) X T.ga
  have LH := PySem.W.looks_findIn (M := model prog w) X T.hk
  unfold getAttr getAttrBy
  refine wpAny_bind (wpAny_mkText (wpAny_holding (wpAny_bind (LT.at (wpAny_bind (LG.at ?_))))))
  show wpAny _ _ (getAttrByItsOwn _ _ _ _ _ _) _ _ _
  unfold getAttrByItsOwn
  refine wpAny_bind (LH.at (wpAny_bind (wpAny_attempt (wpAny_holding ?_))))
  have e0 : ∀ o nv, callGetattribute o nv (.builtin "BaseException.__getattribute__") b = boundAndCalled (.builtin "BaseException.__getattribute__") o nv := fun o nv => by cases b <;> rfl
  rw [e0]
  unfold boundAndCalled
  rw [F.excAttr_ValueError.ga.bind]
  refine wpAny_bind (wpAny_pure (wpAny_call (codeAny_call_builtin F.excAttr_ValueError.ga.plain F.entry_bexc_ga (exc_check T X LT (wpAny_mono (exc_value (s := { s with toks := s.toks + 1 }) (P := fun v s' => v = u ∧ s' = { s with toks := s.toks + 1 }) X I (exc_finds T na hl) ⟨rfl, rfl⟩) (fun fin s' z => ?_) fun _ _ z => z)))))
  rcases fin with (v | _ | _ | _) | _ <;> first | exact z.elim | skip
  obtain ⟨rfl, rfl⟩ := z
  exact PySem.W.handed_on hu h
end
end L2
namespace DL
open PySem PySem.Spec PyProof.Rows L2
section
variable {X : Cx} {ρ : Rho} {O : Sto} {e : Expr} {d : D} {pos : Pos} {f : Str} {C : Addr} {q : Nat} {fs : List (Str × D)}
theorem ev_fldX (he : EvP X ρ O e (.ptr q)) (hq : O[q]? = some (some (.exc C fs))) (T : ExcTy X.K C) (na : PySem.W.findIn X.K (.ref C) f = some none) (hl : fs.lookup f = some d) (hb : attributeBase e f X.env (eval e X.env) = eval e X.env := by rfl) :
    EvP X ρ O (.Attribute e f pos) d := fun G pins s σ H Q I ⟨h1, h2, h3⟩ => by
  refine attr_of hb (thn (he G pins s σ H (fun v H' => ∃ G', Ext G G' ∧ SA X.K G' H' O ∧ Is X.K G' (.ptr q) v) I ⟨h1, h2, fun v G' H' e1 s1 i1 => ⟨G', e1, s1, i1⟩⟩) fun u s1 ⟨y, H1, I1, ry, G1, e1, sa1, i1⟩ => ?_)
  cases i1 with
  | ptr _ ha =>
    obtain ⟨a, g1, g2, ob, g3, ⟨g4, ws, g5⟩, g6⟩ := sa1.mt q _ hq
    cases Option.some.inj (ha.symm.trans g1)
    obtain rfl : u = Value.ref _ := ry
    rcases g6 with z | ⟨dx, vs, k1, k2, k3⟩
    · subst z; cases hl
    obtain ⟨v, l, iv⟩ := k3.look hl
    obtain ⟨ho, _⟩ := I1.hok _ _ g3
    obtain ⟨mA, n1, r1⟩ := I1.hok dx _ (sa1.sub _ _ k2)
    obtain ⟨od, hod, hlk⟩ := lookIn_ns n1
    obtain ⟨u', hu, ru⟩ := RelO.some_of (v := v) (o := mA f) (by rw [← l]; exact r1 f)
    have J : PySem.W.InstAt s1.heap _ ob C (some od) := ⟨ho, g4, by obtain ⟨c0, d0, dt, sl⟩ := ob; subst g5; rfl, by rw [k1]; exact hod⟩
    exact exc_get T I1.kIn J na (by rw [hlk, hu]) (handed_of ru) ⟨v, H1, I1.tok _, ru, h3 v G1 H1 e1 sa1 iv⟩
theorem tail1 {K : PySem.W.Frag} {h : Heap} {Cb : Addr} (X : K.In h) (q : PySem.W.excIn K Cb bmV "ValueError.__new__" = true) : OwnTail h bmV (.ref Cb :: bmV) := by
  obtain ⟨tl, N, nm, q, bs, hdct, sn, sub, ab, col, dd, k0, k1, k2, k3, k5, mN, hC, hN, hni, T⟩ := (exc_cls X q).obj
  exact .own hC hN hni .base
end
end DL
set_option Elab.async false
set_option linter.all false
set_option maxRecDepth 100000
set_option maxHeartbeats 1000000
namespace DL
open PySem PySem.Spec PyProof.Rows L2
abbrev SpX.good (sp : SpX) : SpD := fun ds O R => sp ds O R fun _ _ _ => False
section
variable {P : Program} {w : World} {K : PySem.W.Frag} {mg : Str → Option Value} {base : Heap} {C : Addr} {k : Nat} {x m : Str} {sp : SpX}
theorem fn_good {f : Addr} {fd : FuncData} {ps : List Str} (F : FnOk P w K mg base (CX1 P w) k f fd ps (toSpX K sp)) : FnOk P w K mg base CX0 k f fd ps (toSp K sp.good) := by
  have tr : ∀ {vs : List V} {H : Hp} {Q : VK} {E : XK}, toSp K sp.good vs H Q E → toSpX K sp vs H Q (fun _ _ _ => False) := fun ⟨G, O, ds, R, h1, h2, h3, h4⟩ => ⟨G, O, ds, R, _, h1, h2, h3, h4, fun _ _ _ _ _ _ _ _ _ z => z⟩
  refine ⟨fun vs H Q E h => F.len vs H Q _ (tr h), fun A outer s H args us vs Q E hr h0 hb r h => codeAny_mono (F.run A outer s H args us vs Q _ hr h0 hb r (tr h)) fun r s' z => ?_⟩
  match r, z with
  | .error e, z => obtain ⟨_, _, _, _, _, _, _, z⟩ := z; exact z.elim
  | .ok (.ret u), z => exact z
theorem MethX.ok (F : MethX P w K mg base C k m sp) : MethOk P w K mg base C k m sp.good := let ⟨f, fd, ps, h1, h2⟩ := F.ex; ⟨⟨f, fd, ps, fn_good h1, h2⟩, F.cls⟩
end
end DL
set_option Elab.async false
set_option linter.all false
set_option maxRecDepth 100000
set_option maxHeartbeats 1000000
namespace L2
open PySem PySem.Spec PyProof.Rows
end L2
namespace DL
open PySem PySem.Spec PyProof.Rows L2
section
variable {X : Cx} {O : Sto}
end
end DL
set_option Elab.async false
set_option linter.all false
set_option maxRecDepth 100000
set_option maxHeartbeats 1000000
namespace DL
open PySem PySem.Spec PyProof.Rows L2
section
variable {X : Cx} {mk : Prop} {ρ : Rho} {O : Sto} {P : Post} {RX : XC} {pos : Pos}
end
end DL
set_option Elab.async false
set_option linter.all false
set_option maxRecDepth 100000
set_option maxHeartbeats 1000000
namespace DL
open PySem PySem.Spec PyProof.Rows L2
section
variable {X : Cx} {O : Sto} {da db ea eb : D} {k : Nat} {v : Value}
end
section
variable {X : Cx} {ρ : Rho} {O : Sto} {value o ix : Expr} {P : Post} {pos tpos : Pos} {q j : Nat} {i : Int} {xs : List D}
theorem x_itemE (hv : Ev X ρ O value fun d O' => O' = O ∧ P.nx ρ (O.set q (some (.lst (xs.set j d))))) (ho : EvP X ρ O o (.ptr q)) (hq : O[q]? = some (some (.lst xs))) (hi : EvP X ρ O ix (.int i)) (hj : ixN xs.length i = some j)
    (hs : swapsWithSole [.Subscript o ix tpos] value pos.line X.env = pure false := by rfl) (hw : swappedStores [.Subscript o ix tpos] value X.env = pure none := by rfl) (h1 : (assignEach [.Subscript o ix tpos] X.env).map (·.2) = [assign (.Subscript o ix tpos) X.env] := by rfl)
    (ha : ∀ v, assign (.Subscript o ix tpos) X.env v = (do
      let ov ← holding [v] (eval o X.env)
      let iv ← holding [v, ov] (eval ix X.env)
      standAt tpos
      holding [v, ov, iv] (setItem ov iv v)
      release [v, ov, iv] []) := by intro _; rfl) : Ex X ρ O (.Assign [.Subscript o ix tpos] value pos) P := fun G => by
  refine PS.imp (ps_asg (hv G) (pg_sub (to := fun σ H Q => ∃ G1, SA X.K G1 H O ∧ EnvR X.K G1 σ ρ ∧ ∀ v G' H', Ext G1 G' → SA X.K G' H' O → Is X.K G' (.ptr q) v → Q v H') (ti := fun σ H Q => ∃ G1, SA X.K G1 H O ∧ EnvR X.K G1 σ ρ ∧ ∀ v G' H', Ext G1 G' → SA X.K G' H' O → Is X.K G' (.int i) v → Q v H')
    (fun pins s σ H Q I ⟨G1, z⟩ => ho G1 pins s σ H Q I z) (fun pins s σ H Q I ⟨G1, z⟩ => hi G1 pins s σ H Q I z) set_list ha) hs hw h1) fun E σ H ⟨q1, q2, q3⟩ => ?_
  refine ⟨q1, q2, fun y d O' G1 H1 e1 s1 i1 ⟨eO, h⟩ => ?_⟩
  subst eO
  refine ⟨G1, s1, q2.ext e1, fun ov G2 H2 e2 s2 i2 => ⟨G2, s2, q2.ext (e1.trans e2), fun iv G3 H3 e3 s3 i3 => ?_⟩⟩
  obtain ⟨ad, vs, rfl, g1, g3, g4⟩ := s3.lstAt (i2.ext e3) hq
  cases i3
  refine ⟨ad, vs, i, j, rfl, rfl, g3, by rw [← g4.length]; exact hj, ?_⟩
  exact q3.nx σ ρ _ G3 _ ((e1.trans e2).trans e3) (s3.put (m' := .lst (xs.set j d)) hq g1 ⟨_, upd_same, g4.set (i1.ext (e2.trans e3)) j⟩) (q2.ext ((e1.trans e2).trans e3)) h
end
end DL
set_option Elab.async false
set_option linter.all false
set_option maxRecDepth 100000
set_option maxHeartbeats 1000000
namespace L2
open PySem PySem.Spec PyProof.Rows
def zeros (n : Int) : Str := if n = 1 then "0" else ⟨(List.replicate n.toNat (("0" : Str).cps)).foldl (· ++ ·) #[]⟩
end L2
namespace DL
open PySem PySem.Spec PyProof.Rows L2
end DL
set_option Elab.async false
set_option linter.all false
set_option maxRecDepth 100000
set_option maxHeartbeats 1000000
namespace DL
open PySem PySem.Spec PyProof.Rows L2
theorem bls_are : ∀ {bs : List Bool} {us : List Value}, Vals (bs.map V.bl) us → us = bs.map Value.bool
  | [], _, .nil => rfl
  | b :: bs, _, .cons r t => by cases r; rw [bls_are t]; rfl
theorem reads_bls {h : Heap} : ∀ bs : List Bool, ReadsAll h (bs.map Value.bool) (bs.map PyData.bool) []
  | [] => .nil
  | b :: bs => ReadsAll.cons (as := []) (.bool b) (reads_bls bs)
theorem count_bls (k : Bool) : ∀ bs : List Bool, countIn (.bool k) (bs.map PyData.bool) = ((bs.count k : Nat) : Int)
  | [] => rfl
  | b :: bs => by
    rw [List.map_cons, countIn, count_bls k bs, List.count_cons]
    cases b <;> cases k <;> simp [same] <;> omega
section
variable {X : Cx} {ρ : Rho} {O : Sto} {a e : Expr} {d : D}
def rCntB (K : PySem.W.Frag) : V → List V → Hp → VK → Prop := fun x vs H Q => ∃ (p : Addr) (bs : List Bool) (k : Bool), x = .ref p ∧ vs = [.bl k] ∧ SqL K H p (bs.map V.bl) ∧ Q (.int ((bs.count k : Nat) : Int)) H
theorem mt_cntB : MtR X "list.count" (rCntB X.K) := by
  intro pins s σ H x vs v us Q I rx rv h
  obtain ⟨p, bs, k, rfl, rfl, hq, q⟩ := h
  cases rx
  obtain ⟨u, rfl, ru⟩ := rv.one
  cases ru
  obtain ⟨its, r, pl, hz⟩ := I.list hq
  have e := bls_are r
  subst e
  refine count_list_bools pl.isList (reads_bls (h := s.heap) bs) ?_ ?_
  · rw [List.all_map]; exact List.all_eq_true.mpr fun _ _ => rfl
  · rw [count_bls]
    exact ⟨.int _, H, I.tok _, ⟨_, rfl⟩, q⟩
theorem ev_countB {k : Bool} {bs : List Bool} {apos cpos : Pos} (ho : EvP X ρ O a d) (hl : LV O d (bs.map D.bl)) (he : EvP X ρ O e (.bl k))
    (hbase : attributeBase a ("count" : Str) X.env (eval a X.env) = eval a X.env := by rfl) (hline : (apos.endLine == cpos.line) = true := by rfl) (hst : starEach [e] X.env = [(false, eval e X.env)] := by rfl) :
    EvP X ρ O (.Call (.Attribute a ("count" : Str) apos) [e] [] cpos) (.int ((bs.count k : Nat) : Int)) := fun G =>
  PE.imp (pe_bm PySem.F.plainAttrs_list PySem.F.slot_list_count PySem.F.type_list_count mt_cntB (ho G)
    (pa_cons (te := fun σ H Q => ∃ G1, SA X.K G1 H O ∧ EnvR X.K G1 σ ρ ∧ ∀ v G' H', Ext G1 G' → SA X.K G' H' O → Is X.K G' (.bl k) v → Q v H') (fun pins s σ H Q I ⟨G1, q⟩ => he G1 pins s σ H Q I q) pa_nil hst) hbase
    (by rw [hst]; rfl) hline hst (by rfl)) fun σ H Q ⟨q1, q2, q3⟩ => ⟨q1, q2, fun v G1 H1 e1 s1 i1 => by
      obtain ⟨p, vs, rfl, g1, g2⟩ := hl.sq s1 i1
      have := Iss.toBls g2
      subst this
      refine ⟨.inl ⟨rfl, _, g1⟩, G1, s1, q2.ext e1, fun w G2 H2 e2 s2 i2 => ?_⟩
      cases i2
      obtain ⟨p2, vs2, h2, g3, g4⟩ := hl.sq s2 (i1.ext e2)
      cases h2
      have := Iss.toBls g4
      subst this
      exact ⟨p, bs, k, rfl, rfl, g3, q3 _ G2 H2 (e1.trans e2) s2 (.int _)⟩⟩
end
end DL
set_option Elab.async false
set_option linter.all false
set_option maxRecDepth 100000
set_option maxHeartbeats 1000000
namespace DL
open PySem PySem.Spec PyProof.Rows L2
section
variable {X : Cx} {ρ : Rho} {O : Sto} {elt tg iter : Expr} {ifs : List Expr} {scope : Scope} {pos : Pos} {xs : List D} {zs : List (Option D)}
theorem comp_coreG (N : List Str) (js : List Nat) (ρ0 : Rho) (hi : EvI X ρ O tg iter xs) (hc : X.calm = true) (hk : scope.kind = .function) (hfr : FreeOk X scope) (hnm : ∀ x ∈ scope.names, x.2 = .local → scope.names.lookup x.1 = some .local)
    (hl0 : ρ0.length = N.length)
    (h0 : ∀ (i : Nat) (d : D), ρ0[i]? = some (some d) → ∃ (x : Str) (j : Nat), N[i]? = some x ∧ scope.names.lookup x = some .free ∧ (∀ y ∈ scope.names, y.1 = x → y.2 ≠ .cell) ∧ X.N[j]? = some x ∧ ρ[j]? = some (some d) ∧ Vis X.env.scope x)
    (hzl : zs.length = xs.length) (hsz : xs.length ≤ sizeLine)
    (turn : ∀ (s : Shared) (H : Hp) (fp : List Addr) (i : Nat) (x : D) (z : Option D), xs[i]? = some x → zs[i]? = some z → ∃ ρ1, Tg (cxC X N scope s H fp) tg x ρ0 ρ1 ∧ ρ1.length = ρ0.length ∧ (∀ (j : Nat) (d : D), ρ0[j]? = some (some d) → ρ1[j]? = some (some d)) ∧ Kept (cxC X N scope s H fp) ρ1 O elt ifs z)
    {use : Option (Value → Sem Unit)} {pins : List (Addr × Obj)} {s : Shared} {σ : L2.St} {H : Hp} {G : Wd} {Q : Value → Shared → Prop} (I : L2.Inv X pins σ H s) (sa : SA X.K G H O) (en : EnvR X.K G σ ρ)
    (fin : ∀ (D C : Addr) (s' : Shared) (H5 : Hp) (G5 : Wd) (vs : List V), L2.Inv X pins σ (upd H5 D (.lst vs)) s' → Ext G G5 → SA X.K G5 H5 O → H5 D = none → Iss X.K G5 (zs.filterMap id) vs → FpOk X pins (upd H5 D (.lst vs)) C → (∃ m, s'.heap.Ns C m) → compPost (model X.prog X.w) X.A X.xe use Q (.ref D) C (.ok .next) s')
    (hs : ∀ x, foldedSetIterable iter X.env x = pure x := by intro _; rfl) :
    wpAny (model X.prog X.w) X.A (comprehension (.ListComp elt [⟨tg, iter, ifs, 0⟩] scope pos) scope X.env (firstIterPos [⟨tg, iter, ifs, 0⟩] pos) (newList []) false (eval iter X.env) use) Q X.xe s := by
  refine wpAny_comprehension_free rfl hs (clos_eq fun y hy e => I.ok.has _ (hfr y hy e)) hk hnm (thn (hi G pins s σ H (fun J H1 => ∃ G1, Ext G G1 ∧ SA X.K G1 H1 O ∧ Yields X.K G1 J xs) I ⟨sa, en, fun J G1 H1 e1 s1 y1 => ⟨G1, e1, s1, y1⟩⟩) fun v s1 h1 => thn h1 fun itv s2 h2 => ?_)
  obtain ⟨it, fp, tn, J, H2, e, I2, T, st2, f2, G2, e2, sa2, Yi⟩ := h2
  subst e
  have ho2 : ∀ b ∈ fp, ∃ o, s2.heap.get? b = some o := fun b hb => let ⟨o, q, _⟩ := T.obj 0 _ st2 b hb; ⟨o, q⟩
  have hlt : ∀ b ∈ fp, b < s2.heap.objs.size := fun b hb => let ⟨o, q⟩ := ho2 b hb; Heap.lt_size q
  unfold newList
  refine wpAny_newObj_type (newEnv_comp fun bb hbb => ?_)
  have hbb' : bb = X.env.builtins := hbb
  subst hbb'
  have hz1 : (s2.heap.push { cls := .type "list", dict := none, data := .seq ([] : List Value).toArray }).objs.size = s2.heap.objs.size + 1 := Heap.size_push ..
  dsimp only
  rw [hz1]
  generalize hD : s2.heap.objs.size = dd at hz1 ⊢
  -- the block's own context
  have en2 : EnvR X.K G2 σ ρ := en.ext e2
  obtain ⟨σ0, hσl, hσ0⟩ := ex_list (fun i (o : Option V) => (∀ d, ρ0[i]? = some (some d) → ∃ v, o = some v ∧ Is X.K G2 d v) ∧ ∀ v, o = some v → ∃ (x : Str) (j : Nat), N[i]? = some x ∧ scope.names.lookup x = some .free ∧ (∀ y ∈ scope.names, y.1 = x → y.2 ≠ .cell) ∧ X.N[j]? = some x ∧ σ[j]? = some (some v) ∧ Vis X.env.scope x) N.length (fun i hi => by
    cases q : ρ0[i]? with
    | none => exact ⟨none, And.intro (fun d z => nomatch z) (fun v z => nomatch z)⟩
    | some o =>
      cases o with
      | none => exact ⟨none, And.intro (fun d z => nomatch z) (fun v z => nomatch z)⟩
      | some d =>
        obtain ⟨x, j, q1, q2, q3, q4, q5, q6⟩ := h0 i d q
        obtain ⟨v, q7, q8⟩ := en2.get j d q5
        exact ⟨some v, And.intro (fun d' z => by cases z; exact ⟨v, rfl, q8⟩) (fun v' z => by cases z; exact ⟨x, j, q1, q2, q3, q4, q7, q6⟩)⟩)
  have en0 : EnvR X.K G2 σ0 ρ0 := ⟨hσl.trans hl0.symm, fun i d e => by
    have hi : i < σ0.length := by rw [hσl, ← hl0]; exact (List.getElem?_eq_some_iff.mp e).1
    obtain ⟨v, e1, e2⟩ := (hσ0 i σ0[i] (List.getElem?_eq_getElem hi)).1 d e
    exact ⟨v, by rw [List.getElem?_eq_getElem hi, e1], e2⟩⟩
  have I3 := inv_comp (N := N) (scope := scope) (fp := fp) (σ0 := σ0) I2 f2 ho2 hk hfr hσl (fun i v e => (hσ0 i _ e).2 v rfl) s2.toks { cls := .type "list", dict := none, data := .seq ([] : List Value).toArray }
  generalize hY : cxC X N scope s2 H2 fp = Y at I3
  have hD1 : (pushCells ((s2.heap.push { cls := .type "list", dict := none, data := .seq ([] : List Value).toArray }).push { cls := .type "dict", data := .dict #[] }) scope.names).get? dd = some (lstO []) := by
    refine pushCells_keeps _ _ _ _ (Heap.get?_push_of_some _ ?_)
    rw [← hD]
    exact Heap.get?_push_size _ rfl
  have hHD : H2 dd = none := I2.hok.fresh (by rw [hD]; exact Nat.le_refl _)
  have hsD : s2.heap.get? dd = none := Heap.get?_none_of_le (by rw [hD]; exact Nat.le_refl _)
  have hDC : dd ≠ Y.env.locals := by
    rw [← hY]; show dd ≠ s2.heap.objs.size + 1; rw [hD]; exact Nat.ne_of_lt (Nat.lt_succ_self _)
  have hfs : ∀ b ∈ frs X.stack, b < s2.heap.objs.size := fun b hb => by
    rcases List.mem_cons.mp (I2.stkSub b hb) with q | q
    · rw [q]; exact I2.lt
    · exact Nat.lt_of_not_le fun z => I2.nofs z q
  have hYfs : Y.fs = frs X.stack := by rw [← hY]; rfl
  have hDfs : dd ∉ Y.fs := fun z => by rw [hYfs] at z; have := hfs dd z; rw [hD] at this; exact Nat.lt_irrefl _ this
  have hYex : Y.ex = fp := by rw [← hY]; rfl
  have hYpn : Y.pn = [] := by rw [← hY]; rfl
  have hYxe : Y.xe = fun _ _ => False := by rw [← hY]; rfl
  have hYs : Y.s₀.heap.objs.size = dd := by rw [← hY]; exact hD
  have hYc : ∀ x c, Y.env.cells.lookup x = some c → c ≠ dd ∧ ∀ b ∈ fp, c ≠ b := fun x c e => by
    refine ⟨?_, fun b hb => ?_⟩
    · intro z
      subst z
      obtain ⟨v, o, q1, q2⟩ := I3.cell x c e
      rw [hD1] at q1; cases q1; cases q2
    · have := I3.ok.exf b (by rw [hYex]; exact hb)
      exact this.2 x c e
  have fpY : ∀ {H' : Hp} {pl : List (Addr × Obj)}, (∀ b ∈ fp, H' b = none) → (∀ p ∈ pl, p.1 = dd) → ∀ b ∈ fp, FpOk Y pl H' b := fun hn hp b hb => ⟨hn b hb, (I3.ok.exf b (by rw [hYex]; exact hb)).1, I3.ok.exfs b (by rw [hYex]; exact hb), .inl (by rw [hYex]; exact hb), fun x c e => (hYc x c e).2 b hb, fun p hq => by
    rw [hYpn, List.nil_append] at hq
    rw [hp p hq]
    exact Nat.ne_of_gt (by rw [← hD]; exact hlt b hb)⟩
  have I4 : L2.Inv Y [(dd, lstO [])] σ0 H2 { s2 with heap := pushCells ((s2.heap.push { cls := .type "list", dict := none, data := .seq ([] : List Value).toArray }).push { cls := .type "dict", data := .dict #[] }) scope.names, toks := s2.toks } := I3.pins_of fun p hp => by
    rw [List.mem_singleton.mp hp]
    exact ⟨hD1, hHD, hDC, hDfs, fun v z => by cases z⟩
  have st4 : tn 0 (pushCells ((s2.heap.push { cls := .type "list", dict := none, data := .seq ([] : List Value).toArray }).push { cls := .type "dict", data := .dict #[] }) scope.names) := T.keep 0 _ _ st2 fun b hb o e => pushCells_keeps _ _ b o (Heap.get?_push_of_some _ (Heap.get?_push_of_some _ e))
  have hYp : Y.prog = X.prog := by rw [← hY]; rfl
  have hYw : Y.w = X.w := by rw [← hY]; rfl
  have hYK : Y.K = X.K := by rw [← hY]; rfl
  have hYA : Y.A = X.A := by rw [← hY]; rfl
  have hYcm : Y.calm = true := by rw [← hY]; exact hc
  have loop : ∀ s3 : Shared, s3 = { s2 with heap := pushCells ((s2.heap.push { cls := .type "list", dict := none, data := .seq ([] : List Value).toArray }).push { cls := .type "dict", data := .dict #[] }) scope.names } →
      codeAny (model X.prog X.w) X.A (.compLoop (.ListComp elt [⟨tg, iter, ifs, 0⟩] scope pos) 0 (.ref it) (.ref dd) Y.env) (compPost (model X.prog X.w) X.A X.xe use Q (.ref dd) (dd + 1)) s3 := by
    rintro s3 rfl
    refine compLoop_any (fun n s' => ∃ (i : Nat) (G' : Wd) (σ' : L2.St) (H' : Hp) (vs : List V) (its : List Value), n = xs.length - i ∧ i ≤ xs.length ∧ L2.Inv Y [(dd, lstO its)] σ' H' s' ∧ tn i s'.heap ∧ (∀ b ∈ fp, H' b = none) ∧ Ext G2 G' ∧ SA X.K G' H' O ∧ EnvR X.K G' σ' ρ0 ∧
      Iss X.K G' ((zs.take i).filterMap id) vs ∧ Vals vs its ∧ its.length ≤ i) ?_ xs.length _ ⟨0, G2, σ0, H2, [], [], rfl, Nat.zero_le _, I4, st4, fun b hb => (f2 b hb).1, Ext.refl _, sa2, en0, .nil, .nil, Nat.le_refl _⟩
    rintro n s5 F ⟨i, G5, σ5, H5, vs, its, rfl, hil, I5, st5, fr5, e5, sa5, en5, is5, va5, hl5⟩
    by_cases hlt5 : i < xs.length
    · have hx : xs[i]? = some xs[i] := List.getElem?_eq_getElem hlt5
      have hzi : i < zs.length := by omega
      have hz : zs[i]? = some zs[i] := List.getElem?_eq_getElem hzi
      generalize xs[i] = x at hx
      generalize zs[i] = z at hz
      have it5 := T.item Y hYp hYw hYK hYcm i [(dd, lstO its)] s5 σ5 H5 F I5 (fpY fr5 (fun p hp => by rw [List.mem_singleton.mp hp])) st5 (Yi.go i H5 (e5.g.trans sa5.sub) hlt5)
      rw [hYA] at it5
      refine thn it5 fun r s6 ⟨u, hr, h6⟩ => ?_
      subst hr
      refine thn h6 fun _ s7 ⟨xv, H7, I7, r7, y7, st7, fr7⟩ => ?_
      obtain ⟨x', G7, hx', e7, sa7, ix⟩ := Yi.yld i xv H5 H7 G5 O e5 sa5 y7 hlt5
      have : x' = x := Option.some.inj (hx'.symm.trans hx)
      subst this
      have I7' := I7.pinned (fpY fr7 (fun p hp => by rw [List.mem_singleton.mp hp])) (T.obj _ _ st7)
      obtain ⟨ρ1, tg1, hl1, hs1, kp1⟩ := turn s2 H2 fp i x' z hx hz
      rw [hY] at tg1 kp1
      have xeF : ∀ {α : Type} {t : Sem α} {P : α → Shared → Prop} {q : Shared}, wpAny (model Y.prog Y.w) Y.A t P Y.xe q → wpAny (model X.prog X.w) X.A t P F q := fun h => by
        rw [hYp, hYw, hYA, hYxe] at h
        exact wpAny_mono h (fun _ _ q => q) fun _ _ q => q.elim
      refine thn (xeF (tg1 G7 _ s7 σ5 H7 xv u (fun σ' H' => EnvR X.K G7 σ' ρ1 ∧ H' = H7) I7' r7 (by
        rw [hYK]
        exact ⟨ix, sa7.sub, en5.ext e7, fun σ' q => ⟨q, rfl⟩⟩))) fun _ s8 ⟨σ8, H8, I8, en8, hH8⟩ => ?_
      subst hH8
      -- back to the invariant, with or without one more
      have again : ∀ {s9 : Shared} {H9 : Hp} {G9 : Wd} {its' : List Value} {vs' : List V}, L2.Inv Y ((dd, lstO its') :: pinsAt fp s7.heap) σ8 H9 s9 → Ext G7 G9 → SA X.K G9 H9 O → Iss X.K G9 ((zs.take (i + 1)).filterMap id) vs' → Vals vs' its' → its'.length ≤ i + 1 →
          ∃ m, m < xs.length - i ∧ ∃ (i : Nat) (G' : Wd) (σ' : L2.St) (H' : Hp) (vs : List V) (its : List Value), m = xs.length - i ∧ i ≤ xs.length ∧ L2.Inv Y [(dd, lstO its)] σ' H' s9 ∧ tn i s9.heap ∧ (∀ b ∈ fp, H' b = none) ∧ Ext G2 G' ∧ SA X.K G' H' O ∧ EnvR X.K G' σ' ρ0 ∧
            Iss X.K G' ((zs.take i).filterMap id) vs ∧ Vals vs its ∧ its.length ≤ i := fun {s9 H9 G9 its' vs'} I9 e9 sa9 is9 va9 hl9 => by
        refine ⟨xs.length - (i + 1), by omega, i + 1, G9, σ8, H9, vs', its', rfl, hlt5, I9.pins_of (fun p hp => I9.pin p (by rw [hYpn, List.nil_append]; rw [List.mem_singleton.mp hp]; exact List.mem_cons_self)), T.keep _ _ _ st7 fun b hb o e => (I9.pin (b, o) (by rw [hYpn, List.nil_append]; exact List.mem_cons_of_mem _ (mem_pinsAt hb e))).1, fun b hb => ?_, (e5.trans e7).trans e9, sa9, (en8.weak hl1.symm hs1).ext e9, is9, va9, hl9⟩
        obtain ⟨o, e, _⟩ := T.obj _ _ st7 b hb
        exact (I9.pin (b, o) (by rw [hYpn, List.nil_append]; exact List.mem_cons_of_mem _ (mem_pinsAt hb e))).2.1
      have more : ∀ {y : D} {s9 : Shared} {G9 : Wd} {H9 : Hp}, z = some y → L2.Inv Y ([(dd, lstO its)] ++ pinsAt fp s7.heap) σ8 H9 s9 → Ext G7 G9 → SA X.K G9 H9 O → EvP Y ρ1 O elt y → wpAny (model X.prog X.w) X.A (eval elt Y.env) (fun x s5 => wpAny (model X.prog X.w) X.A (call (.builtin "list.append") [.ref dd, x]) (fun _ s6 => ∃ m, m < xs.length - i ∧ ∃ (i : Nat) (G' : Wd) (σ' : L2.St) (H' : Hp) (vs : List V) (its : List Value), m = xs.length - i ∧ i ≤ xs.length ∧ L2.Inv Y [(dd, lstO its)] σ' H' s6 ∧ tn i s6.heap ∧ (∀ b ∈ fp, H' b = none) ∧ Ext G2 G' ∧ SA X.K G' H' O ∧ EnvR X.K G' σ' ρ0 ∧
            Iss X.K G' ((zs.take i).filterMap id) vs ∧ Vals vs its ∧ its.length ≤ i) F s5) F s9 := fun {y s9 G9 H9} hzy I9 e9 sa9 ev => by
        refine thn (xeF (ev G9 _ s9 σ8 H9 (fun v H' => ∃ G', Ext G9 G' ∧ SA X.K G' H' O ∧ Is X.K G' y v) I9 (by
          rw [hYK]
          exact ⟨sa9, en8.ext e9, fun v G' H' q1 q2 q3 => ⟨G', q1, q2, q3⟩⟩))) fun uy s10 ⟨vy, H10, I10, r10, G10, e10, sa10, iy⟩ => ?_
        have p10 := I10.pin (dd, lstO its) (by rw [hYpn, List.nil_append]; exact List.mem_append_left _ List.mem_cons_self)
        refine append_at (hsz := by show its.toArray.size ≤ sizeLine; rw [List.size_toArray]; omega) p10.1 fun h' hs' hD' => ?_
        have Ia : L2.Inv Y (pinsAt fp s7.heap) σ8 H10 s10 := I10.pins_of fun p hp => I10.pin p (by rw [hYpn, List.nil_append]; exact List.mem_append_right _ hp)
        have Ib : L2.Inv Y (pinsAt fp s7.heap) σ8 H10 { s10 with heap := h' } := Ia.turned (t' := s10.toks) (fun b o hb e => (hs'.2 b hb).trans e) p10.2.1 hDC (.inr (by rw [hYs]; exact Nat.le_refl _)) (fun x c e => (hYc x c e).1) (fun p hp => by
          rw [hYpn, List.nil_append] at hp
          obtain ⟨hb, _⟩ := of_pinsAt hp
          exact Nat.ne_of_lt (by rw [← hD]; exact hlt p.1 hb))
        have Ic : L2.Inv Y ((dd, lstO (its ++ [uy])) :: pinsAt fp s7.heap) σ8 H10 { s10 with heap := h' } := Ib.pins_of fun p hp => by
          rcases List.mem_cons.mp hp with q | q
          · rw [q]
            refine ⟨hD'.trans ?_, p10.2.1, hDC, hDfs, fun v z => by cases z⟩
            congr 1
            simp [lstO]
          · exact Ib.pin p (by rw [hYpn, List.nil_append]; exact q)
        refine again Ic (e9.trans e10) sa10 (vs' := vs ++ [vy]) ?_ (va5.append (.cons r10 .nil)) (by rw [List.length_append, List.length_singleton]; omega)
        rw [fm_take zs i z hz, hzy]
        exact (is5.ext ((e7.trans e9).trans e10)).append (.cons iy .nil)
      match ifs, kp1 with
      | [], kp1 =>
        obtain ⟨y, hzy, ev⟩ := kp1
        unfold compTests
        refine wpAny_bind (wpAny_tests_nil (wpAny_pure ?_))
        simp only [if_true]
        exact more hzy I8 (Ext.refl _) sa7 ev
      | [c], kp1 =>
        obtain ⟨k, tc, ht, hff⟩ := kp1
        unfold compTests
        refine wpAny_bind (wpAny_tests_one (thn (xeF (tc G7 _ s8 σ8 H8 (fun b H' => b = k ∧ ∃ G', Ext G7 G' ∧ SA X.K G' H' O) I8 (by
          rw [hYK]
          exact ⟨sa7, en8, fun G' H' q1 q2 => ⟨rfl, G', q1, q2⟩⟩))) fun b s9 ⟨H9, I9, hb, G9, e9, sa9⟩ => wpAny_pure ?_))
        subst hb
        cases b with
        | true =>
          obtain ⟨y, hzy, ev⟩ := ht rfl
          simp only [if_true]
          exact more hzy I9 e9 sa9 ev
        | false =>
          simp only [Bool.false_eq_true, if_false]
          refine again I9 e9 sa9 (vs' := vs) ?_ va5 (Nat.le_succ_of_le hl5)
          rw [fm_take zs i z hz, hff rfl]
          simpa using is5.ext (e7.trans e9)
      | _ :: _ :: _, kp1 => exact kp1.elim
    · have hie : i = xs.length := by omega
      subst hie
      have dn := T.done Y hYp hYw hYK hYcm xs.length [(dd, lstO its)] s5 σ5 H5 F I5 (fpY fr5 (fun p hp => by rw [List.mem_singleton.mp hp])) st5 (Yi.stop _ H5 (e5.g.trans sa5.sub) (Nat.le_refl _))
      rw [hYA] at dn
      refine thn dn fun r s6 ⟨hr, I6⟩ => ?_
      subst hr
      have p6 := I6.pin (dd, lstO its) (by rw [hYpn, List.nil_append]; exact List.mem_cons_self)
      rw [← hzl, List.take_length] at is5
      have vl : vs.length ≤ sizeLine := by rw [va5.length]; omega
      have Ix : L2.Inv X pins σ (upd H5 dd (.lst vs)) s6 := by
        have un := I6.base
        rw [hYfs, hYex, ← hY] at un
        have un : Un (frs X.stack) fp H2 H5 s2.heap s6.heap := un
        refine I2.call' (ch := fp) (I6.os.trans (by rw [← hY]; rfl)) (Un_more un hHD hsD) ?_ I6.bare fun b hb => ?_
        · have hk6 := I6.hok
          rw [hYp, hYw] at hk6
          exact HOk_more hk6 p6.2.1 ⟨vl, its, its.length, va5, p6.1⟩
        · obtain ⟨_, f1, _, f3, f4, f5⟩ := f2 b hb
          exact ⟨f3, f1, f4, f5⟩
      refine fin dd (dd + 1) s6 _ _ vs Ix (e2.trans e5) sa5 p6.2.1 is5 ?_ ?_
      · have hC : dd + 1 = Y.env.locals := by rw [← hY]; show dd + 1 = s2.heap.objs.size + 1; rw [hD]
        have ge : s2.heap.objs.size ≤ dd + 1 := by rw [hD]; exact Nat.le_succ _
        have := I2.fpOk (H' := upd H5 dd (.lst vs)) ge (by
          have q := I6.free
          rw [← hC] at q
          rw [upd_ne (show dd + 1 ≠ dd from Nat.succ_ne_self _)]
          exact q)
        exact this
      · obtain ⟨m, hn, _⟩ := I6.loc
        rw [← hY] at hn
        have hn : s6.heap.Ns (s2.heap.objs.size + 1) m := hn
        rw [hD] at hn
        exact ⟨m, hn⟩
  have eY : Y.env = { scope := relabel scope X.env, locals := dd + 1, globals := X.env.globals, cells := cellsFrom (dd + 1 + 1) scope.names (closOf X.env scope.names []), qual := X.env.qual, func := none, code := X.env.code, frame := X.env.frame, builtins := X.env.builtins } := by
    rw [← hY]
    show compEnvC _ _ _ _ = _
    rw [hD]
    rfl
  rw [← eY]
  exact codeAny_compStart_list (loop _ rfl) (T.self X.A 0 _ _ _ st4 (loop _ rfl))
theorem x_setCP {x : Str} {p spos : Pos} {P : Post} (k : Nat) (T F : List Str) (js : List Nat) (hi : EvI X ρ O tg iter xs) (hzl : zs.length = xs.length) (hsz : xs.length ≤ sizeLine) (turn : ∀ (i : Nat) (x : D) (z : Option D), xs[i]? = some x → zs[i]? = some z → CTurn X T F js ρ O scope tg elt ifs x z)
    (h : P.nx (ρ.set k (some (.ptr O.length))) (O ++ [some (.lst (zs.filterMap id))])) (hN : X.N.Nodup) (hx : X.N[k]? = some x) (hlc : Loc X.env.scope x) (hf : X.fn x = true ∨ X.env.scope.names.lookup x = some .local)
    (hfl : F.length = js.length) (hB : freeB X.N X.env.scope.names scope.names F js = true) (hc : X.calm = true) (hk : scope.kind = .function) (hs : ∀ x, foldedSetIterable iter X.env x = pure x)
    (hsw : swapsWith (.ListComp elt [⟨tg, iter, ifs, 0⟩] scope pos) (some (.Name x p)) spos.line X.env = pure true) : Ex X ρ O (.Assign [.Name x p] (.ListComp elt [⟨tg, iter, ifs, 0⟩] scope pos) spos) P := fun G pins s σ H E I ⟨h1, h2, h3⟩ => by
  rw [PySem.exec_Assign_Name_used _ _ _ _ hsw]
  refine wpAny_bind (wpAny_standAt (wpAny_bind ?_))
  show wpAny _ _ (do let _ ← comprehension (.ListComp elt [⟨tg, iter, ifs, 0⟩] scope pos) scope X.env _ (newList []) false (eval iter X.env) (some (assign (.Name x p) X.env))) _ _ s
  refine wpAny_bind (thn (comp_coreG (use := some (assign (.Name x p) X.env)) (Q := fun _ s' => SP X pins E .next s') (T ++ F) js (T.map (fun _ => (none : Option D)) ++ frOf ρ js) hi hc hk (freeB_free hB) (freeB_loc hB) (by simp [frOf, hfl]) (freeB_at hB) hzl hsz (fun s H fp i x z q1 q2 => ?_) I h1 h2 (fun dd C s' H5 G5 vs I' e' sa5 hd5 is5 fo ns => ?_) hs) fun _ s' hq => wpAny_pure (wpAny_pure hq))
  · obtain ⟨ts, t1, t2, t3⟩ := turn i x z q1 q2 s H fp
    obtain ⟨u1, u2⟩ := sub_fr (fr := frOf ρ js) t1
    exact ⟨_, t2, u1, u2, t3⟩
  · obtain ⟨m, hn⟩ := ns
    obtain ⟨f0, f1, f2, f3, f4, f5⟩ := fo
    refine wpAny_assign_Name (store_ok2 I' hN hx hlc (v := .ref dd) rfl (fun s2 I2 ⟨a, sb, ha⟩ => ?_) hf)
    have hCa : C ≠ a := by
      rcases ha with q | q
      · rw [q]; exact f1
      · exact Ne.symm (f4 _ _ q)
    refine ⟨m, hn.sameBut sb hCa, fun h' hs' => ?_⟩
    have eG : Ext G5 ⟨G5.g, G5.l ++ [dd]⟩ := ⟨Same.refl _, [dd], rfl⟩
    obtain ⟨e2, s2'⟩ := sa5.new (o := .lst vs) (m := .lst (zs.filterMap id)) hd5 ⟨vs, upd_same, is5.ext eG⟩
    have ip : Is X.K ⟨G5.g, G5.l ++ [dd]⟩ (.ptr O.length) (.ref dd) := .ptr _ (by rw [← sa5.len, List.getElem?_append_right (Nat.le_refl _), Nat.sub_self]; rfl)
    exact ⟨_, _, I2.turned (t' := s2.toks) (fun b o hb e => (hs'.2 b hb).trans e) f0 f1 f3 f4 f5, h3.nx _ _ _ _ _ (e'.trans e2) s2' ((h2.ext (e'.trans e2)).set k ip) h⟩
end
section
variable {X : Cx} {ρ : Rho} {O : Sto} {P : Post} {pos : Pos}
variable {α : Type} {ps : List α} {f g : α → D} {h : α → Option D} {tg iter elt : Expr} {ifs : List Expr} {scope : Scope}
theorem x_setFP {x : Str} {p spos : Pos} (k : Nat) (h : α → Option D) (T F : List Str) (js : List Nat) (hi : EvI X ρ O tg iter (ps.map f)) (hsz : ps.length ≤ sizeLine) (turn : ∀ q, q ∈ ps → CTurn X T F js ρ O scope tg elt ifs (f q) (h q))
    (hP : P.nx (ρ.set k (some (.ptr O.length))) (O ++ [some (.lst (ps.filterMap h))])) (hN : X.N.Nodup) (hx : X.N[k]? = some x := by rfl) (hlc : Loc X.env.scope x := by first | exact Or.inl rfl | exact Or.inr rfl) (hf : X.fn x = true ∨ X.env.scope.names.lookup x = some .local := by first | exact .inl rfl | exact .inr rfl | assumption)
    (hfl : F.length = js.length := by rfl) (hB : freeB X.N X.env.scope.names scope.names F js = true := by rfl) (hc : X.calm = true := by rfl) (hk : scope.kind = .function := by rfl) (hs : ∀ x, foldedSetIterable iter X.env x = pure x := by intro _; rfl)
    (hsw : swapsWith (.ListComp elt [⟨tg, iter, ifs, 0⟩] scope pos) (some (.Name x p)) spos.line X.env = pure true := by rfl) : Ex X ρ O (.Assign [.Name x p] (.ListComp elt [⟨tg, iter, ifs, 0⟩] scope pos) spos) P := by
  rw [← fm_map] at hP
  refine x_setCP k T F js hi (by rw [List.length_map, List.length_map]) (by rw [List.length_map]; exact hsz) (fun i x z h1 h2 => ?_) hP hN hx hlc hf hfl hB hc hk hs hsw
  rw [List.getElem?_map] at h1 h2
  cases e : ps[i]? with
  | none => rw [e] at h1; cases h1
  | some q => rw [e] at h1 h2; cases h1; cases h2; exact turn q (List.mem_of_getElem? e)
theorem x_setMP {x : Str} {p spos : Pos} (k : Nat) (g : α → D) (T F : List Str) (js : List Nat) (hi : EvI X ρ O tg iter (ps.map f)) (hsz : ps.length ≤ sizeLine) (turn : ∀ q, q ∈ ps → CTurn X T F js ρ O scope tg elt ifs (f q) (some (g q)))
    (hP : P.nx (ρ.set k (some (.ptr O.length))) (O ++ [some (.lst (ps.map g))])) (hN : X.N.Nodup) (hx : X.N[k]? = some x := by rfl) (hlc : Loc X.env.scope x := by first | exact Or.inl rfl | exact Or.inr rfl) (hf : X.fn x = true ∨ X.env.scope.names.lookup x = some .local := by first | exact .inl rfl | exact .inr rfl | assumption)
    (hfl : F.length = js.length := by rfl) (hB : freeB X.N X.env.scope.names scope.names F js = true := by rfl) (hc : X.calm = true := by rfl) (hk : scope.kind = .function := by rfl) (hs : ∀ x, foldedSetIterable iter X.env x = pure x := by intro _; rfl)
    (hsw : swapsWith (.ListComp elt [⟨tg, iter, ifs, 0⟩] scope pos) (some (.Name x p)) spos.line X.env = pure true := by rfl) : Ex X ρ O (.Assign [.Name x p] (.ListComp elt [⟨tg, iter, ifs, 0⟩] scope pos) spos) P := by
  rw [← fm_some, fm_map] at hP
  exact x_setFP k (fun q => some (g q)) T F js hi hsz turn hP hN hx hlc hf hfl hB hc hk hs hsw
end
end DL
set_option Elab.async false
set_option linter.all false
set_option maxRecDepth 100000
set_option maxHeartbeats 1000000
namespace DL
open PySem PySem.Spec PyProof.Rows L2
section
variable {P : Program} {w : World} {K : PySem.W.Frag} {mg : Str → Option Value} {base : Heap}
end
end DL
namespace DL
open PySem PySem.Spec PyProof.Rows L2
section
variable {prog : Program} {w : World} {A : Around} {E : Value → Shared → Prop} {s : Shared}
end
section
variable {X : Cx} {O : Sto}
end
end DL
namespace DL
open PySem PySem.Spec PyProof.Rows L2
section
variable {X : Cx} {mk : Prop} {ρ : Rho} {O : Sto} {value o : Expr} {RX : XC} {pos pos' : Pos} {f : Str} {P : Post} {C : Addr} {q : Nat} {fs : List (Str × D)}
end
end DL
set_option Elab.async false
set_option linter.all false
set_option maxRecDepth 100000
set_option maxHeartbeats 1000000
namespace DL
open PySem PySem.Spec PyProof.Rows L2 PySem.SeqAt PySem.MeetsSeq
section
variable {X : Cx} {ρ : Rho} {O : Sto} {a e : Expr} {d : D}
theorem idx_first {α : Type} [BEq α] [LawfulBEq α] {xs : List α} {k : α} (h : k ∈ xs) : ∃ hl : xs.idxOf k < xs.length, xs[xs.idxOf k] = k ∧ ∀ m (hm : m < xs.length), m < xs.idxOf k → (xs[m] == k) = false := by
  have hl := List.idxOf_lt_length_iff.mpr h
  refine ⟨hl, List.getElem_idxOf hl, fun m hm hlt => ?_⟩
  have := List.not_of_lt_findIdx (p := fun x => x == k) (xs := xs) (show m < xs.findIdx (fun x => x == k) from hlt)
  simpa using this
def rIdxI (K : PySem.W.Frag) : V → List V → Hp → VK → Prop := fun x vs H Q => ∃ (p : Addr) (ns : List Int) (k : Int), x = .ref p ∧ vs = [.int k] ∧ SqL K H p (ns.map V.int) ∧ k ∈ ns ∧ Q (.int ((ns.idxOf k : Nat) : Int)) H
def rIdxB (K : PySem.W.Frag) : V → List V → Hp → VK → Prop := fun x vs H Q => ∃ (p : Addr) (bs : List Bool) (k : Bool), x = .ref p ∧ vs = [.bl k] ∧ SqL K H p (bs.map V.bl) ∧ k ∈ bs ∧ Q (.int ((bs.idxOf k : Nat) : Int)) H
theorem mt_idxB : MtR X "list.index" (rIdxB X.K) := by
  intro pins s σ H x vs v us Q I rx rv h
  obtain ⟨p, bs, k, rfl, rfl, hq, hk, q⟩ := h
  cases rx
  obtain ⟨u, rfl, ru⟩ := rv.one
  cases ru
  obtain ⟨its, r, pl, hz⟩ := I.list hq
  have e := bls_are r
  subst e
  have hn := sizeLine_eq
  rw [List.length_map] at hz
  obtain ⟨⟨cls, dd, data, sl⟩, ho, hc, n, hd⟩ := pl.isList
  simp only at hc hd
  subst hc hd
  obtain ⟨h1, h2, h3⟩ := idx_first hk
  have ha : (bs.map PyData.bool).all Shape.bool.has = true := by rw [List.all_map]; exact List.all_eq_true.mpr fun _ _ => rfl
  refine call_meets PySem.F.slot_list_index ⟨_, ho, rfl⟩ PySem.F.entry_list_index (PySem.F.args_list_index_2 _ _)
    (list_indexAt p (bs.map Value.bool).toArray n dd sl (.bool k) (isBoolOf k) (bs.idxOf k) (by simpa using h1) (by omega) ?_ ?_) ⟨ho, fun y hy => eq_isBoolOf k (reads_bls (h := s.heap) bs) ha y (by simpa using hy) _ _, ⟨.int _, H, I.tok _, ⟨_, rfl⟩, q⟩⟩
  · show isBoolOf k ((bs.map Value.bool)[bs.idxOf k]'(by rw [List.length_map]; exact h1)) = true
    rw [List.getElem_map, h2]
    simp [isBoolOf]
  · intro j hjs hlt
    show isBoolOf k ((bs.map Value.bool)[j]'(by simpa using hjs)) = false
    rw [List.getElem_map]
    exact h3 j _ hlt
theorem ev_idxB {k : Bool} {bs : List Bool} {apos cpos : Pos} (ho : EvP X ρ O a d) (hl : LV O d (bs.map D.bl)) (he : EvP X ρ O e (.bl k)) (hk : k ∈ bs)
    (hbase : attributeBase a ("index" : Str) X.env (eval a X.env) = eval a X.env := by rfl) (hline : (apos.endLine == cpos.line) = true := by rfl) (hst : starEach [e] X.env = [(false, eval e X.env)] := by rfl) :
    EvP X ρ O (.Call (.Attribute a ("index" : Str) apos) [e] [] cpos) (.int ((bs.idxOf k : Nat) : Int)) := fun G =>
  PE.imp (pe_bm PySem.F.plainAttrs_list PySem.F.slot_list_index PySem.F.type_list_index mt_idxB (ho G)
    (pa_cons (te := fun σ H Q => ∃ G1, SA X.K G1 H O ∧ EnvR X.K G1 σ ρ ∧ ∀ v G' H', Ext G1 G' → SA X.K G' H' O → Is X.K G' (.bl k) v → Q v H') (fun pins s σ H Q I ⟨G1, q⟩ => he G1 pins s σ H Q I q) pa_nil hst) hbase
    (by rw [hst]; rfl) hline hst (by rfl)) fun σ H Q ⟨q1, q2, q3⟩ => ⟨q1, q2, fun v G1 H1 e1 s1 i1 => by
      obtain ⟨p, vs, rfl, g1, g2⟩ := hl.sq s1 i1
      have := Iss.toBls g2
      subst this
      refine ⟨.inl ⟨rfl, _, g1⟩, G1, s1, q2.ext e1, fun w G2 H2 e2 s2 i2 => ?_⟩
      cases i2
      obtain ⟨p2, vs2, h2, g3, g4⟩ := hl.sq s2 (i1.ext e2)
      cases h2
      have := Iss.toBls g4
      subst this
      exact ⟨p, bs, k, rfl, rfl, g3, hk, q3 _ G2 H2 (e1.trans e2) s2 (.int _)⟩⟩
end
end DL
set_option Elab.async false
set_option linter.all false
set_option maxRecDepth 100000
set_option maxHeartbeats 1000000
namespace DL
open PySem PySem.Spec PyProof.Rows L2 PySem.W
section
variable {prog : Program} {w : World} {A : Around} {s : Shared} {E : Value → Shared → Prop} {it : Addr} {Ty : String}
end
section
variable {prog : Program} {w : World} {A : Around} {s : Shared} {E : Value → Shared → Prop} {it l : Addr} {i : Int}
end
def Itw (K : PySem.W.Frag) (l m : Nat) : It :=
  ⟨fun i H => ∃ xs x, SqL K H l xs ∧ xs.length = m ∧ xs.reverse[i]? = some x, fun i H x H' => H' = H ∧ ∀ xs, SqL K H l xs → xs.reverse[i]? = some x, fun i H => ∃ xs, SqL K H l xs ∧ xs.length = m ∧ m ≤ i⟩
section
variable {X : Cx} {ρ : Rho} {O : Sto} {a : Expr} {pos p pos2 p2 : Pos} {xs : List D}
end
end DL
set_option Elab.async false
set_option linter.all false
set_option maxRecDepth 100000
set_option maxHeartbeats 1000000
namespace L2
open PySem PySem.Spec PyProof.Rows
def ItrV (lo : Int) (n : Nat) : It := ⟨fun i _ => i < n, fun i H x H' => H' = H ∧ x = .int (lo + (i : Nat) * 7), fun i _ => n ≤ i⟩
def sevUp (d : Int) : Int := if 0 < d then (d - 1) / 7 + 1 else 0
section
variable {X : Cx} {tg a b c : Expr} {p pos : Pos}
end
end L2
namespace DL
open PySem PySem.Spec PyProof.Rows L2
section
variable {X : Cx} {ρ : Rho} {O : Sto} {a b c : Expr} {p pos : Pos} {P : Post} {st : Stmt} {rest : List Stmt}
def rangeV (lo : Int) (n : Nat) : List D := (List.range n).map fun i => .int (lo + (i : Nat) * 7)
end
section
variable {X : Cx} {ρ : Rho} {O : Sto} {a b e : Expr} {pos : Pos} {P : Post} {d da db ea eb : D} {k : Nat} {xs : List D}
end
end DL
set_option Elab.async false
set_option linter.all false
set_option maxRecDepth 100000
set_option maxHeartbeats 1000000
namespace DL
open PySem PySem.Spec PyProof.Rows L2
def Its (x : Str) : It := ⟨fun i _ => i < x.cps.size, fun i H v H' => H' = H ∧ ∃ c, x.cps[i]? = some c ∧ v = .str ⟨#[c]⟩, fun i _ => x.cps.size ≤ i⟩
section
variable {X : Cx} {ρ : Rho} {O : Sto} {a b e : Expr} {pos p : Pos} {d : D} {x y : Str}
def sgD (c : Nat) : D := .str ⟨#[c]⟩
theorem cmp_eqS : Op2 X O (compareOp .Eq) (.str x) (.str y) (.bl (x == y)) := .of op_eq fun G v u H Q s h1 h2 k => by
  cases h1; cases h2; exact ⟨rfl, by rw [dec_str]; exact k _ G H (Ext.refl _) s (.bl _)⟩
theorem cmp_neS : Op2 X O (compareOp .NotEq) (.str x) (.str y) (.bl (!(x == y))) := .of op_ne fun G v u H Q s h1 h2 k => by
  cases h1; cases h2; exact ⟨rfl, by rw [dec_str]; exact k _ G H (Ext.refl _) s (.bl _)⟩
end
end DL
set_option Elab.async false
set_option linter.all false
set_option maxRecDepth 100000
set_option maxHeartbeats 1000000
namespace DL
open PySem PySem.Spec PyProof.Rows L2
section
variable {X : Cx} {ρ : Rho} {O : Sto} {a b e : Expr} {pos p : Pos} {d : D} {x y sep : Str}
def rJoin (K : PySem.W.Frag) : V → List V → Hp → VK → Prop := fun x vs H Q => ∃ (sep : Str) (ys : List Str) (p : Addr), x = .str sep ∧ vs = [.ref p] ∧ SqL K H p (ys.map V.str) ∧ JoinOk sep ys = true ∧ Q (.str (Str.join sep ys)) H
def rSplit : V → List V → Hp → VK → Prop := fun x vs H Q => ∃ t y : Str, x = .str t ∧ vs = [.str y] ∧ (y.length == 0) = false ∧ t.length ≤ 1000000 ∧ ∀ l, H l = none → Q (.ref l) (upd H l (.lst ((Txt.split t y).map V.str)))
end
end DL
set_option Elab.async false
set_option linter.all false
set_option maxRecDepth 100000
set_option maxHeartbeats 1000000
namespace DL
open PySem PySem.Spec PyProof.Rows L2
section
variable {X : Cx} {ρ : Rho} {O : Sto} {pos : Pos} {x y : Str}
end
end DL
namespace DL
open PySem PySem.Spec PyProof.Rows L2
end DL
set_option Elab.async false
set_option linter.all false
set_option maxRecDepth 100000
set_option maxHeartbeats 1000000
namespace L2
open PySem PySem.Spec PyProof.Rows
structure RoomH (k : Nat) (A : Around) : Prop where
  dp : A.depth + 3 * k + 5 < recursionLimit
  un : A.units + 16 * k + 200 < cLine
theorem RoomH.in {k : Nat} {A : Around} (r : RoomH (k + 1) A) (env : Env) : RoomH k (A.deeper env) :=
  ⟨by have := r.dp; show A.depth + 1 + 3 * k + 5 < _; omega, by have := r.un; show A.units + 3 + 16 * k + 200 < _; omega⟩
abbrev cxH (P : Program) (w : World) (K : PySem.W.Frag) (mg : Str → Option Value) (base : Heap) (N : List Str) (qual : Str) (scope : Scope) (f : Addr) (cd : Value) (A : Around) (outer : List Env) (s : Shared) (H : Hp) : Cx :=
  (cxOf CX0 P w K mg base N qual scope f cd { A with handled := none } outer s H fun _ _ _ => False).as (A.deeper (envOfC qual scope s.heap.objs.size f cd)) false [] fun _ _ => False
structure FnH (P : Program) (w : World) (K : PySem.W.Frag) (mg : Str → Option Value) (base : Heap) (k : Nat) (f : Addr) (fd : FuncData) (ps : List Str) (sp : Sp) : Prop where
  len : ∀ vs H Q E, sp vs H Q E → vs.length = ps.length
  run : ∀ (A : Around) (outer : List Env) (s : Shared) (H : Hp) (args : Args) (us : List Value) (vs : List V) (Q : VK) (E : XK), RoomH k A → Env0 P w K mg base A outer s H → BindsTo s fd args (ps.zip us) → Vals vs us → sp vs H Q E →
    codeAny (model P w) A (.call (.ref f) args) (CR CX0 outer P w H s Q E) s
theorem fnH_of {P : Program} {w : World} {K : PySem.W.Frag} {mg : Str → Option Value} {base : Heap} {x qual : Str} {st : Stmt} {f : Addr} {fd : FuncData} {N ps : List Str} {k : Nat} {sp : Sp} (F : Fun K x qual st f fd) (S : FnScope N ps (defScope st)) (len : ∀ vs H Q E, sp vs H Q E → vs.length = ps.length)
    (hbody : ∀ (cdv : Value) (A : Around) (outer : List Env) (s : Shared) (H : Hp) (vs : List V) (Q : VK) (E : XK), RoomH k (A.deeper (envOfC qual (defScope st) s.heap.objs.size f cdv)) → sp vs H Q E →
      ∃ t, PSs (cxH P w K mg base N qual (defScope st) f cdv A outer s H) (defBody st) t ∧ t { nx := fun _ H' => Q .non H', rt := Q } (start N vs) H) : FnH P w K mg base (k + 1) f fd ps sp := by
  obtain ⟨oc, od, kV, doc, pm, an, cdv, ct, osl, rfl, lk, hcd⟩ := F.ex
  refine ⟨len, fun A outer s H args us vs Q E hr e0 hb r hsp => ?_⟩
  have hl := len _ _ _ _ hsp
  have keep : ∀ b o, base.get? b = some o → s.heap.get? b = some o := fun b o e => (e0.bs b o e).1
  have hin : K.In s.heap := e0.mod.kin.keeps keep
  refine codeAny_call_function (by have := hr.dp; omega) (hin _ _ lk) rfl S.co S.gen rfl (PySem.W.codeRec_of hin hcd) (hb _ _ _ _ ?_)
  refine wpAny_newFunctionEnv_cells S.kind (fun y hy => (S.par y.1 (List.of_mem_zip hy).1).imp id fun q => ⟨q, PySem.W.cellsFrom_some _ _ _ (.inl q)⟩) fun env he s1 x => ?_
  subst he
  refine ⟨(e0.mod.nolimit.keeps keep).keeps x.toInCall.keep, codeAny_func ?_⟩
  obtain ⟨t, ht, hq⟩ := hbody cdv A outer s H vs Q E (hr.in _) hsp
  have e1 : Env0 P w K mg base { A with handled := none } outer s H := ⟨e0.frames, e0.mod, e0.bs, e0.bsz, e0.funs, e0.frf, e0.hok, e0.bare⟩
  have I0 := inv_start (CX := CX0) (E := fun _ _ _ => False) S rfl e1 hl r x
  have I := I0.as (A := A.deeper (envOfC qual (defScope st) s.heap.objs.size f cdv)) (calm := false) (pn := []) (pins' := []) (E := fun _ _ => False) (fun z => by cases z) (Around.frames_deeper e0.frames) fun p q => q
  refine wpAny_mono (ht [] s1 (start N vs) H _ I hq) (fun fl s' hs => ?_) fun _ _ z => z.elim
  cases fl with
  | ret u => obtain ⟨v, σ', H', J, rv, q⟩ := hs; exact ⟨v, H', J.os, J.bare, J.base, J.hok, rv, q⟩
  | next => obtain ⟨σ', H', J, q⟩ := hs; exact ⟨.non, H', J.os, J.bare, J.base, J.hok, rfl, q⟩
  | brk => obtain ⟨_, _, _, q⟩ := hs; exact q.elim
  | cont => obtain ⟨_, _, _, q⟩ := hs; exact q.elim
section
variable {prog : Program} {w : World} {A : Around} {E : Value → Shared → Prop}
theorem draw_lst {it l : Addr} {its : Array Value} (hne : l ≠ it) (n : Nat) : ∀ (i : Nat) (s : Shared) (Q : List Value → Shared → Prop), s.heap.IsListIter it l i → s.heap.IsList l its → i + n ≤ its.size →
    (∀ h', h'.IsListIter it l (i + n) → Heap.SameBut it s.heap h' → Q ((its.toList.drop i).take n) { s with heap := h' }) → wpAny (model prog w) A (draw (.ref it) n) Q E s := by
  induction n with
  | zero => intro i s Q hi hl hz h; exact wpAny_pure (by simpa using h s.heap hi (.refl ..))
  | succ n ih =>
    intro i s Q hi hl hz h
    refine wpAny_bind (wpAny_pyNext_list_item hi hl (x := its[i]) (Array.getElem?_eq_getElem (by omega)) fun h1 hi1 e1 => ?_)
    refine wpAny_bind (wpAny_holding (ih (i + 1) _ _ hi1 (hl.extBut e1.extBut hne) (by omega) fun h2 hi2 e2 => wpAny_pure ?_))
    have z := h h2 (by rw [Nat.add_comm n 1, ← Nat.add_assoc]; exact hi2) (e1.trans e2)
    rwa [List.drop_eq_getElem_cons (by simpa using (by omega : i < its.size)), List.take_succ_cons] at z
theorem unp_lst {l : Addr} {its : Array Value} {s : Shared} {Q : List Value → Shared → Prop} (hh : A.handled = none) (hl : s.heap.IsList l its) (h : ∀ h', Heap.ExtBut s.heap.objs.size s.heap h' → Q its.toList { s with heap := h' }) :
    wpAny (model prog w) A (unpackItems (.ref l) its.size none) Q E s := by
  have hne : l ≠ s.heap.objs.size := by obtain ⟨o, ho, _⟩ := hl; exact Nat.ne_of_lt (Heap.lt_size ho)
  unfold unpackItems notIterableAtAll
  refine wpAny_bind (wpAny_bind (wpAny_specialOf hl.typeIs slot_list_iter.lookup (wpAny_pure ?_)))
  rw [if_neg (by decide)]
  refine wpAny_bind (wpAny_holding (wpAny_pyIter_list hl ?_))
  refine wpAny_bind (wpAny_holding (draw_lst hne its.size 0 _ _ ⟨_, Heap.get?_push_size _ rfl, rfl, rfl⟩ (hl.push _) (by omega) fun h1 hi1 e1 => ?_))
  rw [List.drop_zero, List.take_of_length_le (by simp), if_neg (by simp)]
  refine wpAny_bind (wpAny_holding (wpAny_pyNext_list_end hh hi1 ((hl.push _).extBut e1.extBut hne) (by simp) fun h2 e2 => ?_))
  rw [if_neg (by simp)]
  exact wpAny_pure (h h2 fun b o hb e => e2 b o hb (e1.extBut b o hb (Heap.get?_push_of_some _ e)))
end
end L2
namespace DL
open PySem PySem.Spec PyProof.Rows L2
structure DefH (P : Program) (w : World) (K : PySem.W.Frag) (mg : Str → Option Value) (base : Heap) (k : Nat) (x : Str) (sp : SpD) : Prop where
  ex : ∃ f fd ps, FnH P w K mg base k f fd ps (toSp K sp) ∧ mg x = some (.ref f) ∧ PySem.W.keepIn K (.ref f) = true ∧ Binds K fd ps []
theorem okH {P : Program} {w : World} {K : PySem.W.Frag} {mg : Str → Option Value} {base : Heap} {x qual : Str} {st : Stmt} {f : Addr} {fd : FuncData} {N ps : List Str} {k : Nat} {sp : SpD} (F : Fun K x qual st f fd) (S : FnScope N ps (defScope st)) (hm : mg x = some (.ref f)) (hb : Binds K fd ps [])
    (len : ∀ ds O R, sp ds O R → ds.length = ps.length)
    (hbody : ∀ (cdv : Value) (A : Around) (outer : List Env) (s : Shared) (H : Hp) (ds : List D) (O : Sto) (R : D → Sto → Prop), RoomH k (A.deeper (envOfC qual (defScope st) s.heap.objs.size f cdv)) → sp ds O R →
      Exs (cxH P w K mg base N qual (defScope st) f cdv A outer s H) (startD N ds) O (defBody st) { nx := fun _ O' => R .non O', rt := R }) : DefH P w K mg base (k + 1) x sp := by
  refine ⟨f, fd, ps, fnH_of F S (fun vs H Q E h => ?_) (fun cdv A outer s H vs Q E hr h => ?_), hm, F.kp, hb⟩
  · obtain ⟨G, O, ds, R, h1, h2, h3, h4⟩ := h
    rw [← h2.length]
    exact len _ _ _ h3
  · obtain ⟨G, O, ds, R, h1, h2, h3, h4⟩ := h
    exact ⟨_, hbody cdv A outer s H ds O R hr h3 G, h1, start_env h2, ⟨fun σ ρ O' G' H' e1 s1 n1 q => h4 _ _ O' G' H' e1 s1 .non q, fun v d O' G' H' e1 s1 i1 q => h4 v d O' G' H' e1 s1 i1 q, fun σ ρ O' G' H' e1 s1 n1 q => q.elim, fun σ ρ O' G' H' e1 s1 n1 q => q.elim⟩⟩
section
variable {X : Cx} {ρ ρ1 : Rho} {O : Sto} {e a b : Expr} {es : List Expr} {d da : D} {ds xs : List D} {R : D → Sto → Prop} {P : Post} {pos p : Pos} {x : Str} {q : Nat} {v : Value}
theorem ev_callH {k : Nat} {sp : SpD} (F : DefH X.prog X.w X.K X.mg X.base k x sp) (hr : Room k X.A) (ha : EvPs (X.held v) ρ O (e :: es) ds) (hs : sp ds O R) (hg : Gl X x := by rfl) (hdb : (x == ("__debug__" : Str)) = false := by decide)
    (he : starEach (e :: es) X.env = (false, eval e X.env) :: starEach es X.env := by rfl) (hpl : (backTo pos (starEach es X.env)).any (·.1) = false := by rfl) : Ev (X.held v) ρ O (.Call (.Name x p) (e :: es) [] pos) R := fun G pins s σ H Q I h => by
  obtain ⟨f, fd, ps, h1, h2, h3, h4⟩ := F.ex
  refine wpAny_Call_Name_kw (ld_glob I hg h2 ?_ hdb)
  obtain ⟨q1, q2, q3⟩ := h
  refine PySem.W.callWith_K (h₀ := X.base) I.ok.mod.kin h3 (thn (ha.as hs G pos pins s σ H (fun vs H1 => toSp X.K sp vs H1 Q E0) I ⟨q1, q2, fun vs ds' O1 G1 H1 e1 s1 i1 r1 => ⟨G1, O1, ds', R, s1, i1, r1, fun v d O' G' H' e2 s2 i2 r2 => q3 v d O' G' H' (e1.trans e2) s2 i2 r2⟩⟩) fun us s1 ⟨vs, H1, I1, r, q⟩ => ⟨I1.kIn, ?_⟩) he hpl
  have hl : us.length = ps.length := by rw [← r.length]; exact h1.len _ _ _ _ q
  have hb := h4 s1 us I1.kIn (by rw [List.append_nil]; exact hl)
  rw [List.append_nil] at hb
  refine wpAny_call (codeAny_mono (h1.run (X.held v).A X.stack s1 H1 ⟨us, []⟩ us vs Q E0 ⟨hr.dp, hr.un⟩ I1.env0 hb r q) fun fl s' z => ?_)
  cases fl with
  | error e => exact z.elim
  | ok fl =>
    cases fl with
    | ret u => exact I1.after z
    | next => exact z.elim
    | brk => exact z.elim
    | cont => exact z.elim
theorem x_unpL {k : Nat} {tp : Pos} (he : EvP X ρ O e d) (hl : LV O d xs) (ht : Tgs X es xs ρ ρ1) (h : P.nx ρ1 O) (hc : X.calm = true := by rfl) (hn : (assignEach es X.env).length = xs.length := by rfl) (hst : (assignEach es X.env).findIdx? (·.1) = none := by rfl)
    (hs : swapsWithSole [.Tuple es k tp] e pos.line X.env = pure false := by rfl) (hw : swappedStores [.Tuple es k tp] e X.env = pure none := by rfl) (h1 : (assignEach [.Tuple es k tp] X.env).map (·.2) = [assign (.Tuple es k tp) X.env] := by rfl) : Ex X ρ O (.Assign [.Tuple es k tp] e pos) P := fun G =>
  PS.imp (ps_asg (he G) (g := fun v σ H Q => ∃ G1, SA X.K G1 H O ∧ Is X.K G1 d v ∧ EnvR X.K G1 σ ρ ∧ ∀ σ', EnvR X.K G1 σ' ρ1 → Q σ' H) (fun pins s σ H v u Q I r ⟨G1, s1, i1, n1, q⟩ => by
    obtain ⟨p, vs, rfl, g, r2⟩ := hl.sq s1 i1
    cases r
    obtain ⟨its, rv, pl, _⟩ := I.list g
    have hlen : xs.length = its.toArray.size := by rw [r2.length, rv.length, List.size_toArray]
    rw [assign_Tuple]
    refine wpAny_bind (wpAny_standAt ?_)
    unfold unpack
    rw [hst, hn, hlen]
    refine wpAny_bind (wpAny_holding (unp_lst (I.ok.hd hc) pl.isList fun h' hx => ?_))
    have I1 : L2.Inv X pins σ H { s with heap := h' } := I.kept (t' := s.toks) fun b o e => hx b o (Nat.ne_of_lt (Heap.lt_size e)) e
    exact ht G1 pins _ σ H vs _ Q I1 (by simpa using rv) ⟨r2, s1.sub, n1, q⟩) hs hw h1) fun E σ H ⟨q1, q2, q3⟩ =>
    ⟨q1, q2, fun v G' H' e1 s1 i1 => ⟨G', s1, i1, q2.ext e1, fun σ' n' => q3.nx _ _ O G' H' e1 s1 n' h⟩⟩
theorem ev_ixE {Ra : D → Sto → Prop} (ha : Ev X ρ O a Ra) (hb : ∀ da O1, Ra da O1 → ∃ xs i d, da = .tup xs ∧ EvP X ρ O1 b (.int i) ∧ atI xs i = some d ∧ R d O1) (hs : PlainIx b := by intro _ _; rfl) : Ev X ρ O (.Subscript a b pos) R := fun G pins s σ H Q I ⟨h1, h2, h3⟩ =>
  Subscript_ (binT (ta := fun σ H Q => SA X.K G H O ∧ EnvR X.K G σ ρ ∧ ∀ v d O' G' H', Ext G G' → SA X.K G' H' O' → Is X.K G' d v → Ra d O' → Q v H') (ha G)
    (tb := fun σ H Q => ∃ G1 O1 i, EvP X ρ O1 b (.int i) ∧ SA X.K G1 H O1 ∧ EnvR X.K G1 σ ρ ∧ ∀ v G' H', Ext G1 G' → SA X.K G' H' O1 → Is X.K G' (.int i) v → Q v H') (fun pins s σ H Q I ⟨G1, O1, i, hb, q⟩ => hb G1 pins s σ H Q I q) I
    (R := fun x y H2 => ∃ G2 O1 xs i d, Ext G G2 ∧ SA X.K G2 H2 O1 ∧ Is X.K G2 (.tup xs) x ∧ Is X.K G2 (.int i) y ∧ atI xs i = some d ∧ R d O1)
    ⟨h1, h2, fun v da O1 G1 H1 e1 s1 i1 ra => by
      obtain ⟨xs, i, d, rfl, hbb, hi, hR⟩ := hb da O1 ra
      exact ⟨G1, O1, i, hbb, s1, h2.ext e1, fun u G2 H2 e2 s2 i2 => ⟨G2, O1, xs, i, d, e1.trans e2, s2, i1.ext e2, i2, hi, hR⟩⟩⟩
    fun v u s2 x y H2 I2 rx ry ⟨G2, O1, xs, i, d, e2, s2', i1, i2, hi, hR⟩ => by
      obtain ⟨p, vs, rfl, q, r⟩ := tup_sq s2' i1
      cases i2
      obtain ⟨w, hw, iw⟩ := ixN_len r hi
      exact ix_tup a b pins s2 σ H2 _ _ v u Q I2 rx ry ⟨p, vs, i, w, rfl, rfl, q, hw, h3 w d O1 G2 H2 e2 s2' iw hR⟩ (hs _ _))
theorem et_orE {RT : Bool → Sto → Prop} (ha : EvT X ρ O a false) (hb : EvTE X ρ O b RT) : EvTE X ρ O (.BoolOp .Or [a, b] pos) RT := fun G => by
  refine L2.PW.pt ?_
  intro wh pins s σ H Q I ⟨h1, h2, h3⟩
  refine isTrue_or (thn (ha G pins s σ H (fun c H1 => c = false ∧ ∃ G1, Ext G G1 ∧ SA X.K G1 H1 O) I ⟨h1, h2, fun G1 H1 e1 s1 => ⟨rfl, G1, e1, s1⟩⟩) ?_)
  rintro c s1 ⟨H1, I1, rfl, G1, e1, sa1⟩
  exact pw_or1 (hb G1) wh pins s1 σ H1 Q I1 ⟨sa1, h2.ext e1, fun k O' G2 H2 e2 s2 r => h3 k O' G2 H2 (e1.trans e2) s2 r⟩
theorem x_pop {apos cpos : Pos} (ho : EvP X ρ O a (.ptr q)) (hq : O[q]? = some (some (.lst xs))) (h0 : xs ≠ []) (h : P.nx ρ (O.set q (some (.lst xs.dropLast))))
    (hbase : attributeBase a ("pop" : Str) X.env (eval a X.env) = eval a X.env := by rfl) (hline : (apos.endLine == cpos.line) = true := by rfl)
    (hsw : swapsWith (.Call (.Attribute a ("pop" : Str) apos) [] [] cpos) none pos.line X.env = pure false := by rfl) : Ex X ρ O (.Expr (.Call (.Attribute a ("pop" : Str) apos) [] [] cpos) pos) P := fun G =>
  PS.imp (ps_expr (pe_bm0 PySem.F.plainAttrs_list PySem.F.slot_list_pop PySem.F.type_list_pop mt_pop (ho G) hbase hline) hsw) fun E σ H ⟨q1, q2, q3⟩ => ⟨q1, q2, fun v G1 H1 e1 s1 i1 => by
      cases i1 with
      | ptr _ ha =>
      obtain ⟨a1, g0, g1, vs, g2, g3⟩ := s1.mt q _ hq
      obtain rfl := Option.some.inj (ha.symm.trans g0)
      have hl := g3.length
      have hp : 0 < vs.length := by rw [← hl]; exact List.length_pos_iff.mpr h0
      refine ⟨.inl ⟨rfl, vs, SqL.of g2⟩, _, vs, vs[vs.length - 1]'(by omega), rfl, rfl, g2, List.getElem?_eq_getElem (by omega), ?_⟩
      refine q3.nx σ ρ _ G1 _ e1 (s1.put (m' := .lst xs.dropLast) hq g0 ⟨_, upd_same, ?_⟩) (q2.ext e1) h
      rw [List.dropLast_eq_take, List.dropLast_eq_take, hl]
      exact g3.take _⟩
theorem x_forM {tg iter : Expr} {body : List Stmt} (he : EvP X ρ O iter (.ptr q)) (inv : Nat → Rho → Sto → Prop) (hq : ∀ i ρ' O', inv i ρ' O' → O'[q]? = some (some (.lst xs))) (h0 : inv 0 ρ O)
    (hs : ∀ i x ρ' O', xs[i]? = some x → inv i ρ' O' → ∃ ρ1, Tg X tg x ρ' ρ1 ∧ Exs X ρ1 O' body { P with nx := inv (i + 1), ct := inv (i + 1), bk := P.nx }) (hd : ∀ ρ' O', inv xs.length ρ' O' → P.nx ρ' O')
    (hp : PassesOwn (model X.prog X.w) X.A X.env X.xe := by exact PassesOwn.never) (hc : X.calm = true := by rfl) (hf : ∀ x, foldedSetIterable iter X.env x = pure x := by intro _; rfl) : Ex X ρ O (.For tg iter body [] pos) P := fun G =>
  PS.imp (ps_for hp hc (pi_list (he G)) (g := fun v σ H Q => ∃ G1 ρ1 ρ2 x, Tg X tg x ρ1 ρ2 ∧ Is X.K G1 x v ∧ Same G1.g H ∧ EnvR X.K G1 σ ρ1 ∧ ∀ σ', EnvR X.K G1 σ' ρ2 → Q σ' H) (fun pins s σ H v u Q I r ⟨G1, ρ1, ρ2, x, q, q'⟩ => q G1 pins s σ H v u Q I r q')
    (tb := fun E σ H => ∃ G1 ρ1 O1 P1, SA X.K G1 H O1 ∧ EnvR X.K G1 σ ρ1 ∧ Exs X ρ1 O1 body P1 ∧ Conts X.K G1 P1 E) (fun pins s σ H E I ⟨G1, ρ1, O1, P1, q1, q2, q3, q4⟩ => q3 G1 pins s σ H E I ⟨q1, q2, q4⟩) hf) fun E σ H ⟨q1, q2, q3⟩ => by
    refine ⟨q1, q2, fun v G1 H1 e1 s1 i1 => ?_⟩
    cases i1 with
    | ptr _ ha =>
    have at_ : ∀ {i G2 ρ2 O2 H2}, Ext G1 G2 → SA X.K G2 H2 O2 → inv i ρ2 O2 → ∃ vs, SqL X.K H2 _ vs ∧ Iss X.K G2 xs vs := fun {i G2 ρ2 O2 H2} e2 s2 v2 => by
      obtain ⟨a2, g0, g1, vs, g2, g3⟩ := s2.mt q _ (hq _ _ _ v2)
      cases Option.some.inj ((e2.at ha).symm.trans g0)
      exact ⟨vs, SqL.of g2, g3⟩
    refine ⟨_, rfl, let ⟨vs, z, _⟩ := at_ (Ext.refl _) s1 h0; ⟨vs, z⟩, ?_⟩
    refine ⟨fun i m σ H => ∃ G2 ρ2 O2, Ext G1 G2 ∧ SA X.K G2 H O2 ∧ EnvR X.K G2 σ ρ2 ∧ inv i ρ2 O2 ∧ i ≤ xs.length ∧ m = xs.length - i, ⟨_, G1, ρ, O, Ext.refl _, s1, q2.ext e1, h0, Nat.zero_le _, rfl⟩, ?_⟩
    rintro i m σ2 H2 ⟨G2, ρ2, O2, e2, s2, n2, v2, l2, rfl⟩
    obtain ⟨vs, z1, z2⟩ := at_ e2 s2 v2
    by_cases hlt : i < xs.length
    · obtain ⟨u, hu, _⟩ := z2.get (i := i) (d := xs[i]) (List.getElem?_eq_getElem hlt)
      refine .inr ⟨⟨vs, u, z1, hu⟩, fun σ' H' => ∃ G3 ρ3 O3, Ext G1 G3 ∧ SA X.K G3 H' O3 ∧ EnvR X.K G3 σ' ρ3 ∧ inv (i + 1) ρ3 O3, fun σ' H' ⟨G3, ρ3, O3, e3, s3, n3, v3⟩ => ⟨xs.length - (i + 1), by omega, G3, ρ3, O3, e3, s3, n3, v3, hlt, rfl⟩, fun v H3 y => ?_⟩
      obtain ⟨rfl, y⟩ := y
      obtain ⟨x, hx, ix⟩ := z2.getV (y vs z1)
      obtain ⟨ρ3, t3, b3⟩ := hs i x ρ2 O2 hx v2
      refine ⟨G2, ρ2, ρ3, x, t3, ix, s2.sub, n2, fun σ' n' => ⟨G2, ρ3, O2, _, s2, n', b3, ⟨fun σ4 ρ4 O4 G4 H4 e4 s4 n4 q => ⟨G4, ρ4, O4, e2.trans e4, s4, n4, q⟩, fun v d O4 G4 H4 e4 s4 i4 r => q3.rt v d O4 G4 H4 (e1.trans (e2.trans e4)) s4 i4 r,
        fun σ4 ρ4 O4 G4 H4 e4 s4 n4 q => q3.nx σ4 ρ4 O4 G4 H4 (e1.trans (e2.trans e4)) s4 n4 q, fun σ4 ρ4 O4 G4 H4 e4 s4 n4 q => ⟨G4, ρ4, O4, e2.trans e4, s4, n4, q⟩⟩⟩⟩
    · have ei : i = xs.length := by omega
      subst ei
      exact .inl ⟨⟨vs, z1, by rw [← z2.length]; exact Nat.le_refl _⟩, q3.nx σ2 ρ2 O2 G2 H2 (e1.trans e2) s2 n2 (hd _ _ v2)⟩
end
end DL
set_option Elab.async false
set_option linter.all false
set_option maxRecDepth 100000
set_option maxHeartbeats 4000000
namespace My
open PySem PySem.Spec PyProof.Rows L2 DL
def top (i : Nat) : Stmt := PySem.Challenge.pw_heedwise_k62_no_shifter.main.body.getD i (.Pass ⟨0, 0, 0, 0⟩)
abbrev s_NoTurn___init__ : Stmt := inClass (top 3) 0
abbrev N_NoTurn___init__ : List Str := ["self", "number"]
theorem sc_NoTurn___init__ : FnScope N_NoTurn___init__ ["self", "number"] (defScope s_NoTurn___init__) := ⟨rfl, rfl, rfl, by decide +kernel, rfl, by decide +kernel, by decide +kernel⟩
abbrev s_is_whole : Stmt := top 10
abbrev N_is_whole : List Str := ["value"]
theorem sc_is_whole : FnScope N_is_whole ["value"] (defScope s_is_whole) := ⟨rfl, rfl, rfl, by decide +kernel, rfl, by decide +kernel, by decide +kernel⟩
abbrev s_power : Stmt := top 11
abbrev N_power : List Str := ["base", "exponent", "product", "step"]
theorem sc_power : FnScope N_power ["base", "exponent"] (defScope s_power) := ⟨rfl, rfl, rfl, by decide +kernel, rfl, by decide +kernel, by decide +kernel⟩
abbrev s_counted : Stmt := top 12
abbrev N_counted : List Str := ["weights"]
theorem sc_counted : FnScope N_counted ["weights"] (defScope s_counted) := ⟨rfl, rfl, rfl, by decide +kernel, rfl, by decide +kernel, by decide +kernel⟩
abbrev s_middle : Stmt := top 13
abbrev N_middle : List Str := ["numbers", "weights", "shares", "whole", "reached", "number", "share"]
theorem sc_middle : FnScope N_middle ["numbers", "weights"] (defScope s_middle) := ⟨rfl, rfl, rfl, by decide +kernel, rfl, by decide +kernel, by decide +kernel⟩
abbrev s_check_within : Stmt := top 19
abbrev N_check_within : List Str := ["what", "value", "least", "most"]
theorem sc_check_within : FnScope N_check_within ["what", "value", "least", "most"] (defScope s_check_within) := ⟨rfl, rfl, rfl, by decide +kernel, rfl, by decide +kernel, by decide +kernel⟩
abbrev s_check_scale : Stmt := top 20
abbrev N_check_scale : List Str := ["scale"]
theorem sc_check_scale : FnScope N_check_scale ["scale"] (defScope s_check_scale) := ⟨rfl, rfl, rfl, by decide +kernel, rfl, by decide +kernel, by decide +kernel⟩
abbrev s_check_making : Stmt := top 21
abbrev N_check_making : List Str := ["many", "scale"]
theorem sc_check_making : FnScope N_check_making ["many", "scale"] (defScope s_check_making) := ⟨rfl, rfl, rfl, by decide +kernel, rfl, by decide +kernel, by decide +kernel⟩
abbrev s_check_fraction : Stmt := top 22
abbrev N_check_fraction : List Str := ["top", "bottom"]
theorem sc_check_fraction : FnScope N_check_fraction ["top", "bottom"] (defScope s_check_fraction) := ⟨rfl, rfl, rfl, by decide +kernel, rfl, by decide +kernel, by decide +kernel⟩
abbrev s_check_share : Stmt := top 23
abbrev N_check_share : List Str := ["share", "parts"]
theorem sc_check_share : FnScope N_check_share ["share", "parts"] (defScope s_check_share) := ⟨rfl, rfl, rfl, by decide +kernel, rfl, by decide +kernel, by decide +kernel⟩
abbrev s_is_on_scale : Stmt := top 25
abbrev N_is_on_scale : List Str := ["scale", "value"]
theorem sc_is_on_scale : FnScope N_is_on_scale ["scale", "value"] (defScope s_is_on_scale) := ⟨rfl, rfl, rfl, by decide +kernel, rfl, by decide +kernel, by decide +kernel⟩
abbrev s_is_said : Stmt := top 26
abbrev N_is_said : List Str := ["many", "scale", "said"]
theorem sc_is_said : FnScope N_is_said ["many", "scale", "said"] (defScope s_is_said) := ⟨rfl, rfl, rfl, by decide +kernel, rfl, by decide +kernel, by decide +kernel⟩
abbrev s_is_turn : Stmt := top 27
abbrev N_is_turn : List Str := ["many", "scale", "turn"]
theorem sc_is_turn : FnScope N_is_turn ["many", "scale", "turn"] (defScope s_is_turn) := ⟨rfl, rfl, rfl, by decide +kernel, rfl, by decide +kernel, by decide +kernel⟩
abbrev s_check_said : Stmt := top 28
abbrev N_check_said : List Str := ["many", "scale", "said"]
theorem sc_check_said : FnScope N_check_said ["many", "scale", "said"] (defScope s_check_said) := ⟨rfl, rfl, rfl, by decide +kernel, rfl, by decide +kernel, by decide +kernel⟩
abbrev s_check_turn : Stmt := top 29
abbrev N_check_turn : List Str := ["many", "scale", "said", "so"]
theorem sc_check_turn : FnScope N_check_turn ["many", "scale", "said", "so"] (defScope s_check_turn) := ⟨rfl, rfl, rfl, by decide +kernel, rfl, by decide +kernel, by decide +kernel⟩
abbrev s_awake_in : Stmt := top 30
abbrev N_awake_in : List Str := ["said"]
theorem sc_awake_in : FnScope N_awake_in ["said"] (defScope s_awake_in) := ⟨rfl, rfl, rfl, by decide +kernel, rfl, by decide +kernel, by decide +kernel⟩
abbrev s_charge : Stmt := top 31
abbrev N_charge : List Str := ["what", "so"]
theorem sc_charge : FnScope N_charge ["what", "so"] (defScope s_charge) := ⟨rfl, rfl, rfl, by decide +kernel, rfl, by decide +kernel, by decide +kernel⟩
abbrev s_times_awake : Stmt := top 33
abbrev N_times_awake : List Str := ["keeper", "own", "off", "kept"]
theorem sc_times_awake : FnScope N_times_awake ["keeper", "own", "off"] (defScope s_times_awake) := ⟨rfl, rfl, rfl, by decide +kernel, rfl, by decide +kernel, by decide +kernel⟩
abbrev s_times_asleep : Stmt := top 34
abbrev N_times_asleep : List Str := ["keeper", "own"]
theorem sc_times_asleep : FnScope N_times_asleep ["keeper", "own"] (defScope s_times_asleep) := ⟨rfl, rfl, rfl, by decide +kernel, rfl, by decide +kernel, by decide +kernel⟩
abbrev s_times : Stmt := top 35
abbrev N_times : List Str := ["keeper", "own", "what", "so"]
theorem sc_times : FnScope N_times ["keeper", "own", "what", "so"] (defScope s_times) := ⟨rfl, rfl, rfl, by decide +kernel, rfl, by decide +kernel, by decide +kernel⟩
abbrev s_middle_awake : Stmt := top 37
abbrev N_middle_awake : List Str := ["said", "weights", "awake"]
theorem sc_middle_awake : FnScope N_middle_awake ["said", "weights"] (defScope s_middle_awake) := ⟨rfl, rfl, rfl, by decide +kernel, rfl, by decide +kernel, by decide +kernel⟩
abbrev s_Hand___init__ : Stmt := inClass (top 38) 0
abbrev N_Hand___init__ : List Str := ["self", "many", "scale"]
theorem sc_Hand___init__ : FnScope N_Hand___init__ ["self", "many", "scale"] (defScope s_Hand___init__) := ⟨rfl, rfl, rfl, by decide +kernel, rfl, by decide +kernel, by decide +kernel⟩
abbrev s_Hand_say : Stmt := inClass (top 38) 2
abbrev N_Hand_say : List Str := ["self", "said"]
theorem sc_Hand_say : FnScope N_Hand_say ["self", "said"] (defScope s_Hand_say) := ⟨rfl, rfl, rfl, by decide +kernel, rfl, by decide +kernel, by decide +kernel⟩
abbrev s_Weigher___init__ : Stmt := inClass (top 40) 0
abbrev N_Weigher___init__ : List Str := ["self", "many", "scale", "top", "bottom"]
theorem sc_Weigher___init__ : FnScope N_Weigher___init__ ["self", "many", "scale", "top", "bottom"] (defScope s_Weigher___init__) := ⟨rfl, rfl, rfl, by decide +kernel, rfl, by decide +kernel, by decide +kernel⟩
abbrev s_Weigher_heeded : Stmt := inClass (top 40) 1
abbrev N_Weigher_heeded : List Str := ["self"]
theorem sc_Weigher_heeded : FnScope N_Weigher_heeded ["self"] (defScope s_Weigher_heeded) := ⟨rfl, rfl, rfl, by decide +kernel, rfl, by decide +kernel, by decide +kernel⟩
abbrev s_Weigher_weights : Stmt := inClass (top 40) 2
abbrev N_Weigher_weights : List Str := ["self"]
theorem sc_Weigher_weights : FnScope N_Weigher_weights ["self"] (defScope s_Weigher_weights) := ⟨rfl, rfl, rfl, by decide +kernel, rfl, by decide +kernel, by decide +kernel⟩
abbrev s_Weigher_weigh : Stmt := inClass (top 40) 4
abbrev N_Weigher_weigh : List Str := ["self", "said", "so", "own"]
theorem sc_Weigher_weigh : FnScope N_Weigher_weigh ["self", "said", "so"] (defScope s_Weigher_weigh) := ⟨rfl, rfl, rfl, by decide +kernel, rfl, by decide +kernel, by decide +kernel⟩
abbrev s_Shifter___init__ : Stmt := inClass (top 42) 0
abbrev N_Shifter___init__ : List Str := ["self", "many", "scale", "top", "bottom", "share", "parts"]
theorem sc_Shifter___init__ : FnScope N_Shifter___init__ ["self", "many", "scale", "top", "bottom", "share", "parts"] (defScope s_Shifter___init__) := ⟨rfl, rfl, rfl, by decide +kernel, rfl, by decide +kernel, by decide +kernel⟩
abbrev s_Shifter_deal : Stmt := inClass (top 42) 1
abbrev N_Shifter_deal : List Str := ["self", "dealt", "kept"]
theorem sc_Shifter_deal : FnScope N_Shifter_deal ["self"] (defScope s_Shifter_deal) := ⟨rfl, rfl, rfl, by decide +kernel, rfl, by decide +kernel, by decide +kernel⟩
abbrev s_Shifter_hear : Stmt := inClass (top 42) 2
abbrev N_Shifter_hear : List Str := ["self", "said", "so"]
theorem sc_Shifter_hear : FnScope N_Shifter_hear ["self", "said", "so"] (defScope s_Shifter_hear) := ⟨rfl, rfl, rfl, by decide +kernel, rfl, by decide +kernel, by decide +kernel⟩
abbrev s_l_cell_at : Stmt := top 44
abbrev N_l_cell_at : List Str := ["_law_script", "_law_k"]
theorem sc_l_cell_at : FnScope N_l_cell_at ["_law_script", "_law_k"] (defScope s_l_cell_at) := ⟨rfl, rfl, rfl, by decide +kernel, rfl, by decide +kernel, by decide +kernel⟩
abbrev s_l_next : Stmt := top 45
abbrev N_l_next : List Str := ["_law_x"]
theorem sc_l_next : FnScope N_l_next ["_law_x"] (defScope s_l_next) := ⟨rfl, rfl, rfl, by decide +kernel, rfl, by decide +kernel, by decide +kernel⟩
abbrev s_l_seed : Stmt := top 46
abbrev N_l_seed : List Str := ["_law_script", "_law_k", "_law_x"]
theorem sc_l_seed : FnScope N_l_seed ["_law_script", "_law_k"] (defScope s_l_seed) := ⟨rfl, rfl, rfl, by decide +kernel, rfl, by decide +kernel, by decide +kernel⟩
abbrev s_l_is_whole : Stmt := top 47
abbrev N_l_is_whole : List Str := ["_law_thing"]
theorem sc_l_is_whole : FnScope N_l_is_whole ["_law_thing"] (defScope s_l_is_whole) := ⟨rfl, rfl, rfl, by decide +kernel, rfl, by decide +kernel, by decide +kernel⟩
abbrev s_l_good : Stmt := top 48
abbrev N_l_good : List Str := ["_law_some", "_law_thing", "_law_many", "_law_scale", "_law_top", "_law_bottom", "_law_share", "_law_parts"]
theorem sc_l_good : FnScope N_l_good ["_law_some"] (defScope s_l_good) := ⟨rfl, rfl, rfl, by decide +kernel, rfl, by decide +kernel, by decide +kernel⟩
abbrev s_l_odd : Stmt := top 49
abbrev N_l_odd : List Str := ["_law_some", "_law_x", "_law_cell", "_law_at", "_law_pair", "_law_way"]
theorem sc_l_odd : FnScope N_l_odd ["_law_some", "_law_x", "_law_cell"] (defScope s_l_odd) := ⟨rfl, rfl, rfl, by decide +kernel, rfl, by decide +kernel, by decide +kernel⟩
abbrev s_l_made : Stmt := top 50
abbrev N_l_made : List Str := ["_law_some", "_law_found", "_law_hand", "e"]
theorem sc_l_made : FnScope N_l_made ["_law_some"] (defScope s_l_made) := ⟨rfl, rfl, rfl, by decide +kernel, rfl, by decide +kernel, by decide +kernel⟩
abbrev s_l_which : Stmt := top 51
abbrev N_l_which : List Str := ["_law_error", "_law_marks"]
theorem sc_l_which : FnScope N_l_which ["_law_error"] (defScope s_l_which) := ⟨rfl, rfl, rfl, by decide +kernel, rfl, by decide +kernel, by decide +kernel⟩
abbrev s_l_say : Stmt := top 52
abbrev N_l_say : List Str := ["_law_hand", "_law_said", "_law_found", "_law_number", "e"]
theorem sc_l_say : FnScope N_l_say ["_law_hand", "_law_said"] (defScope s_l_say) := ⟨rfl, rfl, rfl, by decide +kernel, rfl, by decide +kernel, by decide +kernel⟩
abbrev s_l_hear : Stmt := top 53
abbrev N_l_hear : List Str := ["_law_hand", "_law_said", "_law_so", "_law_found", "_law_number", "e"]
theorem sc_l_hear : FnScope N_l_hear ["_law_hand", "_law_said", "_law_so"] (defScope s_l_hear) := ⟨rfl, rfl, rfl, by decide +kernel, rfl, by decide +kernel, by decide +kernel⟩
abbrev s_l_on_scale : Stmt := top 54
abbrev N_l_on_scale : List Str := ["_law_thing", "_law_scale"]
theorem sc_l_on_scale : FnScope N_l_on_scale ["_law_thing", "_law_scale"] (defScope s_l_on_scale) := ⟨rfl, rfl, rfl, by decide +kernel, rfl, by decide +kernel, by decide +kernel⟩
abbrev s_l_turn_due : Stmt := top 55
abbrev N_l_turn_due : List Str := ["_law_hand", "_law_said", "_law_so", "_law_what"]
theorem sc_l_turn_due : FnScope N_l_turn_due ["_law_hand", "_law_said", "_law_so"] (defScope s_l_turn_due) := ⟨rfl, rfl, rfl, by decide +kernel, rfl, by decide +kernel, by decide +kernel⟩
abbrev s_l_heard : Stmt := top 56
abbrev N_l_heard : List Str := ["_law_hand", "_law_x", "_law_said", "_law_so", "_law_way", "_law_told", "_law_kept", "_law_due"]
theorem sc_l_heard : FnScope N_l_heard ["_law_hand", "_law_x"] (defScope s_l_heard) := ⟨rfl, rfl, rfl, by decide +kernel, rfl, by decide +kernel, by decide +kernel⟩
abbrev s_law : Stmt := top 57
abbrev N_law : List Str := ["_law_script", "_law_x", "_law_bottom", "_law_parts", "_law_good_here", "_law_found", "_law_hand", "_law_k", "_law_y", "_law_some", "_law_turn"]
theorem sc_law : FnScope N_law ["_law_script"] (defScope s_law) := ⟨rfl, rfl, rfl, by decide +kernel, rfl, by decide +kernel, by decide +kernel⟩
structure Txt (K : PySem.W.Frag) (mg : Str → Option Value) (C_Hand C_Weigher C_Shifter C_HeedError C_NoTurn C_NoRule C_NoRow C_NoWay C_NoName C_Twice : Addr) : Prop where
  b_len : mg "len" = none
  b_tuple : mg "tuple" = none
  b_list : mg "list" = none
  b_sum : mg "sum" = none
  b_zip : mg "zip" = none
  b_sorted : mg "sorted" = none
  b_range : mg "range" = none
  b_isinstance : mg "isinstance" = none
  b_int : mg "int" = none
  b_bool : mg "bool" = none
  b_all : mg "all" = none
  b_enumerate : mg "enumerate" = none
  b_abs : mg "abs" = none
  b_min : mg "min" = none
  b_max : mg "max" = none
  b_ValueError : mg "ValueError" = none
  g_MOST_ADVISERS : ∃ t, mg "MOST_ADVISERS" = some (.int 24 t)
  g_MOST_SCALE : ∃ t, mg "MOST_SCALE" = some (.int 10 t)
  g_MOST_BOTTOM : ∃ t, mg "MOST_BOTTOM" = some (.int 100 t)
  g_MOST_PARTS : ∃ t, mg "MOST_PARTS" = some (.int 100 t)
  c_Hand : ClsTy K C_Hand
  m_Hand : mg "Hand" = some (.ref C_Hand)
  c_Weigher : ClsTy K C_Weigher
  m_Weigher : mg "Weigher" = some (.ref C_Weigher)
  c_Shifter : ClsTy K C_Shifter
  m_Shifter : mg "Shifter" = some (.ref C_Shifter)
  n_Shifter_many : NoAttr K C_Shifter "many"
  n_Shifter_scale : NoAttr K C_Shifter "scale"
  n_Shifter_top : NoAttr K C_Shifter "top"
  n_Shifter_bottom : NoAttr K C_Shifter "bottom"
  n_Shifter_tops : NoAttr K C_Shifter "tops"
  n_Shifter_under : NoAttr K C_Shifter "under"
  n_Shifter_share : NoAttr K C_Shifter "share"
  n_Shifter_parts : NoAttr K C_Shifter "parts"
  m_HeedError : mg "HeedError" = some (.ref C_HeedError)
  e_HeedError : PySem.W.excIn K C_HeedError bmV "ValueError.__new__" = true
  m_NoTurn : mg "NoTurn" = some (.ref C_NoTurn)
  t_NoTurn : ExcTy K C_NoTurn
  n_NoTurn_number : PySem.W.findIn K (.ref C_NoTurn) "number" = some none
  x_NoTurn_HeedError : PySem.W.exmOne K (.ref C_NoTurn) (.ref C_HeedError) = some true
  i_NoTurn_ValueError : PySem.W.kitOne K (.ref C_NoTurn) (.type "ValueError") = some true
  i_NoTurn_NoTurn : PySem.W.kitOne K (.ref C_NoTurn) (.ref C_NoTurn) = some true
  i_NoTurn_NoRow : PySem.W.kitOne K (.ref C_NoTurn) (.ref C_NoRow) = some false
  i_NoTurn_NoRule : PySem.W.kitOne K (.ref C_NoTurn) (.ref C_NoRule) = some false
  i_NoTurn_NoWay : PySem.W.kitOne K (.ref C_NoTurn) (.ref C_NoWay) = some false
  i_NoTurn_NoName : PySem.W.kitOne K (.ref C_NoTurn) (.ref C_NoName) = some false
  i_NoTurn_Twice : PySem.W.kitOne K (.ref C_NoTurn) (.ref C_Twice) = some false
  m_NoRule : mg "NoRule" = some (.ref C_NoRule)
  e_NoRule : PySem.W.excIn K C_NoRule bmV "ValueError.__new__" = true
  t_NoRule : ExcTy K C_NoRule
  x_NoRule_HeedError : PySem.W.exmOne K (.ref C_NoRule) (.ref C_HeedError) = some true
  i_NoRule_ValueError : PySem.W.kitOne K (.ref C_NoRule) (.type "ValueError") = some true
  i_NoRule_NoTurn : PySem.W.kitOne K (.ref C_NoRule) (.ref C_NoTurn) = some false
  i_NoRule_NoRow : PySem.W.kitOne K (.ref C_NoRule) (.ref C_NoRow) = some false
  i_NoRule_NoRule : PySem.W.kitOne K (.ref C_NoRule) (.ref C_NoRule) = some true
  i_NoRule_NoWay : PySem.W.kitOne K (.ref C_NoRule) (.ref C_NoWay) = some false
  i_NoRule_NoName : PySem.W.kitOne K (.ref C_NoRule) (.ref C_NoName) = some false
  i_NoRule_Twice : PySem.W.kitOne K (.ref C_NoRule) (.ref C_Twice) = some false
  m_NoRow : mg "NoRow" = some (.ref C_NoRow)
  m_NoWay : mg "NoWay" = some (.ref C_NoWay)
  m_NoName : mg "NoName" = some (.ref C_NoName)
  m_Twice : mg "Twice" = some (.ref C_Twice)
def cnt (ws : List Int) : List Int := if ws.sum = 0 then ws.map (fun _ => 1) else ws
theorem cnt_len (ws : List Int) : (cnt ws).length = ws.length := by unfold cnt; split <;> simp
def Wok (ws : List Int) : Prop := ∀ w ∈ ws, 0 ≤ w
theorem cnt_ok {ws : List Int} (h : Wok ws) : Wok (cnt ws) := by
  unfold cnt
  split
  · intro w hw
    obtain ⟨_, _, rfl⟩ := List.mem_map.mp hw
    decide
  · exact h
def go (W : Int) : Int → List (Int × Int) → Int
  | _, [] => 0
  | r, p :: l => if W ≤ 2 * (r + p.2) then p.1 else go W (r + p.2) l
def mid (ns ws : List Int) : Int := go (cnt ws).sum 0 (srt ltP (ns.zip (cnt ws)))
def Two (ns ws : List Int) : Prop := ns.length = ws.length ∧ ws.length ≤ 63 ∧ Wok ws
def spCounted : List D → D → Prop := fun ds d => ∃ ws : List Int, ds = [.tup (ws.map D.int)] ∧ ws.length ≤ 63 ∧ d = .lst ((cnt ws).map D.int)
def spMiddle : List D → D → Prop := fun ds d => ∃ ns ws : List Int, ds = [.tup (ns.map D.int), .tup (ws.map D.int)] ∧ Two ns ws ∧ d = .int (mid ns ws)
def cellAt (ns : List Int) (k : Int) : Int := (ns[k.toNat]?).getD 0
def spCell : List D → D → Prop := fun ds d => ∃ (ns : List Int) (k : Int), ds = [.scr (ns.map D.int), .int k] ∧ 0 ≤ k ∧ d = .int (cellAt ns k)
def below (f : Int) (ns ws : List Int) : Int := sm (fun q => if q.1 < f then q.2 else 0) (ns.zip ws)
def there (f : Int) (ns ws : List Int) : Int := sm (fun q => if q.1 = f then q.2 else 0) (ns.zip ws)
def rightB (f : Int) (ns ws : List Int) : Bool := if ns = [] then decide (f = 0) else (decide (f ∈ ns) && (decide (2 * below f ns (cnt ws) < (cnt ws).sum) && decide ((cnt ws).sum ≤ 2 * (below f ns (cnt ws) + there f ns (cnt ws)))))
theorem go_at (W : Int) : ∀ (L : List (Int × Int)) (r : Int), 2 * r < W → W ≤ 2 * (r + sm (fun q => q.2) L) → ∃ A p B, L = A ++ p :: B ∧ 2 * (r + sm (fun q => q.2) A) < W ∧ W ≤ 2 * (r + sm (fun q => q.2) A + p.2) ∧ go W r L = p.1
  | [], r, h1, h2 => by exfalso; unfold sm at h2; omega
  | p :: L, r, h1, h2 => by
    unfold go
    by_cases h : W ≤ 2 * (r + p.2)
    · rw [if_pos h]
      refine ⟨[], p, L, rfl, ?_, ?_, rfl⟩
      · show 2 * (r + 0) < W; omega
      · show W ≤ 2 * (r + 0 + p.2); omega
    · rw [if_neg h]
      have h2 : W ≤ 2 * (r + (p.2 + sm (fun q => q.2) L)) := h2
      obtain ⟨A, q, B, e1, e2, e3, e4⟩ := go_at W L (r + p.2) (by omega) (by omega)
      refine ⟨p :: A, q, B, by rw [e1]; rfl, ?_, ?_, e4⟩
      · show 2 * (r + (p.2 + sm (fun q => q.2) A)) < W; omega
      · show W ≤ 2 * (r + (p.2 + sm (fun q => q.2) A) + q.2); omega
theorem sum_pos {ws : List Int} (h : Wok ws) : 0 ≤ ws.sum := by
  rw [sum_sm]; exact sm_pos fun a ha => h a ha
theorem cnt_pos {ws : List Int} (h : Wok ws) (hn : ws ≠ []) : 0 < (cnt ws).sum := by
  unfold cnt
  split
  · cases ws with
    | nil => exact absurd rfl hn
    | cons a l =>
      rw [List.map_cons, List.sum_cons]
      have : 0 ≤ (l.map fun _ => (1 : Int)).sum := by rw [sm_sum]; exact sm_pos fun _ _ => by decide
      omega
  · have := sum_pos h
    omega
theorem right_mid {ns ws : List Int} (h : Two ns ws) : rightB (mid ns ws) ns ws = true := by
  obtain ⟨h1, h2, h3⟩ := h
  unfold rightB
  by_cases hn : ns = []
  · rw [if_pos hn]
    subst hn
    have e : mid [] ws = 0 := by unfold mid srt; simp [go]
    exact decide_eq_true e
  · rw [if_neg hn]
    have hw : ws ≠ [] := by
      intro e; apply hn
      rw [e] at h1
      exact List.eq_nil_of_length_eq_zero h1
    have hp := cnt_pos h3 hw
    have hc := cnt_ok h3
    have hl : ns.length = (cnt ws).length := by rw [cnt_len]; exact h1
    unfold mid below there
    generalize cnt ws = cs at hp hc hl
    have pm := srt_perm ltP (ns.zip cs)
    have pw := srt_pw ordP (ns.zip cs)
    have hs : sm (fun q : Int × Int => q.2) (srt ltP (ns.zip cs)) = cs.sum := by rw [sm_perm pm, sm_zip_snd hl]
    obtain ⟨A, p, B, e1, e2, e3, e4⟩ := go_at cs.sum (srt ltP (ns.zip cs)) 0 (by omega) (by rw [hs]; omega)
    rw [e4]
    have nn : ∀ q ∈ srt ltP (ns.zip cs), 0 ≤ q.2 := fun q hq => hc _ (List.of_mem_zip (pm.mem_iff.mp hq)).2
    rw [← sm_perm (g := fun q : Int × Int => if q.1 < p.1 then q.2 else 0) pm, ← sm_perm (g := fun q : Int × Int => if q.1 = p.1 then q.2 else 0) pm]
    have hm : p.1 ∈ ns := (List.of_mem_zip (pm.mem_iff.mp (by rw [e1]; exact List.mem_append_right _ List.mem_cons_self) : (p.1, p.2) ∈ ns.zip cs)).1
    rw [e1] at pw nn ⊢
    have pA : ∀ q ∈ A, q.1 ≤ p.1 := fun q hq => by
      have := (List.pairwise_append.mp pw).2.2 q hq p List.mem_cons_self
      simp [ltP] at this
      omega
    have pB : ∀ q ∈ B, p.1 ≤ q.1 := fun q hq => by
      have := (List.pairwise_cons.mp (List.pairwise_append.mp pw).2.1).1 q hq
      simp [ltP] at this
      omega
    have b1 : sm (fun q : Int × Int => if q.1 < p.1 then q.2 else 0) (A ++ p :: B) ≤ sm (fun q => q.2) A := by
      rw [sm_app]
      have z : sm (fun q : Int × Int => if q.1 < p.1 then q.2 else 0) (p :: B) = 0 := by
        rw [sm_eq (h := fun _ => 0), sm_zero]
        intro a ha
        rcases List.mem_cons.mp ha with rfl | ha
        · exact if_neg (by omega)
        · exact if_neg (by have := pB a ha; omega)
      rw [z]
      have := sm_le (l := A) (g := fun q : Int × Int => if q.1 < p.1 then q.2 else 0) (h := fun q => q.2) fun a ha => by
        have := nn a (List.mem_append_left _ ha)
        try dsimp only
        split <;> omega
      omega
    have b2 : sm (fun q => q.2) A + p.2 ≤ sm (fun q : Int × Int => if q.1 < p.1 then q.2 else 0) (A ++ p :: B) + sm (fun q : Int × Int => if q.1 = p.1 then q.2 else 0) (A ++ p :: B) := by
      rw [← sm_add, sm_app]
      have z : p.2 ≤ sm (fun q : Int × Int => (if q.1 < p.1 then q.2 else 0) + (if q.1 = p.1 then q.2 else 0)) (p :: B) := by
        show p.2 ≤ ((if p.1 < p.1 then p.2 else 0) + (if p.1 = p.1 then p.2 else 0)) + sm _ B
        rw [if_neg (by omega), if_pos rfl]
        have := sm_pos (l := B) (g := fun q : Int × Int => (if q.1 < p.1 then q.2 else 0) + (if q.1 = p.1 then q.2 else 0)) fun a ha => by
          have := nn a (List.mem_append_right _ (List.mem_cons_of_mem _ ha))
          try dsimp only
          split <;> split <;> omega
        omega
      have := sm_eq (l := A) (g := fun q : Int × Int => q.2) (h := fun q => (if q.1 < p.1 then q.2 else 0) + (if q.1 = p.1 then q.2 else 0)) fun a ha => by
        have := pA a ha
        try dsimp only
        split <;> split <;> omega
      omega
    rw [decide_eq_true hm, decide_eq_true (by omega), decide_eq_true (by omega)]
    rfl
def od : Option Int → D
  | none => .non
  | some i => .int i
abbrev Tn := List (Option Int) × Int
def tD (t : Tn) : D := .tup [.tup (t.1.map od), .int t.2]
def ab (i : Int) : Int := if i < 0 then -i else i
def chg : Option Int → Int → Int
  | none, _ => 0
  | some w, z => ab (w - z)
def sat (t : Tn) (k : Nat) : Option Int := (t.1[k]?).getD none
def chgAt (k : Nat) (t : Tn) : Int := chg (sat t k) t.2
def drawF (c j : Int) : Int := (((c % 2147483647 * 48271 + 7919 * j * j + 101 * j + 11) % 2147483629) * 69621 + 7 * j) % 2147483587 + 2147483587 * (c / (j + 2) % 10 ^ (61 : Int).toNat)
def spDraw : List D → D → Prop := fun ds d => ∃ c j : Int, ds = [.int c, .int j] ∧ (0 ≤ j ∧ j ≤ 100) ∧ d = .int (drawF c j)
def frB (c : Int) : Int := if c % 8 = 0 then 1 else if c % 8 = 1 then 2 else if c % 8 = 2 then 2 else if c % 8 = 3 then 3 else if c % 8 = 4 then 5 else if c % 8 = 5 then 10 else if c % 8 = 6 then 100 else 1 + c / 8 % 100
def preFr : List D → Prop := fun ds => ∃ c : Int, ds = [.int c]
def relFr : List D → D → Prop := fun _ d => ∃ t b : Int, d = .tup [.int t, .int b] ∧ 0 ≤ t ∧ t < b ∧ b ≤ 100
def sat2 (said : List (Option Int)) (k : Nat) : Option Int := (said[k]?).getD none
def ax (said : List (Option Int)) : List Nat := (List.range said.length).filter fun k => (sat2 said k).isSome
def nsA (said : List (Option Int)) : List Int := (ax said).map fun k => (sat2 said k).getD 0
def wsA (said : List (Option Int)) (ws : List Int) : List Int := (ax said).map fun k => ws.getD k 0
def midA (said : List (Option Int)) (ws : List Int) : Int := mid (nsA said) (wsA said ws)
theorem zipIdx_range (said : List (Option Int)) : said.zipIdx = (List.range said.length).map fun k => (sat2 said k, k) := by
  refine List.ext_getElem? fun i => ?_
  rw [List.getElem?_zipIdx, List.getElem?_map]
  by_cases h : i < said.length
  · rw [List.getElem?_range h, List.getElem?_eq_getElem h]
    simp [sat2, h]
  · rw [List.getElem?_eq_none (by omega), List.getElem?_eq_none (by simp; omega)]
    rfl
theorem isN_od (w : Option Int) : (!isN (od w)) = w.isSome := by cases w <;> rfl
theorem awake_eq (said : List (Option Int)) : (said.zipIdx.filterMap fun q => if (!isN (od q.1)) = true then some (D.int (q.2 : Nat)) else none) = (ax said).map fun k => D.int (k : Nat) := by
  rw [fm_if (fun q : Option Int × Nat => !isN (od q.1)) (fun q => D.int (q.2 : Nat)), zipIdx_range, List.filter_map, List.map_map]
  unfold ax
  congr 1
  exact List.filter_congr fun k _ => isN_od _
theorem at2 {said : List (Option Int)} {k : Nat} (h : k < said.length) : atI (said.map od) (k : Int) = some (od (sat2 said k)) := by
  refine atI_nat ?_
  rw [List.getElem?_map, List.getElem?_eq_getElem h]
  simp [sat2, h]
theorem ax_lt {said : List (Option Int)} {k : Nat} (h : k ∈ ax said) : k < said.length := List.mem_range.mp (List.mem_filter.mp h).1
theorem ax_od {said : List (Option Int)} {k : Nat} (h : k ∈ ax said) : od (sat2 said k) = .int ((sat2 said k).getD 0) := by
  have := (List.mem_filter.mp h).2
  cases e : sat2 said k with
  | none => rw [e] at this; cases this
  | some w => rfl
theorem at_ax {said : List (Option Int)} {k : Nat} (h : k ∈ ax said) : atI (said.map od) (k : Int) = some (.int ((sat2 said k).getD 0)) := by rw [at2 (ax_lt h), ax_od h]
theorem at_ws {ws : List Int} {k : Nat} (h : k < ws.length) : atI (ws.map D.int) (k : Int) = some (.int (ws.getD k 0)) := by
  refine atI_nat ?_
  rw [List.getElem?_map, List.getElem?_eq_getElem h]
  simp [List.getD, h]
theorem ax_len (said : List (Option Int)) : (ax said).length ≤ said.length := by
  have := List.length_filter_le (fun k => (sat2 said k).isSome) (List.range said.length)
  rw [List.length_range] at this
  exact this
theorem twoA {said : List (Option Int)} {ws : List Int} (hs : said.length ≤ 24) (hw : Wok ws) : Two (nsA said) (wsA said ws) := by
  refine ⟨by unfold nsA wsA; rw [List.length_map, List.length_map], ?_, fun w h => ?_⟩
  · unfold wsA; rw [List.length_map]; have := ax_len said; omega
  · obtain ⟨k, _, rfl⟩ := List.mem_map.mp h
    by_cases hk : k < ws.length
    · rw [List.getD_eq_getElem?_getD, List.getElem?_eq_getElem hk]
      exact hw _ (List.getElem_mem hk)
    · rw [List.getD_eq_getElem?_getD, List.getElem?_eq_none (by omega)]
      exact Int.le_refl _
def onS (s : Int) : Option Int → Bool
  | none => false
  | some i => decide (0 ≤ i) && decide (i ≤ s)
def SaidOk (m s : Int) (said : List (Option Int)) : Prop := (said.length : Int) = m ∧ m ≤ 24 ∧ ∀ w ∈ said, w = none ∨ onS s w = true
def spIsWhole : List D → D → Prop := fun ds d => ∃ w : Option Int, ds = [od w] ∧ d = .bl w.isSome
def spOnS : List D → D → Prop := fun ds d => ∃ (s : Int) (w : Option Int), ds = [.int s, od w] ∧ d = .bl (onS s w)
def spIsSaid : List D → D → Prop := fun ds d => ∃ (m s : Int) (said : List (Option Int)), ds = [.int m, .int s, .tup (said.map od)] ∧ SaidOk m s said ∧ d = .bl true
def spCheckSaid : List D → D → Prop := fun ds d => ∃ (m s : Int) (said : List (Option Int)), ds = [.int m, .int s, .tup (said.map od)] ∧ SaidOk m s said ∧ d = .non
def spWithin : List D → D → Prop := fun ds d => ∃ (x : Str) (v l h : Int), ds = [.str x, .int v, .int l, .int h] ∧ (l ≤ v ∧ v ≤ h) ∧ d = .non
def spMaking : List D → D → Prop := fun ds d => ∃ m s : Int, ds = [.int m, .int s] ∧ (1 ≤ m ∧ m ≤ 24) ∧ (1 ≤ s ∧ s ≤ 10) ∧ d = .non
def spScale : List D → D → Prop := fun ds d => ∃ s : Int, ds = [.int s] ∧ (1 ≤ s ∧ s ≤ 10) ∧ d = .non
def spFraction : List D → D → Prop := fun ds d => ∃ t b : Int, ds = [.int t, .int b] ∧ (0 ≤ t ∧ t < b ∧ b ≤ 100) ∧ d = .non
def spAwake : List D → D → Prop := fun ds d => ∃ said : List (Option Int), ds = [.tup (said.map od)] ∧ said.length ≤ 24 ∧ d = .lst ((ax said).map fun k => D.int (k : Nat))
def spMA : List D → D → Prop := fun ds d => ∃ (said : List (Option Int)) (ws : List Int), ds = [.tup (said.map od), .tup (ws.map D.int)] ∧ said.length ≤ 24 ∧ ws.length = said.length ∧ Wok ws ∧ d = .int (midA said ws)
def handF (m s : Int) : List (Str × D) := [("many", .int m), ("scale", .int s)]
def weigF (m s t b : Int) (ws : List Int) (u : Int) : List (Str × D) := [("many", .int m), ("scale", .int s), ("top", .int t), ("bottom", .int b), ("tops", .tup (ws.map D.int)), ("under", .int u)]
theorem put_ne {f g : Str} {d x : D} {r : List (Str × D)} (h : (g = f) → False) : putD f d ((g, x) :: r) = (g, x) :: putD f d r := by
  show (if g = f then (g, d) :: r else (g, x) :: putD f d r) = _
  rw [if_neg h]
theorem put_eq {f : Str} {d x : D} {r : List (Str × D)} : putD f d ((f, x) :: r) = (f, d) :: r := by
  show (if f = f then (f, d) :: r else (f, x) :: putD f d r) = _
  rw [if_pos rfl]
theorem put_hand (m s : Int) : putD "scale" (.int s) (putD "many" (.int m) []) = handF m s := by
  show putD "scale" (.int s) [("many", .int m)] = _
  rw [put_ne (by decide +kernel)]
  rfl
def f3 (m s t : Int) : List (Str × D) := [("many", .int m), ("scale", .int s), ("top", .int t)]
def f4 (m s t b : Int) : List (Str × D) := [("many", .int m), ("scale", .int s), ("top", .int t), ("bottom", .int b)]
def f5 (m s t b : Int) (d : D) : List (Str × D) := [("many", .int m), ("scale", .int s), ("top", .int t), ("bottom", .int b), ("tops", d)]
theorem put_top (m s t : Int) : putD "top" (.int t) (handF m s) = f3 m s t := by
  unfold handF
  rw [put_ne (by decide +kernel), put_ne (by decide +kernel)]
  rfl
theorem put_bottom (m s t b : Int) : putD "bottom" (.int b) (f3 m s t) = f4 m s t b := by
  unfold f3
  rw [put_ne (by decide +kernel), put_ne (by decide +kernel), put_ne (by decide +kernel)]
  rfl
theorem put_tops (m s t b : Int) (d : D) : putD "tops" d (f4 m s t b) = f5 m s t b d := by
  unfold f4
  rw [put_ne (by decide +kernel), put_ne (by decide +kernel), put_ne (by decide +kernel), put_ne (by decide +kernel)]
  rfl
theorem put_under (m s t b u : Int) (ws : List Int) : putD "under" (.int u) (f5 m s t b (.tup (ws.map D.int))) = weigF m s t b ws u := by
  unfold f5
  rw [put_ne (by decide +kernel), put_ne (by decide +kernel), put_ne (by decide +kernel), put_ne (by decide +kernel), put_ne (by decide +kernel)]
  rfl
theorem lk_eq {f : Str} {d : D} {r : List (Str × D)} : List.lookup f ((f, d) :: r) = some d := by rw [List.lookup_cons, beq_self_eq_true]
theorem lk_ne {f g : Str} {d : D} {r : List (Str × D)} (h : (f == g) = false) : List.lookup f ((g, d) :: r) = List.lookup f r := by rw [List.lookup_cons, h]
section
variable (m s t b u : Int) (ws : List Int)
end
def HandAt (C_Hand C_Weigher : Addr) (O : Sto) (q : Nat) (m s : Int) (ws : List Int) : Prop :=
  (O[q]? = some (some (.ins C_Hand (handF m s))) ∧ ws = List.replicate m.toNat 1) ∨ ∃ t b u, O[q]? = some (some (.ins C_Weigher (weigF m s t b ws u)))
def spInitH (C_Hand C_Weigher : Addr) : SpD := fun ds O R => ∃ (q : Nat) (m s : Int) (C : Addr), ds = [.ptr q, .int m, .int s] ∧ (C = C_Hand ∨ C = C_Weigher) ∧ O[q]? = some (some (.ins C [])) ∧ (1 ≤ m ∧ m ≤ 24) ∧ (1 ≤ s ∧ s ≤ 10) ∧ R .non (O.set q (some (.ins C (handF m s))))
def spHeedH (C_Hand : Addr) : SpD := fun ds O R => ∃ (q : Nat) (m s : Int), ds = [.ptr q] ∧ O[q]? = some (some (.ins C_Hand (handF m s))) ∧ (1 ≤ m ∧ m ≤ 24) ∧ R (.tup ((List.replicate m.toNat (1 : Int)).map D.int)) O
def spHeedW (C_Weigher : Addr) : SpD := fun ds O R => ∃ (q : Nat) (m s t b u : Int) (ws : List Int), ds = [.ptr q] ∧ O[q]? = some (some (.ins C_Weigher (weigF m s t b ws u))) ∧ R (.tup (ws.map D.int)) O
def spWeights (C_Weigher : Addr) : SpD := fun ds O R => ∃ (q : Nat) (m s t b u : Int) (ws : List Int), ds = [.ptr q] ∧ O[q]? = some (some (.ins C_Weigher (weigF m s t b ws u))) ∧ R (.tup [.tup (ws.map D.int), .int u]) O
def spSay (C_Hand C_Weigher : Addr) : SpD := fun ds O R => ∃ (q : Nat) (m s : Int) (ws : List Int) (said : List (Option Int)), ds = [.ptr q, .tup (said.map od)] ∧ HandAt C_Hand C_Weigher O q m s ws ∧ (1 ≤ m ∧ m ≤ 24) ∧ SaidOk m s said ∧ (ws.length : Int) = m ∧ Wok ws ∧ R (.int (midA said ws)) O
def spInitW (C_Weigher : Addr) : SpD := fun ds O R => ∃ (q : Nat) (m s t b : Int), ds = [.ptr q, .int m, .int s, .int t, .int b] ∧ O[q]? = some (some (.ins C_Weigher [])) ∧ (1 ≤ m ∧ m ≤ 24) ∧ (1 ≤ s ∧ s ≤ 10) ∧ (0 ≤ t ∧ t < b ∧ b ≤ 100) ∧ R .non (O.set q (some (.ins C_Weigher (weigF m s t b (List.replicate m.toNat 1) 1))))
theorem set_at {O : Sto} {q : Nat} {x y : Option MO} (h : O[q]? = some x) : (O.set q y)[q]? = some y := by
  have := (List.getElem?_eq_some_iff.mp h).1
  rw [List.getElem?_set_self this]
theorem ones (n : Nat) : (List.replicate n [D.int 1]).flatten = (List.replicate n (1 : Int)).map D.int := by rw [rep1, List.map_replicate]
def preHand : List D → Prop := fun ds => ∃ c : Int, ds = [.int c]
def relHand : List D → D → Prop := fun _ d => ∃ (m : Nat) (s : Int), d = .tup [.int (m : Nat), .int s] ∧ 1 ≤ m ∧ m ≤ 24 ∧ 1 ≤ s ∧ s ≤ 10
def offG (sl : Bool) (n y : Int) : Option Int := if (sl && decide (n / 37 % 4 = 0)) = true then none else some y
def whatG (s : Int) (sl : Bool) (so n : Int) : Option Int := offG sl n (if n / 11 % 3 = 0 then so else n % (s + 1))
def turnG (m : Nat) (s : Int) (sl : Bool) (c : Int) : Tn := ((List.range m).map fun k => whatG s sl (drawF c 0 % (s + 1)) (drawF c (0 + (k : Nat) + 1)), drawF c 0 % (s + 1))
def spTurn : List D → D → Prop := fun ds d => ∃ (c : Int) (m : Nat) (s : Int) (sl : Bool), ds = [.int c, .int (m : Nat), .int s, .bl sl] ∧ m ≤ 24 ∧ 1 ≤ s ∧ d = tD (turnG m s sl c)
def cellsG (ns : List Int) : List Int := if cellAt ns 2 % 8 = 5 then (List.range 60).map fun k => drawF (cellAt ns 2) (40 + (0 + (k : Nat))) else cutA ns (some 3) (some 63)
def spTurns : List D → D → Prop := fun ds d => ∃ (ns : List Int) (m : Nat) (s : Int) (sl : Bool), ds = [.scr (ns.map D.int), .int (m : Nat), .int s, .bl sl] ∧ ns.length ≤ 63 ∧ m ≤ 24 ∧ 1 ≤ s ∧ d = .tup (((cellsG ns).map (turnG m s sl)).map tD)
def TnOk (m : Nat) (s : Int) (t : Tn) : Prop := t.1.length = m ∧ (∀ w ∈ t.1, w = none ∨ onS s w = true) ∧ 0 ≤ t.2 ∧ t.2 ≤ s
def spLMid : List D → D → Prop := fun ds d => ∃ (said : List (Option Int)) (ws : List Int) (dw : D), ds = [.tup (said.map od), dw] ∧ (dw = .tup (ws.map D.int) ∨ dw = .lst (ws.map D.int)) ∧ said.length ≤ 24 ∧ ws.length = said.length ∧ Wok ws ∧ d = .int (midA said ws)
def upto (f : Int) (ps : List (Int × Int)) : Int := sm (fun q => if q.1 ≤ f then q.2 else 0) ps
def prA (said : List (Option Int)) (ws : List Int) : List (Int × Int) := (ax said).map fun k => ((sat2 said k).getD 0, ws.getD k 0)
theorem eqD_pair (a b : D) : eqD (.tup [a, b]) (.tup [a, b]) = (eqD a a && (eqD b b && true)) := rfl
theorem eqD_selfI (a : List Int) : eqD (.tup (a.map D.int)) (.tup (a.map D.int)) = true := by rw [eqD_intsT, decide_eq_true rfl]
theorem pl_pair (a : List Int) (i : Int) : plD (.tup [.tup (a.map D.int), .int i]) = true := by
  show (plDs (a.map D.int) && (true && true)) = true
  rw [plD_ints]; rfl
theorem dp_pair (a : List Int) (i : Int) : dpD (.tup [.tup (a.map D.int), .int i]) ≤ 60 := by
  have := dpD_ints a
  show max (dpDs (a.map D.int) + 1) (max 0 0) + 1 ≤ 60
  omega
def spPow : List D → D → Prop := fun ds d => ∃ b n : Int, ds = [.int b, .int n] ∧ (0 ≤ b ∧ b ≤ 1000) ∧ (0 ≤ n ∧ n ≤ 60000) ∧ d = .int (b ^ n.toNat)
theorem pow_le {a b : Int} (h0 : 0 ≤ a) (h : a ≤ b) : ∀ n : Nat, a ^ n ≤ b ^ n
  | 0 => by simp
  | n + 1 => by
    rw [Int.pow_succ, Int.pow_succ]
    exact Int.mul_le_mul (pow_le h0 h n) h h0 (Int.pow_nonneg (Int.le_trans h0 h))
theorem small {a : Int} (h0 : 0 ≤ a) (h : a < 256) (n : Nat) : 0 ≤ a ^ n ∧ a ^ n < 2 ^ (8 * n + 1) := by
  refine ⟨Int.pow_nonneg h0, ?_⟩
  have h1 : a ^ n ≤ 256 ^ n := pow_le h0 (Int.le_of_lt h) n
  have h2 : (2 : Int) ^ (8 * n + 1) = 256 ^ n * 2 := by rw [Int.pow_succ, Int.pow_mul]; rfl
  have h3 : (0 : Int) < 256 ^ n := Int.pow_pos (by decide)
  rw [h2]
  omega
def spCharge : List D → D → Prop := fun ds d => ∃ (w : Option Int) (z : Int), ds = [od w, .int z] ∧ d = .int (chg w z)
def tA (t b sc own off : Int) : Int := t ^ off.toNat * b ^ (sc - off).toNat * 2 * b ^ own.toNat
def tS (t b sc own : Int) : Int := b ^ sc.toNat * (b ^ own.toNat + t ^ own.toNat)
def tF (t b sc own so : Int) : Option Int → Int
  | none => tS t b sc own
  | some x => tA t b sc own (ab (x - so))
def nextW (t b sc d so : Int) (said : List (Option Int)) (ws : List Int) : List Int := (ws.zip said).map fun p => p.1 * tF t b sc d so p.2
structure Frac (sc t b : Int) : Prop where
  s1 : 1 ≤ sc
  s2 : sc ≤ 10
  t0 : 0 ≤ t
  tb : t < b
  b2 : b ≤ 100
structure WOk (n : Nat) (ws : List Int) (u : Int) : Prop where
  w : ∀ x ∈ ws, 0 ≤ x ∧ x < 2 ^ (250 * (n + 1))
  u0 : 0 ≤ u
  u1 : u < 2 ^ (250 * (n + 1))
theorem p2_mul {x y : Int} {a c : Nat} (x0 : 0 ≤ x) (x1 : x < 2 ^ a) (y0 : 0 ≤ y) (y1 : y < 2 ^ c) : 0 ≤ x * y ∧ x * y < 2 ^ (a + c) := by
  refine ⟨Int.mul_nonneg x0 y0, ?_⟩
  rw [Int.pow_add]
  by_cases h : y = 0
  · subst h
    rw [Int.mul_zero]
    exact Int.mul_pos (Int.pow_pos (by decide)) (Int.pow_pos (by decide))
  · have h1 : x * y < 2 ^ a * y := Int.mul_lt_mul_of_pos_right x1 (by omega)
    have h2 : 2 ^ a * y ≤ 2 ^ a * 2 ^ c := Int.mul_le_mul_of_nonneg_left (Int.le_of_lt y1) (Int.pow_nonneg (by decide))
    omega
theorem p2_le {x : Int} {a c : Nat} (h : x < 2 ^ a) (hc : a ≤ c) : x < 2 ^ c := by
  obtain ⟨d, rfl⟩ := Nat.exists_eq_add_of_le hc
  have h1 : (1 : Int) ≤ 2 ^ d := Int.pow_pos (by decide)
  have h2 : (0 : Int) ≤ 2 ^ a := Int.pow_nonneg (by decide)
  have := Int.mul_le_mul_of_nonneg_left h1 h2
  rw [Int.pow_add]
  omega
theorem pw81 {x : Int} {e : Int} (h0 : 0 ≤ x) (h1 : x ≤ 100) (he : e ≤ 10) : 0 ≤ x ^ e.toNat ∧ x ^ e.toNat < 2 ^ 81 := by
  have := small h0 (show x < 256 by omega) e.toNat
  exact ⟨this.1, p2_le this.2 (by omega)⟩
theorem tA_ok {sc t b own off : Int} (h : Frac sc t b) (ho : own ≤ sc) (hf : 0 ≤ off ∧ off ≤ sc) : 0 ≤ tA t b sc own off ∧ tA t b sc own off < 2 ^ 250 := by
  have := h.s1; have := h.s2; have := h.t0; have := h.tb; have := h.b2
  have a1 := pw81 (x := t) (e := off) h.t0 (by omega) (by omega)
  have a2 := pw81 (x := b) (e := sc - off) (by omega) (by omega) (by omega)
  have a3 := pw81 (x := b) (e := own) (by omega) (by omega) (by omega)
  have b1 := p2_mul a1.1 a1.2 a2.1 a2.2
  have b2 := p2_mul (c := 2) b1.1 b1.2 (show (0 : Int) ≤ 2 by decide) (by decide)
  have b3 := p2_mul b2.1 b2.2 a3.1 a3.2
  exact ⟨b3.1, p2_le b3.2 (by decide)⟩
theorem tS_ok {sc t b own : Int} (h : Frac sc t b) (ho : own ≤ sc) : 0 ≤ tS t b sc own ∧ tS t b sc own < 2 ^ 250 := by
  have := h.s1; have := h.s2; have := h.t0; have := h.tb; have := h.b2
  have a1 := pw81 (x := b) (e := sc) (by omega) (by omega) (by omega)
  have a2 := pw81 (x := b) (e := own) (by omega) (by omega) (by omega)
  have a3 := pw81 (x := t) (e := own) h.t0 (by omega) (by omega)
  have e : (2 : Int) ^ 82 = 2 ^ 81 + 2 ^ 81 := by decide
  have b1 := p2_mul (y := b ^ own.toNat + t ^ own.toNat) (c := 82) a1.1 a1.2 (by omega) (by rw [e]; omega)
  exact ⟨b1.1, p2_le b1.2 (by decide)⟩
theorem onS_ok {s x : Int} (h : onS s (some x) = true) : 0 ≤ x ∧ x ≤ s := by
  have h : (decide (0 ≤ x) && decide (x ≤ s)) = true := h
  rw [Bool.and_eq_true] at h
  exact ⟨of_decide_eq_true h.1, of_decide_eq_true h.2⟩
theorem ab_ok {s x so : Int} (h : 0 ≤ x ∧ x ≤ s) (hs : 0 ≤ so ∧ so ≤ s) : 0 ≤ ab (x - so) ∧ ab (x - so) ≤ s := by
  unfold ab
  split <;> omega
theorem tF_ok {sc t b own so : Int} {w : Option Int} (h : Frac sc t b) (ho : own ≤ sc) (hs : 0 ≤ so ∧ so ≤ sc) (hw : w = none ∨ onS sc w = true) : 0 ≤ tF t b sc own so w ∧ tF t b sc own so w < 2 ^ 250 := by
  cases w with
  | none => exact tS_ok h ho
  | some x =>
    rcases hw with hw | hw
    · cases hw
    · exact tA_ok h ho (ab_ok (onS_ok hw) hs)
theorem midA_on {m sc : Int} {said : List (Option Int)} {ws : List Int} (hs : SaidOk m sc said) (h0 : 0 ≤ sc) (hw : Wok ws) : 0 ≤ midA said ws ∧ midA said ws ≤ sc := by
  have h24 : said.length ≤ 24 := by have := hs.1; have := hs.2.1; omega
  have hr := right_mid (twoA (ws := ws) h24 hw)
  unfold midA
  unfold rightB at hr
  by_cases hn : nsA said = []
  · rw [if_pos hn] at hr
    rw [of_decide_eq_true hr]
    omega
  · rw [if_neg hn, Bool.and_eq_true] at hr
    have hm := of_decide_eq_true hr.1
    unfold nsA at hm
    obtain ⟨k, hk, e⟩ := List.mem_map.mp hm
    have hlt := ax_lt hk
    have hq := (List.mem_filter.mp hk).2
    unfold nsA
    rw [← e]
    have hmem : sat2 said k ∈ said := by
      unfold sat2
      rw [List.getElem?_eq_getElem hlt]
      exact List.getElem_mem hlt
    cases hx : sat2 said k with
    | none => rw [hx] at hq; cases hq
    | some x =>
      rw [hx] at hmem
      rcases hs.2.2 _ hmem with h | h
      · cases h
      · exact onS_ok h
def spIsTurn : List D → D → Prop := fun ds d => ∃ (m s : Int) (said : List (Option Int)) (so : Int), ds = [.int m, .int s, .tup [.tup (said.map od), .int so]] ∧ SaidOk m s said ∧ (0 ≤ so ∧ so ≤ s) ∧ d = .bl true
def spCheckTurn : List D → D → Prop := fun ds d => ∃ (m s : Int) (said : List (Option Int)) (so : Int), ds = [.int m, .int s, .tup (said.map od), .int so] ∧ SaidOk m s said ∧ (0 ≤ so ∧ so ≤ s) ∧ d = .non
def WAt (C_Weigher : Addr) (O : Sto) (q : Nat) (m sc t b : Int) (ws : List Int) (u : Int) : Prop := O[q]? = some (some (.ins C_Weigher (weigF m sc t b ws u)))
def spTA (C_Weigher : Addr) : SpD := fun ds O R => ∃ (q : Nat) (m sc t b u own off : Int) (ws : List Int), ds = [.ptr q, .int own, .int off] ∧ WAt C_Weigher O q m sc t b ws u ∧ Frac sc t b ∧ (0 ≤ own ∧ own ≤ sc) ∧ (0 ≤ off ∧ off ≤ sc) ∧ R (.int (tA t b sc own off)) O
def spTS (C_Weigher : Addr) : SpD := fun ds O R => ∃ (q : Nat) (m sc t b u own : Int) (ws : List Int), ds = [.ptr q, .int own] ∧ WAt C_Weigher O q m sc t b ws u ∧ Frac sc t b ∧ (0 ≤ own ∧ own ≤ sc) ∧ R (.int (tS t b sc own)) O
def spTF (C_Weigher : Addr) : SpD := fun ds O R => ∃ (q : Nat) (m sc t b u own so : Int) (w : Option Int) (ws : List Int), ds = [.ptr q, .int own, od w, .int so] ∧ WAt C_Weigher O q m sc t b ws u ∧ Frac sc t b ∧ (0 ≤ own ∧ own ≤ sc) ∧ (0 ≤ so ∧ so ≤ sc) ∧ (w = none ∨ onS sc w = true) ∧ R (.int (tF t b sc own so w)) O
def spHearW (C_Weigher : Addr) : SpD := fun ds O R => ∃ (q n : Nat) (m sc t b u so : Int) (said : List (Option Int)) (ws : List Int), ds = [.ptr q, .tup (said.map od), .int so] ∧ WAt C_Weigher O q m sc t b ws u ∧ Frac sc t b ∧ (1 ≤ m ∧ m ≤ 24) ∧ n ≤ 1000 ∧ WOk n ws u ∧ (ws.length : Int) = m ∧ SaidOk m sc said ∧ (0 ≤ so ∧ so ≤ sc) ∧
  R .non (O.set q (some (.ins C_Weigher (weigF m sc t b (nextW t b sc (ab (midA said ws - so)) so said ws) (u * tS t b sc (ab (midA said ws - so)))))))
def spTotal (C_Weigher : Addr) : SpD := fun ds O R => ∃ (q : Nat) (m sc t b u : Int) (ws : List Int), ds = [.ptr q] ∧ WAt C_Weigher O q m sc t b ws u ∧ ws.length ≤ 63 ∧ R (.tup [.int ws.sum, .int u]) O
def spLHeard : List D → D → Prop := fun ds d => ∃ (n : Nat) (sc t b u so dd : Int) (said : List (Option Int)) (ws : List Int), ds = [.lst (ws.map D.int), .int u, .tup (said.map od), .int so, .int dd, .tup [.int sc, .int t, .int b]] ∧ Frac sc t b ∧ n ≤ 1000 ∧ WOk n ws u ∧ ws.length = said.length ∧ said.length ≤ 24 ∧ (∀ w ∈ said, w = none ∨ onS sc w = true) ∧ (0 ≤ so ∧ so ≤ sc) ∧ (0 ≤ dd ∧ dd ≤ sc) ∧
  d = .tup [.lst ((nextW t b sc dd so said ws).map D.int), .int (u * tS t b sc dd)]
def spTold (C_Weigher : Addr) : SpD := fun ds O R => ∃ (q : Nat) (m sc t b u : Int) (ws : List Int), ds = [.ptr q, .lst (ws.map D.int), .int u] ∧ WAt C_Weigher O q m sc t b ws u ∧ ws.length ≤ 24 ∧ R (.bl true) O
def nW (t b sc dd so : Int) (said : List (Option Int)) (ws : List Int) (k : Nat) : Int := ws.getD k 0 * tF t b sc dd so (sat2 said k)
theorem nextW_len {t b sc dd so : Int} {said : List (Option Int)} {ws : List Int} (h : ws.length = said.length) : (nextW t b sc dd so said ws).length = ws.length := by
  unfold nextW
  rw [List.length_map, List.length_zip]
  omega
def otherG (sc : Int) (said : List (Option Int)) : List (Option Int) := said.map fun w => w.map fun x => sc - x
def nxt (x : Int) : Int := (x * x + 48271 * x + 11) % 2147483647
def Lo (x : Int) : Prop := 0 ≤ x ∧ x < 2147483647
theorem nxt_lo (x : Int) : Lo (nxt x) := by unfold Lo nxt; omega
def seedF (c k : Int) : Int := nxt (nxt ((c % 2147483647 + 69621 * k * k + 5) % 2147483647))
theorem seed_lo (c k : Int) : Lo (seedF c k) := nxt_lo _
def spNext : List D → D → Prop := fun ds d => ∃ x : Int, ds = [.int x] ∧ (0 ≤ x ∧ x < 3000000000) ∧ d = .int (nxt x)
def spSeedS : List D → D → Prop := fun ds d => ∃ (ns : List Int) (k : Int), ds = [.scr (ns.map D.int), .int k] ∧ (0 ≤ k ∧ k ≤ 1000) ∧ d = .int (seedF (cellAt ns k) k)
def whatR (s : Int) (sl : Bool) (so k x : Int) : Option Int := if (sl && decide (x % 4 = 0)) = true then none else some (if 1 < x / 3 % (k % 7 + 3) then so else x / 16 % (s + 1))
def runR (s : Int) (sl : Bool) (so : Int) : Nat → Nat → Int → List (Option Int)
  | 0, _, _ => []
  | n + 1, k, x => whatR s sl so (k : Int) (nxt (x + (k : Int))) :: runR s sl so n (k + 1) (nxt (x + (k : Int)))
def turnR (m : Nat) (s : Int) (sl : Bool) (x : Int) : Tn := (runR s sl (x / 7 % (s + 1)) m 0 x, x / 7 % (s + 1))
def spTurnR : List D → D → Prop := fun ds d => ∃ (x : Int) (m : Nat) (s : Int) (sl : Bool), ds = [.int x, .int (m : Nat), .int s, .bl sl] ∧ Lo x ∧ m ≤ 24 ∧ 1 ≤ s ∧ d = tD (turnR m s sl x)
def fews : List Int := [3, 3, 3, 3, 3, 30, 3, 12]
def fewR (x : Int) : Int := fews.getD (x % 8).toNat 0
def mostR (m : Nat) : Int := if 8 < m then 20 else 60
def endR (ns : List Int) (st : Int) (m : Nat) : Int :=
  if st + mostR m < (if st + fewR (seedF (cellAt ns st) st) > (ns.length : Nat) then st + fewR (seedF (cellAt ns st) st) else (ns.length : Nat)) then st + mostR m else (if st + fewR (seedF (cellAt ns st) st) > (ns.length : Nat) then st + fewR (seedF (cellAt ns st) st) else (ns.length : Nat))
def turnsR (ns : List Int) (st : Int) (m : Nat) (s : Int) (sl : Bool) : List Tn := (List.range (endR ns st m - st).toNat).map fun j : Nat => turnR m s sl (seedF (cellAt ns (st + (j : Int))) (st + (j : Int)))
def spTurnsR : List D → D → Prop := fun ds d => ∃ (ns : List Int) (st : Int) (m : Nat) (s : Int) (sl : Bool), ds = [.scr (ns.map D.int), .int st, .int (m : Nat), .int s, .bl sl] ∧ ns.length ≤ 63 ∧ (0 ≤ st ∧ st ≤ 10) ∧ m ≤ 24 ∧ 1 ≤ s ∧ d = .tup ((turnsR ns st m s sl).map tD)
def preX : List D → Prop := fun ds => ∃ c : Int, ds = [.int c]
def relMany : List D → D → Prop := fun _ d => ∃ m : Nat, d = .int (m : Nat) ∧ 1 ≤ m ∧ m ≤ 24
def relScaleR : List D → D → Prop := fun _ d => ∃ s : Int, d = .int s ∧ 1 ≤ s ∧ s ≤ 10
theorem twosR {a b i : Int} (h : i = 0 ∨ i = 1) : atI [D.int a, D.int b] i = some (.int (if i = 0 then a else b)) := by
  rcases h with rfl | rfl <;> rfl
structure SP where
  m : Int
  sc : Int
  t : Int
  b : Int
  sh : Int
  pa : Int
def f7 (m s t b : Int) (ws : List Int) (u sh : Int) : List (Str × D) := [("many", .int m), ("scale", .int s), ("top", .int t), ("bottom", .int b), ("tops", .tup (ws.map D.int)), ("under", .int u), ("share", .int sh)]
def shiF (p : SP) (ws : List Int) (u : Int) : List (Str × D) := [("many", .int p.m), ("scale", .int p.sc), ("top", .int p.t), ("bottom", .int p.b), ("tops", .tup (ws.map D.int)), ("under", .int u), ("share", .int p.sh), ("parts", .int p.pa)]
theorem put_share (m s t b u sh : Int) (ws : List Int) : putD "share" (.int sh) (weigF m s t b ws u) = f7 m s t b ws u sh := by
  unfold weigF
  rw [put_ne (by decide +kernel), put_ne (by decide +kernel), put_ne (by decide +kernel), put_ne (by decide +kernel), put_ne (by decide +kernel), put_ne (by decide +kernel)]
  rfl
theorem put_parts (m s t b u sh pa : Int) (ws : List Int) : putD "parts" (.int pa) (f7 m s t b ws u sh) = shiF ⟨m, s, t, b, sh, pa⟩ ws u := by
  unfold f7
  rw [put_ne (by decide +kernel), put_ne (by decide +kernel), put_ne (by decide +kernel), put_ne (by decide +kernel), put_ne (by decide +kernel), put_ne (by decide +kernel), put_ne (by decide +kernel)]
  rfl
theorem sput_tops (p : SP) (u : Int) (ws vs : List Int) : putD "tops" (.tup (vs.map D.int)) (shiF p ws u) = shiF p vs u := by
  unfold shiF
  rw [put_ne (by decide +kernel), put_ne (by decide +kernel), put_ne (by decide +kernel), put_ne (by decide +kernel), put_eq]
theorem sput_under (p : SP) (u v : Int) (ws : List Int) : putD "under" (.int v) (shiF p ws u) = shiF p ws v := by
  unfold shiF
  rw [put_ne (by decide +kernel), put_ne (by decide +kernel), put_ne (by decide +kernel), put_ne (by decide +kernel), put_ne (by decide +kernel), put_eq]
section
variable (p : SP) (u : Int) (ws : List Int)
theorem zl_many : (shiF p ws u).lookup ("many" : Str) = some (.int p.m) := lk_eq
theorem zl_scale : (shiF p ws u).lookup ("scale" : Str) = some (.int p.sc) := by unfold shiF; rw [lk_ne (by decide +kernel), lk_eq]
theorem zl_top : (shiF p ws u).lookup ("top" : Str) = some (.int p.t) := by unfold shiF; rw [lk_ne (by decide +kernel), lk_ne (by decide +kernel), lk_eq]
theorem zl_bottom : (shiF p ws u).lookup ("bottom" : Str) = some (.int p.b) := by unfold shiF; rw [lk_ne (by decide +kernel), lk_ne (by decide +kernel), lk_ne (by decide +kernel), lk_eq]
theorem zl_tops : (shiF p ws u).lookup ("tops" : Str) = some (.tup (ws.map D.int)) := by unfold shiF; rw [lk_ne (by decide +kernel), lk_ne (by decide +kernel), lk_ne (by decide +kernel), lk_ne (by decide +kernel), lk_eq]
theorem zl_under : (shiF p ws u).lookup ("under" : Str) = some (.int u) := by unfold shiF; rw [lk_ne (by decide +kernel), lk_ne (by decide +kernel), lk_ne (by decide +kernel), lk_ne (by decide +kernel), lk_ne (by decide +kernel), lk_eq]
theorem zl_share : (shiF p ws u).lookup ("share" : Str) = some (.int p.sh) := by unfold shiF; rw [lk_ne (by decide +kernel), lk_ne (by decide +kernel), lk_ne (by decide +kernel), lk_ne (by decide +kernel), lk_ne (by decide +kernel), lk_ne (by decide +kernel), lk_eq]
theorem zl_parts : (shiF p ws u).lookup ("parts" : Str) = some (.int p.pa) := by unfold shiF; rw [lk_ne (by decide +kernel), lk_ne (by decide +kernel), lk_ne (by decide +kernel), lk_ne (by decide +kernel), lk_ne (by decide +kernel), lk_ne (by decide +kernel), lk_ne (by decide +kernel), lk_eq]
theorem zl_no {f : Str} (h : ([("many" : Str), "scale", "top", "bottom", "tops", "under", "share", "parts"].all fun g => !(f == g)) = true) : (shiF p ws u).lookup f = none := by
  simp only [List.all_cons, List.all_nil, Bool.and_true, Bool.and_eq_true, Bool.not_eq_true'] at h
  obtain ⟨h1, h2, h3, h4, h5, h6, h7, h8⟩ := h
  unfold shiF
  rw [lk_ne h1, lk_ne h2, lk_ne h3, lk_ne h4, lk_ne h5, lk_ne h6, lk_ne h7, lk_ne h8]
  rfl
end
structure SOk (p : SP) : Prop where
  f : Frac p.sc p.t p.b
  m1 : 1 ≤ p.m
  m2 : p.m ≤ 24
  h1 : 1 ≤ p.sh
  h2 : p.sh < p.pa
  h3 : p.pa ≤ 100
def SAt (C : Addr) (O : Sto) (q : Nat) (p : SP) (ws : List Int) (u : Int) : Prop := O[q]? = some (some (.ins C (shiF p ws u)))
structure WOkS (n : Nat) (ws : List Int) (u : Int) : Prop where
  w : ∀ x ∈ ws, 0 ≤ x ∧ x < 2 ^ (270 * (n + 1))
  u0 : 0 ≤ u
  u1 : u < 2 ^ (270 * (n + 1))
theorem wOkS_ones (n : Nat) : WOkS 0 (List.replicate n 1) 1 := ⟨fun x hx => by rw [List.eq_of_mem_replicate hx]; exact ⟨by decide, by decide⟩, by decide, by decide⟩
def dealL (p : SP) (ws : List Int) : List Int := ws.map fun w => w * (p.m * (p.pa - p.sh)) + p.sh * ws.sum
theorem deal_len (p : SP) (ws : List Int) : (dealL p ws).length = ws.length := by unfold dealL; rw [List.length_map]
theorem kept_ok {p : SP} (h : SOk p) : 0 ≤ p.m * (p.pa - p.sh) ∧ p.m * (p.pa - p.sh) ≤ 2376 := by
  have := h.m1; have := h.m2; have := h.h1; have := h.h2; have := h.h3
  have h1 : p.m * (p.pa - p.sh) ≤ 24 * (p.pa - p.sh) := Int.mul_le_mul_of_nonneg_right (by omega) (by omega)
  have h2 : 0 ≤ p.m * (p.pa - p.sh) := Int.mul_nonneg (by omega) (by omega)
  omega
theorem deal_ok {p : SP} {ws : List Int} {e : Nat} (h : SOk p) (hl : ws.length ≤ 24) (hw : ∀ x ∈ ws, 0 ≤ x ∧ x < 2 ^ e) : ∀ x ∈ dealL p ws, 0 ≤ x ∧ x < 2 ^ (e + 13) := by
  have := h.h1; have := h.h2; have := h.h3
  have hk := kept_ok h
  have hE : (1 : Int) ≤ 2 ^ e := Int.pow_pos (by decide)
  have e13 : (2 : Int) ^ (e + 13) = 2 ^ e * 8192 := by rw [Int.pow_add]; rfl
  have hs0 : 0 ≤ ws.sum := by
    have := sm_pos (g := fun x : Int => x) (l := ws) fun v hv => (hw v hv).1
    rw [← sm_sum, List.map_id'] at this
    exact this
  have hs1 : ws.sum ≤ 24 * 2 ^ e := by
    have := sm_bd' (g := fun x : Int => x) (l := ws) (B := 2 ^ e) (n := 24) (by omega) hl fun v hv => by have := (hw v hv).2; omega
    rw [← sm_sum, List.map_id'] at this
    exact this
  rw [e13]
  generalize (2 : Int) ^ e = E at hE hs1 hw
  intro x hx
  obtain ⟨w, hw', rfl⟩ := List.mem_map.mp hx
  have h1 := hw w hw'
  generalize p.m * (p.pa - p.sh) = K at hk
  have a1 : w * K ≤ E * K := Int.mul_le_mul_of_nonneg_right (by omega) hk.1
  have a2 : E * K ≤ E * 2376 := Int.mul_le_mul_of_nonneg_left hk.2 (by omega)
  have a3 : p.sh * ws.sum ≤ 99 * ws.sum := Int.mul_le_mul_of_nonneg_right (by omega) hs0
  have a4 : 0 ≤ p.sh * ws.sum := Int.mul_nonneg (by omega) hs0
  have a5 : 0 ≤ w * K := Int.mul_nonneg h1.1 hk.1
  omega
theorem wOkS_next {n : Nat} {p : SP} {dd so u : Int} {said : List (Option Int)} {ws : List Int} (h : SOk p) (hw : WOkS n ws u) (hl : ws.length = said.length) (h24 : said.length ≤ 24) (hs : ∀ w ∈ said, w = none ∨ onS p.sc w = true) (hso : 0 ≤ so ∧ so ≤ p.sc) (hd : 0 ≤ dd ∧ dd ≤ p.sc) : WOkS (n + 1) (dealL p (nextW p.t p.b p.sc dd so said ws)) (u * tS p.t p.b p.sc dd * p.m * p.pa) := by
  have := h.m1; have := h.m2; have := h.h1; have := h.h2; have := h.h3
  have h1 := tS_ok (own := dd) h.f hd.2
  have h2 := p2_mul hw.u0 hw.u1 h1.1 h1.2
  have h3 := p2_mul (c := 5) h2.1 h2.2 (show 0 ≤ p.m by omega) (by omega)
  have h4 := p2_mul (c := 7) h3.1 h3.2 (show 0 ≤ p.pa by omega) (by omega)
  refine ⟨fun x hx => ?_, h4.1, p2_le h4.2 (by omega)⟩
  have hb : ∀ x ∈ nextW p.t p.b p.sc dd so said ws, 0 ≤ x ∧ x < 2 ^ (270 * (n + 1) + 250) := fun x hx => by
    obtain ⟨q, hq, rfl⟩ := List.mem_map.mp hx
    have g3 := hw.w _ (List.of_mem_zip hq).1
    have g4 := tF_ok h.f hd.2 hso (hs _ (List.of_mem_zip hq).2)
    exact p2_mul g3.1 g3.2 g4.1 g4.2
  have := deal_ok h (by rw [nextW_len hl, hl]; exact h24) hb x hx
  exact ⟨this.1, p2_le this.2 (by omega)⟩
def spShare : List D → D → Prop := fun ds d => ∃ a b : Int, ds = [.int a, .int b] ∧ (1 ≤ a ∧ a < b ∧ b ≤ 100) ∧ d = .non
def spInitHS (C : Addr) : SpD := fun ds O R => ∃ (q : Nat) (m s : Int), ds = [.ptr q, .int m, .int s] ∧ O[q]? = some (some (.ins C [])) ∧ (1 ≤ m ∧ m ≤ 24) ∧ (1 ≤ s ∧ s ≤ 10) ∧ R .non (O.set q (some (.ins C (handF m s))))
def spInitS (C : Addr) : SpD := fun ds O R => ∃ (q : Nat) (p : SP), ds = [.ptr q, .int p.m, .int p.sc, .int p.t, .int p.b, .int p.sh, .int p.pa] ∧ O[q]? = some (some (.ins C [])) ∧ SOk p ∧ R .non (O.set q (some (.ins C (shiF p (List.replicate p.m.toNat 1) 1))))
def spHeedS (C : Addr) : SpD := fun ds O R => ∃ (q : Nat) (p : SP) (u : Int) (ws : List Int), ds = [.ptr q] ∧ SAt C O q p ws u ∧ R (.tup (ws.map D.int)) O
def spWeightsS (C : Addr) : SpD := fun ds O R => ∃ (q : Nat) (p : SP) (u : Int) (ws : List Int), ds = [.ptr q] ∧ SAt C O q p ws u ∧ R (.tup [.tup (ws.map D.int), .int u]) O
def spTotalS (C : Addr) : SpD := fun ds O R => ∃ (q : Nat) (p : SP) (u : Int) (ws : List Int), ds = [.ptr q] ∧ SAt C O q p ws u ∧ ws.length ≤ 63 ∧ R (.tup [.int ws.sum, .int u]) O
def spTAS (C : Addr) : SpD := fun ds O R => ∃ (q : Nat) (p : SP) (u own off : Int) (ws : List Int), ds = [.ptr q, .int own, .int off] ∧ SAt C O q p ws u ∧ SOk p ∧ (0 ≤ own ∧ own ≤ p.sc) ∧ (0 ≤ off ∧ off ≤ p.sc) ∧ R (.int (tA p.t p.b p.sc own off)) O
def spTSS (C : Addr) : SpD := fun ds O R => ∃ (q : Nat) (p : SP) (u own : Int) (ws : List Int), ds = [.ptr q, .int own] ∧ SAt C O q p ws u ∧ SOk p ∧ (0 ≤ own ∧ own ≤ p.sc) ∧ R (.int (tS p.t p.b p.sc own)) O
def spTFS (C : Addr) : SpD := fun ds O R => ∃ (q : Nat) (p : SP) (u own so : Int) (w : Option Int) (ws : List Int), ds = [.ptr q, .int own, od w, .int so] ∧ SAt C O q p ws u ∧ SOk p ∧ (0 ≤ own ∧ own ≤ p.sc) ∧ (0 ≤ so ∧ so ≤ p.sc) ∧ (w = none ∨ onS p.sc w = true) ∧ R (.int (tF p.t p.b p.sc own so w)) O
def spSayS (C : Addr) : SpD := fun ds O R => ∃ (q : Nat) (p : SP) (u : Int) (ws : List Int) (said : List (Option Int)), ds = [.ptr q, .tup (said.map od)] ∧ SAt C O q p ws u ∧ SOk p ∧ SaidOk p.m p.sc said ∧ (ws.length : Int) = p.m ∧ Wok ws ∧ R (.int (midA said ws)) O
def spWeighS (C : Addr) : SpD := fun ds O R => ∃ (q n : Nat) (p : SP) (u so : Int) (said : List (Option Int)) (ws : List Int), ds = [.ptr q, .tup (said.map od), .int so] ∧ SAt C O q p ws u ∧ SOk p ∧ n ≤ 1000 ∧ WOkS n ws u ∧ (ws.length : Int) = p.m ∧ SaidOk p.m p.sc said ∧ (0 ≤ so ∧ so ≤ p.sc) ∧
  R .non (O.set q (some (.ins C (shiF p (nextW p.t p.b p.sc (ab (midA said ws - so)) so said ws) (u * tS p.t p.b p.sc (ab (midA said ws - so)))))))
def spDealS (C : Addr) : SpD := fun ds O R => ∃ (q : Nat) (p : SP) (u : Int) (ws : List Int), ds = [.ptr q] ∧ SAt C O q p ws u ∧ SOk p ∧ ws.length ≤ 24 ∧ R .non (O.set q (some (.ins C (shiF p (dealL p ws) (u * p.m * p.pa)))))
def spHearS (C : Addr) : SpD := fun ds O R => ∃ (q n : Nat) (p : SP) (u so : Int) (said : List (Option Int)) (ws : List Int), ds = [.ptr q, .tup (said.map od), .int so] ∧ SAt C O q p ws u ∧ SOk p ∧ n ≤ 1000 ∧ WOkS n ws u ∧ (ws.length : Int) = p.m ∧ SaidOk p.m p.sc said ∧ (0 ≤ so ∧ so ≤ p.sc) ∧
  R .non (O.set q (some (.ins C (shiF p (dealL p (nextW p.t p.b p.sc (ab (midA said ws - so)) so said ws)) (u * tS p.t p.b p.sc (ab (midA said ws - so)) * p.m * p.pa)))))
def spAnewS (C : Addr) : SpD := fun ds O R => ∃ (q : Nat) (p : SP) (u : Int) (ws : List Int), ds = [.ptr q] ∧ SAt C O q p ws u ∧ SOk p ∧ R (.ptr O.length) (O ++ [some (.ins C (shiF p (List.replicate p.m.toNat 1) 1))])
inductive Ov where
  | n | i (v : Int) | b (t : Bool) | s (x : Str) | t (xs : List D) | l (xs : List D)
def ov : Ov → D
  | .n => .non | .i v => .int v | .b t => .bl t | .s x => .str x | .t xs => .tup xs | .l xs => .lst xs
def isW : Ov → Bool
  | .i _ => true
  | _ => false
def onO (s : Int) : Ov → Bool
  | .i v => decide (0 ≤ v) && decide (v ≤ s)
  | _ => false
def okW (s : Int) (w : Ov) : Bool := isN (ov w) || onO s w
inductive Sv where
  | t (xs : List Ov) | o (v : Ov)
def sv : Sv → D
  | .t xs => .tup (xs.map ov)
  | .o v => ov v
def isT : Ov → Bool
  | .t _ => true
  | _ => false
def Sok : Sv → Prop
  | .t xs => xs.length ≤ 100
  | .o v => isT v = false
def saidS (m s : Int) : Sv → Bool
  | .t xs => decide ((xs.length : Int) = m) && xs.all (okW s)
  | .o _ => false
theorem not_t {b : Bool} (h : (!b) = true) : b = false := by cases b <;> first | rfl | cases h
theorem not_f {b : Bool} (h : (!b) = false) : b = true := by cases b <;> first | rfl | cases h
theorem ok_ov (v : Ov) : okTy (ov v) = true := by cases v <;> rfl
def spIsWholeO : List D → D → Prop := fun ds d => ∃ v : Ov, ds = [ov v] ∧ d = .bl (isW v)
def spOnSO : List D → D → Prop := fun ds d => ∃ (s : Int) (v : Ov), ds = [.int s, ov v] ∧ d = .bl (onO s v)
def spIsSaidO : List D → D → Prop := fun ds d => ∃ (m s : Int) (x : Sv), ds = [.int m, .int s, sv x] ∧ Sok x ∧ d = .bl (saidS m s x)
def spIsTurnO : List D → D → Prop := fun ds d => ∃ (m s : Int) (x : Sv) (y : Ov), ds = [.int m, .int s, .tup [sv x, ov y]] ∧ Sok x ∧ d = .bl (saidS m s x && onO s y)
def spCheckX (C : Addr) : SpX := fun ds O R RX => ∃ (m s : Int) (x : Sv) (y : Ov), ds = [.int m, .int s, sv x, ov y] ∧ Sok x ∧ ((saidS m s x && onO s y) = true → R .non O) ∧ ((saidS m s x && onO s y) = false → RX C [("number", .int 0)] O)
theorem said_len {m s : Int} {xs : List Ov} (h : ¬ (xs.length : Int) = m) : saidS m s (.t xs) = false := by
  show (decide ((xs.length : Int) = m) && _) = false
  rw [decide_eq_false h]; rfl
def toO : Option Int → Ov
  | none => .n
  | some i => .i i
theorem ov_to (w : Option Int) : ov (toO w) = od w := by cases w <;> rfl
theorem ovs_to (l : List (Option Int)) : (l.map toO).map ov = l.map od := by rw [List.map_map]; exact List.map_congr_left fun w _ => ov_to w
theorem sv_to (l : List (Option Int)) : sv (.t (l.map toO)) = .tup (l.map od) := congrArg D.tup (ovs_to l)
theorem on_to (s : Int) (w : Option Int) : onO s (toO w) = onS s w := by cases w <;> rfl
theorem saidS_of {m s : Int} {said : List (Option Int)} (h : SaidOk m s said) : saidS m s (.t (said.map toO)) = true := by
  obtain ⟨h1, _, h3⟩ := h
  show (decide (((said.map toO).length : Int) = m) && (said.map toO).all (okW s)) = true
  rw [decide_eq_true (by rw [List.length_map]; exact h1), List.all_map]
  show (true && said.all _) = true
  rw [List.all_eq_true.mpr fun w hw => ?_]
  · rfl
  · show (isN (ov (toO w)) || onO s (toO w)) = true
    rcases h3 w hw with rfl | h
    · rfl
    · rw [on_to, h, Bool.or_true]
theorem sok_of {m s : Int} {said : List (Option Int)} (h : SaidOk m s said) : Sok (.t (said.map toO)) := by
  have h1 := h.1; have h2 := h.2.1
  show (said.map toO).length ≤ 100
  rw [List.length_map]
  omega
theorem onO_of {s so : Int} (h : 0 ≤ so ∧ so ≤ s) : onO s (.i so) = true := by
  show (decide (0 ≤ so) && decide (so ≤ s)) = true
  rw [decide_eq_true h.1, decide_eq_true h.2]; rfl
def spCheckSaidX (C : Addr) : SpX := fun ds O R RX => ∃ (m s : Int) (x : Sv), ds = [.int m, .int s, sv x] ∧ Sok x ∧ (saidS m s x = true → R .non O) ∧ (saidS m s x = false → RX C [("number", .int 0)] O)
def inO : Ov → Int → Int → Bool
  | .i n, l, h => decide (l ≤ n) && decide (n ≤ h)
  | _, _, _ => false
theorem inO_i {v : Ov} {l h : Int} (e : inO v l h = true) : ∃ n, v = .i n ∧ l ≤ n ∧ n ≤ h := by
  cases v with
  | i n =>
    simp only [inO, Bool.and_eq_true, decide_eq_true_eq] at e
    exact ⟨n, rfl, e.1, e.2⟩
  | _ => cases e
def mkO (m s : Ov) : Bool := inO m 1 24 && inO s 1 10
theorem mkO_i {m s : Ov} (h : mkO m s = true) : ∃ a b : Int, m = .i a ∧ s = .i b ∧ (1 ≤ a ∧ a ≤ 24) ∧ (1 ≤ b ∧ b ≤ 10) := by
  unfold mkO at h
  rw [Bool.and_eq_true] at h
  obtain ⟨a, rfl, h1⟩ := inO_i h.1
  obtain ⟨b, rfl, h2⟩ := inO_i h.2
  exact ⟨a, b, rfl, rfl, h1, h2⟩
abbrev tail0 : Str := " is no whole number that may stand there"
def Sh (x : Str) : Prop := (Str.empty ++ x ++ tail0).length ≤ sizeLine ∧ x.length ≤ sizeLine ∧ (Str.empty ++ x).length ≤ sizeLine
theorem sh_of {x : Str} {n : Nat} (h : ((Str.empty ++ x ++ tail0).length, x.length, (Str.empty ++ x).length) = (n + 40, n, n)) (hn : n ≤ 20) : Sh x := by
  simp only [Prod.mk.injEq] at h
  obtain ⟨h1, h2, h3⟩ := h
  unfold Sh
  rw [sizeLine_eq]
  omega
theorem sh_many : Sh "many" := sh_of (n := 4) (by decide +kernel) (by decide)
theorem sh_scale : Sh "scale" := sh_of (n := 5) (by decide +kernel) (by decide)
def spWithinX (C_NoRule : Addr) : SpX := fun ds O R RX => ∃ (x : Str) (v : Ov) (l h : Int), ds = [.str x, ov v, .int l, .int h] ∧ Sh x ∧ (inO v l h = true → R .non O) ∧ (inO v l h = false → RX C_NoRule [] O)
theorem sh_top : Sh "top" := sh_of (n := 3) (by decide +kernel) (by decide)
theorem sh_bottom : Sh "bottom" := sh_of (n := 6) (by decide +kernel) (by decide)
def spScaleX (C_NoRule : Addr) : SpX := fun ds O R RX => ∃ v : Ov, ds = [ov v] ∧ (inO v 1 10 = true → R .non O) ∧ (inO v 1 10 = false → RX C_NoRule [] O)
def spMakingX (C_NoRule : Addr) : SpX := fun ds O R RX => ∃ m s : Ov, ds = [ov m, ov s] ∧ (mkO m s = true → R .non O) ∧ (mkO m s = false → RX C_NoRule [] O)
theorem said_mem {m s : Int} {l : List Ov} {w : Ov} (h1 : w ∈ l) (h2 : okW s w = false) : saidS m s (.t l) = false := by
  show (decide _ && l.all (okW s)) = false
  have : l.all (okW s) = false := by
    cases e : l.all (okW s) with
    | false => rfl
    | true => rw [List.all_eq_true.mp e w h1] at h2; cases h2
  rw [this, Bool.and_false]
def oddW (s j : Int) : Ov := if j = 0 then .i (-1) else if j = 1 then .i (s + 1) else if j = 2 then .b true else .s "0"
theorem oddW_at {s j : Int} (h : j = 0 ∨ j = 1 ∨ j = 2 ∨ j = 3) : atI [D.int (-1), .int (s + 1), .bl true, .str "0"] j = some (ov (oddW s j)) := by
  rcases h with rfl | rfl | rfl | rfl <;> rfl
theorem ixN_at {xs : List D} {k : Nat} (h : k < xs.length) : ixN xs.length ((k : Nat) : Int) = some k := by
  unfold ixN
  rw [if_pos (by omega), if_pos (by omega), Int.toNat_natCast]
def lessO : Ov → Int
  | .i n => n - 1
  | _ => 0
def frO (t b : Ov) : Bool := inO b 1 100 && inO t 0 (lessO b)
theorem frO_i {t b : Ov} (h : frO t b = true) : ∃ x y : Int, t = .i x ∧ b = .i y ∧ (0 ≤ x ∧ x < y ∧ y ≤ 100) := by
  unfold frO at h
  rw [Bool.and_eq_true] at h
  obtain ⟨y, rfl, h1⟩ := inO_i h.1
  obtain ⟨x, rfl, h2⟩ := inO_i h.2
  have h3 : x ≤ y - 1 := h2.2
  exact ⟨x, y, rfl, rfl, h2.1, by omega, h1.2⟩
def spFractionX (C_NoRule : Addr) : SpX := fun ds O R RX => ∃ t b : Ov, ds = [ov t, ov b] ∧ (frO t b = true → R .non O) ∧ (frO t b = false → RX C_NoRule [] O)
theorem sh_parts : Sh "parts" := sh_of (n := 5) (by decide +kernel) (by decide)
theorem sh_share : Sh "share" := sh_of (n := 5) (by decide +kernel) (by decide)
def shO (t b : Ov) : Bool := inO b 1 100 && inO t 1 (lessO b)
theorem shO_i {t b : Ov} (h : shO t b = true) : ∃ x y : Int, t = .i x ∧ b = .i y ∧ (1 ≤ x ∧ x < y ∧ y ≤ 100) := by
  unfold shO at h
  rw [Bool.and_eq_true] at h
  obtain ⟨y, rfl, h1⟩ := inO_i h.1
  obtain ⟨x, rfl, h2⟩ := inO_i h.2
  have h3 : x ≤ y - 1 := h2.2
  exact ⟨x, y, rfl, rfl, h2.1, by omega, h1.2⟩
def spShareX (C_NoRule : Addr) : SpX := fun ds O R RX => ∃ t b : Ov, ds = [ov t, ov b] ∧ (shO t b = true → R .non O) ∧ (shO t b = false → RX C_NoRule [] O)
def ok6 (m s t b sh pa : Ov) : Bool := (mkO m s && frO t b) && shO sh pa
def okL : List Ov → Bool
  | [m, s, t, b, sh, pa] => ok6 m s t b sh pa
  | _ => false
def sixP (p : SP) : List Ov := [.i p.m, .i p.sc, .i p.t, .i p.b, .i p.sh, .i p.pa]
theorem six_of {os : List Ov} (h : os.length = 6) : ∃ m s t b sh pa, os = [m, s, t, b, sh, pa] := by
  match os, h with
  | [m, s, t, b, sh, pa], _ => exact ⟨m, s, t, b, sh, pa, rfl⟩
theorem ok6_i {m s t b sh pa : Ov} (h : ok6 m s t b sh pa = true) : ∃ p : SP, [m, s, t, b, sh, pa] = sixP p ∧ SOk p := by
  unfold ok6 at h
  rw [Bool.and_eq_true, Bool.and_eq_true] at h
  obtain ⟨a, c, rfl, rfl, h1, h2⟩ := mkO_i h.1.1
  obtain ⟨x, y, rfl, rfl, h3⟩ := frO_i h.1.2
  obtain ⟨z, w, rfl, rfl, h4⟩ := shO_i h.2
  exact ⟨⟨a, c, x, y, z, w⟩, rfl, ⟨⟨h2.1, h2.2, h3.1, h3.2.1, h3.2.2⟩, h1.1, h1.2, h4.1, h4.2.1, h4.2.2⟩⟩
theorem okL_ii (m s t b sh pa : Int) : okL [.i m, .i s, .i t, .i b, .i sh, .i pa] = (!((!(decide (1 ≤ m) && decide (m ≤ 24))) || ((!(decide (1 ≤ s) && decide (s ≤ 10))) || ((!(decide (0 ≤ t) && decide (t < b))) || decide (100 < b)))) && ((decide (1 ≤ sh) && decide (sh < pa)) && decide (pa ≤ 100))) := by
  show ((((decide (1 ≤ m) && decide (m ≤ 24)) && (decide (1 ≤ s) && decide (s ≤ 10))) && ((decide (1 ≤ b) && decide (b ≤ 100)) && (decide (0 ≤ t) && decide (t ≤ b - 1)))) && ((decide (1 ≤ pa) && decide (pa ≤ 100)) && (decide (1 ≤ sh) && decide (sh ≤ pa - 1)))) = _
  rw [Bool.eq_iff_iff]
  simp only [Bool.and_eq_true, Bool.not_eq_true', Bool.or_eq_false_iff, Bool.not_eq_false', decide_eq_true_eq, decide_eq_false_iff_not]
  omega
theorem okL_of {p : SP} (h : SOk p) : okL (sixP p) = true := by
  have := h.m1; have := h.m2; have := h.h1; have := h.h2; have := h.h3; have := h.f.s1; have := h.f.s2; have := h.f.t0; have := h.f.tb; have := h.f.b2
  show okL [.i p.m, .i p.sc, .i p.t, .i p.b, .i p.sh, .i p.pa] = true
  rw [okL_ii]
  simp only [Bool.and_eq_true, Bool.not_eq_true', Bool.or_eq_false_iff, Bool.not_eq_false', decide_eq_true_eq, decide_eq_false_iff_not]
  omega
theorem sixP_inj {p p' : SP} (h : sixP p = sixP p') : p = p' := by
  unfold sixP at h
  injection h with a1 h; injection h with a2 h; injection h with a3 h; injection h with a4 h; injection h with a5 h; injection h with a6 h
  cases p; cases p'
  cases a1; cases a2; cases a3; cases a4; cases a5; cases a6
  rfl
theorem okL_not {os : List Ov} {w : Ov} (hl : os.length = 6) (hw : w ∈ os) (h : isW w = false) : okL os = false := by
  obtain ⟨m, s, t, b, sh, pa, rfl⟩ := six_of hl
  cases e : okL [m, s, t, b, sh, pa] with
  | false => rfl
  | true =>
    obtain ⟨p, e2, _⟩ := ok6_i e
    rw [e2] at hw
    simp only [sixP, List.mem_cons, List.not_mem_nil, or_false] at hw
    rcases hw with rfl | rfl | rfl | rfl | rfl | rfl <;> cases h
theorem isW_i {w : Ov} (h : isW w = true) : ∃ n, w = .i n := by cases w <;> first | exact ⟨_, rfl⟩ | cases h
theorem onO_i {s : Int} {y : Ov} (h : onO s y = true) : ∃ so, y = .i so ∧ 0 ≤ so ∧ so ≤ s := by
  cases y with
  | i so =>
    have h : (decide (0 ≤ so) && decide (so ≤ s)) = true := h
    rw [Bool.and_eq_true, decide_eq_true_eq, decide_eq_true_eq] at h
    exact ⟨so, rfl, h⟩
  | _ => cases h
theorem okW_i {s : Int} {w : Ov} (h : okW s w = true) : ∃ o : Option Int, w = toO o ∧ (o = none ∨ onS s o = true) := by
  cases w with
  | n => exact ⟨none, rfl, .inl rfl⟩
  | i v => exact ⟨some v, rfl, .inr h⟩
  | _ => cases h
theorem toOs {s : Int} : ∀ {xs : List Ov}, xs.all (okW s) = true → ∃ said : List (Option Int), xs = said.map toO ∧ ∀ w ∈ said, w = none ∨ onS s w = true
  | [], _ => ⟨[], rfl, fun w h => by cases h⟩
  | x :: xs, h => by
    rw [List.all_cons, Bool.and_eq_true] at h
    obtain ⟨o, rfl, ho⟩ := okW_i h.1
    obtain ⟨said, rfl, hs⟩ := toOs h.2
    refine ⟨o :: said, rfl, fun w hw => ?_⟩
    rcases List.mem_cons.mp hw with rfl | hw
    · exact ho
    · exact hs w hw
theorem said_inv {m s : Int} {x : Sv} (hm : m ≤ 24) (h : saidS m s x = true) : ∃ said : List (Option Int), x = .t (said.map toO) ∧ SaidOk m s said := by
  cases x with
  | o v => cases h
  | t xs =>
    have h : (decide ((xs.length : Int) = m) && xs.all (okW s)) = true := h
    rw [Bool.and_eq_true, decide_eq_true_eq] at h
    obtain ⟨said, rfl, hs⟩ := toOs h.2
    have h1 := h.1
    rw [List.length_map] at h1
    exact ⟨said, rfl, h1, hm, hs⟩
def dueT (b : Bool) : Str := if b then "none" else "turn"
def resT (b : Bool) : D := .tup [.str (dueT b), .bl true]
theorem resT_eq (b : Bool) : eqD (resT b) (resT b) = true := by cases b <;> decide +kernel
theorem resT_pl (b : Bool) : plD (resT b) = true := by cases b <;> decide +kernel
theorem resT_dp (b : Bool) : dpD (resT b) ≤ 60 := by cases b <;> decide
theorem set_same {O : Sto} {q : Nat} {m : Option MO} (h : O[q]? = some m) : O.set q m = O := by
  refine List.ext_getElem? fun i => ?_
  by_cases e : q = i
  · subst e; rw [List.getElem?_set_self (List.getElem?_eq_some_iff.mp h).1, h]
  · rw [List.getElem?_set_ne e]
theorem at_app {O Y : Sto} {q : Nat} {m : Option MO} (h : O[q]? = some m) : (O ++ Y)[q]? = some m := by
  rw [List.getElem?_append_left (List.getElem?_eq_some_iff.mp h).1, h]
theorem set_app {O Y : Sto} {q : Nat} {m n : Option MO} (h : O[q]? = some m) : (O ++ Y).set q n = O.set q n ++ Y := by
  rw [List.set_append_left _ _ (List.getElem?_eq_some_iff.mp h).1]
theorem WOkS.up {n : Nat} {ws : List Int} {u : Int} (h : WOkS n ws u) : WOkS (n + 1) ws u :=
  ⟨fun x hx => ⟨(h.w x hx).1, p2_le (h.w x hx).2 (by omega)⟩, h.u0, p2_le h.u1 (by omega)⟩
def spInitHX (C_Shifter C_NoRule : Addr) : SpX := fun ds O R RX => ∃ (q : Nat) (m s : Ov), ds = [.ptr q, ov m, ov s] ∧ O[q]? = some (some (.ins C_Shifter [])) ∧ (∀ a b : Int, m = .i a → s = .i b → mkO m s = true → R .non (O.set q (some (.ins C_Shifter (handF a b))))) ∧ (mkO m s = false → RX C_NoRule [] O)
def spInitWX (C_Shifter C_NoRule : Addr) : SpX := fun ds O R RX => ∃ (q : Nat) (m s t b : Ov), ds = [.ptr q, ov m, ov s, ov t, ov b] ∧ O[q]? = some (some (.ins C_Shifter [])) ∧ (∀ a c x y : Int, m = .i a → s = .i c → t = .i x → b = .i y → (mkO m s && frO t b) = true → R .non (O.set q (some (.ins C_Shifter (weigF a c x y (List.replicate a.toNat 1) 1))))) ∧ ((mkO m s && frO t b) = false → RX C_NoRule [] O)
def spInitSX (C_Shifter C_NoRule : Addr) : SpX := fun ds O R RX => ∃ (q : Nat) (m s t b sh pa : Ov), ds = [.ptr q, ov m, ov s, ov t, ov b, ov sh, ov pa] ∧ O[q]? = some (some (.ins C_Shifter [])) ∧ (∀ p : SP, [m, s, t, b, sh, pa] = sixP p → SOk p → R .non (O.set q (some (.ins C_Shifter (shiF p (List.replicate p.m.toNat 1) 1))))) ∧ (ok6 m s t b sh pa = false → RX C_NoRule [] O)
def spSayX (C_Shifter C_NoTurn : Addr) : SpX := fun ds O R RX => spSayS C_Shifter ds O R ∨ ∃ (q : Nat) (p : SP) (u : Int) (ws : List Int) (x : Sv), ds = [.ptr q, sv x] ∧ SAt C_Shifter O q p ws u ∧ Sok x ∧ saidS p.m p.sc x = false ∧ RX C_NoTurn [("number", .int 0)] O
def spHearX (C_Shifter C_NoTurn : Addr) : SpX := fun ds O R RX => spHearS C_Shifter ds O R ∨ ∃ (q : Nat) (p : SP) (u : Int) (ws : List Int) (x : Sv) (y : Ov), ds = [.ptr q, sv x, ov y] ∧ SAt C_Shifter O q p ws u ∧ Sok x ∧ (saidS p.m p.sc x && onO p.sc y) = false ∧ RX C_NoTurn [("number", .int 0)] O
def spGood6 : SpD := fun ds O R => ∃ (q : Nat) (os : List Ov), ds = [.ptr q] ∧ O[q]? = some (some (.lst (os.map ov))) ∧ os.length = 6 ∧ R (.bl (okL os)) O
def spOdd6 : SpD := fun ds O R => ∃ (q : Nat) (os : List Ov) (x c : Int), ds = [.ptr q, .int x, .int c] ∧ O[q]? = some (some (.lst (os.map ov))) ∧ os.length = 6 ∧ ∀ v : Ov, R (ov v) O
def spMade6 (C_Shifter : Addr) : SpD := fun ds O R => ∃ (q : Nat) (os : List Ov), ds = [.ptr q] ∧ O[q]? = some (some (.lst (os.map ov))) ∧ os.length = 6 ∧ (∀ p : SP, os = sixP p → SOk p → R (.tup [.str "none", .ptr O.length]) (O ++ [some (.ins C_Shifter (shiF p (List.replicate p.m.toNat 1) 1))])) ∧ (okL os = false → ∀ Y, R (.tup [.str "rule", .non]) (O ++ Y))
def spWhich (C_NoTurn C_NoRule : Addr) : SpD := fun ds O R => ∃ (q : Nat) (C : Addr) (fs : List (Str × D)), ds = [.ptr q] ∧ O[q]? = some (some (.exc C fs)) ∧ ((C = C_NoTurn ∧ R (.str "turn") O) ∨ (C = C_NoRule ∧ R (.str "rule") O))
def spSay6 (C_Shifter : Addr) : SpD := fun ds O R => ∃ (q : Nat) (p : SP) (u : Int) (ws : List Int) (x : Sv), ds = [.ptr q, sv x] ∧ SAt C_Shifter O q p ws u ∧ SOk p ∧ (ws.length : Int) = p.m ∧ Wok ws ∧ Sok x ∧ R (resT (saidS p.m p.sc x)) O
def spHear6 (C_Shifter : Addr) : SpD := fun ds O R => ∃ (q n : Nat) (p : SP) (u : Int) (ws : List Int) (x : Sv) (y : Ov), ds = [.ptr q, sv x, ov y] ∧ SAt C_Shifter O q p ws u ∧ SOk p ∧ n ≤ 1000 ∧ WOkS n ws u ∧ (ws.length : Int) = p.m ∧ Sok x ∧
  ((saidS p.m p.sc x && onO p.sc y) = true → ∀ ws' u', WOkS (n + 1) ws' u' → ws'.length = ws.length → R (resT true) (O.set q (some (.ins C_Shifter (shiF p ws' u'))))) ∧ ((saidS p.m p.sc x && onO p.sc y) = false → ∀ Y, R (resT false) (O ++ Y))
def spDue6 (C_Shifter : Addr) : SpD := fun ds O R => ∃ (q : Nat) (p : SP) (u : Int) (ws : List Int) (x : Sv) (y : Ov), ds = [.ptr q, sv x, ov y] ∧ SAt C_Shifter O q p ws u ∧ Sok x ∧ R (.str (dueT (saidS p.m p.sc x && onO p.sc y))) O
def spOnL : List D → D → Prop := fun ds d => ∃ (v : Ov) (s : Int), ds = [ov v, .int s] ∧ d = .bl (onO s v)
def spHeard6 (C_Shifter : Addr) : SpD := fun ds O R => ∃ (q n : Nat) (p : SP) (u x : Int) (ws : List Int), ds = [.ptr q, .int x] ∧ SAt C_Shifter O q p ws u ∧ SOk p ∧ n ≤ 1000 ∧ WOkS n ws u ∧ (ws.length : Int) = p.m ∧ ∀ ws' u' Y, WOkS (n + 1) ws' u' → ws'.length = ws.length → R (.bl true) (O.set q (some (.ins C_Shifter (shiF p ws' u'))) ++ Y)
def hO (x sc : Int) (k : Nat) : Ov := if decide (x / (0 + (k : Nat) + 3) % 5 = 0) = true then .n else .i (x / (0 + (k : Nat) + 2) % (sc + 1))
theorem hO_eq (x sc : Int) (k : Nat) : (if decide (x / (0 + (k : Nat) + 3) % 5 = 0) = true then D.non else .int (x / (0 + (k : Nat) + 2) % (sc + 1))) = ov (hO x sc k) := by
  unfold hO
  split <;> rfl
def swI (j : Int) : Int := if j = 0 then 1 else if j = 1 then 0 else if j = 2 then 3 else if j = 3 then 2 else if j = 4 then 5 else 4
theorem sw_at {j : Int} (h : 0 ≤ j ∧ j < 6) : atI [D.int 1, .int 0, .int 3, .int 2, .int 5, .int 4] j = some (.int (swI j)) := by
  have : j = 0 ∨ j = 1 ∨ j = 2 ∨ j = 3 ∨ j = 4 ∨ j = 5 := by omega
  rcases this with rfl | rfl | rfl | rfl | rfl | rfl <;> rfl
theorem sw_ov {os : List Ov} {j : Int} (hl : os.length = 6) (h : 0 ≤ j ∧ j < 6) : ∃ w, atI (os.map ov) (swI j) = some (ov w) := by
  obtain ⟨m, s, t, b, sh, pa, rfl⟩ := six_of hl
  have : j = 0 ∨ j = 1 ∨ j = 2 ∨ j = 3 ∨ j = 4 ∨ j = 5 := by omega
  rcases this with rfl | rfl | rfl | rfl | rfl | rfl
  · exact ⟨s, rfl⟩
  · exact ⟨m, rfl⟩
  · exact ⟨b, rfl⟩
  · exact ⟨t, rfl⟩
  · exact ⟨pa, rfl⟩
  · exact ⟨sh, rfl⟩
theorem nine_at {j : Int} (h : 0 ≤ j ∧ j < 9) : ∃ n : Int, atI [D.int 0, .int (-1), .int 24, .int 25, .int 10, .int 11, .int 100, .int 101, .int 1] j = some (.int n) := by
  have : j = 0 ∨ j = 1 ∨ j = 2 ∨ j = 3 ∨ j = 4 ∨ j = 5 ∨ j = 6 ∨ j = 7 ∨ j = 8 := by omega
  rcases this with rfl | rfl | rfl | rfl | rfl | rfl | rfl | rfl | rfl <;> exact ⟨_, rfl⟩
theorem three_at (j : Int) : ∃ v : Ov, atI [D.bl true, .bl false, .int 2] (j % 3) = some (ov v) := by
  have : j % 3 = 0 ∨ j % 3 = 1 ∨ j % 3 = 2 := by omega
  rcases this with h | h | h <;> rw [h]
  · exact ⟨.b true, rfl⟩
  · exact ⟨.b false, rfl⟩
  · exact ⟨.i 2, rfl⟩
theorem five_at (s j : Int) : ∃ v : Ov, atI [D.int (-1), .int (s + 1), .bl false, .non, .str "1"] (j % 5) = some (ov v) := by
  have : j % 5 = 0 ∨ j % 5 = 1 ∨ j % 5 = 2 ∨ j % 5 = 3 ∨ j % 5 = 4 := by omega
  rcases this with h | h | h | h | h <;> rw [h]
  · exact ⟨.i (-1), rfl⟩
  · exact ⟨.i (s + 1), rfl⟩
  · exact ⟨.b false, rfl⟩
  · exact ⟨.n, rfl⟩
  · exact ⟨.s "1", rfl⟩
theorem told_at (j : Int) : ∃ v : Ov, atI [D.str "x", .non, .int 3] (j % 3) = some (ov v) ∧ isT v = false := by
  have : j % 3 = 0 ∨ j % 3 = 1 ∨ j % 3 = 2 := by omega
  rcases this with h | h | h <;> rw [h]
  · exact ⟨.s "x", rfl, rfl⟩
  · exact ⟨.n, rfl, rfl⟩
  · exact ⟨.i 3, rfl, rfl⟩
theorem rule_at (b : Bool) : atI [D.str "rule", .str "none"] (if b then 1 else 0) = some (.str (if b then "none" else "rule")) := by cases b <;> rfl
seal EvP Ev EvPs Ex Exs EvT EvI EvX ExX ExsX
section
variable {P : Program} {w : World} {K : PySem.W.Frag} {mg : Str → Option Value} {base : Heap} {C_Hand C_Weigher C_Shifter C_HeedError C_NoTurn C_NoRule C_NoRow C_NoWay C_NoName C_Twice : Addr}
theorem ok_NoTurn___init__ {f : Addr} {fd : FuncData} (T : Txt K mg C_Hand C_Weigher C_Shifter C_HeedError C_NoTurn C_NoRule C_NoRow C_NoWay C_NoName C_Twice) (Fn : Fun K "__init__" "NoTurn.__init__" s_NoTurn___init__ f fd) (Z : ExcI K C_NoTurn f "number") : FnOk P w K mg base CX0 1 f fd ["self", "number"] (spI C_NoTurn "number") :=
  L2.okI Fn sc_NoTurn___init__ Z T.t_NoTurn rfl (by decide) (by decide) (by decide) (by decide) (by first | exact Or.inl rfl | exact Or.inr rfl) (by first | exact Or.inl rfl | exact Or.inr rfl) (fun _ => rfl)
theorem ok_is_whole {f : Addr} {fd : FuncData} (T : Txt K mg C_Hand C_Weigher C_Shifter C_HeedError C_NoTurn C_NoRule C_NoRow C_NoWay C_NoName C_Twice) (Fn : Fun K "is_whole" "is_whole" s_is_whole f fd) (hm : mg "is_whole" = some (.ref f)) (hb : Binds K fd ["value"] []) : DefOk P w K mg base 1 "is_whole" (pureSp spIsWholeO) := by
  refine okD (k := 0) Fn sc_is_whole hm hb (fun ds O R h => ?_) (fun cdv A outer s H E ds O R hr h => ?_)
  · obtain ⟨_, ⟨_, rfl, _⟩, _⟩ := h; rfl
  · obtain ⟨d, ⟨v, rfl, rfl⟩, hR⟩ := h
    refine xs_cons (x_ret (EvP.ev (ev_and (ev_callB T.b_isinstance (es_cons (ev_var 0) (es_cons (ev_type T.b_int) es_nil)) (c_isi_int (ok_ov v))) (fun hbb => (ev_one (ev_not (ev_callB T.b_isinstance (es_cons (ev_var 0) (es_cons (ev_type T.b_bool) es_nil)) (c_isi_bool (ok_ov v))))))) ?_))
    have e : (isiD (ov v) "int" && !isiD (ov v) "bool") = isW v := by cases v <;> rfl
    rw [e]
    exact hR
theorem ok_counted {f : Addr} {fd : FuncData} (T : Txt K mg C_Hand C_Weigher C_Shifter C_HeedError C_NoTurn C_NoRule C_NoRow C_NoWay C_NoName C_Twice) (Fn : Fun K "counted" "counted" s_counted f fd) (hm : mg "counted" = some (.ref f)) (hb : Binds K fd ["weights"] []) : DefOk P w K mg base 1 "counted" (pureSp spCounted) := by
  refine okD (k := 0) Fn sc_counted hm hb (fun ds O R h => ?_) (fun cdv A outer s H E ds O R hr h => ?_)
  · obtain ⟨_, ⟨_, rfl, _⟩, _⟩ := h; rfl
  · obtain ⟨d, ⟨ws, rfl, hl, rfl⟩, hR⟩ := h
    refine xs_cons (x_if (et_cmp (ev_callB T.b_sum (es_cons (ev_var 0) es_nil) (c_sum (by first | exact Or.inr rfl | exact Or.inl (Or.inl rfl) | exact Or.inl (Or.inr (Or.inl rfl)) | exact Or.inl (Or.inr (Or.inr ⟨_, rfl, by first | assumption | rfl⟩))))) ev_int cmp_eqI) (fun hk => ?_) (fun hk => ?_))
    · have hk := of_decide_eq_true hk
      refine xs_cons (x_ret (EvP.ev (ev_compM (fun _ => .int 1) ["weight"] [] [] (ei_LF (ev_var 0) (by first | exact Or.inl rfl | exact Or.inr (Or.inl rfl) | exact Or.inr (Or.inr rfl) | assumption)) (by rw [sizeLine_eq]; omega) (by exact fun q hq s H fp => ⟨[some _], rfl, (tg_name 0 (show List.Nodup (["weight"] : List Str) by decide +kernel)), ⟨_, rfl, ev_int⟩⟩)) ?_))
      unfold cnt at hR
      rw [if_pos hk, List.map_map] at hR
      exact hR
    · have hk := of_decide_eq_false hk
      refine xs_nil ?_
      refine xs_cons (x_ret (EvP.ev (ev_callTy T.b_list (es_cons (ev_var 0) es_nil) (c_list (by first | exact Or.inr rfl | exact Or.inl (Or.inl rfl) | exact Or.inl (Or.inr (Or.inl rfl)) | exact Or.inl (Or.inr (Or.inr ⟨_, rfl, by first | assumption | rfl⟩))))) ?_))
      unfold cnt at hR
      rw [if_neg hk] at hR
      exact hR
theorem ok_middle {f : Addr} {fd : FuncData} (T : Txt K mg C_Hand C_Weigher C_Shifter C_HeedError C_NoTurn C_NoRule C_NoRow C_NoWay C_NoName C_Twice) (Fn : Fun K "middle" "middle" s_middle f fd) (hm : mg "middle" = some (.ref f)) (hb : Binds K fd ["numbers", "weights"] []) (F_counted : DefOk P w K mg base 1 "counted" (pureSp spCounted)) : DefOk P w K mg base 2 "middle" (pureSp spMiddle) := by
  refine okD (k := 1) Fn sc_middle hm hb (fun ds O R h => ?_) (fun cdv A outer s H E ds O R hr h => ?_)
  · obtain ⟨_, ⟨_, _, rfl, _⟩, _⟩ := h; rfl
  · obtain ⟨d, ⟨ns, ws, rfl, ⟨h1, h2, h3⟩, rfl⟩, hR⟩ := h
    refine xs_cons (x_set 2 (EvP.ev (ev_callP F_counted (hr.mono (by decide)) (es_cons (ev_var 1) es_nil) ⟨_, rfl, by assumption, rfl⟩) ?_) sc_middle.nd)
    have hc := cnt_ok h3
    have hcl := cnt_len ws
    unfold mid at hR
    generalize cnt ws = cs at hR hc hcl
    refine xs_cons (x_set 3 (EvP.ev (ev_callB T.b_sum (es_cons (ev_var 2) es_nil) (c_sum (by first | exact Or.inr rfl | exact Or.inl (Or.inl rfl) | exact Or.inl (Or.inr (Or.inl rfl)) | exact Or.inl (Or.inr (Or.inr ⟨_, rfl, by first | assumption | rfl⟩))))) ?_) sc_middle.nd)
    refine xs_cons (x_set 4 (EvP.ev ev_int ?_) sc_middle.nd)
    have hz : (ns.zip cs).length < 64 := by rw [List.length_zip]; omega
    have hsl : (srt ltP (ns.zip cs)).length ≤ 63 := by rw [(srt_perm ltP (ns.zip cs)).length_eq]; omega
    have hsm : ∀ p ∈ srt ltP (ns.zip cs), 0 ≤ p.2 := fun p hp => hc _ (List.of_mem_zip ((srt_perm ltP (ns.zip cs)).mem_iff.mp hp)).2
    refine xs_cons (x_for (ei_LF (ev_sortedZ ordP (fun Y => cmpP) nolen_zip (ez_zipM (ev_var 0) (ev_var 2) (by first | exact Or.inl rfl | exact Or.inr (Or.inl rfl) | exact Or.inr (Or.inr rfl) | assumption) (by first | exact Or.inl rfl | exact Or.inr (Or.inl rfl) | exact Or.inr (Or.inr rfl) | assumption) T.b_zip) (by omega) T.b_sorted) (by first | exact Or.inl rfl | exact Or.inr (Or.inl rfl) | exact Or.inr (Or.inr rfl) | assumption)) (fun i ρ O' => ∃ (r : Int) (u v : Option D), ρ = [some (.tup (ns.map D.int)), some (.tup (ws.map D.int)), some (.lst (cs.map D.int)), some (.int cs.sum), some (.int r), u, v] ∧ r = sm (fun q => q.2) ((srt ltP (ns.zip cs)).take i) ∧ go cs.sum 0 (srt ltP (ns.zip cs)) = go cs.sum r ((srt ltP (ns.zip cs)).drop i) ∧ O' = O) ⟨0, _, _, rfl, rfl, rfl, rfl⟩ ?_ ?_)
    · rintro i x ρ O' hx ⟨r, u, v, rfl, hr1, hg, rfl⟩
      rw [List.getElem?_map] at hx
      cases hp : (srt ltP (ns.zip cs))[i]? with
      | none => rw [hp] at hx; cases hx
      | some p =>
        rw [hp] at hx
        cases hx
        refine ⟨_, tg_tup (tgs_cons (tg_name 5 sc_middle.nd) (tgs_cons (tg_name 6 sc_middle.nd) tgs_nil)), ?_⟩
        refine xs_cons (x_set 4 (EvP.ev (ev_bin (ev_var 4) (ev_var 6) o_add) ?_) sc_middle.nd)
        have h4 : r + p.2 = sm (fun q => q.2) ((srt ltP (ns.zip cs)).take (i + 1)) := by rw [sm_take hp, hr1]
        have hd : (srt ltP (ns.zip cs)).drop i = p :: (srt ltP (ns.zip cs)).drop (i + 1) := by
          obtain ⟨hi, e⟩ := List.getElem?_eq_some_iff.mp hp
          rw [List.drop_eq_getElem_cons hi, e]
        rw [hd] at hg
        refine xs_cons (x_if (et_cmp (ev_bin ev_int (ev_var 4) (o_mul (CMul.ok (Or.inl ⟨by decide, by decide⟩)))) (ev_var 3) cmp_ge) (fun hk => ?_) (fun hk => ?_))
        · have hk := of_decide_eq_true hk
          refine xs_cons (x_ret (EvP.ev (ev_var 5) ?_))
          rw [hg] at hR
          unfold go at hR
          rw [if_pos hk] at hR
          exact hR
        · have hk := of_decide_eq_false hk
          refine xs_nil (xs_nil ?_)
          refine ⟨_, _, _, rfl, h4, ?_, rfl⟩
          rw [hg]
          conv => lhs; unfold go
          rw [if_neg hk]
    · rintro ρ O' ⟨r, u, v, rfl, hr1, hg, rfl⟩
      refine xs_cons (x_ret (EvP.ev ev_int ?_))
      rw [List.length_map, List.drop_of_length_le (Nat.le_refl _)] at hg
      rw [hg] at hR
      exact hR
theorem ok_check_within {f : Addr} {fd : FuncData} (T : Txt K mg C_Hand C_Weigher C_Shifter C_HeedError C_NoTurn C_NoRule C_NoRow C_NoWay C_NoName C_Twice) (Fn : Fun K "check_within" "check_within" s_check_within f fd) (hm : mg "check_within" = some (.ref f)) (hb : Binds K fd ["what", "value", "least", "most"] []) (F_is_whole : DefOk P w K mg base 1 "is_whole" (pureSp spIsWholeO)) : DefX P w K mg base 2 "check_within" (spWithinX C_NoRule) := by
  refine ⟨f, fd, _, okX (k := 1) Fn sc_check_within (fun ds O R RX h => ?_) (fun cdv A outer s H E ds O R RX hr h => ?_), hm, Fn.kp, hb⟩
  · obtain ⟨_, _, _, _, rfl, _⟩ := h; rfl
  · obtain ⟨x, v, l, u, rfl, ⟨hx1, hx2, hx3⟩, h1, h2⟩ := h
    cases hw : isW v with
    | false =>
      have e : inO v l u = false := by cases v <;> first | rfl | cases hw
      refine xX_cons (xX_if (k := true || false) (EvW.t (ew_or (k := true) (l := false) (EvT.cast (et_not (et_bl (ev_callP F_is_whole (hr.mono (by decide)) (es_cons (ev_var 1) es_nil) ⟨v, rfl, rfl⟩))) (by rw [hw]; rfl)) (fun hbb => by cases hbb))) (fun hk => ?_) (fun hk => by cases hk))
      exact xX_cons (xX_raise T.e_NoRule T.m_NoRule (es_cons (ev_fstr (ev_var 0) hx1 hx2 hx3) es_nil) (h2 e) trivial)
    | true =>
      cases v <;> first | (cases hw; done) | skip
      rename_i n
      refine xX_cons (xX_if (EvW.t (ew_or (et_not (et_bl (ev_callP F_is_whole (hr.mono (by decide)) (es_cons (ev_var 1) es_nil) ⟨.i n, rfl, rfl⟩))) (fun hbb => (ew_or1 (et_not (et_chain (ev_var 2) (ev_var 1) (ev_var 3) cmp_le (fun hbb => cmp_le))))))) (fun hk => ?_) (fun hk => xX_nil (xX_nil (h1 ?_))))
      · refine xX_cons (xX_raise T.e_NoRule T.m_NoRule (es_cons (ev_fstr (ev_var 0) hx1 hx2 hx3) es_nil) (h2 ?_) trivial)
        exact not_t (show (!(decide (l ≤ n) && decide (n ≤ u))) = true from hk)
      · exact not_f (show (!(decide (l ≤ n) && decide (n ≤ u))) = false from hk)
theorem ok_check_scale {f : Addr} {fd : FuncData} (T : Txt K mg C_Hand C_Weigher C_Shifter C_HeedError C_NoTurn C_NoRule C_NoRow C_NoWay C_NoName C_Twice) (Fn : Fun K "check_scale" "check_scale" s_check_scale f fd) (hm : mg "check_scale" = some (.ref f)) (hb : Binds K fd ["scale"] []) (F_check_within : DefX P w K mg base 2 "check_within" (spWithinX C_NoRule)) : DefX P w K mg base 3 "check_scale" (spScaleX C_NoRule) := by
  refine ⟨f, fd, _, okX (k := 2) Fn sc_check_scale (fun ds O R RX h => ?_) (fun cdv A outer s H E ds O R RX hr h => ?_), hm, Fn.kp, hb⟩
  · obtain ⟨_, rfl, _⟩ := h; rfl
  · obtain ⟨v, rfl, h1, h2⟩ := h
    exact xX_cons (xX_expr (evX_call F_check_within (hr.mono (by decide)) (es_cons ev_str (es_cons (ev_var 0) (es_cons ev_int (es_cons (ev_gint T.g_MOST_SCALE.choose_spec) es_nil)))) ⟨"scale", v, 1, 10, rfl, sh_scale, fun e => xX_nil (h1 e), fun e => h2 e⟩))
theorem ok_check_making {f : Addr} {fd : FuncData} (T : Txt K mg C_Hand C_Weigher C_Shifter C_HeedError C_NoTurn C_NoRule C_NoRow C_NoWay C_NoName C_Twice) (Fn : Fun K "check_making" "check_making" s_check_making f fd) (hm : mg "check_making" = some (.ref f)) (hb : Binds K fd ["many", "scale"] []) (F_check_within : DefX P w K mg base 2 "check_within" (spWithinX C_NoRule)) (F_check_scale : DefX P w K mg base 3 "check_scale" (spScaleX C_NoRule)) : DefX P w K mg base 4 "check_making" (spMakingX C_NoRule) := by
  refine ⟨f, fd, _, okX (k := 3) Fn sc_check_making (fun ds O R RX h => ?_) (fun cdv A outer s H E ds O R RX hr h => ?_), hm, Fn.kp, hb⟩
  · obtain ⟨_, _, rfl, _⟩ := h; rfl
  · obtain ⟨m, s, rfl, h1, h2⟩ := h
    refine xX_cons (xX_expr (evX_call F_check_within (hr.mono (by decide)) (es_cons ev_str (es_cons (ev_var 0) (es_cons ev_int (es_cons (ev_gint T.g_MOST_ADVISERS.choose_spec) es_nil)))) ⟨"many", m, 1, 24, rfl, sh_many, fun e => ?_, fun e => h2 (by unfold mkO; rw [e]; rfl)⟩))
    exact xX_cons (xX_expr (evX_call F_check_scale (hr.mono (by decide)) (es_cons (ev_var 1) es_nil) ⟨s, rfl, fun e' => xX_nil (h1 (by unfold mkO; rw [e, e']; rfl)), fun e' => h2 (by unfold mkO; rw [e, e']; rfl)⟩))
theorem ok_check_fraction {f : Addr} {fd : FuncData} (T : Txt K mg C_Hand C_Weigher C_Shifter C_HeedError C_NoTurn C_NoRule C_NoRow C_NoWay C_NoName C_Twice) (Fn : Fun K "check_fraction" "check_fraction" s_check_fraction f fd) (hm : mg "check_fraction" = some (.ref f)) (hb : Binds K fd ["top", "bottom"] []) (F_check_within : DefX P w K mg base 2 "check_within" (spWithinX C_NoRule)) : DefX P w K mg base 3 "check_fraction" (spFractionX C_NoRule) := by
  refine ⟨f, fd, _, okX (k := 2) Fn sc_check_fraction (fun ds O R RX h => ?_) (fun cdv A outer s H E ds O R RX hr h => ?_), hm, Fn.kp, hb⟩
  · obtain ⟨_, _, rfl, _⟩ := h; rfl
  · obtain ⟨t, b, rfl, h1, h2⟩ := h
    refine xX_cons (xX_expr (evX_call F_check_within (hr.mono (by decide)) (es_cons ev_str (es_cons (ev_var 1) (es_cons ev_int (es_cons (ev_gint T.g_MOST_BOTTOM.choose_spec) es_nil)))) ⟨"bottom", b, 1, 100, rfl, sh_bottom, fun e => ?_, fun e => h2 (by unfold frO; rw [e]; rfl)⟩))
    obtain ⟨n, rfl, hn⟩ := inO_i e
    exact xX_cons (xX_expr (evX_call F_check_within (hr.mono (by decide)) (es_cons ev_str (es_cons (ev_var 0) (es_cons ev_int (es_cons (ev_bin (ev_var 1) ev_int o_sub) es_nil)))) ⟨"top", t, 0, n - 1, rfl, sh_top, fun e' => xX_nil (h1 (by unfold frO lessO; rw [e, e']; rfl)), fun e' => h2 (by unfold frO lessO; rw [e, e']; rfl)⟩))
theorem ok_check_share {f : Addr} {fd : FuncData} (T : Txt K mg C_Hand C_Weigher C_Shifter C_HeedError C_NoTurn C_NoRule C_NoRow C_NoWay C_NoName C_Twice) (Fn : Fun K "check_share" "check_share" s_check_share f fd) (hm : mg "check_share" = some (.ref f)) (hb : Binds K fd ["share", "parts"] []) (F_check_within : DefX P w K mg base 2 "check_within" (spWithinX C_NoRule)) : DefX P w K mg base 3 "check_share" (spShareX C_NoRule) := by
  refine ⟨f, fd, _, okX (k := 2) Fn sc_check_share (fun ds O R RX h => ?_) (fun cdv A outer s H E ds O R RX hr h => ?_), hm, Fn.kp, hb⟩
  · obtain ⟨_, _, rfl, _⟩ := h; rfl
  · obtain ⟨t, b, rfl, h1, h2⟩ := h
    refine xX_cons (xX_expr (evX_call F_check_within (hr.mono (by decide)) (es_cons ev_str (es_cons (ev_var 1) (es_cons ev_int (es_cons (ev_gint T.g_MOST_PARTS.choose_spec) es_nil)))) ⟨"parts", b, 1, 100, rfl, sh_parts, fun e => ?_, fun e => h2 (by unfold shO; rw [e]; rfl)⟩))
    obtain ⟨n, rfl, hn⟩ := inO_i e
    exact xX_cons (xX_expr (evX_call F_check_within (hr.mono (by decide)) (es_cons ev_str (es_cons (ev_var 0) (es_cons ev_int (es_cons (ev_bin (ev_var 1) ev_int o_sub) es_nil)))) ⟨"share", t, 1, n - 1, rfl, sh_share, fun e' => xX_nil (h1 (by unfold shO lessO; rw [e, e']; rfl)), fun e' => h2 (by unfold shO lessO; rw [e, e']; rfl)⟩))
theorem ok_is_on_scale {f : Addr} {fd : FuncData} (T : Txt K mg C_Hand C_Weigher C_Shifter C_HeedError C_NoTurn C_NoRule C_NoRow C_NoWay C_NoName C_Twice) (Fn : Fun K "is_on_scale" "is_on_scale" s_is_on_scale f fd) (hm : mg "is_on_scale" = some (.ref f)) (hb : Binds K fd ["scale", "value"] []) (F_is_whole : DefOk P w K mg base 1 "is_whole" (pureSp spIsWholeO)) : DefOk P w K mg base 2 "is_on_scale" (pureSp spOnSO) := by
  refine okD (k := 1) Fn sc_is_on_scale hm hb (fun ds O R h => ?_) (fun cdv A outer s H E ds O R hr h => ?_)
  · obtain ⟨_, ⟨_, _, rfl, _⟩, _⟩ := h; rfl
  · obtain ⟨d, ⟨s, v, rfl, rfl⟩, hR⟩ := h
    cases hw : isW v with
    | false =>
      have e : onO s v = false := by cases v <;> first | rfl | cases hw
      rw [e] at hR
      refine xs_cons (x_ret (EvP.ev (ev_and (k := false) (l := false) (ev_callP F_is_whole (hr.mono (by decide)) (es_cons (ev_var 1) es_nil) ⟨v, rfl, by rw [hw]⟩) (fun hbb => absurd hbb Bool.false_ne_true)) ?_))
      exact hR
    | true =>
      cases v <;> first | (cases hw; done) | skip
      rename_i i
      refine xs_cons (x_ret (EvP.ev (ev_and (ev_callP F_is_whole (hr.mono (by decide)) (es_cons (ev_var 1) es_nil) ⟨.i i, rfl, rfl⟩) (fun hbb => (ev_one (ev_chain ev_int (ev_var 1) (ev_var 0) cmp_le (fun hbb => cmp_le))))) ?_))
      exact hR
theorem ok_is_said {f : Addr} {fd : FuncData} (T : Txt K mg C_Hand C_Weigher C_Shifter C_HeedError C_NoTurn C_NoRule C_NoRow C_NoWay C_NoName C_Twice) (Fn : Fun K "is_said" "is_said" s_is_said f fd) (hm : mg "is_said" = some (.ref f)) (hb : Binds K fd ["many", "scale", "said"] []) (F_is_on_scale : DefOk P w K mg base 2 "is_on_scale" (pureSp spOnSO)) : DefOk P w K mg base 3 "is_said" (pureSp spIsSaidO) := by
  refine okD (k := 2) Fn sc_is_said hm hb (fun ds O R h => ?_) (fun cdv A outer s H E ds O R hr h => ?_)
  · obtain ⟨_, ⟨_, _, _, rfl, _⟩, _⟩ := h; rfl
  · obtain ⟨d, ⟨m, s, x, rfl, hS, rfl⟩, hR⟩ := h
    cases x with
    | o v =>
      have hT : isiD (ov v) "tuple" = false := by cases v <;> first | rfl | cases hS
      refine xs_cons (x_if (EvW.t (ew_or (k := true) (l := false) (EvT.cast (et_not (et_bl (ev_callB T.b_isinstance (es_cons (ev_var 2) (es_cons (ev_type T.b_tuple) es_nil)) (c_isi_tuple (ok_ov v))))) (by rw [hT]; rfl)) (fun hbb => by cases hbb))) (fun hk => ?_) (fun hk => by cases hk))
      exact xs_cons (x_ret (EvP.ev ev_bl hR))
    | t xs =>
      refine xs_cons (x_if (EvW.t (ew_or (et_not (et_bl (ev_callB T.b_isinstance (es_cons (ev_var 2) (es_cons (ev_type T.b_tuple) es_nil)) (c_isi_tuple rfl)))) (fun hbb => (ew_or1 (et_cmp (ev_callB T.b_len (es_cons (ev_var 2) es_nil) (c_len (by first | exact Or.inr rfl | exact Or.inl (Or.inl rfl) | exact Or.inl (Or.inr (Or.inl rfl)) | exact Or.inl (Or.inr (Or.inr ⟨_, rfl, by first | assumption | rfl⟩))))) (ev_var 0) cmp_neI))))) (fun hk => ?_) (fun hk => xs_nil ?_))
      · have hk : (!true || !decide ((((xs.map ov).length : Nat) : Int) = m)) = true := hk
        have e : saidS m s (.t xs) = false := by
          refine said_len fun z => ?_
          rw [List.length_map, decide_eq_true z] at hk
          cases hk
        rw [e] at hR
        exact xs_cons (x_ret (EvP.ev ev_bl hR))
      · have hk : (!true || !decide ((((xs.map ov).length : Nat) : Int) = m)) = false := hk
        have hS : xs.length ≤ 100 := hS
        refine xs_cons (x_ret (EvP.ev (ev_callB T.b_all (es_cons (ev_compM (fun w => .bl (okW s w)) ["what"] ["scale"] [1] (ei_LF (ev_var 2) (by first | exact Or.inl rfl | exact Or.inr (Or.inl rfl) | exact Or.inr (Or.inr rfl) | assumption)) (by rw [sizeLine_eq]; omega) (by exact fun q hq s H fp => ⟨[some _], rfl, (tg_name 0 (show List.Nodup (["what", "scale"] : List Str) by decide +kernel)), ⟨_, rfl, (ev_or (ev_cmp (ev_var 0) ev_non cmp_is) (fun hbb => (ev_one (ev_callP F_is_on_scale (hr.mono (by decide)) (es_cons (ev_var 1) (es_cons (ev_var 0) es_nil)) ⟨_, q, rfl, rfl⟩))))⟩⟩)) es_nil) (c_all (bs := xs.map fun w => okW s w) (Or.inl (Or.inl (congrArg D.lst (by rw [List.map_map]; rfl)))))) ?_))
        have e : ((xs.map fun w => okW s w).all id) = saidS m s (.t xs) := by
          rw [List.all_map]
          show xs.all (okW s) = (decide ((xs.length : Int) = m) && xs.all (okW s))
          have : (xs.length : Int) = m := by
            by_cases z : (xs.length : Int) = m
            · exact z
            · rw [List.length_map, decide_eq_false z] at hk; cases hk
          rw [decide_eq_true this, Bool.true_and]
        rw [e]
        exact hR
theorem ok_check_said {f : Addr} {fd : FuncData} (T : Txt K mg C_Hand C_Weigher C_Shifter C_HeedError C_NoTurn C_NoRule C_NoRow C_NoWay C_NoName C_Twice) (Fn : Fun K "check_said" "check_said" s_check_said f fd) (hm : mg "check_said" = some (.ref f)) (hb : Binds K fd ["many", "scale", "said"] []) (F_is_said : DefOk P w K mg base 3 "is_said" (pureSp spIsSaidO)) (J_NoTurn : InitI P w K mg base C_NoTurn 1 "NoTurn" "number") : DefX P w K mg base 4 "check_said" (spCheckSaidX C_NoTurn) := by
  refine ⟨f, fd, _, okX (k := 3) Fn sc_check_said (fun ds O R RX h => ?_) (fun cdv A outer s H E ds O R RX hr h => ?_), hm, Fn.kp, hb⟩
  · obtain ⟨_, _, _, rfl, _⟩ := h; rfl
  · obtain ⟨m, s, x, rfl, hS, h1, h2⟩ := h
    refine xX_cons (xX_if (et_not (et_bl (ev_callP F_is_said (hr.mono (by decide)) (es_cons (ev_var 0) (es_cons (ev_var 1) (es_cons (ev_var 2) es_nil))) ⟨m, s, x, rfl, hS, rfl⟩))) (fun hk => ?_) (fun hk => xX_nil (xX_nil (h1 (not_f hk)))))
    exact xX_cons (xX_raiseI J_NoTurn (hr.mono (by decide)) (es_cons ev_int es_nil) (h2 (not_t hk)) trivial)
theorem ok_power {f : Addr} {fd : FuncData} (T : Txt K mg C_Hand C_Weigher C_Shifter C_HeedError C_NoTurn C_NoRule C_NoRow C_NoWay C_NoName C_Twice) (Fn : Fun K "power" "power" s_power f fd) (hm : mg "power" = some (.ref f)) (hb : Binds K fd ["base", "exponent"] []) : DefOk P w K mg base 1 "power" (pureSp spPow) := by
  refine okD (k := 0) Fn sc_power hm hb (fun ds O R h => ?_) (fun cdv A outer s H E ds O R hr h => ?_)
  · obtain ⟨_, ⟨_, _, rfl, _⟩, _⟩ := h; rfl
  · obtain ⟨d, ⟨b, n, rfl, hb, hn, rfl⟩, hR⟩ := h
    refine xs_cons (x_set 2 (EvP.ev ev_int ?_) sc_power.nd)
    refine xs_cons (x_for (ei_range1 (ev_var 1) T.b_range (by first | decide | omega) (by first | decide | omega)) (fun i ρ O' => ∃ u, ρ = [some (.int b), some (.int n), some (.int (b ^ i)), u] ∧ O' = O) ⟨none, by rw [Int.pow_zero]; rfl, rfl⟩ ?_ ?_)
    · rintro i x ρ O' hx ⟨u, rfl, rfl⟩
      refine ⟨_, tg_name 3 sc_power.nd, ?_⟩
      refine xs_cons (x_set 2 (EvP.ev (ev_bin (ev_var 2) (ev_var 0) (o_mul (by first | assumption | exact CMul.ok (Or.inl ⟨by omega, by omega⟩) | exact CMul.ok (Or.inr ⟨by omega, by omega⟩)))) ?_) sc_power.nd)
      exact xs_nil ⟨_, by rw [Int.pow_succ]; rfl, rfl⟩
    · rintro ρ O' ⟨u, rfl, rfl⟩
      rw [rangeD_len]
      exact xs_cons (x_ret (EvP.ev (ev_var 2) hR))
theorem ok_charge {f : Addr} {fd : FuncData} (T : Txt K mg C_Hand C_Weigher C_Shifter C_HeedError C_NoTurn C_NoRule C_NoRow C_NoWay C_NoName C_Twice) (Fn : Fun K "charge" "charge" s_charge f fd) (hm : mg "charge" = some (.ref f)) (hb : Binds K fd ["what", "so"] []) : DefOk P w K mg base 1 "charge" (pureSp spCharge) := by
  refine okD (k := 0) Fn sc_charge hm hb (fun ds O R h => ?_) (fun cdv A outer s H E ds O R hr h => ?_)
  · obtain ⟨_, ⟨_, _, rfl, _⟩, _⟩ := h; rfl
  · obtain ⟨d, ⟨w, z, rfl, rfl⟩, hR⟩ := h
    cases w with
    | none =>
      refine xs_cons (x_if (et_cmp (ev_var 0) ev_non cmp_is) (fun hk => ?_) (fun hk => ?_))
      · exact xs_cons (x_ret (EvP.ev ev_int hR))
      · cases hk
    | some w =>
      refine xs_cons (x_if (et_cmp (ev_var 0) ev_non cmp_is) (fun hk => ?_) (fun hk => ?_))
      · cases hk
      · exact xs_nil (xs_cons (x_ret (EvP.ev (ev_callB T.b_abs (es_cons (ev_bin (ev_var 0) (ev_var 1) o_sub) es_nil) c_abs) hR)))
theorem ok_is_turn {f : Addr} {fd : FuncData} (T : Txt K mg C_Hand C_Weigher C_Shifter C_HeedError C_NoTurn C_NoRule C_NoRow C_NoWay C_NoName C_Twice) (Fn : Fun K "is_turn" "is_turn" s_is_turn f fd) (hm : mg "is_turn" = some (.ref f)) (hb : Binds K fd ["many", "scale", "turn"] []) (F_is_said : DefOk P w K mg base 3 "is_said" (pureSp spIsSaidO)) (F_is_on_scale : DefOk P w K mg base 2 "is_on_scale" (pureSp spOnSO)) : DefOk P w K mg base 4 "is_turn" (pureSp spIsTurnO) := by
  refine okD (k := 3) Fn sc_is_turn hm hb (fun ds O R h => ?_) (fun cdv A outer s H E ds O R hr h => ?_)
  · obtain ⟨_, ⟨_, _, _, _, rfl, _⟩, _⟩ := h; rfl
  · obtain ⟨d, ⟨m, s, x, y, rfl, hS, rfl⟩, hR⟩ := h
    refine xs_cons (x_if (EvW.t (ew_or (et_not (et_bl (ev_callB T.b_isinstance (es_cons (ev_var 2) (es_cons (ev_type T.b_tuple) es_nil)) (c_isi_tuple rfl)))) (fun hbb => (ew_or1 (et_cmp (ev_callB T.b_len (es_cons (ev_var 2) es_nil) (c_len (by first | exact Or.inr rfl | exact Or.inl (Or.inl rfl) | exact Or.inl (Or.inr (Or.inl rfl)) | exact Or.inl (Or.inr (Or.inr ⟨_, rfl, by first | assumption | rfl⟩))))) ev_int cmp_neI))))) (fun hk => by cases hk) (fun hk => xs_nil ?_))
    refine xs_cons (x_ret (EvP.ev (ev_and (ev_callP F_is_said (hr.mono (by decide)) (es_cons (ev_var 0) (es_cons (ev_var 1) (es_cons (ev_ixT (ev_var 2) ev_int rfl) es_nil))) ⟨m, s, x, rfl, hS, rfl⟩) (fun hbb => (ev_one (ev_callP F_is_on_scale (hr.mono (by decide)) (es_cons (ev_var 1) (es_cons (ev_ixT (ev_var 2) ev_int rfl) es_nil)) ⟨s, y, rfl, rfl⟩)))) ?_))
    exact hR
theorem ok_check_turn {f : Addr} {fd : FuncData} (T : Txt K mg C_Hand C_Weigher C_Shifter C_HeedError C_NoTurn C_NoRule C_NoRow C_NoWay C_NoName C_Twice) (Fn : Fun K "check_turn" "check_turn" s_check_turn f fd) (hm : mg "check_turn" = some (.ref f)) (hb : Binds K fd ["many", "scale", "said", "so"] []) (F_is_turn : DefOk P w K mg base 4 "is_turn" (pureSp spIsTurnO)) (J_NoTurn : InitI P w K mg base C_NoTurn 1 "NoTurn" "number") : DefX P w K mg base 5 "check_turn" (spCheckX C_NoTurn) := by
  refine ⟨f, fd, _, okX (k := 4) Fn sc_check_turn (fun ds O R RX h => ?_) (fun cdv A outer s H E ds O R RX hr h => ?_), hm, Fn.kp, hb⟩
  · obtain ⟨_, _, _, _, rfl, _⟩ := h; rfl
  · obtain ⟨m, s, x, y, rfl, hS, h1, h2⟩ := h
    refine xX_cons (xX_if (et_not (et_bl (ev_callP F_is_turn (hr.mono (by decide)) (es_cons (ev_var 0) (es_cons (ev_var 1) (es_cons (ev_tup (es_cons (ev_var 2) (es_cons (ev_var 3) es_nil))) es_nil))) ⟨m, s, x, y, rfl, hS, rfl⟩))) (fun hk => ?_) (fun hk => xX_nil (xX_nil (h1 ?_))))
    · exact xX_cons (xX_raiseI J_NoTurn (hr.mono (by decide)) (es_cons ev_int es_nil) (h2 (not_t hk)) trivial)
    · exact not_f hk
theorem ok_awake_in {f : Addr} {fd : FuncData} (T : Txt K mg C_Hand C_Weigher C_Shifter C_HeedError C_NoTurn C_NoRule C_NoRow C_NoWay C_NoName C_Twice) (Fn : Fun K "awake_in" "awake_in" s_awake_in f fd) (hm : mg "awake_in" = some (.ref f)) (hb : Binds K fd ["said"] []) : DefOk P w K mg base 1 "awake_in" (pureSp spAwake) := by
  refine okD (k := 0) Fn sc_awake_in hm hb (fun ds O R h => ?_) (fun cdv A outer s H E ds O R hr h => ?_)
  · obtain ⟨_, ⟨_, rfl, _⟩, _⟩ := h; rfl
  · obtain ⟨d, ⟨said, rfl, hs, rfl⟩, hR⟩ := h
    refine xs_cons (x_ret (EvP.ev (ev_compF (fun q : Option Int × Nat => if (!isN (od q.1)) = true then some (D.int (q.2 : Nat)) else none) ["adviser", "what"] [] [] (ei_Z (ez_enumM (ev_var 0) (by first | exact Or.inl rfl | exact Or.inr (Or.inl rfl) | exact Or.inr (Or.inr rfl) | assumption) T.b_enumerate)) (by rw [List.length_zipIdx, sizeLine_eq]; omega) (by exact fun q hq s H fp => ⟨[some _, some _], rfl, (tg_tup (tgs_cons (tg_name 0 (show List.Nodup (["adviser", "what"] : List Str) by decide +kernel)) (tgs_cons (tg_name 1 (show List.Nodup (["adviser", "what"] : List Str) by decide +kernel)) tgs_nil))), ⟨_, (et_cmp (ev_var 1) ev_non cmp_isnot), fun hbb => ⟨_, if_pos hbb, (ev_var 0)⟩, fun hbb => if_neg (fun hcc => Bool.false_ne_true (hbb.symm.trans hcc))⟩⟩)) ?_))
    rw [awake_eq]
    exact hR
theorem ok_middle_awake {f : Addr} {fd : FuncData} (T : Txt K mg C_Hand C_Weigher C_Shifter C_HeedError C_NoTurn C_NoRule C_NoRow C_NoWay C_NoName C_Twice) (Fn : Fun K "middle_awake" "middle_awake" s_middle_awake f fd) (hm : mg "middle_awake" = some (.ref f)) (hb : Binds K fd ["said", "weights"] []) (F_middle : DefOk P w K mg base 2 "middle" (pureSp spMiddle)) (F_awake_in : DefOk P w K mg base 1 "awake_in" (pureSp spAwake)) : DefOk P w K mg base 4 "middle_awake" (pureSp spMA) := by
  refine okD (k := 3) Fn sc_middle_awake hm hb (fun ds O R h => ?_) (fun cdv A outer s H E ds O R hr h => ?_)
  · obtain ⟨_, ⟨_, _, rfl, _⟩, _⟩ := h; rfl
  · obtain ⟨d, ⟨said, ws, rfl, hs, hl, hw, rfl⟩, hR⟩ := h
    have hal := ax_len said
    refine xs_cons (x_set 2 (EvP.ev (ev_callP F_awake_in (hr.mono (by decide)) (es_cons (ev_var 0) es_nil) ⟨_, rfl, by assumption, rfl⟩) ?_) sc_middle_awake.nd)
    have e : [D.tup ((ax said).map fun k => D.int ((sat2 said k).getD 0)), D.tup ((ax said).map fun k => D.int (ws.getD k 0))] = [.tup ((nsA said).map D.int), .tup ((wsA said ws).map D.int)] := by
      unfold nsA wsA
      rw [List.map_map, List.map_map]
      rfl
    exact xs_cons (x_ret (EvP.ev (ev_callP F_middle (hr.mono (by decide)) (es_cons (ev_callTy T.b_tuple (es_cons (ev_compM (fun k => D.int ((sat2 said k).getD 0)) ["adviser"] ["said"] [0] (ei_LF (ev_var 2) (by first | exact Or.inl rfl | exact Or.inr (Or.inl rfl) | exact Or.inr (Or.inr rfl) | assumption)) (by rw [sizeLine_eq]; omega) (by exact fun q hq s H fp => ⟨[some _], rfl, (tg_name 0 (show List.Nodup (["adviser", "said"] : List Str) by decide +kernel)), ⟨_, rfl, (ev_ixT (ev_var 1) (ev_var 0) (at_ax hq))⟩⟩)) es_nil) (c_tuple (by first | exact Or.inr rfl | exact Or.inl (Or.inl rfl) | exact Or.inl (Or.inr (Or.inl rfl)) | exact Or.inl (Or.inr (Or.inr ⟨_, rfl, by first | assumption | rfl⟩))))) (es_cons (ev_callTy T.b_tuple (es_cons (ev_compM (fun k => D.int (ws.getD k 0)) ["adviser"] ["weights"] [1] (ei_LF (ev_var 2) (by first | exact Or.inl rfl | exact Or.inr (Or.inl rfl) | exact Or.inr (Or.inr rfl) | assumption)) (by rw [sizeLine_eq]; omega) (by exact fun q hq s H fp => ⟨[some _], rfl, (tg_name 0 (show List.Nodup (["adviser", "weights"] : List Str) by decide +kernel)), ⟨_, rfl, (ev_ixT (ev_var 1) (ev_var 0) (at_ws (by have := ax_lt hq; omega)))⟩⟩)) es_nil) (c_tuple (by first | exact Or.inr rfl | exact Or.inl (Or.inl rfl) | exact Or.inl (Or.inr (Or.inl rfl)) | exact Or.inl (Or.inr (Or.inr ⟨_, rfl, by first | assumption | rfl⟩))))) es_nil)) ⟨nsA said, wsA said ws, e, twoA hs hw, rfl⟩) hR))
theorem ok_times_awake {f : Addr} {fd : FuncData} (T : Txt K mg C_Hand C_Weigher C_Shifter C_HeedError C_NoTurn C_NoRule C_NoRow C_NoWay C_NoName C_Twice) (Fn : Fun K "times_awake" "times_awake" s_times_awake f fd) (hm : mg "times_awake" = some (.ref f)) (hb : Binds K fd ["keeper", "own", "off"] []) (F_power : DefOk P w K mg base 1 "power" (pureSp spPow)) : DefOk P w K mg base 2 "times_awake" (spTAS C_Shifter) := by
  refine okD (k := 1) Fn sc_times_awake hm hb (fun ds O R h => ?_) (fun cdv A outer s H E ds O R hr h => ?_)
  · obtain ⟨_, _, _, _, _, _, rfl, _⟩ := h; rfl
  · obtain ⟨q, p, u, own, off, ws, rfl, hW, hp, ho, hof, hR⟩ := h
    have hf := hp.f
    have s1 := hf.s1; have s2 := hf.s2; have t0 := hf.t0; have tb := hf.tb; have b2 := hf.b2
    have a1 := pw81 (x := p.t) (e := off) hf.t0 (by omega) (by omega)
    have a2 := pw81 (x := p.b) (e := p.sc - off) (by omega) (by omega) (by omega)
    have a3 := pw81 (x := p.b) (e := own) (by omega) (by omega) (by omega)
    have c1 := p2_mul a1.1 a1.2 a2.1 a2.2
    have c2 := p2_mul (c := 2) c1.1 c1.2 (show (0 : Int) ≤ 2 by decide) (by decide)
    refine xs_cons (x_set 3 (EvP.ev (ev_bin (ev_callP F_power (hr.mono (by decide)) (es_cons (ev_fld (ev_var 0) hW T.c_Shifter.cls T.n_Shifter_top (zl_top p u ws)) (es_cons (ev_var 2) es_nil)) ⟨_, _, rfl, ⟨by omega, by omega⟩, ⟨by omega, by omega⟩, rfl⟩) (ev_callP F_power (hr.mono (by decide)) (es_cons (ev_fld (ev_var 0) hW T.c_Shifter.cls T.n_Shifter_bottom (zl_bottom p u ws)) (es_cons (ev_bin (ev_fld (ev_var 0) hW T.c_Shifter.cls T.n_Shifter_scale (zl_scale p u ws)) (ev_var 2) o_sub) es_nil)) ⟨_, _, rfl, ⟨by omega, by omega⟩, ⟨by omega, by omega⟩, rfl⟩) (o_mul (mulP a1.1 a1.2 a2.1 a2.2))) ?_) sc_times_awake.nd)
    exact xs_cons (x_ret (EvP.ev (ev_bin (ev_bin (ev_var 3) ev_int (o_mul (by first | assumption | exact CMul.ok (Or.inl ⟨by omega, by omega⟩) | exact CMul.ok (Or.inr ⟨by omega, by omega⟩)))) (ev_callP F_power (hr.mono (by decide)) (es_cons (ev_fld (ev_var 0) hW T.c_Shifter.cls T.n_Shifter_bottom (zl_bottom p u ws)) (es_cons (ev_var 1) es_nil)) ⟨_, _, rfl, ⟨by omega, by omega⟩, ⟨by omega, by omega⟩, rfl⟩) (o_mul (mulP c2.1 c2.2 a3.1 a3.2))) hR))
theorem ok_times_asleep {f : Addr} {fd : FuncData} (T : Txt K mg C_Hand C_Weigher C_Shifter C_HeedError C_NoTurn C_NoRule C_NoRow C_NoWay C_NoName C_Twice) (Fn : Fun K "times_asleep" "times_asleep" s_times_asleep f fd) (hm : mg "times_asleep" = some (.ref f)) (hb : Binds K fd ["keeper", "own"] []) (F_power : DefOk P w K mg base 1 "power" (pureSp spPow)) : DefOk P w K mg base 2 "times_asleep" (spTSS C_Shifter) := by
  refine okD (k := 1) Fn sc_times_asleep hm hb (fun ds O R h => ?_) (fun cdv A outer s H E ds O R hr h => ?_)
  · obtain ⟨_, _, _, _, _, rfl, _⟩ := h; rfl
  · obtain ⟨q, p, u, own, ws, rfl, hW, hp, ho, hR⟩ := h
    have hf := hp.f
    have s1 := hf.s1; have s2 := hf.s2; have t0 := hf.t0; have tb := hf.tb; have b2 := hf.b2
    have a1 := pw81 (x := p.b) (e := p.sc) (by omega) (by omega) (by omega)
    have a2 := pw81 (x := p.b) (e := own) (by omega) (by omega) (by omega)
    have a3 := pw81 (x := p.t) (e := own) hf.t0 (by omega) (by omega)
    have e82 : (2 : Int) ^ 82 = 2 ^ 81 + 2 ^ 81 := by decide
    exact xs_cons (x_ret (EvP.ev (ev_bin (ev_callP F_power (hr.mono (by decide)) (es_cons (ev_fld (ev_var 0) hW T.c_Shifter.cls T.n_Shifter_bottom (zl_bottom p u ws)) (es_cons (ev_fld (ev_var 0) hW T.c_Shifter.cls T.n_Shifter_scale (zl_scale p u ws)) es_nil)) ⟨_, _, rfl, ⟨by omega, by omega⟩, ⟨by omega, by omega⟩, rfl⟩) (ev_bin (ev_callP F_power (hr.mono (by decide)) (es_cons (ev_fld (ev_var 0) hW T.c_Shifter.cls T.n_Shifter_bottom (zl_bottom p u ws)) (es_cons (ev_var 1) es_nil)) ⟨_, _, rfl, ⟨by omega, by omega⟩, ⟨by omega, by omega⟩, rfl⟩) (ev_callP F_power (hr.mono (by decide)) (es_cons (ev_fld (ev_var 0) hW T.c_Shifter.cls T.n_Shifter_top (zl_top p u ws)) (es_cons (ev_var 1) es_nil)) ⟨_, _, rfl, ⟨by omega, by omega⟩, ⟨by omega, by omega⟩, rfl⟩) o_add) (o_mul (mulP (n := 82) a1.1 a1.2 (by omega) (by rw [e82]; omega)))) hR))
theorem ok_times {f : Addr} {fd : FuncData} (T : Txt K mg C_Hand C_Weigher C_Shifter C_HeedError C_NoTurn C_NoRule C_NoRow C_NoWay C_NoName C_Twice) (Fn : Fun K "times" "times" s_times f fd) (hm : mg "times" = some (.ref f)) (hb : Binds K fd ["keeper", "own", "what", "so"] []) (F_charge : DefOk P w K mg base 1 "charge" (pureSp spCharge)) (F_times_asleep : DefOk P w K mg base 2 "times_asleep" (spTSS C_Shifter)) (F_times_awake : DefOk P w K mg base 2 "times_awake" (spTAS C_Shifter)) : DefOk P w K mg base 3 "times" (spTFS C_Shifter) := by
  refine okD (k := 2) Fn sc_times hm hb (fun ds O R h => ?_) (fun cdv A outer s H E ds O R hr h => ?_)
  · obtain ⟨_, _, _, _, _, _, _, rfl, _⟩ := h; rfl
  · obtain ⟨q, p, u, own, so, w, ws, rfl, hW, hp, ho, hso, hw, hR⟩ := h
    cases w with
    | none =>
      refine xs_cons (x_if (et_cmp (ev_var 2) ev_non cmp_is) (fun hk => ?_) (fun hk => by cases hk))
      exact xs_cons (x_ret (EvP.ev (Ev.evp (ev_call F_times_asleep (hr.mono (by decide)) (es_cons (ev_var 0) (es_cons (ev_var 1) es_nil)) ⟨q, p, u, own, ws, rfl, hW, hp, ho, rfl, rfl⟩)) hR))
    | some x =>
      have hx := onS_ok (hw.resolve_left (fun h => by cases h))
      refine xs_cons (x_if (et_cmp (ev_var 2) ev_non cmp_is) (fun hk => by cases hk) (fun hk => xs_nil ?_))
      exact xs_cons (x_ret (EvP.ev (Ev.evp (ev_call F_times_awake (hr.mono (by decide)) (es_cons (ev_var 0) (es_cons (ev_var 1) (es_cons (ev_callP F_charge (hr.mono (by decide)) (es_cons (ev_var 2) (es_cons (ev_var 3) es_nil)) ⟨some x, so, rfl, rfl⟩) es_nil))) ⟨q, p, u, own, ab (x - so), ws, rfl, hW, hp, ho, ab_ok hx hso, rfl, rfl⟩)) hR))
theorem ok_Hand___init__ {f : Addr} {fd : FuncData} (T : Txt K mg C_Hand C_Weigher C_Shifter C_HeedError C_NoTurn C_NoRule C_NoRow C_NoWay C_NoName C_Twice) (Fn : Fun K "__init__" "Hand.__init__" s_Hand___init__ f fd) (F_check_making : DefX P w K mg base 4 "check_making" (spMakingX C_NoRule)) : FnOk P w K mg base (CX1 P w) 5 f fd ["self", "many", "scale"] (toSpX K (spInitHX C_Shifter C_NoRule)) := by
  refine okX (k := 4) Fn sc_Hand___init__ (fun ds O R RX h => ?_) (fun cdv A outer s H E ds O R RX hr h => ?_)
  · obtain ⟨_, _, _, rfl, _⟩ := h; rfl
  · obtain ⟨q, m, s, rfl, hq, h1, h2⟩ := h
    refine xX_cons (xX_expr (evX_call F_check_making (hr.mono (by decide)) (es_cons (ev_var 1) (es_cons (ev_var 2) es_nil)) ⟨m, s, rfl, fun e => ?_, fun e => h2 e⟩))
    obtain ⟨a, b, rfl, rfl, ha, hb⟩ := mkO_i e
    have z := h1 a b rfl rfl e
    refine Exs.x_ ?_
    refine xs_cons (x_fld (ev_var 1) (ev_var 0) hq T.c_Shifter.cls T.n_Shifter_many (by decide) ?_)
    refine xs_cons (x_fld (ev_var 2) (ev_var 0) (set_at hq) T.c_Shifter.cls T.n_Shifter_scale (by show 1 < 1000; decide) ?_)
    refine xs_nil ?_
    rw [List.set_set]
    exact (put_hand a b).symm ▸ z
theorem ok_Weigher___init__ {f : Addr} {fd : FuncData} (T : Txt K mg C_Hand C_Weigher C_Shifter C_HeedError C_NoTurn C_NoRule C_NoRow C_NoWay C_NoName C_Twice) (Fn : Fun K "__init__" "Weigher.__init__" s_Weigher___init__ f fd) (F_check_fraction : DefX P w K mg base 3 "check_fraction" (spFractionX C_NoRule)) (O_Hand___init__ : OfClsX P w K mg base "Hand" 5 "__init__" (spInitHX C_Shifter C_NoRule)) : FnOk P w K mg base (CX1 P w) 6 f fd ["self", "many", "scale", "top", "bottom"] (toSpX K (spInitWX C_Shifter C_NoRule)) := by
  refine okX (k := 5) Fn sc_Weigher___init__ (fun ds O R RX h => ?_) (fun cdv A outer s H E ds O R RX hr h => ?_)
  · obtain ⟨_, _, _, _, _, rfl, _⟩ := h; rfl
  · obtain ⟨q, m, s, t, b, rfl, hq, h1, h2⟩ := h
    refine xX_cons (xX_expr (evX_call F_check_fraction (hr.mono (by decide)) (es_cons (ev_var 3) (es_cons (ev_var 4) es_nil)) ⟨t, b, rfl, fun e' => ?_, fun e' => h2 (by rw [e', Bool.and_false])⟩))
    refine xX_cons (xX_expr (evX_ofCls O_Hand___init__ (hr.mono (by decide)) (es_cons (ev_var 0) (es_cons (ev_var 1) (es_cons (ev_var 2) es_nil))) ⟨q, m, s, rfl, hq, fun a c ea ec e => ?_, fun e => h2 (by rw [e]; rfl)⟩))
    subst ea ec
    obtain ⟨x, y, rfl, rfl, hx⟩ := frO_i e'
    have z := h1 a c x y rfl rfl rfl rfl (by rw [e, e']; rfl)
    obtain ⟨a', c', ea, ec, ha, hc⟩ := mkO_i e
    cases ea; cases ec
    refine Exs.x_ ?_
    refine xs_cons (x_fld (ev_var 3) (ev_var 0) (set_at hq) T.c_Shifter.cls T.n_Shifter_top (by show 2 < 1000; decide) ?_)
    rw [List.set_set]
    refine (put_top a c x).symm ▸ ?_
    refine xs_cons (x_fld (ev_var 4) (ev_var 0) (set_at hq) T.c_Shifter.cls T.n_Shifter_bottom (by show 3 < 1000; decide) ?_)
    rw [List.set_set]
    refine (put_bottom a c x y).symm ▸ ?_
    refine xs_cons (x_fld (ev_bin (ev_tup (es_cons ev_int es_nil)) (ev_var 1) (o_repT ha.1 (by omega) (by simp) (by rw [sizeLine_eq]; show 1 * a.toNat ≤ _; omega))) (ev_var 0) (set_at hq) T.c_Shifter.cls T.n_Shifter_tops (by show 4 < 1000; decide) ?_)
    rw [List.set_set, put_tops, ones]
    refine xs_cons (x_fld ev_int (ev_var 0) (set_at hq) T.c_Shifter.cls T.n_Shifter_under (by show 5 < 1000; decide) ?_)
    rw [List.set_set, put_under]
    exact xs_nil z
theorem ok_Shifter___init__ {f : Addr} {fd : FuncData} (T : Txt K mg C_Hand C_Weigher C_Shifter C_HeedError C_NoTurn C_NoRule C_NoRow C_NoWay C_NoName C_Twice) (Fn : Fun K "__init__" "Shifter.__init__" s_Shifter___init__ f fd) (F_check_share : DefX P w K mg base 3 "check_share" (spShareX C_NoRule)) (O_Weigher___init__ : OfClsX P w K mg base "Weigher" 6 "__init__" (spInitWX C_Shifter C_NoRule)) : FnOk P w K mg base (CX1 P w) 7 f fd ["self", "many", "scale", "top", "bottom", "share", "parts"] (toSpX K (spInitSX C_Shifter C_NoRule)) := by
  refine okX (k := 6) Fn sc_Shifter___init__ (fun ds O R RX h => ?_) (fun cdv A outer s H E ds O R RX hr h => ?_)
  · obtain ⟨_, _, _, _, _, _, _, rfl, _⟩ := h; rfl
  · obtain ⟨q, m, s, t, b, sh, pa, rfl, hq, h1, h2⟩ := h
    refine xX_cons (xX_expr (evX_call F_check_share (hr.mono (by decide)) (es_cons (ev_var 5) (es_cons (ev_var 6) es_nil)) ⟨sh, pa, rfl, fun e' => ?_, fun e' => h2 (by unfold ok6; rw [e', Bool.and_false])⟩))
    refine xX_cons (xX_expr (evX_ofCls O_Weigher___init__ (hr.mono (by decide)) (es_cons (ev_var 0) (es_cons (ev_var 1) (es_cons (ev_var 2) (es_cons (ev_var 3) (es_cons (ev_var 4) es_nil))))) ⟨q, m, s, t, b, rfl, hq, fun a c x y ea ec ex ey e => ?_, fun e => h2 (by unfold ok6; rw [e]; rfl)⟩))
    obtain ⟨p, ep, hp⟩ := ok6_i (m := m) (s := s) (t := t) (b := b) (sh := sh) (pa := pa) (by unfold ok6; rw [e, e']; rfl)
    have z := h1 p ep hp
    unfold sixP at ep
    injection ep with a1 ep; injection ep with a2 ep; injection ep with a3 ep; injection ep with a4 ep; injection ep with a5 ep; injection ep with a6 ep
    subst a1 a2 a3 a4 a5 a6
    cases ea; cases ec; cases ex; cases ey
    have q1 := set_at (y := some (.ins C_Shifter (weigF p.m p.sc p.t p.b (List.replicate p.m.toNat 1) 1))) hq
    refine Exs.x_ ?_
    refine xs_cons (x_fld (ev_var 5) (ev_var 0) q1 T.c_Shifter.cls T.n_Shifter_share (by show 6 < 1000; decide) ?_)
    rw [List.set_set]
    refine (put_share p.m p.sc p.t p.b 1 p.sh _).symm ▸ ?_
    refine xs_cons (x_fld (ev_var 6) (ev_var 0) (set_at hq) T.c_Shifter.cls T.n_Shifter_parts (by show 7 < 1000; decide) ?_)
    rw [List.set_set]
    refine (put_parts p.m p.sc p.t p.b 1 p.sh p.pa _).symm ▸ ?_
    exact xs_nil z
theorem ok_Weigher_heeded {f : Addr} {fd : FuncData} (T : Txt K mg C_Hand C_Weigher C_Shifter C_HeedError C_NoTurn C_NoRule C_NoRow C_NoWay C_NoName C_Twice) (Fn : Fun K "heeded" "Weigher.heeded" s_Weigher_heeded f fd)  : FnOk P w K mg base CX0 1 f fd ["self"] (toSp K (spHeedS C_Shifter)) := by
  refine okF (k := 0) Fn sc_Weigher_heeded (fun ds O R h => ?_) (fun cdv A outer s H E ds O R hr h => ?_)
  · obtain ⟨_, _, _, _, rfl, _⟩ := h; rfl
  · obtain ⟨q, p, u, ws, rfl, hW, hR⟩ := h
    exact xs_cons (x_ret (EvP.ev (ev_fld (ev_var 0) hW T.c_Shifter.cls T.n_Shifter_tops (zl_tops p u ws)) hR))
theorem ok_Weigher_weights {f : Addr} {fd : FuncData} (T : Txt K mg C_Hand C_Weigher C_Shifter C_HeedError C_NoTurn C_NoRule C_NoRow C_NoWay C_NoName C_Twice) (Fn : Fun K "weights" "Weigher.weights" s_Weigher_weights f fd)  : FnOk P w K mg base CX0 1 f fd ["self"] (toSp K (spWeightsS C_Shifter)) := by
  refine okF (k := 0) Fn sc_Weigher_weights (fun ds O R h => ?_) (fun cdv A outer s H E ds O R hr h => ?_)
  · obtain ⟨_, _, _, _, rfl, _⟩ := h; rfl
  · obtain ⟨q, p, u, ws, rfl, hW, hR⟩ := h
    exact xs_cons (x_ret (EvP.ev (ev_tup (es_cons (ev_fld (ev_var 0) hW T.c_Shifter.cls T.n_Shifter_tops (zl_tops p u ws)) (es_cons (ev_fld (ev_var 0) hW T.c_Shifter.cls T.n_Shifter_under (zl_under p u ws)) es_nil))) hR))
theorem ok_Hand_say {f : Addr} {fd : FuncData} (T : Txt K mg C_Hand C_Weigher C_Shifter C_HeedError C_NoTurn C_NoRule C_NoRow C_NoWay C_NoName C_Twice) (Fn : Fun K "say" "Hand.say" s_Hand_say f fd) (F_check_said : DefX P w K mg base 4 "check_said" (spCheckSaidX C_NoTurn)) (F_middle_awake : DefOk P w K mg base 4 "middle_awake" (pureSp spMA)) (M_Shifter_heeded : MethOk P w K mg base C_Shifter 1 "heeded" (spHeedS C_Shifter)) : FnOk P w K mg base (CX1 P w) 6 f fd ["self", "said"] (toSpX K (spSayX C_Shifter C_NoTurn)) := by
  refine okX (k := 5) Fn sc_Hand_say (fun ds O R RX h => ?_) (fun cdv A outer s H E ds O R RX hr h => ?_)
  · rcases h with ⟨_, _, _, _, _, rfl, _⟩ | ⟨_, _, _, _, _, rfl, _⟩ <;> rfl
  · rcases h with ⟨q, p, u, ws, said, rfl, hW, hp, hs, hl, hw, hR⟩ | ⟨q, p, u, ws, x, rfl, hW, hS, hb, hX⟩
    · have hs1 := hs.1
      have h24 : said.length ≤ 24 := by have := hs.2.1; omega
      have hll : ws.length = said.length := by omega
      refine xX_cons (xX_expr (evX_call F_check_said (hr.mono (by decide)) (es_cons (ev_fld (ev_var 0) hW T.c_Shifter.cls T.n_Shifter_many (zl_many p u ws)) (es_cons (ev_fld (ev_var 0) hW T.c_Shifter.cls T.n_Shifter_scale (zl_scale p u ws)) (es_cons (ev_var 1) es_nil))) ⟨p.m, p.sc, .t (said.map toO), by rw [sv_to], sok_of hs, fun _ => ?_, fun z => absurd ((saidS_of hs).symm.trans z) (by decide)⟩))
      exact Exs.x_ (xs_cons (x_ret (EvP.ev (ev_callP F_middle_awake (hr.mono (by decide)) (es_cons (ev_var 1) (es_cons (Ev.evp (ev_meth0 M_Shifter_heeded (hr.mono (by decide)) (ev_var 0) hW (zl_no p u ws (by decide +kernel)) ⟨q, p, u, ws, rfl, hW, rfl, rfl⟩)) es_nil)) ⟨_, _, rfl, by assumption, by assumption, by assumption, rfl⟩) hR)))
    · exact xX_cons (xX_expr (evX_call F_check_said (hr.mono (by decide)) (es_cons (ev_fld (ev_var 0) hW T.c_Shifter.cls T.n_Shifter_many (zl_many p u ws)) (es_cons (ev_fld (ev_var 0) hW T.c_Shifter.cls T.n_Shifter_scale (zl_scale p u ws)) (es_cons (ev_var 1) es_nil))) ⟨p.m, p.sc, x, rfl, hS, fun z => absurd (hb.symm.trans z) (by decide), fun _ => hX⟩))
theorem ok_Weigher_weigh {f : Addr} {fd : FuncData} (T : Txt K mg C_Hand C_Weigher C_Shifter C_HeedError C_NoTurn C_NoRule C_NoRow C_NoWay C_NoName C_Twice) (Fn : Fun K "weigh" "Weigher.weigh" s_Weigher_weigh f fd)  (F_charge : DefOk P w K mg base 1 "charge" (pureSp spCharge)) (M_Shifter_say : MethX P w K mg base C_Shifter 6 "say" (spSayX C_Shifter C_NoTurn)) (F_times : DefOk P w K mg base 3 "times" (spTFS C_Shifter)) (F_times_asleep : DefOk P w K mg base 2 "times_asleep" (spTSS C_Shifter)) : FnOk P w K mg base CX0 7 f fd ["self", "said", "so"] (toSp K (spWeighS C_Shifter)) := by
  refine okF (k := 6) Fn sc_Weigher_weigh (fun ds O R h => ?_) (fun cdv A outer s H E ds O R hr h => ?_)
  · obtain ⟨_, _, _, _, _, _, _, rfl, _⟩ := h; rfl
  · obtain ⟨jj, n, p, u, so, said, ws, rfl, hW, hp, hn, hwo, hl, hs, hso, hR⟩ := h
    have hf := hp.f
    have hs1 := hs.1
    have h24 := hs.2.1
    have h0 : Wok ws := fun w hw => (hwo.w w hw).1
    have hon := midA_on (ws := ws) hs (by have := hf.s1; omega) h0
    have hd := ab_ok hon hso
    refine xs_cons (x_set 3 (EvP.ev (ev_callP F_charge (hr.mono (by decide)) (es_cons (Ev.evp (ev_meth M_Shifter_say.ok (hr.mono (by decide)) (ev_var 0) hW (zl_no p u ws (by decide +kernel)) (es_cons (ev_var 1) es_nil) (.inl ⟨jj, p, u, ws, said, rfl, hW, hp, hs, hl, h0, rfl, rfl⟩))) (es_cons (ev_var 2) es_nil)) ⟨some (midA said ws), so, rfl, rfl⟩) ?_) sc_Weigher_weigh.nd)
    have hdd : chg (some (midA said ws)) so = ab (midA said ws - so) := rfl
    rw [hdd]
    generalize ab (midA said ws - so) = dd at hd hR
    have hzl : (ws.zip said).length ≤ 63 := by rw [List.length_zip]; omega
    have hi : ∀ q ∈ ws.zip said, IntMulOk q.1 (tF p.t p.b p.sc dd so q.2) := fun q hq => by
      have h1 := hwo.w _ (List.of_mem_zip hq).1
      have h2 := tF_ok hf hd.2 hso (hs.2.2 _ (List.of_mem_zip hq).2)
      exact mulP h1.1 h1.2 h2.1 h2.2 (by omega)
    have hin : ∀ q ∈ ws.zip said, q.2 = none ∨ onS p.sc q.2 = true := fun q hq => hs.2.2 _ (List.of_mem_zip hq).2
    refine xs_cons (x_fld (ev_callTy T.b_tuple (es_cons (ev_compM (fun q : Int × Option Int => .int (q.1 * tF p.t p.b p.sc dd so q.2)) ["kept", "what"] ["self", "own", "so"] [0, 3, 2] (ei_Z (ez_zipM (ev_fld (ev_var 0) hW T.c_Shifter.cls T.n_Shifter_tops (zl_tops p u ws)) (ev_var 1) (by first | exact Or.inl rfl | exact Or.inr (Or.inl rfl) | exact Or.inr (Or.inr rfl) | assumption) (by first | exact Or.inl rfl | exact Or.inr (Or.inl rfl) | exact Or.inr (Or.inr rfl) | assumption) T.b_zip)) (by rw [sizeLine_eq]; omega) (by exact fun q hq s H fp => ⟨[some _, some _], rfl, (tg_tup (tgs_cons (tg_name 0 (show List.Nodup (["kept", "what", "self", "own", "so"] : List Str) by decide +kernel)) (tgs_cons (tg_name 1 (show List.Nodup (["kept", "what", "self", "own", "so"] : List Str) by decide +kernel)) tgs_nil))), ⟨_, rfl, (ev_bin (ev_var 0) (Ev.evp (ev_call F_times (hr.mono (by decide)) (es_cons (ev_var 2) (es_cons (ev_var 3) (es_cons (ev_var 1) (es_cons (ev_var 4) es_nil)))) ⟨_, _, _, _, _, q.2, _, rfl, hW, hp, hd, hso, hin q hq, rfl, rfl⟩)) (o_mul (hi q hq)))⟩⟩)) es_nil) (c_tuple (by first | exact Or.inr rfl | exact Or.inl (Or.inl rfl) | exact Or.inl (Or.inr (Or.inl rfl)) | exact Or.inl (Or.inr (Or.inr ⟨_, rfl, by first | assumption | rfl⟩))))) (ev_var 0) hW T.c_Shifter.cls T.n_Shifter_tops (by show 8 < 1000; decide) ?_)
    have e1 : ((ws.zip said).map fun q : Int × Option Int => D.int (q.1 * tF p.t p.b p.sc dd so q.2)) = (nextW p.t p.b p.sc dd so said ws).map D.int := by
      unfold nextW
      rw [List.map_map]
      rfl
    rw [e1, sput_tops]
    have h1 := tS_ok (own := dd) hf hd.2
    have hW2 : (O.set jj (some (MO.ins C_Shifter (shiF p (nextW p.t p.b p.sc dd so said ws) u))))[jj]? = some (some (.ins C_Shifter (shiF p (nextW p.t p.b p.sc dd so said ws) u))) := set_at hW
    refine xs_cons (x_fld (ev_bin (ev_fld (ev_var 0) hW2 T.c_Shifter.cls T.n_Shifter_under (zl_under p u _)) (Ev.evp (ev_call F_times_asleep (hr.mono (by decide)) (es_cons (ev_var 0) (es_cons (ev_var 3) es_nil)) ⟨jj, p, u, dd, _, rfl, hW2, hp, hd, rfl, rfl⟩)) (o_mul (mulP hwo.u0 hwo.u1 h1.1 h1.2 (by omega)))) (ev_var 0) hW2 T.c_Shifter.cls T.n_Shifter_under (by show 8 < 1000; decide) ?_)
    rw [List.set_set, sput_under]
    exact xs_nil hR
theorem ok_Shifter_deal {f : Addr} {fd : FuncData} (T : Txt K mg C_Hand C_Weigher C_Shifter C_HeedError C_NoTurn C_NoRule C_NoRow C_NoWay C_NoName C_Twice) (Fn : Fun K "deal" "Shifter.deal" s_Shifter_deal f fd)  : FnOk P w K mg base CX0 1 f fd ["self"] (toSp K (spDealS C_Shifter)) := by
  refine okF (k := 0) Fn sc_Shifter_deal (fun ds O R h => ?_) (fun cdv A outer s H E ds O R hr h => ?_)
  · obtain ⟨_, _, _, _, rfl, _⟩ := h; rfl
  · obtain ⟨jj, p, u, ws, rfl, hW, hp, hl, hR⟩ := h
    have hk := kept_ok hp
    have p1 := hp.h1; have p2 := hp.h2; have p3 := hp.h3; have m1 := hp.m1; have m2 := hp.m2
    refine xs_cons (x_set 1 (EvP.ev (ev_bin (ev_fld (ev_var 0) hW T.c_Shifter.cls T.n_Shifter_share (zl_share p u ws)) (ev_callB T.b_sum (es_cons (ev_fld (ev_var 0) hW T.c_Shifter.cls T.n_Shifter_tops (zl_tops p u ws)) es_nil) (c_sum (Or.inr rfl))) (o_mul (CMul.ok (Or.inl ⟨by omega, by omega⟩)))) ?_) sc_Shifter_deal.nd)
    refine xs_cons (x_set 2 (EvP.ev (ev_bin (ev_fld (ev_var 0) hW T.c_Shifter.cls T.n_Shifter_many (zl_many p u ws)) (ev_bin (ev_fld (ev_var 0) hW T.c_Shifter.cls T.n_Shifter_parts (zl_parts p u ws)) (ev_fld (ev_var 0) hW T.c_Shifter.cls T.n_Shifter_share (zl_share p u ws)) o_sub) (o_mul (CMul.ok (Or.inl ⟨by omega, by omega⟩)))) ?_) sc_Shifter_deal.nd)
    refine xs_cons (x_fld (ev_callTy T.b_tuple (es_cons (ev_compM (fun w : Int => .int (w * (p.m * (p.pa - p.sh)) + p.sh * ws.sum)) ["one"] ["kept", "dealt"] [2, 1] (ei_LF (ev_fld (ev_var 0) hW T.c_Shifter.cls T.n_Shifter_tops (zl_tops p u ws)) (by first | exact Or.inl rfl | exact Or.inr (Or.inl rfl) | exact Or.inr (Or.inr rfl) | assumption)) (by rw [sizeLine_eq]; omega) (by exact fun q hq s H fp => ⟨[some _], rfl, (tg_name 0 (show List.Nodup (["one", "kept", "dealt"] : List Str) by decide +kernel)), ⟨_, rfl, (ev_bin (ev_bin (ev_var 0) (ev_var 1) (o_mul (CMul.ok (Or.inr ⟨by omega, by omega⟩)))) (ev_var 2) o_add)⟩⟩)) es_nil) (c_tuple (by first | exact Or.inr rfl | exact Or.inl (Or.inl rfl) | exact Or.inl (Or.inr (Or.inl rfl)) | exact Or.inl (Or.inr (Or.inr ⟨_, rfl, by first | assumption | rfl⟩))))) (ev_var 0) hW T.c_Shifter.cls T.n_Shifter_tops (by show 8 < 1000; decide) ?_)
    have e1 : (ws.map fun w : Int => D.int (w * (p.m * (p.pa - p.sh)) + p.sh * ws.sum)) = (dealL p ws).map D.int := by
      unfold dealL
      rw [List.map_map]
      rfl
    rw [e1, sput_tops]
    have hW2 : (O.set jj (some (MO.ins C_Shifter (shiF p (dealL p ws) u))))[jj]? = some (some (.ins C_Shifter (shiF p (dealL p ws) u))) := set_at hW
    refine xs_cons (x_fld (ev_bin (ev_bin (ev_fld (ev_var 0) hW2 T.c_Shifter.cls T.n_Shifter_under (zl_under p u _)) (ev_fld (ev_var 0) hW2 T.c_Shifter.cls T.n_Shifter_many (zl_many p u _)) (o_mul (CMul.ok (Or.inr ⟨by omega, by omega⟩)))) (ev_fld (ev_var 0) hW2 T.c_Shifter.cls T.n_Shifter_parts (zl_parts p u _)) (o_mul (CMul.ok (Or.inr ⟨by omega, by omega⟩)))) (ev_var 0) hW2 T.c_Shifter.cls T.n_Shifter_under (by show 8 < 1000; decide) ?_)
    rw [List.set_set, sput_under]
    exact xs_nil hR
theorem ok_Shifter_hear {f : Addr} {fd : FuncData} (T : Txt K mg C_Hand C_Weigher C_Shifter C_HeedError C_NoTurn C_NoRule C_NoRow C_NoWay C_NoName C_Twice) (Fn : Fun K "hear" "Shifter.hear" s_Shifter_hear f fd) (F_check_turn : DefX P w K mg base 5 "check_turn" (spCheckX C_NoTurn)) (M_Shifter_weigh : MethOk P w K mg base C_Shifter 7 "weigh" (spWeighS C_Shifter)) (M_Shifter_deal : MethOk P w K mg base C_Shifter 1 "deal" (spDealS C_Shifter)) : FnOk P w K mg base (CX1 P w) 8 f fd ["self", "said", "so"] (toSpX K (spHearX C_Shifter C_NoTurn)) := by
  refine okX (k := 7) Fn sc_Shifter_hear (fun ds O R RX h => ?_) (fun cdv A outer s H E ds O R RX hr h => ?_)
  · rcases h with ⟨_, _, _, _, _, _, _, rfl, _⟩ | ⟨_, _, _, _, _, _, rfl, _⟩ <;> rfl
  · rcases h with ⟨jj, n, p, u, so, said, ws, rfl, hW, hp, hn, hwo, hl, hs, hso, hR⟩ | ⟨q, p, u, ws, x, y, rfl, hW, hS, hb, hX⟩
    · refine xX_cons (xX_expr (evX_call F_check_turn (hr.mono (by decide)) (es_cons (ev_fld (ev_var 0) hW T.c_Shifter.cls T.n_Shifter_many (zl_many p u ws)) (es_cons (ev_fld (ev_var 0) hW T.c_Shifter.cls T.n_Shifter_scale (zl_scale p u ws)) (es_cons (ev_var 1) (es_cons (ev_var 2) es_nil)))) ⟨p.m, p.sc, .t (said.map toO), .i so, by rw [sv_to]; rfl, sok_of hs, fun _ => ?_, fun z => absurd ((show (saidS p.m p.sc (.t (said.map toO)) && onO p.sc (.i so)) = true by rw [saidS_of hs, onO_of hso]; rfl).symm.trans z) (by decide)⟩))
      refine Exs.x_ ?_
      refine xs_cons (x_expr (ev_meth M_Shifter_weigh (hr.mono (by decide)) (ev_var 0) hW (zl_no p u ws (by decide +kernel)) (es_cons (ev_var 1) (es_cons (ev_var 2) es_nil)) ⟨jj, n, p, u, so, said, ws, rfl, hW, hp, hn, hwo, hl, hs, hso, ?_⟩))
      have hW2 : SAt C_Shifter (O.set jj (some (.ins C_Shifter (shiF p (nextW p.t p.b p.sc (ab (midA said ws - so)) so said ws) (u * tS p.t p.b p.sc (ab (midA said ws - so))))))) jj p (nextW p.t p.b p.sc (ab (midA said ws - so)) so said ws) (u * tS p.t p.b p.sc (ab (midA said ws - so))) := set_at hW
      have hs1 := hs.1
      have h24 := hs.2.1
      have hnl := nextW_len (t := p.t) (b := p.b) (sc := p.sc) (dd := ab (midA said ws - so)) (so := so) (show ws.length = said.length by omega)
      refine xs_cons (x_expr (ev_meth0 M_Shifter_deal (hr.mono (by decide)) (ev_var 0) hW2 (zl_no p _ _ (by decide +kernel)) ⟨jj, p, _, _, rfl, hW2, hp, by omega, ?_⟩))
      rw [List.set_set]
      exact xs_nil hR
    · exact xX_cons (xX_expr (evX_call F_check_turn (hr.mono (by decide)) (es_cons (ev_fld (ev_var 0) hW T.c_Shifter.cls T.n_Shifter_many (zl_many p u ws)) (es_cons (ev_fld (ev_var 0) hW T.c_Shifter.cls T.n_Shifter_scale (zl_scale p u ws)) (es_cons (ev_var 1) (es_cons (ev_var 2) es_nil)))) ⟨p.m, p.sc, x, y, rfl, hS, fun z => absurd (hb.symm.trans z) (by decide), fun _ => hX⟩))
theorem ok_l_cell_at {f : Addr} {fd : FuncData} (T : Txt K mg C_Hand C_Weigher C_Shifter C_HeedError C_NoTurn C_NoRule C_NoRow C_NoWay C_NoName C_Twice) (Fn : Fun K "_law_cell_at" "_law_cell_at" s_l_cell_at f fd) (hm : mg "_law_cell_at" = some (.ref f)) (hb : Binds K fd ["_law_script", "_law_k"] []) : DefOk P w K mg base 1 "_law_cell_at" (pureSp spCell) := by
  refine okD (k := 0) Fn sc_l_cell_at hm hb (fun ds O R h => ?_) (fun cdv A outer s H E ds O R hr h => ?_)
  · obtain ⟨_, ⟨_, _, rfl, _⟩, _⟩ := h; rfl
  · obtain ⟨d, ⟨ns, k, rfl, hk0, rfl⟩, hR⟩ := h
    refine xs_cons (x_if (et_cmp (ev_var 1) (ev_callB T.b_len (es_cons (ev_var 0) es_nil) (c_len (by first | exact Or.inr rfl | exact Or.inl (Or.inl rfl) | exact Or.inl (Or.inr (Or.inl rfl)) | exact Or.inl (Or.inr (Or.inr ⟨_, rfl, by first | assumption | rfl⟩))))) cmp_lt) (fun hk => ?_) (fun hk => ?_))
    · have hk := of_decide_eq_true hk
      rw [List.length_map] at hk
      have hi : k.toNat < ns.length := by omega
      have hz : atI (ns.map D.int) k = some (.int ns[k.toNat]) := atI_map hk0 (List.getElem?_eq_getElem hi)
      refine xs_cons (x_ret (EvP.ev (ev_ixL (ev_var 0) (by first | exact Or.inl rfl | exact Or.inr (Or.inl rfl) | exact Or.inr (Or.inr ⟨_, rfl, by first | assumption | rfl⟩)) (ev_var 1) hz) ?_))
      unfold cellAt at hR
      rw [List.getElem?_eq_getElem hi] at hR
      exact hR
    · have hk := of_decide_eq_false hk
      rw [List.length_map] at hk
      refine xs_nil ?_
      refine xs_cons (x_ret (EvP.ev ev_int ?_))
      unfold cellAt at hR
      rw [List.getElem?_eq_none (by omega)] at hR
      exact hR
theorem ok_l_next {f : Addr} {fd : FuncData} (T : Txt K mg C_Hand C_Weigher C_Shifter C_HeedError C_NoTurn C_NoRule C_NoRow C_NoWay C_NoName C_Twice) (Fn : Fun K "_law_next" "_law_next" s_l_next f fd) (hm : mg "_law_next" = some (.ref f)) (hb : Binds K fd ["_law_x"] []) : DefOk P w K mg base 1 "_law_next" (pureSp spNext) := by
  refine okD (k := 0) Fn sc_l_next hm hb (fun ds O R h => ?_) (fun cdv A outer s H E ds O R hr h => ?_)
  · obtain ⟨_, ⟨_, rfl, _⟩, _⟩ := h; rfl
  · obtain ⟨d, ⟨x, rfl, hx, rfl⟩, hR⟩ := h
    have m1 : IntMulOk x x := mulP (m := 40) (n := 40) hx.1 (by omega) hx.1 (by omega)
    have m2 : IntMulOk 48271 x := mulP (m := 20) (n := 40) (by decide) (by decide) hx.1 (by omega)
    exact xs_cons (x_ret (EvP.ev (ev_bin (ev_bin (ev_bin (ev_bin (ev_var 0) (ev_var 0) (o_mul m1)) (ev_bin ev_int (ev_var 0) (o_mul m2)) o_add) ev_int o_add) ev_int (o_mod (by first | decide | omega))) hR))
theorem ok_l_seed {f : Addr} {fd : FuncData} (T : Txt K mg C_Hand C_Weigher C_Shifter C_HeedError C_NoTurn C_NoRule C_NoRow C_NoWay C_NoName C_Twice) (Fn : Fun K "_law_seed" "_law_seed" s_l_seed f fd) (hm : mg "_law_seed" = some (.ref f)) (hb : Binds K fd ["_law_script", "_law_k"] []) (F_l_cell_at : DefOk P w K mg base 1 "_law_cell_at" (pureSp spCell)) (F_l_next : DefOk P w K mg base 1 "_law_next" (pureSp spNext)) : DefOk P w K mg base 2 "_law_seed" (pureSp spSeedS) := by
  refine okD (k := 1) Fn sc_l_seed hm hb (fun ds O R h => ?_) (fun cdv A outer s H E ds O R hr h => ?_)
  · obtain ⟨_, ⟨_, _, rfl, _⟩, _⟩ := h; rfl
  · obtain ⟨d, ⟨ns, k, rfl, hk, rfl⟩, hR⟩ := h
    have m1 : IntMulOk 69621 k := mulP (m := 20) (n := 40) (by decide) (by decide) hk.1 (by omega)
    have m2 : IntMulOk (69621 * k) k := mulP (m := 40) (n := 40) (by omega) (by omega) hk.1 (by omega)
    refine xs_cons (x_set 2 (EvP.ev (ev_bin (ev_bin (ev_bin (ev_bin (ev_callP F_l_cell_at (hr.mono (by decide)) (es_cons (ev_var 0) (es_cons (ev_var 1) es_nil)) ⟨_, _, rfl, hk.1, rfl⟩) ev_int (o_mod (by first | decide | omega))) (ev_bin (ev_bin ev_int (ev_var 1) (o_mul m1)) (ev_var 1) (o_mul m2)) o_add) ev_int o_add) ev_int (o_mod (by first | decide | omega))) ?_) sc_l_seed.nd)
    unfold seedF at hR
    generalize cellAt ns k = c at hR
    have h1 : 0 ≤ (c % 2147483647 + 69621 * k * k + 5) % 2147483647 ∧ (c % 2147483647 + 69621 * k * k + 5) % 2147483647 < 3000000000 := by omega
    have h2 : 0 ≤ nxt ((c % 2147483647 + 69621 * k * k + 5) % 2147483647) ∧ nxt ((c % 2147483647 + 69621 * k * k + 5) % 2147483647) < 3000000000 := by
      have := nxt_lo ((c % 2147483647 + 69621 * k * k + 5) % 2147483647)
      unfold Lo at this
      omega
    exact xs_cons (x_ret (EvP.ev (ev_callP F_l_next (hr.mono (by decide)) (es_cons (ev_callP F_l_next (hr.mono (by decide)) (es_cons (ev_var 2) es_nil) ⟨_, rfl, h1, rfl⟩) es_nil) ⟨_, rfl, h2, rfl⟩) hR))
theorem ok_l_is_whole {f : Addr} {fd : FuncData} (T : Txt K mg C_Hand C_Weigher C_Shifter C_HeedError C_NoTurn C_NoRule C_NoRow C_NoWay C_NoName C_Twice) (Fn : Fun K "_law_is_whole" "_law_is_whole" s_l_is_whole f fd) (hm : mg "_law_is_whole" = some (.ref f)) (hb : Binds K fd ["_law_thing"] []) : DefOk P w K mg base 1 "_law_is_whole" (pureSp spIsWholeO) := by
  refine okD (k := 0) Fn sc_l_is_whole hm hb (fun ds O R h => ?_) (fun cdv A outer s H E ds O R hr h => ?_)
  · obtain ⟨_, ⟨_, rfl, _⟩, _⟩ := h; rfl
  · obtain ⟨d, ⟨v, rfl, rfl⟩, hR⟩ := h
    refine xs_cons (x_ret (EvP.ev (ev_and (ev_callB T.b_isinstance (es_cons (ev_var 0) (es_cons (ev_type T.b_int) es_nil)) (c_isi_int (ok_ov v))) (fun hbb => (ev_one (ev_not (ev_callB T.b_isinstance (es_cons (ev_var 0) (es_cons (ev_type T.b_bool) es_nil)) (c_isi_bool (ok_ov v))))))) ?_))
    have e : (isiD (ov v) "int" && !isiD (ov v) "bool") = isW v := by cases v <;> rfl
    rw [e]
    exact hR
theorem ok_l_good {f : Addr} {fd : FuncData} (T : Txt K mg C_Hand C_Weigher C_Shifter C_HeedError C_NoTurn C_NoRule C_NoRow C_NoWay C_NoName C_Twice) (Fn : Fun K "_law_good" "_law_good" s_l_good f fd) (hm : mg "_law_good" = some (.ref f)) (hb : Binds K fd ["_law_some"] []) (F_l_is_whole : DefOk P w K mg base 1 "_law_is_whole" (pureSp spIsWholeO)) : DefOk P w K mg base 2 "_law_good" spGood6 := by
  refine okD (k := 1) Fn sc_l_good hm hb (fun ds O R h => ?_) (fun cdv A outer s H E ds O R hr h => ?_)
  · obtain ⟨_, _, rfl, _⟩ := h; rfl
  · obtain ⟨q, os, rfl, hq, hl, hR⟩ := h
    refine xs_cons (x_forM (xs := os.map ov) (ev_var 0) (fun i ρ O' => O' = O ∧ (∃ v, ρ = [some (.ptr q), v, none, none, none, none, none, none]) ∧ ∀ j w, j < i → os[j]? = some w → isW w = true) (fun i ρ' O' h => by rw [h.1]; exact hq) ⟨rfl, ⟨_, rfl⟩, fun j w h => by omega⟩ ?_ ?_)
    · rintro i x ρ O' hx ⟨hO, ⟨v, rfl⟩, hall⟩
      subst hO
      rw [List.getElem?_map] at hx
      obtain ⟨w, hw, rfl⟩ := Option.map_eq_some_iff.mp hx
      refine ⟨_, tg_name 1 sc_l_good.nd, ?_⟩
      refine xs_cons (x_if (et_not (et_bl (ev_callP F_l_is_whole (hr.mono (by decide)) (es_cons (ev_var 1) es_nil) ⟨w, rfl, rfl⟩))) (fun hk => ?_) (fun hk => xs_nil (xs_nil ⟨rfl, ⟨_, rfl⟩, fun j u hj hu => ?_⟩)))
      · rw [okL_not hl (List.mem_of_getElem? hw) (not_t hk)] at hR
        exact xs_cons (x_ret (EvP.ev ev_bl hR))
      · by_cases e : j < i
        · exact hall j u e hu
        · have e : j = i := by omega
          subst e
          cases Option.some.inj (hu.symm.trans hw)
          exact not_f hk
    · rintro ρ O' ⟨hO, ⟨v, rfl⟩, hall⟩
      subst hO
      rw [List.length_map, hl] at hall
      obtain ⟨m, s, t, b, sh, pa, rfl⟩ := six_of hl
      obtain ⟨m, rfl⟩ := isW_i (hall 0 _ (by decide) rfl)
      obtain ⟨s, rfl⟩ := isW_i (hall 1 _ (by decide) rfl)
      obtain ⟨t, rfl⟩ := isW_i (hall 2 _ (by decide) rfl)
      obtain ⟨b, rfl⟩ := isW_i (hall 3 _ (by decide) rfl)
      obtain ⟨sh, rfl⟩ := isW_i (hall 4 _ (by decide) rfl)
      obtain ⟨pa, rfl⟩ := isW_i (hall 5 _ (by decide) rfl)
      refine xs_cons (x_unpL (ev_var 0) (Or.inr (Or.inr ⟨_, rfl, hq⟩)) (tgs_cons (tg_name 2 sc_l_good.nd) (tgs_cons (tg_name 3 sc_l_good.nd) (tgs_cons (tg_name 4 sc_l_good.nd) (tgs_cons (tg_name 5 sc_l_good.nd) (tgs_cons (tg_name 6 sc_l_good.nd) (tgs_cons (tg_name 7 sc_l_good.nd) tgs_nil)))))) ?_)
      rw [okL_ii] at hR
      refine xs_cons (x_if (EvW.t (ew_or (et_not (et_chain ev_int (ev_var 2) ev_int cmp_le (fun hbb => cmp_le))) (fun hbb => (ew_or (et_not (et_chain ev_int (ev_var 3) ev_int cmp_le (fun hbb => cmp_le))) (fun hbb => (ew_or (et_not (et_chain ev_int (ev_var 4) (ev_var 5) cmp_le (fun hbb => cmp_lt))) (fun hbb => (ew_or1 (et_cmp (ev_var 5) ev_int cmp_gt))))))))) (fun hk => ?_) (fun hk => xs_nil ?_))
      · have hk : ((!(decide (1 ≤ m) && decide (m ≤ 24))) || ((!(decide (1 ≤ s) && decide (s ≤ 10))) || ((!(decide (0 ≤ t) && decide (t < b))) || decide (100 < b)))) = true := hk
        rw [hk] at hR
        exact xs_cons (x_ret (EvP.ev ev_bl hR))
      · have hk : ((!(decide (1 ≤ m) && decide (m ≤ 24))) || ((!(decide (1 ≤ s) && decide (s ≤ 10))) || ((!(decide (0 ≤ t) && decide (t < b))) || decide (100 < b)))) = false := hk
        rw [hk] at hR
        exact xs_cons (x_ret (EvP.ev (ev_and (ev_chain ev_int (ev_var 6) (ev_var 7) cmp_le (fun hbb => cmp_lt)) (fun hbb => (ev_one (ev_cmp (ev_var 7) ev_int cmp_le)))) hR))
theorem ok_l_odd {f : Addr} {fd : FuncData} (T : Txt K mg C_Hand C_Weigher C_Shifter C_HeedError C_NoTurn C_NoRule C_NoRow C_NoWay C_NoName C_Twice) (Fn : Fun K "_law_odd" "_law_odd" s_l_odd f fd) (hm : mg "_law_odd" = some (.ref f)) (hb : Binds K fd ["_law_some", "_law_x", "_law_cell"] []) (F_l_is_whole : DefOk P w K mg base 1 "_law_is_whole" (pureSp spIsWholeO)) : DefOk P w K mg base 2 "_law_odd" spOdd6 := by
  refine okD (k := 1) Fn sc_l_odd hm hb (fun ds O R h => ?_) (fun cdv A outer s H E ds O R hr h => ?_)
  · obtain ⟨_, _, _, _, rfl, _⟩ := h; rfl
  · obtain ⟨q, os, x, c, rfl, hq, hl, hR⟩ := h
    refine xs_cons (x_set 3 (EvP.ev (ev_bin (ev_var 1) ev_int (o_mod (by first | decide | omega))) ?_) sc_l_odd.nd)
    have h6 : 0 ≤ x % 6 ∧ x % 6 < 6 := by omega
    obtain ⟨w, hw⟩ := sw_ov hl h6
    refine xs_cons (x_set 4 (EvP.ev (ev_ixL (ev_var 0) (by first | exact Or.inl rfl | exact Or.inr (Or.inl rfl) | exact Or.inr (Or.inr ⟨_, rfl, by first | assumption | rfl⟩)) (ev_ixL (ev_lst (es_cons ev_int (es_cons ev_int (es_cons ev_int (es_cons ev_int (es_cons ev_int (es_cons ev_int es_nil))))))) (by first | exact Or.inl rfl | exact Or.inr (Or.inl rfl) | exact Or.inr (Or.inr ⟨_, rfl, by first | assumption | rfl⟩)) (ev_var 3) (sw_at h6)) hw) ?_) sc_l_odd.nd)
    refine xs_cons (x_set 5 (EvP.ev (ev_bin (ev_bin (ev_var 1) ev_int (o_div ⟨(by first | decide | omega), (by first | decide | omega)⟩)) ev_int (o_mod (by first | decide | omega))) ?_) sc_l_odd.nd)
    have hy : 0 ≤ x / 6 % 16 := by omega
    generalize x / 6 % 16 = y at hy
    refine xs_cons (x_if (et_cmp (ev_var 5) ev_int cmp_lt) (fun hk => ?_) (fun hk => xs_nil ?_))
    · obtain ⟨n, hn⟩ := nine_at ⟨hy, of_decide_eq_true hk⟩
      exact xs_cons (x_ret (EvP.ev (ev_ixL (ev_lst (es_cons ev_int (es_cons (ev_neg ev_int) (es_cons ev_int (es_cons ev_int (es_cons ev_int (es_cons ev_int (es_cons ev_int (es_cons ev_int (es_cons ev_int es_nil)))))))))) (by first | exact Or.inl rfl | exact Or.inr (Or.inl rfl) | exact Or.inr (Or.inr ⟨_, rfl, by first | assumption | rfl⟩)) (ev_var 5) hn) (hR (.i n))))
    refine xs_cons (x_if (EvW.t (ew_and (et_cmp (ev_var 5) ev_int cmp_eqI) (fun hbb => (ew_and1 (et_bl (ev_callP F_l_is_whole (hr.mono (by decide)) (es_cons (ev_var 4) es_nil) ⟨w, rfl, rfl⟩)))))) (fun hk => ?_) (fun hk => xs_nil ?_))
    · have hk : (decide (y = 9) && isW w) = true := hk
      rw [Bool.and_eq_true] at hk
      obtain ⟨n, rfl⟩ := isW_i hk.2
      exact xs_cons (x_ret (EvP.ev (ev_bin (ev_bin (ev_var 4) (ev_bin (ev_bin (ev_var 1) ev_int (o_div ⟨(by first | decide | omega), (by first | decide | omega)⟩)) ev_int (o_mod (by first | decide | omega))) o_add) ev_int o_sub) (hR (.i _))))
    refine xs_cons (x_if (et_cmp (ev_var 5) ev_int cmp_eqI) (fun hk => ?_) (fun hk => xs_nil ?_))
    · exact xs_cons (x_ret (EvP.ev (ev_ixL (ev_lst (es_cons (ev_bin (ev_var 2) (ev_bin ev_int ev_int (o_pow ⟨(by first | decide | omega), (by first | decide | omega), by decide⟩)) (o_mod (by decide))) (es_cons (ev_bin ev_int (ev_bin (ev_var 2) (ev_bin ev_int ev_int (o_pow ⟨(by first | decide | omega), (by first | decide | omega), by decide⟩)) (o_mod (by decide))) o_sub) es_nil))) (by first | exact Or.inl rfl | exact Or.inr (Or.inl rfl) | exact Or.inr (Or.inr ⟨_, rfl, by first | assumption | rfl⟩)) (ev_bin (ev_bin (ev_var 1) ev_int (o_div ⟨(by first | decide | omega), (by first | decide | omega)⟩)) ev_int (o_mod (by first | decide | omega))) (twosR (by omega))) (hR (.i _))))
    obtain ⟨v, hv⟩ := three_at y
    exact xs_cons (x_ret (EvP.ev (ev_ixL (ev_lst (es_cons ev_bl (es_cons ev_bl (es_cons ev_int es_nil)))) (by first | exact Or.inl rfl | exact Or.inr (Or.inl rfl) | exact Or.inr (Or.inr ⟨_, rfl, by first | assumption | rfl⟩)) (ev_bin (ev_var 5) ev_int (o_mod (by first | decide | omega))) hv) (hR v)))
theorem ok_l_which {f : Addr} {fd : FuncData} (T : Txt K mg C_Hand C_Weigher C_Shifter C_HeedError C_NoTurn C_NoRule C_NoRow C_NoWay C_NoName C_Twice) (Fn : Fun K "_law_which" "_law_which" s_l_which f fd) (hm : mg "_law_which" = some (.ref f)) (hb : Binds K fd ["_law_error"] []) : DefH P w K mg base 1 "_law_which" (spWhich C_NoTurn C_NoRule) := by
  refine okH (k := 0) Fn sc_l_which hm hb (fun ds O R h => ?_) (fun cdv A outer s H ds O R hr h => ?_)
  · obtain ⟨_, _, _, rfl, _⟩ := h; rfl
  · obtain ⟨q, C, fs, rfl, hq, hk⟩ := h
    rcases hk with ⟨rfl, hR⟩ | ⟨rfl, hR⟩
    · refine xs_cons (x_set 1 (EvP.ev (ev_lst (es_cons (ev_isX T.b_isinstance (ev_var 0) hq T.t_NoTurn T.m_NoTurn T.i_NoTurn_NoTurn) (es_cons (ev_isX T.b_isinstance (ev_var 0) hq T.t_NoTurn T.m_NoRow T.i_NoTurn_NoRow) (es_cons (ev_isX T.b_isinstance (ev_var 0) hq T.t_NoTurn T.m_NoRule T.i_NoTurn_NoRule) es_nil)))) ?_) sc_l_which.nd)
      refine xs_cons (x_set 1 (EvP.ev (ev_bin (ev_var 1) (ev_lst (es_cons (ev_isX T.b_isinstance (ev_var 0) hq T.t_NoTurn T.m_NoWay T.i_NoTurn_NoWay) (es_cons (ev_isX T.b_isinstance (ev_var 0) hq T.t_NoTurn T.m_NoName T.i_NoTurn_NoName) (es_cons (ev_isX T.b_isinstance (ev_var 0) hq T.t_NoTurn T.m_Twice T.i_NoTurn_Twice) es_nil)))) (o_cat (Nat.le_of_ble_eq_true rfl))) ?_) sc_l_which.nd)
      refine xs_cons (x_if (k := false || (!true)) (EvW.t (ew_or (EvT.cast (et_cmp (ev_countB (bs := [true, false, false, false, false, false]) (ev_var 1) (Or.inl rfl) ev_bl) ev_int cmp_neI) rfl) (fun _ => ew_or1 (et_not (et_bl (ev_isXB T.b_isinstance (ev_var 0) hq T.t_NoTurn T.b_ValueError T.i_NoTurn_ValueError)))))) (fun hk => by cases hk) (fun _ => xs_nil ?_))
      exact xs_cons (x_ret (EvP.ev (ev_ixL (ev_lst (es_cons ev_str (es_cons ev_str (es_cons ev_str (es_cons ev_str (es_cons ev_str (es_cons ev_str es_nil))))))) (Or.inl rfl) (ev_idxB (bs := [true, false, false, false, false, false]) (ev_var 1) (Or.inl rfl) ev_bl (by decide)) rfl) hR))
    · refine xs_cons (x_set 1 (EvP.ev (ev_lst (es_cons (ev_isX T.b_isinstance (ev_var 0) hq T.t_NoRule T.m_NoTurn T.i_NoRule_NoTurn) (es_cons (ev_isX T.b_isinstance (ev_var 0) hq T.t_NoRule T.m_NoRow T.i_NoRule_NoRow) (es_cons (ev_isX T.b_isinstance (ev_var 0) hq T.t_NoRule T.m_NoRule T.i_NoRule_NoRule) es_nil)))) ?_) sc_l_which.nd)
      refine xs_cons (x_set 1 (EvP.ev (ev_bin (ev_var 1) (ev_lst (es_cons (ev_isX T.b_isinstance (ev_var 0) hq T.t_NoRule T.m_NoWay T.i_NoRule_NoWay) (es_cons (ev_isX T.b_isinstance (ev_var 0) hq T.t_NoRule T.m_NoName T.i_NoRule_NoName) (es_cons (ev_isX T.b_isinstance (ev_var 0) hq T.t_NoRule T.m_Twice T.i_NoRule_Twice) es_nil)))) (o_cat (Nat.le_of_ble_eq_true rfl))) ?_) sc_l_which.nd)
      refine xs_cons (x_if (k := false || (!true)) (EvW.t (ew_or (EvT.cast (et_cmp (ev_countB (bs := [false, false, true, false, false, false]) (ev_var 1) (Or.inl rfl) ev_bl) ev_int cmp_neI) rfl) (fun _ => ew_or1 (et_not (et_bl (ev_isXB T.b_isinstance (ev_var 0) hq T.t_NoRule T.b_ValueError T.i_NoRule_ValueError)))))) (fun hk => by cases hk) (fun _ => xs_nil ?_))
      exact xs_cons (x_ret (EvP.ev (ev_ixL (ev_lst (es_cons ev_str (es_cons ev_str (es_cons ev_str (es_cons ev_str (es_cons ev_str (es_cons ev_str es_nil))))))) (Or.inl rfl) (ev_idxB (bs := [false, false, true, false, false, false]) (ev_var 1) (Or.inl rfl) ev_bl (by decide)) rfl) hR))
theorem ok_l_made {f : Addr} {fd : FuncData} (T : Txt K mg C_Hand C_Weigher C_Shifter C_HeedError C_NoTurn C_NoRule C_NoRow C_NoWay C_NoName C_Twice) (Fn : Fun K "_law_made" "_law_made" s_l_made f fd) (hm : mg "_law_made" = some (.ref f)) (hb : Binds K fd ["_law_some"] []) (K_Shifter : MakeX P w K mg base C_Shifter 7 "Shifter" (spInitSX C_Shifter C_NoRule)) (F_l_which : DefH P w K mg base 1 "_law_which" (spWhich C_NoTurn C_NoRule)) : DefOk P w K mg base 10 "_law_made" (spMade6 C_Shifter) := by
  refine okD (k := 9) Fn sc_l_made hm hb (fun ds O R h => ?_) (fun cdv A outer s H E ds O R hr h => ?_)
  · obtain ⟨_, _, rfl, _⟩ := h; rfl
  · obtain ⟨q, os, rfl, hq, hl, h1, h2⟩ := h
    obtain ⟨m, s, t, b, sh, pa, rfl⟩ := six_of hl
    refine xs_cons (x_set 1 (EvP.ev ev_str ?_) sc_l_made.nd)
    refine xs_cons (x_set 2 (EvP.ev ev_non ?_) sc_l_made.nd)
    refine xs_cons (x_try 3 sc_l_made.nd T.m_HeedError (RX := fun C fs ρ O' => C = C_NoRule ∧ fs = [] ∧ ρ = [some (.ptr q), some (.str "none"), some .non, none] ∧ (∃ Y, O' = O ++ Y) ∧ ok6 m s t b sh pa = false) (fun pn E => ?_) (fun v C fs ρ' O' hx => ?_))
    · refine xX_cons (xX_set 2 (evX_make K_Shifter (hr.mono (by decide)) (es_cons (ev_ixL (ev_var 0) (by first | exact Or.inl rfl | exact Or.inr (Or.inl rfl) | exact Or.inr (Or.inr ⟨_, rfl, by first | assumption | rfl⟩)) ev_int rfl) (es_cons (ev_ixL (ev_var 0) (by first | exact Or.inl rfl | exact Or.inr (Or.inl rfl) | exact Or.inr (Or.inr ⟨_, rfl, by first | assumption | rfl⟩)) ev_int rfl) (es_cons (ev_ixL (ev_var 0) (by first | exact Or.inl rfl | exact Or.inr (Or.inl rfl) | exact Or.inr (Or.inr ⟨_, rfl, by first | assumption | rfl⟩)) ev_int rfl) (es_cons (ev_ixL (ev_var 0) (by first | exact Or.inl rfl | exact Or.inr (Or.inl rfl) | exact Or.inr (Or.inr ⟨_, rfl, by first | assumption | rfl⟩)) ev_int rfl) (es_cons (ev_ixL (ev_var 0) (by first | exact Or.inl rfl | exact Or.inr (Or.inl rfl) | exact Or.inr (Or.inr ⟨_, rfl, by first | assumption | rfl⟩)) ev_int rfl) (es_cons (ev_ixL (ev_var 0) (by first | exact Or.inl rfl | exact Or.inr (Or.inl rfl) | exact Or.inr (Or.inr ⟨_, rfl, by first | assumption | rfl⟩)) ev_int rfl) es_nil)))))) ⟨O.length, m, s, t, b, sh, pa, rfl, st0, fun p ep hp => ⟨rfl, ?_⟩, fun hk => ⟨rfl, rfl, rfl, ⟨_, rfl⟩, hk⟩⟩) sc_l_made.nd)
      rw [ss0]
      exact xX_nil (xs_cons (x_ret (EvP.ev (ev_tup (es_cons (ev_var 1) (es_cons (ev_var 2) es_nil))) (h1 p ep hp))))
    · obtain ⟨rfl, rfl, rfl, ⟨Y, rfl⟩, hk⟩ := hx
      refine ⟨T.x_NoRule_HeedError, ?_⟩
      refine xs_cons (x_set 1 (ev_callH F_l_which (hr.mono (by decide)) (es_cons (ev_var 3) es_nil) ⟨_, _, _, rfl, st0, .inr ⟨rfl, ?_⟩⟩) sc_l_made.nd)
      refine xs_nil ?_
      refine xs_cons (x_ret (EvP.ev (ev_tup (es_cons (ev_var 1) (es_cons (ev_var 2) es_nil))) ?_))
      rw [List.append_assoc]
      exact h2 hk _
theorem ok_l_say {f : Addr} {fd : FuncData} (T : Txt K mg C_Hand C_Weigher C_Shifter C_HeedError C_NoTurn C_NoRule C_NoRow C_NoWay C_NoName C_Twice) (Fn : Fun K "_law_say" "_law_say" s_l_say f fd) (hm : mg "_law_say" = some (.ref f)) (hb : Binds K fd ["_law_hand", "_law_said"] []) (M_Shifter_say : MethX P w K mg base C_Shifter 6 "say" (spSayX C_Shifter C_NoTurn)) (F_l_which : DefH P w K mg base 1 "_law_which" (spWhich C_NoTurn C_NoRule)) : DefOk P w K mg base 10 "_law_say" (spSay6 C_Shifter) := by
  refine okD (k := 9) Fn sc_l_say hm hb (fun ds O R h => ?_) (fun cdv A outer s H E ds O R hr h => ?_)
  · obtain ⟨_, _, _, _, _, rfl, _⟩ := h; rfl
  · obtain ⟨q, p, u, ws, x, rfl, hW, hp, hl, hw, hS, hR⟩ := h
    refine xs_keep ?_
    refine xs_cons (x_set 2 (EvP.ev ev_str ?_) sc_l_say.nd)
    refine xs_cons (x_set 3 (EvP.ev ev_int ?_) sc_l_say.nd)
    cases hb : saidS p.m p.sc x with
    | true =>
      rw [hb] at hR
      obtain ⟨said, rfl, hs⟩ := said_inv hp.m2 hb
      refine xs_cons (x_try 4 sc_l_say.nd T.m_HeedError (RX := fun _ _ _ _ => False) (fun pn E => ?_) (fun v C fs ρ' O' hx => hx.elim))
      refine xX_cons (xX_expr (evX_meth M_Shifter_say (hr.mono (by decide)) (ev_var 0) hW (zl_no p u ws (by decide +kernel)) (es_cons (ev_var 1) es_nil) (.inl ⟨q, p, u, ws, said, by rw [sv_to], hW, hp, hs, hl, hw, ?_⟩)))
      refine xX_nil ?_
      refine xs_cons (x_ret (EvP.ev (ev_tup (es_cons (ev_var 2) (es_cons (ev_and (ev_cmp (ev_var 3) ev_int cmp_eqI) (fun hbb => (ev_one (ev_not (ev_callB T.b_isinstance (es_cons (ev_var 3) (es_cons (ev_type T.b_bool) es_nil)) (c_isi_bool rfl)))))) es_nil))) ?_))
      exact ⟨⟨[], (List.append_nil _).symm⟩, rfl, hR⟩
    | false =>
      rw [hb] at hR
      refine xs_cons (x_try 4 sc_l_say.nd T.m_HeedError (RX := fun C fs ρ O' => C = C_NoTurn ∧ fs = [(("number" : Str), D.int 0)] ∧ ρ = [some (.ptr q), some (sv x), some (.str "none"), some (.int 0), none] ∧ O' = O) (fun pn E => ?_) (fun v C fs ρ' O' hx => ?_))
      · exact xX_cons (xX_expr (evX_meth M_Shifter_say (hr.mono (by decide)) (ev_var 0) hW (zl_no p u ws (by decide +kernel)) (es_cons (ev_var 1) es_nil) (.inr ⟨q, p, u, ws, x, rfl, hW, hS, hb, ⟨rfl, rfl, rfl, rfl⟩⟩)))
      · obtain ⟨rfl, rfl, rfl, rfl⟩ := hx
        refine ⟨T.x_NoTurn_HeedError, ?_⟩
        refine xs_cons (x_set 2 (ev_callH F_l_which (hr.mono (by decide)) (es_cons (ev_var 4) es_nil) ⟨_, _, _, rfl, st0, .inl ⟨rfl, ?_⟩⟩) sc_l_say.nd)
        refine xs_cons (x_set 3 (EvP.ev (ev_fldX (ev_var 4) st0 T.t_NoTurn T.n_NoTurn_number rfl) ?_) sc_l_say.nd)
        refine xs_nil ?_
        refine xs_cons (x_ret (EvP.ev (ev_tup (es_cons (ev_var 2) (es_cons (ev_and (ev_cmp (ev_var 3) ev_int cmp_eqI) (fun hbb => (ev_one (ev_not (ev_callB T.b_isinstance (es_cons (ev_var 3) (es_cons (ev_type T.b_bool) es_nil)) (c_isi_bool rfl)))))) es_nil))) ?_))
        exact ⟨⟨_, rfl⟩, rfl, hR⟩
theorem ok_l_hear {f : Addr} {fd : FuncData} (T : Txt K mg C_Hand C_Weigher C_Shifter C_HeedError C_NoTurn C_NoRule C_NoRow C_NoWay C_NoName C_Twice) (Fn : Fun K "_law_hear" "_law_hear" s_l_hear f fd) (hm : mg "_law_hear" = some (.ref f)) (hb : Binds K fd ["_law_hand", "_law_said", "_law_so"] []) (M_Shifter_hear : MethX P w K mg base C_Shifter 8 "hear" (spHearX C_Shifter C_NoTurn)) (F_l_which : DefH P w K mg base 1 "_law_which" (spWhich C_NoTurn C_NoRule)) : DefOk P w K mg base 12 "_law_hear" (spHear6 C_Shifter) := by
  refine okD (k := 11) Fn sc_l_hear hm hb (fun ds O R h => ?_) (fun cdv A outer s H E ds O R hr h => ?_)
  · obtain ⟨_, _, _, _, _, _, _, rfl, _⟩ := h; rfl
  · obtain ⟨q, n, p, u, ws, x, y, rfl, hW, hp, hn, hwo, hl, hS, h1, h2⟩ := h
    refine xs_cons (x_set 3 (EvP.ev ev_str ?_) sc_l_hear.nd)
    refine xs_cons (x_set 4 (EvP.ev ev_int ?_) sc_l_hear.nd)
    cases hb : (saidS p.m p.sc x && onO p.sc y) with
    | true =>
      have hb2 := hb
      rw [Bool.and_eq_true] at hb2
      obtain ⟨said, rfl, hs⟩ := said_inv hp.m2 hb2.1
      obtain ⟨so, rfl, hso⟩ := onO_i hb2.2
      have h0 : Wok ws := fun w hw => (hwo.w w hw).1
      have hs1 := hs.1
      have h24 := hs.2.1
      have hd := ab_ok (midA_on (ws := ws) hs (by have := hp.f.s1; omega) h0) hso
      have hx2 := wOkS_next hp hwo (show ws.length = said.length by omega) (by omega) hs.2.2 hso hd
      have hln := deal_len p (nextW p.t p.b p.sc (ab (midA said ws - so)) so said ws)
      rw [nextW_len (show ws.length = said.length by omega)] at hln
      refine xs_cons (x_try 5 sc_l_hear.nd T.m_HeedError (RX := fun _ _ _ _ => False) (fun pn E => ?_) (fun v C fs ρ' O' hx => hx.elim))
      refine xX_cons (xX_expr (evX_meth M_Shifter_hear (hr.mono (by decide)) (ev_var 0) hW (zl_no p u ws (by decide +kernel)) (es_cons (ev_var 1) (es_cons (ev_var 2) es_nil)) (.inl ⟨q, n, p, u, so, said, ws, by rw [sv_to]; rfl, hW, hp, hn, hwo, hl, hs, hso, ?_⟩)))
      refine xX_nil ?_
      refine xs_cons (x_ret (EvP.ev (ev_tup (es_cons (ev_var 3) (es_cons (ev_and (ev_cmp (ev_var 4) ev_int cmp_eqI) (fun hbb => (ev_one (ev_not (ev_callB T.b_isinstance (es_cons (ev_var 4) (es_cons (ev_type T.b_bool) es_nil)) (c_isi_bool rfl)))))) es_nil))) ?_))
      exact h1 hb _ _ hx2 hln
    | false =>
      refine xs_cons (x_try 5 sc_l_hear.nd T.m_HeedError (RX := fun C fs ρ O' => C = C_NoTurn ∧ fs = [(("number" : Str), D.int 0)] ∧ ρ = [some (.ptr q), some (sv x), some (ov y), some (.str "none"), some (.int 0), none] ∧ O' = O) (fun pn E => ?_) (fun v C fs ρ' O' hx => ?_))
      · exact xX_cons (xX_expr (evX_meth M_Shifter_hear (hr.mono (by decide)) (ev_var 0) hW (zl_no p u ws (by decide +kernel)) (es_cons (ev_var 1) (es_cons (ev_var 2) es_nil)) (.inr ⟨q, p, u, ws, x, y, rfl, hW, hS, hb, ⟨rfl, rfl, rfl, rfl⟩⟩)))
      · obtain ⟨rfl, rfl, rfl, rfl⟩ := hx
        refine ⟨T.x_NoTurn_HeedError, ?_⟩
        refine xs_cons (x_set 3 (ev_callH F_l_which (hr.mono (by decide)) (es_cons (ev_var 5) es_nil) ⟨_, _, _, rfl, st0, .inl ⟨rfl, ?_⟩⟩) sc_l_hear.nd)
        refine xs_cons (x_set 4 (EvP.ev (ev_fldX (ev_var 5) st0 T.t_NoTurn T.n_NoTurn_number rfl) ?_) sc_l_hear.nd)
        refine xs_nil ?_
        refine xs_cons (x_ret (EvP.ev (ev_tup (es_cons (ev_var 3) (es_cons (ev_and (ev_cmp (ev_var 4) ev_int cmp_eqI) (fun hbb => (ev_one (ev_not (ev_callB T.b_isinstance (es_cons (ev_var 4) (es_cons (ev_type T.b_bool) es_nil)) (c_isi_bool rfl)))))) es_nil))) ?_))
        exact h2 hb _
theorem ok_l_on_scale {f : Addr} {fd : FuncData} (T : Txt K mg C_Hand C_Weigher C_Shifter C_HeedError C_NoTurn C_NoRule C_NoRow C_NoWay C_NoName C_Twice) (Fn : Fun K "_law_on_scale" "_law_on_scale" s_l_on_scale f fd) (hm : mg "_law_on_scale" = some (.ref f)) (hb : Binds K fd ["_law_thing", "_law_scale"] []) (F_l_is_whole : DefOk P w K mg base 1 "_law_is_whole" (pureSp spIsWholeO)) : DefOk P w K mg base 2 "_law_on_scale" (pureSp spOnL) := by
  refine okD (k := 1) Fn sc_l_on_scale hm hb (fun ds O R h => ?_) (fun cdv A outer s H E ds O R hr h => ?_)
  · obtain ⟨_, ⟨_, _, rfl, _⟩, _⟩ := h; rfl
  · obtain ⟨d, ⟨v, s, rfl, rfl⟩, hR⟩ := h
    cases hw : isW v with
    | false =>
      have e : onO s v = false := by cases v <;> first | rfl | cases hw
      rw [e] at hR
      exact xs_cons (x_ret (EvP.ev (ev_and (k := false) (l := false) (EvP.cast (ev_callP F_l_is_whole (hr.mono (by decide)) (es_cons (ev_var 0) es_nil) ⟨v, rfl, rfl⟩) (congrArg D.bl hw)) (fun hbb => by cases hbb)) hR))
    | true =>
      obtain ⟨n, rfl⟩ := isW_i hw
      exact xs_cons (x_ret (EvP.ev (ev_and (ev_callP F_l_is_whole (hr.mono (by decide)) (es_cons (ev_var 0) es_nil) ⟨.i n, rfl, rfl⟩) (fun hbb => (ev_one (ev_chain ev_int (ev_var 0) (ev_var 1) cmp_le (fun hbb => cmp_le))))) hR))
theorem ok_l_turn_due {f : Addr} {fd : FuncData} (T : Txt K mg C_Hand C_Weigher C_Shifter C_HeedError C_NoTurn C_NoRule C_NoRow C_NoWay C_NoName C_Twice) (Fn : Fun K "_law_turn_due" "_law_turn_due" s_l_turn_due f fd) (hm : mg "_law_turn_due" = some (.ref f)) (hb : Binds K fd ["_law_hand", "_law_said", "_law_so"] []) (F_l_on_scale : DefOk P w K mg base 2 "_law_on_scale" (pureSp spOnL)) : DefOk P w K mg base 3 "_law_turn_due" (spDue6 C_Shifter) := by
  refine okD (k := 2) Fn sc_l_turn_due hm hb (fun ds O R h => ?_) (fun cdv A outer s H E ds O R hr h => ?_)
  · obtain ⟨_, _, _, _, _, _, rfl, _⟩ := h; rfl
  · obtain ⟨jj, p, u, ws, x, y, rfl, hW, hS, hR⟩ := h
    cases x with
    | o v =>
      have hT : isiD (ov v) "tuple" = false := by cases v <;> first | rfl | cases hS
      refine xs_cons (x_if (EvW.t (ew_or (k := true) (l := false) (EvT.cast (et_not (et_bl (ev_callB T.b_isinstance (es_cons (ev_var 1) (es_cons (ev_type T.b_tuple) es_nil)) (c_isi_tuple (ok_ov v))))) (by rw [hT]; rfl)) (fun hbb => by cases hbb))) (fun hk => ?_) (fun hk => by cases hk))
      exact xs_cons (x_ret (EvP.ev ev_str hR))
    | t xs =>
      have hS : xs.length ≤ 100 := hS
      refine xs_cons (x_if (EvW.t (ew_or (et_not (et_bl (ev_callB T.b_isinstance (es_cons (ev_var 1) (es_cons (ev_type T.b_tuple) es_nil)) (c_isi_tuple rfl)))) (fun hbb => (ew_or (et_cmp (ev_callB T.b_len (es_cons (ev_var 1) es_nil) (c_len (by first | exact Or.inr rfl | exact Or.inl (Or.inl rfl) | exact Or.inl (Or.inr (Or.inl rfl)) | exact Or.inl (Or.inr (Or.inr ⟨_, rfl, by first | assumption | rfl⟩))))) (ev_fld (ev_var 0) hW T.c_Shifter.cls T.n_Shifter_many (zl_many p u ws)) cmp_neI) (fun hbb => (ew_or1 (et_not (et_bl (ev_callP F_l_on_scale (hr.mono (by decide)) (es_cons (ev_var 2) (es_cons (ev_fld (ev_var 0) hW T.c_Shifter.cls T.n_Shifter_scale (zl_scale p u ws)) es_nil)) ⟨y, p.sc, rfl, rfl⟩))))))))) (fun hk => ?_) (fun hk => xs_nil ?_))
      · have hk : (!true || (!decide ((((xs.map ov).length : Nat) : Int) = p.m) || !onO p.sc y)) = true := hk
        have e : (saidS p.m p.sc (.t xs) && onO p.sc y) = false := by
          cases hy : onO p.sc y with
          | false => exact Bool.and_false _
          | true =>
            rw [hy] at hk
            rw [said_len fun z => ?_]; rfl
            rw [List.length_map, decide_eq_true z] at hk
            cases hk
        rw [e] at hR
        exact xs_cons (x_ret (EvP.ev ev_str hR))
      have hk : (!true || (!decide ((((xs.map ov).length : Nat) : Int) = p.m) || !onO p.sc y)) = false := hk
      have hy : onO p.sc y = true := by cases hy : onO p.sc y with | true => rfl | false => rw [hy, Bool.not_false, Bool.or_true] at hk; cases hk
      have hz : (xs.length : Int) = p.m := by
        by_cases z : (xs.length : Int) = p.m
        · exact z
        · rw [List.length_map, decide_eq_false z] at hk; cases hk
      refine xs_cons (x_for (ei_LF (ev_var 1) (by first | exact Or.inl rfl | exact Or.inr (Or.inl rfl) | exact Or.inr (Or.inr rfl) | assumption)) (fun i ρ O' => O' = O ∧ (∃ v, ρ = [some (.ptr jj), some (.tup (xs.map ov)), some (ov y), v]) ∧ ∀ j w, j < i → xs[j]? = some w → okW p.sc w = true) ⟨rfl, ⟨_, rfl⟩, fun j w h => by omega⟩ ?_ ?_)
      · rintro i z ρ O' hx ⟨hO, ⟨v, rfl⟩, hall⟩
        subst hO
        rw [List.getElem?_map] at hx
        obtain ⟨w, hw, rfl⟩ := Option.map_eq_some_iff.mp hx
        refine ⟨_, tg_name 3 sc_l_turn_due.nd, ?_⟩
        refine xs_cons (x_if (EvW.t (ew_and (et_cmp (ev_var 3) ev_non cmp_isnot) (fun hbb => (ew_and1 (et_not (et_bl (ev_callP F_l_on_scale (hr.mono (by decide)) (es_cons (ev_var 3) (es_cons (ev_fld (ev_var 0) hW T.c_Shifter.cls T.n_Shifter_scale (zl_scale p u ws)) es_nil)) ⟨w, p.sc, rfl, rfl⟩))))))) (fun hk => ?_) (fun hk => xs_nil (xs_nil ⟨rfl, ⟨_, rfl⟩, fun j u hj hu => ?_⟩)))
        · have hk : (!isN (ov w) && !onO p.sc w) = true := hk
          have hb : okW p.sc w = false := by
            unfold okW
            rw [Bool.and_eq_true] at hk
            rw [not_t hk.1, not_t hk.2]; rfl
          have e : saidS p.m p.sc (.t xs) = false := said_mem (List.mem_of_getElem? hw) hb
          rw [e] at hR
          exact xs_cons (x_ret (EvP.ev ev_str hR))
        · by_cases e : j < i
          · exact hall j u e hu
          · have e : j = i := by omega
            subst e
            cases Option.some.inj (hu.symm.trans hw)
            have hk : (!isN (ov w) && !onO p.sc w) = false := hk
            unfold okW
            cases h1 : isN (ov w) <;> cases h2 : onO p.sc w <;> rw [h1, h2] at hk <;> first | rfl | cases hk
      · rintro ρ O' ⟨hO, ⟨v, rfl⟩, hall⟩
        subst hO
        rw [List.length_map] at hall
        have e : (saidS p.m p.sc (.t xs) && onO p.sc y) = true := by
          rw [hy, Bool.and_true]
          show (decide ((xs.length : Int) = p.m) && xs.all (okW p.sc)) = true
          rw [decide_eq_true hz, Bool.true_and]
          refine List.all_eq_true.mpr fun w hw => ?_
          obtain ⟨j, hj, e⟩ := List.mem_iff_getElem.mp hw
          exact hall j w hj (by rw [List.getElem?_eq_getElem hj, e])
        rw [e] at hR
        exact xs_cons (x_ret (EvP.ev ev_str hR))
theorem ok_l_heard {f : Addr} {fd : FuncData} (T : Txt K mg C_Hand C_Weigher C_Shifter C_HeedError C_NoTurn C_NoRule C_NoRow C_NoWay C_NoName C_Twice) (Fn : Fun K "_law_heard" "_law_heard" s_l_heard f fd) (hm : mg "_law_heard" = some (.ref f)) (hb : Binds K fd ["_law_hand", "_law_x"] []) (F_l_say : DefOk P w K mg base 10 "_law_say" (spSay6 C_Shifter)) (F_l_hear : DefOk P w K mg base 12 "_law_hear" (spHear6 C_Shifter)) (F_l_turn_due : DefOk P w K mg base 3 "_law_turn_due" (spDue6 C_Shifter)) (M_Shifter_weights : MethOk P w K mg base C_Shifter 1 "weights" (spWeightsS C_Shifter)) : DefOk P w K mg base 14 "_law_heard" (spHeard6 C_Shifter) := by
  refine okD (k := 13) Fn sc_l_heard hm hb (fun ds O R h => ?_) (fun cdv A outer s H E ds O R hr h => ?_)
  · obtain ⟨_, _, _, _, _, _, rfl, _⟩ := h; rfl
  · obtain ⟨jj, n, p, u, x, ws, rfl, hW, hp, hn, hwo, hl, hR⟩ := h
    have m1 := hp.m1; have m2 := hp.m2; have s1 := hp.f.s1; have s2 := hp.f.s2
    refine xs_cons (x_setMP 2 (fun k : Nat => if decide (x / (0 + (k : Nat) + 3) % 5 = 0) = true then D.non else .int (x / (0 + (k : Nat) + 2) % (p.sc + 1))) ["_law_k"] ["_law_x", "_law_hand"] [1, 0] (ei_range1 (ev_fld (ev_var 0) hW T.c_Shifter.cls T.n_Shifter_many (zl_many p u ws)) T.b_range (by first | decide | omega) (by first | decide | omega)) (by rw [sizeLine_eq, List.length_range]; omega) (by exact fun q hq s H fp => ⟨[some _], rfl, (tg_name 0 (show List.Nodup (["_law_k", "_law_x", "_law_hand"] : List Str) by decide +kernel)), ⟨_, rfl, (ev_if (et_cmp (ev_bin (ev_bin (ev_var 1) (ev_bin (ev_var 0) ev_int o_add) (o_div ⟨by have := List.mem_range.mp hq; omega, by have := List.mem_range.mp hq; omega⟩)) ev_int (o_mod (by first | decide | omega))) ev_int cmp_eqI) (fun hbb => ev_non) (fun hbb => (ev_bin (ev_bin (ev_var 1) (ev_bin (ev_var 0) ev_int o_add) (o_div ⟨by have := List.mem_range.mp hq; omega, by have := List.mem_range.mp hq; omega⟩)) (ev_bin (ev_fld (ev_var 2) hW T.c_Shifter.cls T.n_Shifter_scale (zl_scale p u ws)) ev_int o_add) (o_mod (by omega)))))⟩⟩) ?_ sc_l_heard.nd)
    have eL : ((List.range p.m.toNat).map fun k : Nat => if decide (x / (0 + (k : Nat) + 3) % 5 = 0) = true then D.non else .int (x / (0 + (k : Nat) + 2) % (p.sc + 1))) = ((List.range p.m.toNat).map (hO x p.sc)).map ov := by
      rw [List.map_map]
      exact List.map_congr_left fun k _ => hO_eq x p.sc k
    rw [eL]
    have hL : 1 ≤ ((List.range p.m.toNat).map (hO x p.sc)).length ∧ ((List.range p.m.toNat).map (hO x p.sc)).length ≤ 24 := by rw [List.length_map, List.length_range]; omega
    generalize (List.range p.m.toNat).map (hO x p.sc) = L at hL
    have hW0 : ∀ Y, (O ++ Y)[jj]? = some (some (.ins C_Shifter (shiF p ws u))) := fun Y => at_app hW
    refine xs_cons (x_set 3 (EvP.ev (ev_bin (ev_bin (ev_var 1) ev_int (o_div ⟨(by first | decide | omega), (by first | decide | omega)⟩)) (ev_bin (ev_fld (ev_var 0) (hW0 _) T.c_Shifter.cls T.n_Shifter_scale (zl_scale p u ws)) ev_int o_add) (o_mod (by omega))) ?_) sc_l_heard.nd)
    refine xs_cons (x_set 4 (EvP.ev (ev_bin (ev_var 1) ev_int (o_mod (by first | decide | omega))) ?_) sc_l_heard.nd)
    generalize x / 5 % (p.sc + 1) = y0
    generalize x % 12 = w
    refine xs_seq (fun ρ O' => ∃ (L : List Ov) (y : Ov), ρ = [some (.ptr jj), some (.int x), some (.ptr O.length), some (ov y), some (.int w), none, none, none] ∧ O' = O ++ [some (.lst (L.map ov))] ∧ (1 ≤ L.length ∧ L.length ≤ 24)) (x_if (et_cmp (ev_var 4) ev_int cmp_lt) (fun hk => ?_) (fun hk => xs_nil ⟨L, .i y0, rfl, rfl, hL⟩)) ?_
    · have q0 : (O ++ [some (MO.lst (L.map ov))])[O.length]? = some (some (.lst (L.map ov))) := st0
      have hK : ∃ k : Nat, x / 12 % (((L.map ov).length : Nat) : Int) = (k : Nat) ∧ k < L.length := by
        rw [List.length_map]
        have h1 : 0 ≤ x / 12 % ((L.length : Nat) : Int) := Int.emod_nonneg _ (by omega)
        have h2 : x / 12 % ((L.length : Nat) : Int) < (L.length : Nat) := Int.emod_lt_of_pos _ (by omega)
        exact ⟨(x / 12 % ((L.length : Nat) : Int)).toNat, by omega, by omega⟩
      obtain ⟨k, ek, hkl⟩ := hK
      have hw4 : x / 300 % 4 = 0 ∨ x / 300 % 4 = 1 ∨ x / 300 % 4 = 2 ∨ x / 300 % 4 = 3 := by omega
      refine xs_cons (x_item (j := k) (ev_ixL (ev_lst (es_cons (ev_neg ev_int) (es_cons (ev_bin (ev_fld (ev_var 0) (hW0 _) T.c_Shifter.cls T.n_Shifter_scale (zl_scale p u ws)) ev_int o_add) (es_cons ev_bl (es_cons ev_str es_nil))))) (by first | exact Or.inl rfl | exact Or.inr (Or.inl rfl) | exact Or.inr (Or.inr ⟨_, rfl, by first | assumption | rfl⟩)) (ev_bin (ev_bin (ev_var 1) ev_int (o_div ⟨(by first | decide | omega), (by first | decide | omega)⟩)) ev_int (o_mod (by first | decide | omega))) (oddW_at hw4)) (ev_var 2) st0 (ev_bin (ev_bin (ev_var 1) ev_int (o_div ⟨(by first | decide | omega), (by first | decide | omega)⟩)) (ev_callB T.b_len (es_cons (ev_var 2) es_nil) (c_len (by first | exact Or.inr rfl | exact Or.inl (Or.inl rfl) | exact Or.inl (Or.inr (Or.inl rfl)) | exact Or.inl (Or.inr (Or.inr ⟨_, rfl, by first | assumption | rfl⟩))))) (o_mod (by rw [List.length_map]; omega))) (by rw [ek]; exact ixN_at (by rw [List.length_map]; exact hkl)) ?_)
      rw [ss0]
      exact xs_nil ⟨L.set k (oddW p.sc (x / 300 % 4)), .i y0, rfl, by rw [List.map_set], by rw [List.length_set]; exact hL⟩
    rintro ρ O1 ⟨L, y, rfl, rfl, hL⟩
    refine xs_seq (fun ρ O' => ∃ (L : List Ov) (y : Ov), ρ = [some (.ptr jj), some (.int x), some (.ptr O.length), some (ov y), some (.int w), none, none, none] ∧ O' = O ++ [some (.lst (L.map ov))] ∧ (1 ≤ L.length ∧ L.length ≤ 24)) (x_if (et_cmp (ev_var 4) ev_int cmp_eqI) (fun hk => ?_) (fun hk => xs_nil ⟨L, y, rfl, rfl, hL⟩)) ?_
    · obtain ⟨v, hv⟩ := five_at p.sc (x / 12)
      refine xs_cons (x_set 3 (EvP.ev (ev_ixL (ev_lst (es_cons (ev_neg ev_int) (es_cons (ev_bin (ev_fld (ev_var 0) (hW0 _) T.c_Shifter.cls T.n_Shifter_scale (zl_scale p u ws)) ev_int o_add) (es_cons ev_bl (es_cons ev_non (es_cons ev_str es_nil)))))) (by first | exact Or.inl rfl | exact Or.inr (Or.inl rfl) | exact Or.inr (Or.inr ⟨_, rfl, by first | assumption | rfl⟩)) (ev_bin (ev_bin (ev_var 1) ev_int (o_div ⟨(by first | decide | omega), (by first | decide | omega)⟩)) ev_int (o_mod (by first | decide | omega))) hv) ?_) sc_l_heard.nd)
      exact xs_nil ⟨L, v, rfl, rfl, hL⟩
    rintro ρ O1 ⟨L, y, rfl, rfl, hL⟩
    refine xs_seq (fun ρ O' => ∃ (L : List Ov) (y : Ov), ρ = [some (.ptr jj), some (.int x), some (.ptr O.length), some (ov y), some (.int w), none, none, none] ∧ O' = O ++ [some (.lst (L.map ov))] ∧ (1 ≤ L.length ∧ L.length ≤ 25)) (x_if (et_cmp (ev_var 4) ev_int cmp_eqI) (fun hk => ?_) (fun hk => xs_nil ⟨L, y, rfl, rfl, by omega⟩)) ?_
    · refine xs_cons (x_append (ev_var 2) st0 ev_int (by rw [sizeLine_eq, List.length_map]; omega) ?_)
      rw [ss0]
      exact xs_nil ⟨L ++ [.i 0], y, rfl, by rw [List.map_append]; rfl, by rw [List.length_append]; show 1 ≤ L.length + 1 ∧ L.length + 1 ≤ 25; omega⟩
    rintro ρ O1 ⟨L, y, rfl, rfl, hL⟩
    refine xs_seq (fun ρ O' => ∃ (L : List Ov) (y : Ov), ρ = [some (.ptr jj), some (.int x), some (.ptr O.length), some (ov y), some (.int w), none, none, none] ∧ O' = O ++ [some (.lst (L.map ov))] ∧ L.length ≤ 25) (x_if (et_cmp (ev_var 4) ev_int cmp_eqI) (fun hk => ?_) (fun hk => xs_nil ⟨L, y, rfl, rfl, by omega⟩)) ?_
    · refine xs_cons (x_pop (ev_var 2) st0 (fun z => by have := congrArg List.length z; rw [List.length_map] at this; have : L.length = 0 := this; omega) ?_)
      rw [ss0]
      exact xs_nil ⟨L.dropLast, y, rfl, by rw [List.map_dropLast], by rw [List.length_dropLast]; omega⟩
    rintro ρ O1 ⟨L, y, rfl, rfl, hL⟩
    have q0 : (O ++ [some (MO.lst (L.map ov))])[O.length]? = some (some (.lst (L.map ov))) := st0
    refine xs_cons (x_set 5 (EvP.ev (ev_callTy T.b_tuple (es_cons (ev_var 2) es_nil) (c_tuple (by first | exact Or.inr rfl | exact Or.inl (Or.inl rfl) | exact Or.inl (Or.inr (Or.inl rfl)) | exact Or.inl (Or.inr (Or.inr ⟨_, rfl, by first | assumption | rfl⟩))))) ?_) sc_l_heard.nd)
    refine xs_seq (fun ρ O' => ∃ Z : Sv, ρ = [some (.ptr jj), some (.int x), some (.ptr O.length), some (ov y), some (.int w), some (sv Z), none, none] ∧ O' = O ++ [some (.lst (L.map ov))] ∧ Sok Z) (x_if (et_cmp (ev_var 4) ev_int cmp_eqI) (fun hk => ?_) (fun hk => xs_nil ⟨.t L, rfl, rfl, show L.length ≤ 100 by omega⟩)) ?_
    · obtain ⟨v, hv, hv2⟩ := told_at (x / 12)
      refine xs_cons (x_set 5 (EvP.ev (ev_ixL (ev_lst (es_cons ev_str (es_cons ev_non (es_cons ev_int es_nil)))) (by first | exact Or.inl rfl | exact Or.inr (Or.inl rfl) | exact Or.inr (Or.inr ⟨_, rfl, by first | assumption | rfl⟩)) (ev_bin (ev_bin (ev_var 1) ev_int (o_div ⟨(by first | decide | omega), (by first | decide | omega)⟩)) ev_int (o_mod (by first | decide | omega))) hv) ?_) sc_l_heard.nd)
      exact xs_nil ⟨.o v, rfl, rfl, hv2⟩
    rintro ρ O1 ⟨Z, rfl, rfl, hZ⟩
    have hA := hW0 [some (.lst (L.map ov))]
    generalize hO1 : O ++ [some (MO.lst (L.map ov))] = O1 at hA
    have h0 : Wok ws := fun w hw => (hwo.w w hw).1
    refine xs_cons (x_set 6 (EvP.ev (Ev.evp (ev_meth0 M_Shifter_weights (hr.mono (by decide)) (ev_var 0) hA (zl_no p u ws (by decide +kernel)) ⟨jj, p, u, ws, rfl, hA, rfl, rfl⟩)) ?_) sc_l_heard.nd)
    have e0 : onO p.sc (.i 0) = true := onO_of ⟨by decide, by omega⟩
    refine xs_cons (x_if (EvT.cast (k := !eqD (resT (saidS p.m p.sc Z)) (resT (saidS p.m p.sc Z && onO p.sc (.i 0)))) (k' := false) (et_cmp (Ev.evp (ev_call F_l_say (hr.mono (by decide)) (es_cons (ev_var 0) (es_cons (ev_var 5) es_nil)) ⟨jj, p, u, ws, Z, rfl, hA, hp, hl, h0, hZ, rfl, rfl⟩)) (ev_tup (es_cons (Ev.evp (ev_call F_l_turn_due (hr.mono (by decide)) (es_cons (ev_var 0) (es_cons (ev_var 5) (es_cons ev_int es_nil))) ⟨jj, p, u, ws, Z, .i 0, rfl, hA, hZ, rfl, rfl⟩)) (es_cons ev_bl es_nil))) (cmp_neD hr (Or.inl rfl) (Or.inl rfl) (resT_pl _) (resT_pl _) (Nat.le_trans (Nat.min_le_left _ _) (resT_dp _)))) (by rw [e0, Bool.and_true, resT_eq]; rfl)) (fun hk => by cases hk) (fun _ => xs_nil ?_))
    refine xs_cons (x_set 7 (EvP.ev (Ev.evp (ev_call F_l_turn_due (hr.mono (by decide)) (es_cons (ev_var 0) (es_cons (ev_var 5) (es_cons (ev_var 3) es_nil))) ⟨jj, p, u, ws, Z, y, rfl, hA, hZ, rfl, rfl⟩)) ?_) sc_l_heard.nd)
    generalize hB : (saidS p.m p.sc Z && onO p.sc y) = B
    refine xs_cons (x_ifE (R := fun k O2 => k = false ∧ ((B = true ∧ ∃ ws' u', WOkS (n + 1) ws' u' ∧ ws'.length = ws.length ∧ O2 = O1.set jj (some (.ins C_Shifter (shiF p ws' u')))) ∨ (B = false ∧ ∃ Y, O2 = O1 ++ Y)))
      (et_cmpE (Ra := fun d O2 => d = resT B ∧ ((B = true ∧ ∃ ws' u', WOkS (n + 1) ws' u' ∧ ws'.length = ws.length ∧ O2 = O1.set jj (some (.ins C_Shifter (shiF p ws' u')))) ∨ (B = false ∧ ∃ Y, O2 = O1 ++ Y)))
        (ev_call F_l_hear (hr.mono (by decide)) (es_cons (ev_var 0) (es_cons (ev_var 5) (es_cons (ev_var 3) es_nil))) ⟨jj, n, p, u, ws, Z, y, rfl, hA, hp, hn, hwo, hl, hZ, fun hb ws' u' g1 g2 => ⟨by rw [← hB, hb], .inl ⟨by rw [← hB, hb], ws', u', g1, g2, rfl⟩⟩, fun hb Y => ⟨by rw [← hB, hb], .inr ⟨by rw [← hB, hb], Y, rfl⟩⟩⟩)
        (fun da O2 ⟨ed, hd⟩ => ⟨resT B, false, (ev_tup (es_cons (ev_var 7) (es_cons ev_bl es_nil))), by
          subst ed
          have e : (.bl false : D) = .bl (!eqD (resT B) (resT B)) := by rw [resT_eq]; rfl
          rw [e]
          exact cmp_neD hr (Or.inl rfl) (Or.inl rfl) (resT_pl B) (resT_pl B) (Nat.le_trans (Nat.min_le_left _ _) (resT_dp B)), rfl, hd⟩)) (fun k O2 ⟨ek, hd⟩ => ⟨(fun z => by rw [ek] at z; cases z), fun _ => xs_nil ?_⟩))
    rcases hd with ⟨rfl, ws', u', g1, g2, rfl⟩ | ⟨rfl, Y, rfl⟩
    · refine xs_cons (x_ret (EvP.ev (EvP.cast (d' := .bl true) (ev_or (k := true) (l := true) (EvP.cast (ev_cmp (ev_var 7) ev_str cmp_eqS) (congrArg D.bl (by decide +kernel))) (fun hbb => by cases hbb)) rfl) ?_))
      rw [← hO1, set_app hW]
      exact hR ws' u' _ g1 g2
    · have hA2 : (O1 ++ Y)[jj]? = some (some (.ins C_Shifter (shiF p ws u))) := at_app hA
      refine xs_cons (x_ret (EvP.ev (EvP.cast (d' := .bl true) (ev_or (k := false) (l := true) (EvP.cast (ev_cmp (ev_var 7) ev_str cmp_eqS) (congrArg D.bl (by decide +kernel))) (fun _ => ev_one (EvP.cast (ev_cmp (Ev.evp (ev_meth0 M_Shifter_weights (hr.mono (by decide)) (ev_var 0) hA2 (zl_no p u ws (by decide +kernel)) ⟨jj, p, u, ws, rfl, hA2, rfl, rfl⟩)) (ev_var 6) (cmp_eqD hr (Or.inl rfl) (Or.inl rfl) (pl_pair _ _) (pl_pair _ _) (Nat.le_trans (Nat.min_le_left _ _) (dp_pair _ _)))) (by rw [eqD_pair, eqD_selfI, eqD_int, decide_eq_true rfl]; rfl)))) rfl) ?_))
      rw [← hO1, List.append_assoc]
      have z := hR ws u ([some (.lst (L.map ov))] ++ Y) hwo.up rfl
      rw [set_same hW] at z
      exact z
theorem ok_law {f : Addr} {fd : FuncData} (T : Txt K mg C_Hand C_Weigher C_Shifter C_HeedError C_NoTurn C_NoRule C_NoRow C_NoWay C_NoName C_Twice) (Fn : Fun K "law" "law" s_law f fd)  (F_l_cell_at : DefOk P w K mg base 1 "_law_cell_at" (pureSp spCell)) (F_l_next : DefOk P w K mg base 1 "_law_next" (pureSp spNext)) (F_l_seed : DefOk P w K mg base 2 "_law_seed" (pureSp spSeedS)) (F_l_good : DefOk P w K mg base 2 "_law_good" spGood6) (F_l_odd : DefOk P w K mg base 2 "_law_odd" spOdd6) (F_l_made : DefOk P w K mg base 10 "_law_made" (spMade6 C_Shifter)) (F_l_heard : DefOk P w K mg base 14 "_law_heard" (spHeard6 C_Shifter)) : FnOk P w K mg base CX0 16 f fd ["_law_script"] (toSp K spLaw) := by
  refine okF (k := 15) Fn sc_law (fun ds O R h => ?_) (fun cdv A outer s H E ds O R hr h => ?_)
  · obtain ⟨_, rfl, _⟩ := h; rfl
  · obtain ⟨ns, rfl, hl, hR⟩ := h
    refine xs_keep ?_
    refine xs_cons (x_set 1 (EvP.ev (ev_callP F_l_seed (hr.mono (by decide)) (es_cons (ev_var 0) (es_cons ev_int es_nil)) ⟨_, _, rfl, by first | assumption | omega, rfl⟩) ?_) sc_law.nd)
    refine xs_cons (x_set 2 (EvP.ev (ev_bin ev_int (ev_bin (ev_callP F_l_seed (hr.mono (by decide)) (es_cons (ev_var 0) (es_cons ev_int es_nil)) ⟨_, _, rfl, by first | assumption | omega, rfl⟩) ev_int (o_mod (by first | decide | omega))) o_add) ?_) sc_law.nd)
    refine xs_cons (x_set 3 (EvP.ev (ev_bin ev_int (ev_bin (ev_callP F_l_seed (hr.mono (by decide)) (es_cons (ev_var 0) (es_cons ev_int es_nil)) ⟨_, _, rfl, by first | assumption | omega, rfl⟩) ev_int (o_mod (by first | decide | omega))) o_add) ?_) sc_law.nd)
    generalize seedF (cellAt ns 0) 0 = x
    have hb : 1 ≤ 1 + seedF (cellAt ns 1) 1 % 100 ∧ 1 + seedF (cellAt ns 1) 1 % 100 ≤ 100 := by omega
    have hpa : 2 ≤ 2 + seedF (cellAt ns 2) 2 % 99 ∧ 2 + seedF (cellAt ns 2) 2 % 99 ≤ 100 := by omega
    generalize 1 + seedF (cellAt ns 1) 1 % 100 = b at hb
    generalize 2 + seedF (cellAt ns 2) 2 % 99 = pa at hpa
    refine xs_cons (x_set 4 (ev_lstM (es_cons (ev_bin ev_int (ev_bin (ev_var 1) ev_int (o_mod (by first | decide | omega))) o_add) (es_cons (ev_bin ev_int (ev_bin (ev_bin (ev_var 1) ev_int (o_div ⟨(by first | decide | omega), (by first | decide | omega)⟩)) ev_int (o_mod (by first | decide | omega))) o_add) (es_cons (ev_bin (ev_callP F_l_seed (hr.mono (by decide)) (es_cons (ev_var 0) (es_cons ev_int es_nil)) ⟨_, _, rfl, by first | assumption | omega, rfl⟩) (ev_var 2) (o_mod (by omega))) (es_cons (ev_var 2) (es_cons (ev_bin ev_int (ev_bin (ev_callP F_l_seed (hr.mono (by decide)) (es_cons (ev_var 0) (es_cons ev_int es_nil)) ⟨_, _, rfl, by first | assumption | omega, rfl⟩) (ev_bin (ev_var 3) ev_int o_sub) (o_mod (by omega))) o_add) es_nil))))) ?_) sc_law.nd)
    refine xs_cons (x_append (ev_var 4) st0 (ev_var 3) (by rw [sizeLine_eq]; show 5 < 16777216; decide) ?_)
    rw [ss0]
    generalize seedF (cellAt ns 3) 3 = t0
    generalize seedF (cellAt ns 4) 4 = s0
    have ht1 := Int.emod_nonneg t0 (show b ≠ 0 by omega)
    have ht2 := Int.emod_lt_of_pos t0 (show 0 < b by omega)
    have hs1 := Int.emod_nonneg s0 (show pa - 1 ≠ 0 by omega)
    have hs2 := Int.emod_lt_of_pos s0 (show 0 < pa - 1 by omega)
    have hP : ∃ p : SP, p = ⟨1 + x % 24, 1 + x / 24 % 10, t0 % b, b, 1 + s0 % (pa - 1), pa⟩ ∧ SOk p := ⟨_, rfl, ⟨⟨by show 1 ≤ 1 + x / 24 % 10; omega, by show 1 + x / 24 % 10 ≤ 10; omega, ht1, ht2, hb.2⟩, by show 1 ≤ 1 + x % 24; omega, by show 1 + x % 24 ≤ 24; omega, by show 1 ≤ 1 + s0 % (pa - 1); omega, by show 1 + s0 % (pa - 1) < pa; omega, hpa.2⟩⟩
    obtain ⟨p, ep, hp⟩ := hP
    have e6 : [D.int (1 + x % 24), .int (1 + x / 24 % 10), .int (t0 % b), .int b, .int (1 + s0 % (pa - 1))] ++ [.int pa] = (sixP p).map ov := by rw [ep]; rfl
    rw [e6]
    clear e6 ep
    generalize hO1 : O ++ [some (MO.lst ((sixP p).map ov))] = O1
    have q1 : O1[O.length]? = some (some (.lst ((sixP p).map ov))) := by rw [← hO1]; exact st0
    have hln : O1.length = O.length + 1 := by rw [← hO1, List.length_append]; rfl
    refine xs_cons (x_asgE (ev_call F_l_made (hr.mono (by decide)) (es_cons (ev_var 4) es_nil) ⟨O.length, sixP p, rfl, q1, rfl, fun p' e' _ => ?_, fun z => absurd ((okL_of hp).symm.trans z) (by decide)⟩))
    cases sixP_inj e'
    refine ⟨_, tg_tup (tgs_cons (tg_name 5 sc_law.nd) (tgs_cons (tg_name 6 sc_law.nd) tgs_nil)), ?_⟩
    refine xs_cons (x_if (EvT.cast (k' := false) (et_cmp (ev_var 5) ev_str cmp_neS) (by decide +kernel)) (fun hk => by cases hk) (fun _ => xs_nil ?_))
    have hE : ∃ e : Int, (if 20 < (if (9 : Int) > (((ns.map D.int).length : Nat) : Int) then 9 else (((ns.map D.int).length : Nat) : Int)) then 20 else (if (9 : Int) > (((ns.map D.int).length : Nat) : Int) then 9 else (((ns.map D.int).length : Nat) : Int))) = e ∧ 0 ≤ e ∧ e ≤ 20 := ⟨_, rfl, by (repeat' split) <;> omega, by (repeat' split) <;> omega⟩
    obtain ⟨e, hE, he0, he1⟩ := hE
    refine xs_cons (x_for (xs := rangeD 6 (e - 6).toNat) (by rw [← hE]; exact (ei_range2 ev_int (ev_callB T.b_min (es_cons (ev_callB T.b_max (es_cons (ev_callB T.b_len (es_cons (ev_var 0) es_nil) (c_len (by first | exact Or.inr rfl | exact Or.inl (Or.inl rfl) | exact Or.inl (Or.inr (Or.inl rfl)) | exact Or.inl (Or.inr (Or.inr ⟨_, rfl, by first | assumption | rfl⟩))))) (es_cons ev_int es_nil)) c_max) (es_cons ev_int es_nil)) c_min) T.b_range (by first | decide | omega) (by first | decide | omega) (by rw [hE]; omega) (by rw [hE]; omega))) (fun i ρ O' => ∃ (ws : List Int) (u : Int) (Y : Sto) (v7 v8 v9 v10 : Option D), ρ = [some (.scr (ns.map D.int)), some (.int x), some (.int b), some (.int pa), some (.ptr O.length), some (.str "none"), some (.ptr O1.length), v7, v8, v9, v10] ∧ O' = O1 ++ some (.ins C_Shifter (shiF p ws u)) :: Y ∧ WOkS i ws u ∧ (ws.length : Int) = p.m) ⟨_, _, _, _, _, _, _, rfl, rfl, wOkS_ones _, by rw [List.length_replicate]; have := hp.m1; omega⟩ ?_ ?_)
    · rintro i z ρ O' hz ⟨ws, u, Y, v7, v8, v9, v10, rfl, rfl, hwo, hwl⟩
      obtain ⟨hi, rfl⟩ := rangeD_at hz
      refine ⟨_, tg_name 7 sc_law.nd, ?_⟩
      refine xs_cons (x_set 8 (EvP.ev (ev_callP F_l_seed (hr.mono (by decide)) (es_cons (ev_var 0) (es_cons (ev_var 7) es_nil)) ⟨_, _, rfl, ⟨by omega, by omega⟩, rfl⟩) ?_) sc_law.nd)
      have hy := seed_lo (cellAt ns (6 + (i : Nat))) (6 + (i : Nat))
      generalize seedF (cellAt ns (6 + (i : Nat))) (6 + (i : Nat)) = y at hy
      generalize hO2 : O1 ++ some (MO.ins C_Shifter (shiF p ws u)) :: Y = O2
      have g1 : O2[O.length]? = some (some (.lst ((sixP p).map ov))) := by rw [← hO2]; exact at_app q1
      have g2 : O2[O1.length]? = some (some (.ins C_Shifter (shiF p ws u))) := by rw [← hO2]; exact st0
      refine xs_cons (x_set 9 (ev_listM T.b_list (ev_var 4) (Or.inl (Or.inr (Or.inr ⟨_, rfl, g1⟩))) ?_) sc_law.nd)
      have hrg : 0 ≤ 1 + y % 2 ∧ 1 + y % 2 ≤ 2 := by omega
      refine xs_cons (x_for (ei_range1 (ev_bin ev_int (ev_bin (ev_var 8) ev_int (o_mod (by first | decide | omega))) o_add) T.b_range (by first | decide | omega) (by first | decide | omega)) (fun j ρ O' => ∃ (os : List Ov) (y : Int) (v10 : Option D), ρ = [some (.scr (ns.map D.int)), some (.int x), some (.int b), some (.int pa), some (.ptr O.length), some (.str "none"), some (.ptr O1.length), some (.int (6 + (i : Nat))), some (.int y), some (.ptr O2.length), v10] ∧ O' = O2 ++ [some (.lst (os.map ov))] ∧ os.length = 6 ∧ Lo y) ⟨sixP p, y, _, rfl, rfl, rfl, hy⟩ ?_ ?_)
      · rintro j z ρ O' hz ⟨os, y, v10, rfl, rfl, ho, hy⟩
        obtain ⟨_, rfl⟩ := rangeD_at hz
        refine ⟨_, tg_name 10 sc_law.nd, ?_⟩
        have hK : ∃ k : Nat, y / 2 % 6 = (k : Nat) ∧ k < 6 := ⟨(y / 2 % 6).toNat, by omega, by omega⟩
        obtain ⟨k, ek, hk6⟩ := hK
        have hy' : 0 ≤ y ∧ y < 3000000000 := by have := hy.1; have := hy.2; omega
        refine xs_cons (x_itemE (j := k) (ev_call F_l_odd (hr.mono (by decide)) (es_cons (ev_var 9) (es_cons (ev_bin (ev_var 8) ev_int (o_div ⟨(by first | decide | omega), (by first | decide | omega)⟩)) (es_cons (ev_callP F_l_cell_at (hr.mono (by decide)) (es_cons (ev_var 0) (es_cons ev_int es_nil)) ⟨_, _, rfl, by first | decide | omega, rfl⟩) es_nil))) ⟨O2.length, os, _, _, rfl, st0, ho, fun v => ⟨rfl, ?_⟩⟩) (ev_var 9) st0 (ev_bin (ev_bin (ev_var 8) ev_int (o_div ⟨(by first | decide | omega), (by first | decide | omega)⟩)) ev_int (o_mod (by first | decide | omega))) (by rw [ek]; exact ixN_at (by rw [List.length_map, ho]; exact hk6)))
        rw [ss0]
        refine xs_cons (x_set 8 (EvP.ev (ev_callP F_l_next (hr.mono (by decide)) (es_cons (ev_var 8) es_nil) ⟨_, rfl, hy', rfl⟩) ?_) sc_law.nd)
        exact xs_nil ⟨os.set k v, _, _, rfl, by rw [List.map_set], by rw [List.length_set]; exact ho, nxt_lo _⟩
      · rintro ρ O' ⟨os, y, v10, rfl, rfl, ho, hy⟩
        have f1 : (O2 ++ [some (MO.lst (os.map ov))])[O2.length]? = some (some (.lst (os.map ov))) := st0
        have f2 : (O2 ++ [some (MO.lst (os.map ov))])[O1.length]? = some (some (.ins C_Shifter (shiF p ws u))) := at_app g2
        refine xs_cons (x_ifE (R := fun k O3 => k = false ∧ ∃ ws' u' Y', WOkS (i + 1) ws' u' ∧ ws'.length = ws.length ∧ O3 = (O2 ++ [some (MO.lst (os.map ov))]).set O1.length (some (.ins C_Shifter (shiF p ws' u'))) ++ Y')
          (et_orE (EvT.cast (k' := false) (et_cmp (Ev.keep (d0 := .str (if okL os then "none" else "rule")) (ev_ixE (Ra := fun d O3 => (∃ Y', O3 = (O2 ++ [some (MO.lst (os.map ov))]) ++ Y') ∧ ∃ z, d = .tup [.str (if okL os then "none" else "rule"), z])
              (ev_call F_l_made (hr.mono (by decide)) (es_cons (ev_var 9) es_nil) ⟨O2.length, os, rfl, f1, ho, fun p' e' hp' => ⟨⟨_, rfl⟩, _, by rw [e', okL_of hp']; rfl⟩, fun hk Y' => ⟨⟨Y', rfl⟩, _, by rw [hk]; rfl⟩⟩) (fun da O3 ⟨hY, z, ed⟩ => ⟨_, 0, _, ed, ev_int, rfl, hY, rfl, rfl⟩)))
              (ev_ixL (ev_lst (es_cons ev_str (es_cons ev_str es_nil))) (by first | exact Or.inl rfl | exact Or.inr (Or.inl rfl) | exact Or.inr (Or.inr ⟨_, rfl, by first | assumption | rfl⟩)) (ev_callTy T.b_int (es_cons (Ev.evp (ev_call F_l_good (hr.mono (by decide)) (es_cons (ev_var 9) es_nil) ⟨O2.length, os, rfl, f1, ho, rfl, rfl⟩)) es_nil) c_intB) (rule_at (okL os))) cmp_neS) (by cases okL os <;> decide +kernel))
            (et_notE (et_blE (ev_call F_l_heard (hr.mono (by decide)) (es_cons (ev_var 6) (es_cons (ev_var 8) es_nil)) ⟨O1.length, i, p, u, y, ws, rfl, f2, hp, by omega, hwo, hwl, fun ws' u' Y' a1 a2 => ⟨true, rfl, rfl, ws', u', Y', a1, a2, rfl⟩⟩))))
          (fun k O3 ⟨ek, ws', u', Y', a1, a2, eO⟩ => ⟨(fun z => by rw [ek] at z; cases z), fun _ => xs_nil (xs_nil ⟨ws', u', (Y ++ [some (.lst (os.map ov))]) ++ Y', _, _, _, _, rfl, by rw [eO, ← hO2, List.append_assoc, List.cons_append, ss0, List.append_assoc, List.cons_append], a1, by rw [a2]; exact hwl⟩)⟩))
    · rintro ρ O' ⟨ws, u, Y, v7, v8, v9, v10, rfl, rfl, hwo, hwl⟩
      refine xs_cons (x_ret (EvP.ev (EvP.cast (d' := .bl true) (ev_cmp (Ev.keep (d0 := .str "none") (ev_ixE (Ra := fun d O3 => (∃ Y', O3 = (O1 ++ some (MO.ins C_Shifter (shiF p ws u)) :: Y) ++ Y') ∧ ∃ z, d = .tup [.str "none", z])
        (ev_call F_l_made (hr.mono (by decide)) (es_cons (ev_var 4) es_nil) ⟨O.length, sixP p, rfl, at_app q1, rfl, fun p' e' _ => ⟨⟨_, rfl⟩, _, rfl⟩, fun z => absurd ((okL_of hp).symm.trans z) (by decide)⟩) (fun da O3 ⟨hY, z, ed⟩ => ⟨_, 0, _, ed, ev_int, rfl, hY, rfl, rfl⟩))) ev_str cmp_eqS) (congrArg D.bl (by decide +kernel))) ?_))
      exact ⟨⟨_, by rw [← hO1, List.append_assoc]⟩, rfl, hR⟩
end
theorem len1 {α : Type} {us : List α} (h : us.length = 1) : ∃ x0, us = [x0] := by
  match us, h with
  | [x0], _ => exact ⟨_, rfl⟩
theorem len2 {α : Type} {us : List α} (h : us.length = 2) : ∃ x0 x1, us = [x0, x1] := by
  match us, h with
  | [x0, x1], _ => exact ⟨_, _, rfl⟩
theorem len3 {α : Type} {us : List α} (h : us.length = 3) : ∃ x0 x1 x2, us = [x0, x1, x2] := by
  match us, h with
  | [x0, x1, x2], _ => exact ⟨_, _, _, rfl⟩
theorem len4 {α : Type} {us : List α} (h : us.length = 4) : ∃ x0 x1 x2 x3, us = [x0, x1, x2, x3] := by
  match us, h with
  | [x0, x1, x2, x3], _ => exact ⟨_, _, _, _, rfl⟩
theorem len5 {α : Type} {us : List α} (h : us.length = 5) : ∃ x0 x1 x2 x3 x4, us = [x0, x1, x2, x3, x4] := by
  match us, h with
  | [x0, x1, x2, x3, x4], _ => exact ⟨_, _, _, _, _, rfl⟩
theorem len7 {α : Type} {us : List α} (h : us.length = 7) : ∃ x0 x1 x2 x3 x4 x5 x6, us = [x0, x1, x2, x3, x4, x5, x6] := by
  match us, h with
  | [x0, x1, x2, x3, x4, x5, x6], _ => exact ⟨_, _, _, _, _, _, _, rfl⟩
theorem all_mk {l : PySem.W.OpenLaw} {w : World} {K : PySem.W.Frag} {h : Heap} {mg : Str → Option Value} {fa : Addr} (X : K.In h) (G : h.Ns mainGlobals mg) (hfa : mg "law" = some (.ref fa)) {f0 : Addr} {od0 an0 : Option Addr} {sl0 : Array (Option Value)} {oc0 kV0 dc0 pm0 cd0 ct0 : Value} {f1 : Addr} {od1 an1 : Option Addr} {sl1 : Array (Option Value)} {oc1 kV1 dc1 pm1 cd1 ct1 : Value} {f2 : Addr} {od2 an2 : Option Addr} {sl2 : Array (Option Value)} {oc2 kV2 dc2 pm2 cd2 ct2 : Value} {f3 : Addr} {od3 an3 : Option Addr} {sl3 : Array (Option Value)} {oc3 kV3 dc3 pm3 cd3 ct3 : Value} {f4 : Addr} {od4 an4 : Option Addr} {sl4 : Array (Option Value)} {oc4 kV4 dc4 pm4 cd4 ct4 : Value} {f5 : Addr} {od5 an5 : Option Addr} {sl5 : Array (Option Value)} {oc5 kV5 dc5 pm5 cd5 ct5 : Value} {f6 : Addr} {od6 an6 : Option Addr} {sl6 : Array (Option Value)} {oc6 kV6 dc6 pm6 cd6 ct6 : Value} {f7 : Addr} {od7 an7 : Option Addr} {sl7 : Array (Option Value)} {oc7 kV7 dc7 pm7 cd7 ct7 : Value} {f8 : Addr} {od8 an8 : Option Addr} {sl8 : Array (Option Value)} {oc8 kV8 dc8 pm8 cd8 ct8 : Value} {f9 : Addr} {od9 an9 : Option Addr} {sl9 : Array (Option Value)} {oc9 kV9 dc9 pm9 cd9 ct9 : Value} {f10 : Addr} {od10 an10 : Option Addr} {sl10 : Array (Option Value)} {oc10 kV10 dc10 pm10 cd10 ct10 : Value} {f11 : Addr} {od11 an11 : Option Addr} {sl11 : Array (Option Value)} {oc11 kV11 dc11 pm11 cd11 ct11 : Value} {f12 : Addr} {od12 an12 : Option Addr} {sl12 : Array (Option Value)} {oc12 kV12 dc12 pm12 cd12 ct12 : Value} {f13 : Addr} {od13 an13 : Option Addr} {sl13 : Array (Option Value)} {oc13 kV13 dc13 pm13 cd13 ct13 : Value} {f14 : Addr} {od14 an14 : Option Addr} {sl14 : Array (Option Value)} {oc14 kV14 dc14 pm14 cd14 ct14 : Value} {f15 : Addr} {od15 an15 : Option Addr} {sl15 : Array (Option Value)} {oc15 kV15 dc15 pm15 cd15 ct15 : Value} {f16 : Addr} {od16 an16 : Option Addr} {sl16 : Array (Option Value)} {oc16 kV16 dc16 pm16 cd16 ct16 : Value} {f17 : Addr} {od17 an17 : Option Addr} {sl17 : Array (Option Value)} {oc17 kV17 dc17 pm17 cd17 ct17 : Value} {f18 : Addr} {od18 an18 : Option Addr} {sl18 : Array (Option Value)} {oc18 kV18 dc18 pm18 cd18 ct18 : Value} {f19 : Addr} {od19 an19 : Option Addr} {sl19 : Array (Option Value)} {oc19 kV19 dc19 pm19 cd19 ct19 : Value} {f20 : Addr} {od20 an20 : Option Addr} {sl20 : Array (Option Value)} {oc20 kV20 dc20 pm20 cd20 ct20 : Value} {f21 : Addr} {od21 an21 : Option Addr} {sl21 : Array (Option Value)} {oc21 kV21 dc21 pm21 cd21 ct21 : Value} {f22 : Addr} {od22 an22 : Option Addr} {sl22 : Array (Option Value)} {oc22 kV22 dc22 pm22 cd22 ct22 : Value} {f23 : Addr} {od23 an23 : Option Addr} {sl23 : Array (Option Value)} {oc23 kV23 dc23 pm23 cd23 ct23 : Value} {f24 : Addr} {od24 an24 : Option Addr} {sl24 : Array (Option Value)} {oc24 kV24 dc24 pm24 cd24 ct24 : Value} {f25 : Addr} {od25 an25 : Option Addr} {sl25 : Array (Option Value)} {oc25 kV25 dc25 pm25 cd25 ct25 : Value} {f26 : Addr} {od26 an26 : Option Addr} {sl26 : Array (Option Value)} {oc26 kV26 dc26 pm26 cd26 ct26 : Value} {f27 : Addr} {od27 an27 : Option Addr} {sl27 : Array (Option Value)} {oc27 kV27 dc27 pm27 cd27 ct27 : Value} {f28 : Addr} {od28 an28 : Option Addr} {sl28 : Array (Option Value)} {oc28 kV28 dc28 pm28 cd28 ct28 : Value} {f29 : Addr} {od29 an29 : Option Addr} {sl29 : Array (Option Value)} {oc29 kV29 dc29 pm29 cd29 ct29 : Value} {f30 : Addr} {od30 an30 : Option Addr} {sl30 : Array (Option Value)} {oc30 kV30 dc30 pm30 cd30 ct30 : Value} {f31 : Addr} {od31 an31 : Option Addr} {sl31 : Array (Option Value)} {oc31 kV31 dc31 pm31 cd31 ct31 : Value} {f32 : Addr} {od32 an32 : Option Addr} {sl32 : Array (Option Value)} {oc32 kV32 dc32 pm32 cd32 ct32 : Value} {f33 : Addr} {od33 an33 : Option Addr} {sl33 : Array (Option Value)} {oc33 kV33 dc33 pm33 cd33 ct33 : Value} {f34 : Addr} {od34 an34 : Option Addr} {sl34 : Array (Option Value)} {oc34 kV34 dc34 pm34 cd34 ct34 : Value} {f35 : Addr} {od35 an35 : Option Addr} {sl35 : Array (Option Value)} {oc35 kV35 dc35 pm35 cd35 ct35 : Value} {f36 : Addr} {od36 an36 : Option Addr} {sl36 : Array (Option Value)} {oc36 kV36 dc36 pm36 cd36 ct36 : Value} {f37 : Addr} {od37 an37 : Option Addr} {sl37 : Array (Option Value)} {oc37 kV37 dc37 pm37 cd37 ct37 : Value} {f38 : Addr} {od38 an38 : Option Addr} {sl38 : Array (Option Value)} {oc38 kV38 dc38 pm38 cd38 ct38 : Value} {f39 : Addr} {od39 an39 : Option Addr} {sl39 : Array (Option Value)} {oc39 kV39 dc39 pm39 cd39 ct39 : Value} {f40 : Addr} {od40 an40 : Option Addr} {sl40 : Array (Option Value)} {oc40 kV40 dc40 pm40 cd40 ct40 : Value} {f41 : Addr} {od41 an41 : Option Addr} {sl41 : Array (Option Value)} {oc41 kV41 dc41 pm41 cd41 ct41 : Value} {f42 : Addr} {od42 an42 : Option Addr} {sl42 : Array (Option Value)} {oc42 kV42 dc42 pm42 cd42 ct42 : Value} {f43 : Addr} {od43 an43 : Option Addr} {sl43 : Array (Option Value)} {oc43 kV43 dc43 pm43 cd43 ct43 : Value} {C_Hand C_Weigher C_Shifter C_HeedError C_NoTurn C_NoRule C_NoRow C_NoWay C_NoName C_Twice : Addr} {tk0 : Tok} {tk1 : Tok} {tk2 : Tok} {tk3 : Tok} {nm_NoTurn qn_NoTurn : Str} {N_NoTurn : Addr} {bs_NoTurn sub_NoTurn : List Value} {sn_NoTurn : List Str} {ab_NoTurn : Bool} {col_NoTurn : Option Bool} {dd_NoTurn : Option Addr} {ka_NoTurn kb_NoTurn kc_NoTurn kd_NoTurn ke_NoTurn : Option Value}
    (aC0 : PySem.W.nsIn K mainGlobals "Hand" = some (some (.ref C_Hand)))
    (aC1 : PySem.W.nsIn K mainGlobals "Weigher" = some (some (.ref C_Weigher)))
    (aC2 : PySem.W.nsIn K mainGlobals "Shifter" = some (some (.ref C_Shifter)))
    (aE_HeedError : PySem.W.nsIn K mainGlobals "HeedError" = some (some (.ref C_HeedError)))
    (aE_NoTurn : PySem.W.nsIn K mainGlobals "NoTurn" = some (some (.ref C_NoTurn)))
    (aE_NoRule : PySem.W.nsIn K mainGlobals "NoRule" = some (some (.ref C_NoRule)))
    (aE_NoRow : PySem.W.nsIn K mainGlobals "NoRow" = some (some (.ref C_NoRow)))
    (aE_NoWay : PySem.W.nsIn K mainGlobals "NoWay" = some (some (.ref C_NoWay)))
    (aE_NoName : PySem.W.nsIn K mainGlobals "NoName" = some (some (.ref C_NoName)))
    (aE_Twice : PySem.W.nsIn K mainGlobals "Twice" = some (some (.ref C_Twice)))
    (a0 : PySem.W.findIn K (.ref C_NoTurn) "__init__" = some (some (.ref f0)))
    (i0 : PySem.W.isFn K (.ref f0) = true)
    (l0 : K.lookup f0 = some ⟨oc0, od0, .func (PySem.W.fnOf "__init__" "NoTurn.__init__" (defArgs s_NoTurn___init__) (defBody s_NoTurn___init__) (defScope s_NoTurn___init__) .none kV0 dc0 pm0 an0 cd0 ct0), sl0⟩)
    (c0 : PySem.W.codeIn K cd0 "NoTurn.__init__" = true)
    (k0 : PySem.W.keepIn K (.ref f0) = true)
    (a1 : PySem.W.nsIn K mainGlobals "is_whole" = some (some (.ref f1)))
    (l1 : K.lookup f1 = some ⟨oc1, od1, .func (PySem.W.fnOf "is_whole" "is_whole" (defArgs s_is_whole) (defBody s_is_whole) (defScope s_is_whole) .none kV1 dc1 pm1 an1 cd1 ct1), sl1⟩)
    (c1 : PySem.W.codeIn K cd1 "is_whole" = true)
    (k1 : PySem.W.keepIn K (.ref f1) = true)
    (a2 : PySem.W.nsIn K mainGlobals "counted" = some (some (.ref f2)))
    (l2 : K.lookup f2 = some ⟨oc2, od2, .func (PySem.W.fnOf "counted" "counted" (defArgs s_counted) (defBody s_counted) (defScope s_counted) .none kV2 dc2 pm2 an2 cd2 ct2), sl2⟩)
    (c2 : PySem.W.codeIn K cd2 "counted" = true)
    (k2 : PySem.W.keepIn K (.ref f2) = true)
    (a3 : PySem.W.nsIn K mainGlobals "middle" = some (some (.ref f3)))
    (l3 : K.lookup f3 = some ⟨oc3, od3, .func (PySem.W.fnOf "middle" "middle" (defArgs s_middle) (defBody s_middle) (defScope s_middle) .none kV3 dc3 pm3 an3 cd3 ct3), sl3⟩)
    (c3 : PySem.W.codeIn K cd3 "middle" = true)
    (k3 : PySem.W.keepIn K (.ref f3) = true)
    (a4 : PySem.W.nsIn K mainGlobals "check_within" = some (some (.ref f4)))
    (l4 : K.lookup f4 = some ⟨oc4, od4, .func (PySem.W.fnOf "check_within" "check_within" (defArgs s_check_within) (defBody s_check_within) (defScope s_check_within) .none kV4 dc4 pm4 an4 cd4 ct4), sl4⟩)
    (c4 : PySem.W.codeIn K cd4 "check_within" = true)
    (k4 : PySem.W.keepIn K (.ref f4) = true)
    (a5 : PySem.W.nsIn K mainGlobals "check_scale" = some (some (.ref f5)))
    (l5 : K.lookup f5 = some ⟨oc5, od5, .func (PySem.W.fnOf "check_scale" "check_scale" (defArgs s_check_scale) (defBody s_check_scale) (defScope s_check_scale) .none kV5 dc5 pm5 an5 cd5 ct5), sl5⟩)
    (c5 : PySem.W.codeIn K cd5 "check_scale" = true)
    (k5 : PySem.W.keepIn K (.ref f5) = true)
    (a6 : PySem.W.nsIn K mainGlobals "check_making" = some (some (.ref f6)))
    (l6 : K.lookup f6 = some ⟨oc6, od6, .func (PySem.W.fnOf "check_making" "check_making" (defArgs s_check_making) (defBody s_check_making) (defScope s_check_making) .none kV6 dc6 pm6 an6 cd6 ct6), sl6⟩)
    (c6 : PySem.W.codeIn K cd6 "check_making" = true)
    (k6 : PySem.W.keepIn K (.ref f6) = true)
    (a7 : PySem.W.nsIn K mainGlobals "check_fraction" = some (some (.ref f7)))
    (l7 : K.lookup f7 = some ⟨oc7, od7, .func (PySem.W.fnOf "check_fraction" "check_fraction" (defArgs s_check_fraction) (defBody s_check_fraction) (defScope s_check_fraction) .none kV7 dc7 pm7 an7 cd7 ct7), sl7⟩)
    (c7 : PySem.W.codeIn K cd7 "check_fraction" = true)
    (k7 : PySem.W.keepIn K (.ref f7) = true)
    (a8 : PySem.W.nsIn K mainGlobals "check_share" = some (some (.ref f8)))
    (l8 : K.lookup f8 = some ⟨oc8, od8, .func (PySem.W.fnOf "check_share" "check_share" (defArgs s_check_share) (defBody s_check_share) (defScope s_check_share) .none kV8 dc8 pm8 an8 cd8 ct8), sl8⟩)
    (c8 : PySem.W.codeIn K cd8 "check_share" = true)
    (k8 : PySem.W.keepIn K (.ref f8) = true)
    (a9 : PySem.W.nsIn K mainGlobals "is_on_scale" = some (some (.ref f9)))
    (l9 : K.lookup f9 = some ⟨oc9, od9, .func (PySem.W.fnOf "is_on_scale" "is_on_scale" (defArgs s_is_on_scale) (defBody s_is_on_scale) (defScope s_is_on_scale) .none kV9 dc9 pm9 an9 cd9 ct9), sl9⟩)
    (c9 : PySem.W.codeIn K cd9 "is_on_scale" = true)
    (k9 : PySem.W.keepIn K (.ref f9) = true)
    (a10 : PySem.W.nsIn K mainGlobals "is_said" = some (some (.ref f10)))
    (l10 : K.lookup f10 = some ⟨oc10, od10, .func (PySem.W.fnOf "is_said" "is_said" (defArgs s_is_said) (defBody s_is_said) (defScope s_is_said) .none kV10 dc10 pm10 an10 cd10 ct10), sl10⟩)
    (c10 : PySem.W.codeIn K cd10 "is_said" = true)
    (k10 : PySem.W.keepIn K (.ref f10) = true)
    (a11 : PySem.W.nsIn K mainGlobals "check_said" = some (some (.ref f11)))
    (l11 : K.lookup f11 = some ⟨oc11, od11, .func (PySem.W.fnOf "check_said" "check_said" (defArgs s_check_said) (defBody s_check_said) (defScope s_check_said) .none kV11 dc11 pm11 an11 cd11 ct11), sl11⟩)
    (c11 : PySem.W.codeIn K cd11 "check_said" = true)
    (k11 : PySem.W.keepIn K (.ref f11) = true)
    (a12 : PySem.W.nsIn K mainGlobals "power" = some (some (.ref f12)))
    (l12 : K.lookup f12 = some ⟨oc12, od12, .func (PySem.W.fnOf "power" "power" (defArgs s_power) (defBody s_power) (defScope s_power) .none kV12 dc12 pm12 an12 cd12 ct12), sl12⟩)
    (c12 : PySem.W.codeIn K cd12 "power" = true)
    (k12 : PySem.W.keepIn K (.ref f12) = true)
    (a13 : PySem.W.nsIn K mainGlobals "charge" = some (some (.ref f13)))
    (l13 : K.lookup f13 = some ⟨oc13, od13, .func (PySem.W.fnOf "charge" "charge" (defArgs s_charge) (defBody s_charge) (defScope s_charge) .none kV13 dc13 pm13 an13 cd13 ct13), sl13⟩)
    (c13 : PySem.W.codeIn K cd13 "charge" = true)
    (k13 : PySem.W.keepIn K (.ref f13) = true)
    (a14 : PySem.W.nsIn K mainGlobals "is_turn" = some (some (.ref f14)))
    (l14 : K.lookup f14 = some ⟨oc14, od14, .func (PySem.W.fnOf "is_turn" "is_turn" (defArgs s_is_turn) (defBody s_is_turn) (defScope s_is_turn) .none kV14 dc14 pm14 an14 cd14 ct14), sl14⟩)
    (c14 : PySem.W.codeIn K cd14 "is_turn" = true)
    (k14 : PySem.W.keepIn K (.ref f14) = true)
    (a15 : PySem.W.nsIn K mainGlobals "check_turn" = some (some (.ref f15)))
    (l15 : K.lookup f15 = some ⟨oc15, od15, .func (PySem.W.fnOf "check_turn" "check_turn" (defArgs s_check_turn) (defBody s_check_turn) (defScope s_check_turn) .none kV15 dc15 pm15 an15 cd15 ct15), sl15⟩)
    (c15 : PySem.W.codeIn K cd15 "check_turn" = true)
    (k15 : PySem.W.keepIn K (.ref f15) = true)
    (a16 : PySem.W.nsIn K mainGlobals "awake_in" = some (some (.ref f16)))
    (l16 : K.lookup f16 = some ⟨oc16, od16, .func (PySem.W.fnOf "awake_in" "awake_in" (defArgs s_awake_in) (defBody s_awake_in) (defScope s_awake_in) .none kV16 dc16 pm16 an16 cd16 ct16), sl16⟩)
    (c16 : PySem.W.codeIn K cd16 "awake_in" = true)
    (k16 : PySem.W.keepIn K (.ref f16) = true)
    (a17 : PySem.W.nsIn K mainGlobals "middle_awake" = some (some (.ref f17)))
    (l17 : K.lookup f17 = some ⟨oc17, od17, .func (PySem.W.fnOf "middle_awake" "middle_awake" (defArgs s_middle_awake) (defBody s_middle_awake) (defScope s_middle_awake) .none kV17 dc17 pm17 an17 cd17 ct17), sl17⟩)
    (c17 : PySem.W.codeIn K cd17 "middle_awake" = true)
    (k17 : PySem.W.keepIn K (.ref f17) = true)
    (a18 : PySem.W.nsIn K mainGlobals "times_awake" = some (some (.ref f18)))
    (l18 : K.lookup f18 = some ⟨oc18, od18, .func (PySem.W.fnOf "times_awake" "times_awake" (defArgs s_times_awake) (defBody s_times_awake) (defScope s_times_awake) .none kV18 dc18 pm18 an18 cd18 ct18), sl18⟩)
    (c18 : PySem.W.codeIn K cd18 "times_awake" = true)
    (k18 : PySem.W.keepIn K (.ref f18) = true)
    (a19 : PySem.W.nsIn K mainGlobals "times_asleep" = some (some (.ref f19)))
    (l19 : K.lookup f19 = some ⟨oc19, od19, .func (PySem.W.fnOf "times_asleep" "times_asleep" (defArgs s_times_asleep) (defBody s_times_asleep) (defScope s_times_asleep) .none kV19 dc19 pm19 an19 cd19 ct19), sl19⟩)
    (c19 : PySem.W.codeIn K cd19 "times_asleep" = true)
    (k19 : PySem.W.keepIn K (.ref f19) = true)
    (a20 : PySem.W.nsIn K mainGlobals "times" = some (some (.ref f20)))
    (l20 : K.lookup f20 = some ⟨oc20, od20, .func (PySem.W.fnOf "times" "times" (defArgs s_times) (defBody s_times) (defScope s_times) .none kV20 dc20 pm20 an20 cd20 ct20), sl20⟩)
    (c20 : PySem.W.codeIn K cd20 "times" = true)
    (k20 : PySem.W.keepIn K (.ref f20) = true)
    (a21 : PySem.W.findIn K (.ref C_Hand) "__init__" = some (some (.ref f21)))
    (i21 : PySem.W.isFn K (.ref f21) = true)
    (l21 : K.lookup f21 = some ⟨oc21, od21, .func (PySem.W.fnOf "__init__" "Hand.__init__" (defArgs s_Hand___init__) (defBody s_Hand___init__) (defScope s_Hand___init__) .none kV21 dc21 pm21 an21 cd21 ct21), sl21⟩)
    (c21 : PySem.W.codeIn K cd21 "Hand.__init__" = true)
    (k21 : PySem.W.keepIn K (.ref f21) = true)
    (a22 : PySem.W.findIn K (.ref C_Weigher) "__init__" = some (some (.ref f22)))
    (i22 : PySem.W.isFn K (.ref f22) = true)
    (l22 : K.lookup f22 = some ⟨oc22, od22, .func (PySem.W.fnOf "__init__" "Weigher.__init__" (defArgs s_Weigher___init__) (defBody s_Weigher___init__) (defScope s_Weigher___init__) .none kV22 dc22 pm22 an22 cd22 ct22), sl22⟩)
    (c22 : PySem.W.codeIn K cd22 "Weigher.__init__" = true)
    (k22 : PySem.W.keepIn K (.ref f22) = true)
    (a23 : PySem.W.findIn K (.ref C_Shifter) "__init__" = some (some (.ref f23)))
    (i23 : PySem.W.isFn K (.ref f23) = true)
    (l23 : K.lookup f23 = some ⟨oc23, od23, .func (PySem.W.fnOf "__init__" "Shifter.__init__" (defArgs s_Shifter___init__) (defBody s_Shifter___init__) (defScope s_Shifter___init__) .none kV23 dc23 pm23 an23 cd23 ct23), sl23⟩)
    (c23 : PySem.W.codeIn K cd23 "Shifter.__init__" = true)
    (k23 : PySem.W.keepIn K (.ref f23) = true)
    (a24 : PySem.W.findIn K (.ref C_Weigher) "heeded" = some (some (.ref f24)))
    (i24 : PySem.W.isFn K (.ref f24) = true)
    (l24 : K.lookup f24 = some ⟨oc24, od24, .func (PySem.W.fnOf "heeded" "Weigher.heeded" (defArgs s_Weigher_heeded) (defBody s_Weigher_heeded) (defScope s_Weigher_heeded) .none kV24 dc24 pm24 an24 cd24 ct24), sl24⟩)
    (c24 : PySem.W.codeIn K cd24 "Weigher.heeded" = true)
    (k24 : PySem.W.keepIn K (.ref f24) = true)
    (a25 : PySem.W.findIn K (.ref C_Weigher) "weights" = some (some (.ref f25)))
    (i25 : PySem.W.isFn K (.ref f25) = true)
    (l25 : K.lookup f25 = some ⟨oc25, od25, .func (PySem.W.fnOf "weights" "Weigher.weights" (defArgs s_Weigher_weights) (defBody s_Weigher_weights) (defScope s_Weigher_weights) .none kV25 dc25 pm25 an25 cd25 ct25), sl25⟩)
    (c25 : PySem.W.codeIn K cd25 "Weigher.weights" = true)
    (k25 : PySem.W.keepIn K (.ref f25) = true)
    (a26 : PySem.W.findIn K (.ref C_Hand) "say" = some (some (.ref f26)))
    (i26 : PySem.W.isFn K (.ref f26) = true)
    (l26 : K.lookup f26 = some ⟨oc26, od26, .func (PySem.W.fnOf "say" "Hand.say" (defArgs s_Hand_say) (defBody s_Hand_say) (defScope s_Hand_say) .none kV26 dc26 pm26 an26 cd26 ct26), sl26⟩)
    (c26 : PySem.W.codeIn K cd26 "Hand.say" = true)
    (k26 : PySem.W.keepIn K (.ref f26) = true)
    (a27 : PySem.W.findIn K (.ref C_Weigher) "weigh" = some (some (.ref f27)))
    (i27 : PySem.W.isFn K (.ref f27) = true)
    (l27 : K.lookup f27 = some ⟨oc27, od27, .func (PySem.W.fnOf "weigh" "Weigher.weigh" (defArgs s_Weigher_weigh) (defBody s_Weigher_weigh) (defScope s_Weigher_weigh) .none kV27 dc27 pm27 an27 cd27 ct27), sl27⟩)
    (c27 : PySem.W.codeIn K cd27 "Weigher.weigh" = true)
    (k27 : PySem.W.keepIn K (.ref f27) = true)
    (a28 : PySem.W.findIn K (.ref C_Shifter) "deal" = some (some (.ref f28)))
    (i28 : PySem.W.isFn K (.ref f28) = true)
    (l28 : K.lookup f28 = some ⟨oc28, od28, .func (PySem.W.fnOf "deal" "Shifter.deal" (defArgs s_Shifter_deal) (defBody s_Shifter_deal) (defScope s_Shifter_deal) .none kV28 dc28 pm28 an28 cd28 ct28), sl28⟩)
    (c28 : PySem.W.codeIn K cd28 "Shifter.deal" = true)
    (k28 : PySem.W.keepIn K (.ref f28) = true)
    (a29 : PySem.W.findIn K (.ref C_Shifter) "hear" = some (some (.ref f29)))
    (i29 : PySem.W.isFn K (.ref f29) = true)
    (l29 : K.lookup f29 = some ⟨oc29, od29, .func (PySem.W.fnOf "hear" "Shifter.hear" (defArgs s_Shifter_hear) (defBody s_Shifter_hear) (defScope s_Shifter_hear) .none kV29 dc29 pm29 an29 cd29 ct29), sl29⟩)
    (c29 : PySem.W.codeIn K cd29 "Shifter.hear" = true)
    (k29 : PySem.W.keepIn K (.ref f29) = true)
    (a30 : PySem.W.nsIn K mainGlobals "_law_cell_at" = some (some (.ref f30)))
    (l30 : K.lookup f30 = some ⟨oc30, od30, .func (PySem.W.fnOf "_law_cell_at" "_law_cell_at" (defArgs s_l_cell_at) (defBody s_l_cell_at) (defScope s_l_cell_at) .none kV30 dc30 pm30 an30 cd30 ct30), sl30⟩)
    (c30 : PySem.W.codeIn K cd30 "_law_cell_at" = true)
    (k30 : PySem.W.keepIn K (.ref f30) = true)
    (a31 : PySem.W.nsIn K mainGlobals "_law_next" = some (some (.ref f31)))
    (l31 : K.lookup f31 = some ⟨oc31, od31, .func (PySem.W.fnOf "_law_next" "_law_next" (defArgs s_l_next) (defBody s_l_next) (defScope s_l_next) .none kV31 dc31 pm31 an31 cd31 ct31), sl31⟩)
    (c31 : PySem.W.codeIn K cd31 "_law_next" = true)
    (k31 : PySem.W.keepIn K (.ref f31) = true)
    (a32 : PySem.W.nsIn K mainGlobals "_law_seed" = some (some (.ref f32)))
    (l32 : K.lookup f32 = some ⟨oc32, od32, .func (PySem.W.fnOf "_law_seed" "_law_seed" (defArgs s_l_seed) (defBody s_l_seed) (defScope s_l_seed) .none kV32 dc32 pm32 an32 cd32 ct32), sl32⟩)
    (c32 : PySem.W.codeIn K cd32 "_law_seed" = true)
    (k32 : PySem.W.keepIn K (.ref f32) = true)
    (a33 : PySem.W.nsIn K mainGlobals "_law_is_whole" = some (some (.ref f33)))
    (l33 : K.lookup f33 = some ⟨oc33, od33, .func (PySem.W.fnOf "_law_is_whole" "_law_is_whole" (defArgs s_l_is_whole) (defBody s_l_is_whole) (defScope s_l_is_whole) .none kV33 dc33 pm33 an33 cd33 ct33), sl33⟩)
    (c33 : PySem.W.codeIn K cd33 "_law_is_whole" = true)
    (k33 : PySem.W.keepIn K (.ref f33) = true)
    (a34 : PySem.W.nsIn K mainGlobals "_law_good" = some (some (.ref f34)))
    (l34 : K.lookup f34 = some ⟨oc34, od34, .func (PySem.W.fnOf "_law_good" "_law_good" (defArgs s_l_good) (defBody s_l_good) (defScope s_l_good) .none kV34 dc34 pm34 an34 cd34 ct34), sl34⟩)
    (c34 : PySem.W.codeIn K cd34 "_law_good" = true)
    (k34 : PySem.W.keepIn K (.ref f34) = true)
    (a35 : PySem.W.nsIn K mainGlobals "_law_odd" = some (some (.ref f35)))
    (l35 : K.lookup f35 = some ⟨oc35, od35, .func (PySem.W.fnOf "_law_odd" "_law_odd" (defArgs s_l_odd) (defBody s_l_odd) (defScope s_l_odd) .none kV35 dc35 pm35 an35 cd35 ct35), sl35⟩)
    (c35 : PySem.W.codeIn K cd35 "_law_odd" = true)
    (k35 : PySem.W.keepIn K (.ref f35) = true)
    (a36 : PySem.W.nsIn K mainGlobals "_law_which" = some (some (.ref f36)))
    (l36 : K.lookup f36 = some ⟨oc36, od36, .func (PySem.W.fnOf "_law_which" "_law_which" (defArgs s_l_which) (defBody s_l_which) (defScope s_l_which) .none kV36 dc36 pm36 an36 cd36 ct36), sl36⟩)
    (c36 : PySem.W.codeIn K cd36 "_law_which" = true)
    (k36 : PySem.W.keepIn K (.ref f36) = true)
    (a37 : PySem.W.nsIn K mainGlobals "_law_made" = some (some (.ref f37)))
    (l37 : K.lookup f37 = some ⟨oc37, od37, .func (PySem.W.fnOf "_law_made" "_law_made" (defArgs s_l_made) (defBody s_l_made) (defScope s_l_made) .none kV37 dc37 pm37 an37 cd37 ct37), sl37⟩)
    (c37 : PySem.W.codeIn K cd37 "_law_made" = true)
    (k37 : PySem.W.keepIn K (.ref f37) = true)
    (a38 : PySem.W.nsIn K mainGlobals "_law_say" = some (some (.ref f38)))
    (l38 : K.lookup f38 = some ⟨oc38, od38, .func (PySem.W.fnOf "_law_say" "_law_say" (defArgs s_l_say) (defBody s_l_say) (defScope s_l_say) .none kV38 dc38 pm38 an38 cd38 ct38), sl38⟩)
    (c38 : PySem.W.codeIn K cd38 "_law_say" = true)
    (k38 : PySem.W.keepIn K (.ref f38) = true)
    (a39 : PySem.W.nsIn K mainGlobals "_law_hear" = some (some (.ref f39)))
    (l39 : K.lookup f39 = some ⟨oc39, od39, .func (PySem.W.fnOf "_law_hear" "_law_hear" (defArgs s_l_hear) (defBody s_l_hear) (defScope s_l_hear) .none kV39 dc39 pm39 an39 cd39 ct39), sl39⟩)
    (c39 : PySem.W.codeIn K cd39 "_law_hear" = true)
    (k39 : PySem.W.keepIn K (.ref f39) = true)
    (a40 : PySem.W.nsIn K mainGlobals "_law_on_scale" = some (some (.ref f40)))
    (l40 : K.lookup f40 = some ⟨oc40, od40, .func (PySem.W.fnOf "_law_on_scale" "_law_on_scale" (defArgs s_l_on_scale) (defBody s_l_on_scale) (defScope s_l_on_scale) .none kV40 dc40 pm40 an40 cd40 ct40), sl40⟩)
    (c40 : PySem.W.codeIn K cd40 "_law_on_scale" = true)
    (k40 : PySem.W.keepIn K (.ref f40) = true)
    (a41 : PySem.W.nsIn K mainGlobals "_law_turn_due" = some (some (.ref f41)))
    (l41 : K.lookup f41 = some ⟨oc41, od41, .func (PySem.W.fnOf "_law_turn_due" "_law_turn_due" (defArgs s_l_turn_due) (defBody s_l_turn_due) (defScope s_l_turn_due) .none kV41 dc41 pm41 an41 cd41 ct41), sl41⟩)
    (c41 : PySem.W.codeIn K cd41 "_law_turn_due" = true)
    (k41 : PySem.W.keepIn K (.ref f41) = true)
    (a42 : PySem.W.nsIn K mainGlobals "_law_heard" = some (some (.ref f42)))
    (l42 : K.lookup f42 = some ⟨oc42, od42, .func (PySem.W.fnOf "_law_heard" "_law_heard" (defArgs s_l_heard) (defBody s_l_heard) (defScope s_l_heard) .none kV42 dc42 pm42 an42 cd42 ct42), sl42⟩)
    (c42 : PySem.W.codeIn K cd42 "_law_heard" = true)
    (k42 : PySem.W.keepIn K (.ref f42) = true)
    (a43 : PySem.W.nsIn K mainGlobals "law" = some (some (.ref f43)))
    (l43 : K.lookup f43 = some ⟨oc43, od43, .func (PySem.W.fnOf "law" "law" (defArgs s_law) (defBody s_law) (defScope s_law) .none kV43 dc43 pm43 an43 cd43 ct43), sl43⟩)
    (c43 : PySem.W.codeIn K cd43 "law" = true)
    (k43 : PySem.W.keepIn K (.ref f43) = true)
    (pg0 : PySem.W.plainGet K C_Hand Str.empty = true)
    (hd0 : PySem.W.hasDictIn K C_Hand = true)
    (po0 : PySem.W.plainOver K C_Hand = true)
    (sa0 : PySem.W.findIn K (.ref C_Hand) "__setattr__" = some (some (.builtin "object.__setattr__")))
    (ca0 : PySem.W.findIn K (.ref C_Hand) "__class__" = some (some (.builtin "object.__class__")))
    (cm0 : PySem.W.mroIn K C_Hand (.type "object") = some true)
    (so0___init__ : PySem.W.specialIn K (.ref C_Hand) "__getattribute__" = some (some (.builtin "type.__getattribute__")))
    (rd0___init__ : PySem.W.readsIn K C_Hand (.type "type") = true)
    (fc0___init__ : PySem.W.findCls K (.ref C_Hand) (.type "type") "__init__" = some (.val (.ref f21)))
    (pg1 : PySem.W.plainGet K C_Weigher Str.empty = true)
    (hd1 : PySem.W.hasDictIn K C_Weigher = true)
    (po1 : PySem.W.plainOver K C_Weigher = true)
    (sa1 : PySem.W.findIn K (.ref C_Weigher) "__setattr__" = some (some (.builtin "object.__setattr__")))
    (ca1 : PySem.W.findIn K (.ref C_Weigher) "__class__" = some (some (.builtin "object.__class__")))
    (cm1 : PySem.W.mroIn K C_Weigher (.type "object") = some true)
    (so1___init__ : PySem.W.specialIn K (.ref C_Weigher) "__getattribute__" = some (some (.builtin "type.__getattribute__")))
    (rd1___init__ : PySem.W.readsIn K C_Weigher (.type "type") = true)
    (fc1___init__ : PySem.W.findCls K (.ref C_Weigher) (.type "type") "__init__" = some (.val (.ref f22)))
    (pg2 : PySem.W.plainGet K C_Shifter Str.empty = true)
    (hd2 : PySem.W.hasDictIn K C_Shifter = true)
    (po2 : PySem.W.plainOver K C_Shifter = true)
    (sa2 : PySem.W.findIn K (.ref C_Shifter) "__setattr__" = some (some (.builtin "object.__setattr__")))
    (ca2 : PySem.W.findIn K (.ref C_Shifter) "__class__" = some (some (.builtin "object.__class__")))
    (cm2 : PySem.W.mroIn K C_Shifter (.type "object") = some true)
    (n2_many : PySem.W.findIn K (.ref C_Shifter) "many" = some none)
    (n2_scale : PySem.W.findIn K (.ref C_Shifter) "scale" = some none)
    (n2_top : PySem.W.findIn K (.ref C_Shifter) "top" = some none)
    (n2_bottom : PySem.W.findIn K (.ref C_Shifter) "bottom" = some none)
    (n2_tops : PySem.W.findIn K (.ref C_Shifter) "tops" = some none)
    (n2_under : PySem.W.findIn K (.ref C_Shifter) "under" = some none)
    (n2_share : PySem.W.findIn K (.ref C_Shifter) "share" = some none)
    (n2_parts : PySem.W.findIn K (.ref C_Shifter) "parts" = some none)
    (mk2 : PySem.W.makesIn K C_Shifter = true)
    (kc2 : PySem.W.keepIn K (.ref C_Shifter) = true)
    (e2_heeded : PySem.W.findIn K (.ref C_Shifter) "heeded" = some (some (.ref f24)))
    (e2_say : PySem.W.findIn K (.ref C_Shifter) "say" = some (some (.ref f26)))
    (e2_weigh : PySem.W.findIn K (.ref C_Shifter) "weigh" = some (some (.ref f27)))
    (e2_weights : PySem.W.findIn K (.ref C_Shifter) "weights" = some (some (.ref f25)))
    (Tga_NoTurn : PySem.W.findIn K (.ref C_NoTurn) "__getattribute__" = some (some (.builtin "BaseException.__getattribute__")))
    (Thk_NoTurn : PySem.W.findIn K (.ref C_NoTurn) "__getattr__" = some none)
    (Tmb_NoTurn : PySem.W.mroIn K C_NoTurn (.type "BaseException") = some true)
    (Tmo_NoTurn : PySem.W.mroIn K C_NoTurn (.type "object") = some true)
    (Tca_NoTurn : PySem.W.findIn K (.ref C_NoTurn) "__class__" = some (some (.builtin "object.__class__")))
    (Thd_NoTurn : PySem.W.hasDictIn K C_NoTurn = true)
    (Ll_NoTurn : K.lookup C_NoTurn = some (excClassObj nm_NoTurn qn_NoTurn C_NoTurn N_NoTurn bs_NoTurn (.ref C_HeedError :: bmV) true sn_NoTurn sub_NoTurn ab_NoTurn col_NoTurn dd_NoTurn ka_NoTurn kb_NoTurn kc_NoTurn kd_NoTurn ke_NoTurn "ValueError.__new__"))
    (Tsa_NoTurn : PySem.W.findIn K (.ref C_NoTurn) "__setattr__" = some (some (.builtin "object.__setattr__")))
    (Tkp_NoTurn : PySem.W.keepIn K (.ref C_NoTurn) = true)
    (Tga_NoRule : PySem.W.findIn K (.ref C_NoRule) "__getattribute__" = some (some (.builtin "BaseException.__getattribute__")))
    (Thk_NoRule : PySem.W.findIn K (.ref C_NoRule) "__getattr__" = some none)
    (Tmb_NoRule : PySem.W.mroIn K C_NoRule (.type "BaseException") = some true)
    (Tmo_NoRule : PySem.W.mroIn K C_NoRule (.type "object") = some true)
    (Tca_NoRule : PySem.W.findIn K (.ref C_NoRule) "__class__" = some (some (.builtin "object.__class__")))
    (Thd_NoRule : PySem.W.hasDictIn K C_NoRule = true)
    (Ee_HeedError : PySem.W.excIn K C_HeedError bmV "ValueError.__new__" = true)
    (En_NoTurn_number : PySem.W.findIn K (.ref C_NoTurn) "number" = some none)
    (Ex_NoTurn_HeedError : PySem.W.exmOne K (.ref C_NoTurn) (.ref C_HeedError) = some true)
    (Ei_NoTurn_ValueError : PySem.W.kitOne K (.ref C_NoTurn) (.type "ValueError") = some true)
    (Ei_NoTurn_NoTurn : PySem.W.kitOne K (.ref C_NoTurn) (.ref C_NoTurn) = some true)
    (Ei_NoTurn_NoRow : PySem.W.kitOne K (.ref C_NoTurn) (.ref C_NoRow) = some false)
    (Ei_NoTurn_NoRule : PySem.W.kitOne K (.ref C_NoTurn) (.ref C_NoRule) = some false)
    (Ei_NoTurn_NoWay : PySem.W.kitOne K (.ref C_NoTurn) (.ref C_NoWay) = some false)
    (Ei_NoTurn_NoName : PySem.W.kitOne K (.ref C_NoTurn) (.ref C_NoName) = some false)
    (Ei_NoTurn_Twice : PySem.W.kitOne K (.ref C_NoTurn) (.ref C_Twice) = some false)
    (Ee_NoRule : PySem.W.excIn K C_NoRule bmV "ValueError.__new__" = true)
    (Ex_NoRule_HeedError : PySem.W.exmOne K (.ref C_NoRule) (.ref C_HeedError) = some true)
    (Ei_NoRule_ValueError : PySem.W.kitOne K (.ref C_NoRule) (.type "ValueError") = some true)
    (Ei_NoRule_NoTurn : PySem.W.kitOne K (.ref C_NoRule) (.ref C_NoTurn) = some false)
    (Ei_NoRule_NoRow : PySem.W.kitOne K (.ref C_NoRule) (.ref C_NoRow) = some false)
    (Ei_NoRule_NoRule : PySem.W.kitOne K (.ref C_NoRule) (.ref C_NoRule) = some true)
    (Ei_NoRule_NoWay : PySem.W.kitOne K (.ref C_NoRule) (.ref C_NoWay) = some false)
    (Ei_NoRule_NoName : PySem.W.kitOne K (.ref C_NoRule) (.ref C_NoName) = some false)
    (Ei_NoRule_Twice : PySem.W.kitOne K (.ref C_NoRule) (.ref C_Twice) = some false)
    (gn : PySem.W.specialIn K (.builtin "object.__class__") "__get__" = some (some (.builtin "getset_descriptor.__get__")))
    (gt : PySem.W.takesIn K (.builtin "object.__class__") = some true)
    (z0 : PySem.W.nsIn K mainGlobals "len" = some none)
    (z1 : PySem.W.nsIn K mainGlobals "tuple" = some none)
    (z2 : PySem.W.nsIn K mainGlobals "list" = some none)
    (z3 : PySem.W.nsIn K mainGlobals "sum" = some none)
    (z4 : PySem.W.nsIn K mainGlobals "zip" = some none)
    (z5 : PySem.W.nsIn K mainGlobals "sorted" = some none)
    (z6 : PySem.W.nsIn K mainGlobals "range" = some none)
    (z7 : PySem.W.nsIn K mainGlobals "isinstance" = some none)
    (z8 : PySem.W.nsIn K mainGlobals "int" = some none)
    (z9 : PySem.W.nsIn K mainGlobals "bool" = some none)
    (z10 : PySem.W.nsIn K mainGlobals "all" = some none)
    (z11 : PySem.W.nsIn K mainGlobals "enumerate" = some none)
    (z12 : PySem.W.nsIn K mainGlobals "abs" = some none)
    (z13 : PySem.W.nsIn K mainGlobals "min" = some none)
    (z14 : PySem.W.nsIn K mainGlobals "max" = some none)
    (z15 : PySem.W.nsIn K mainGlobals "ValueError" = some none)
    (y0 : PySem.W.nsIn K mainGlobals "MOST_ADVISERS" = some (some (.int 24 tk0)))
    (y1 : PySem.W.nsIn K mainGlobals "MOST_SCALE" = some (some (.int 10 tk1)))
    (y2 : PySem.W.nsIn K mainGlobals "MOST_BOTTOM" = some (some (.int 100 tk2)))
    (y3 : PySem.W.nsIn K mainGlobals "MOST_PARTS" = some (some (.int 100 tk3))) :
    ∃ fd : FuncData, (∀ (s : Shared) (v : Value), BindsTo s fd ⟨[v], []⟩ [("_law_script", v)]) ∧ ∀ base : Heap, K.In base → base.Ns mainGlobals mg → FnOk l.prog w K mg base CX0 16 fa fd ["_law_script"] (toSp K spLaw) := by
  have e := hfa.symm.trans (PySem.W.mg_of X G a43)
  cases e
  have T : Txt K mg C_Hand C_Weigher C_Shifter C_HeedError C_NoTurn C_NoRule C_NoRow C_NoWay C_NoName C_Twice := ⟨PySem.W.mg_none_of X G z0, PySem.W.mg_none_of X G z1, PySem.W.mg_none_of X G z2, PySem.W.mg_none_of X G z3, PySem.W.mg_none_of X G z4, PySem.W.mg_none_of X G z5, PySem.W.mg_none_of X G z6, PySem.W.mg_none_of X G z7, PySem.W.mg_none_of X G z8, PySem.W.mg_none_of X G z9, PySem.W.mg_none_of X G z10, PySem.W.mg_none_of X G z11, PySem.W.mg_none_of X G z12, PySem.W.mg_none_of X G z13, PySem.W.mg_none_of X G z14, PySem.W.mg_none_of X G z15, ⟨_, PySem.W.mg_of X G y0⟩, ⟨_, PySem.W.mg_of X G y1⟩, ⟨_, PySem.W.mg_of X G y2⟩, ⟨_, PySem.W.mg_of X G y3⟩, ⟨⟨pg0, hd0, po0, sa0⟩, ca0, gn, gt, cm0⟩, PySem.W.mg_of X G aC0, ⟨⟨pg1, hd1, po1, sa1⟩, ca1, gn, gt, cm1⟩, PySem.W.mg_of X G aC1, ⟨⟨pg2, hd2, po2, sa2⟩, ca2, gn, gt, cm2⟩, PySem.W.mg_of X G aC2, n2_many, n2_scale, n2_top, n2_bottom, n2_tops, n2_under, n2_share, n2_parts, PySem.W.mg_of X G aE_HeedError, Ee_HeedError, PySem.W.mg_of X G aE_NoTurn, ⟨Tga_NoTurn, Thk_NoTurn, Tmb_NoTurn, Tmo_NoTurn, Tca_NoTurn, gn, gt, Thd_NoTurn⟩, En_NoTurn_number, Ex_NoTurn_HeedError, Ei_NoTurn_ValueError, Ei_NoTurn_NoTurn, Ei_NoTurn_NoRow, Ei_NoTurn_NoRule, Ei_NoTurn_NoWay, Ei_NoTurn_NoName, Ei_NoTurn_Twice, PySem.W.mg_of X G aE_NoRule, Ee_NoRule, ⟨Tga_NoRule, Thk_NoRule, Tmb_NoRule, Tmo_NoRule, Tca_NoRule, gn, gt, Thd_NoRule⟩, Ex_NoRule_HeedError, Ei_NoRule_ValueError, Ei_NoRule_NoTurn, Ei_NoRule_NoRow, Ei_NoRule_NoRule, Ei_NoRule_NoWay, Ei_NoRule_NoName, Ei_NoRule_Twice, PySem.W.mg_of X G aE_NoRow, PySem.W.mg_of X G aE_NoWay, PySem.W.mg_of X G aE_NoName, PySem.W.mg_of X G aE_Twice⟩
  have E0 := fun_mk (st := s_NoTurn___init__) l0 c0 k0
  have b0 := E0.binds (ps := ["self", "number"]) fun _ _ _ _ _ _ us hl => by obtain ⟨_, _, rfl⟩ := len2 hl; rfl
  have E1 := fun_mk (st := s_is_whole) l1 c1 k1
  have b1 := E1.binds (ps := ["value"]) fun _ _ _ _ _ _ us hl => by obtain ⟨_, rfl⟩ := len1 hl; rfl
  have E2 := fun_mk (st := s_counted) l2 c2 k2
  have b2 := E2.binds (ps := ["weights"]) fun _ _ _ _ _ _ us hl => by obtain ⟨_, rfl⟩ := len1 hl; rfl
  have E3 := fun_mk (st := s_middle) l3 c3 k3
  have b3 := E3.binds (ps := ["numbers", "weights"]) fun _ _ _ _ _ _ us hl => by obtain ⟨_, _, rfl⟩ := len2 hl; rfl
  have E4 := fun_mk (st := s_check_within) l4 c4 k4
  have b4 := E4.binds (ps := ["what", "value", "least", "most"]) fun _ _ _ _ _ _ us hl => by obtain ⟨_, _, _, _, rfl⟩ := len4 hl; rfl
  have E5 := fun_mk (st := s_check_scale) l5 c5 k5
  have b5 := E5.binds (ps := ["scale"]) fun _ _ _ _ _ _ us hl => by obtain ⟨_, rfl⟩ := len1 hl; rfl
  have E6 := fun_mk (st := s_check_making) l6 c6 k6
  have b6 := E6.binds (ps := ["many", "scale"]) fun _ _ _ _ _ _ us hl => by obtain ⟨_, _, rfl⟩ := len2 hl; rfl
  have E7 := fun_mk (st := s_check_fraction) l7 c7 k7
  have b7 := E7.binds (ps := ["top", "bottom"]) fun _ _ _ _ _ _ us hl => by obtain ⟨_, _, rfl⟩ := len2 hl; rfl
  have E8 := fun_mk (st := s_check_share) l8 c8 k8
  have b8 := E8.binds (ps := ["share", "parts"]) fun _ _ _ _ _ _ us hl => by obtain ⟨_, _, rfl⟩ := len2 hl; rfl
  have E9 := fun_mk (st := s_is_on_scale) l9 c9 k9
  have b9 := E9.binds (ps := ["scale", "value"]) fun _ _ _ _ _ _ us hl => by obtain ⟨_, _, rfl⟩ := len2 hl; rfl
  have E10 := fun_mk (st := s_is_said) l10 c10 k10
  have b10 := E10.binds (ps := ["many", "scale", "said"]) fun _ _ _ _ _ _ us hl => by obtain ⟨_, _, _, rfl⟩ := len3 hl; rfl
  have E11 := fun_mk (st := s_check_said) l11 c11 k11
  have b11 := E11.binds (ps := ["many", "scale", "said"]) fun _ _ _ _ _ _ us hl => by obtain ⟨_, _, _, rfl⟩ := len3 hl; rfl
  have E12 := fun_mk (st := s_power) l12 c12 k12
  have b12 := E12.binds (ps := ["base", "exponent"]) fun _ _ _ _ _ _ us hl => by obtain ⟨_, _, rfl⟩ := len2 hl; rfl
  have E13 := fun_mk (st := s_charge) l13 c13 k13
  have b13 := E13.binds (ps := ["what", "so"]) fun _ _ _ _ _ _ us hl => by obtain ⟨_, _, rfl⟩ := len2 hl; rfl
  have E14 := fun_mk (st := s_is_turn) l14 c14 k14
  have b14 := E14.binds (ps := ["many", "scale", "turn"]) fun _ _ _ _ _ _ us hl => by obtain ⟨_, _, _, rfl⟩ := len3 hl; rfl
  have E15 := fun_mk (st := s_check_turn) l15 c15 k15
  have b15 := E15.binds (ps := ["many", "scale", "said", "so"]) fun _ _ _ _ _ _ us hl => by obtain ⟨_, _, _, _, rfl⟩ := len4 hl; rfl
  have E16 := fun_mk (st := s_awake_in) l16 c16 k16
  have b16 := E16.binds (ps := ["said"]) fun _ _ _ _ _ _ us hl => by obtain ⟨_, rfl⟩ := len1 hl; rfl
  have E17 := fun_mk (st := s_middle_awake) l17 c17 k17
  have b17 := E17.binds (ps := ["said", "weights"]) fun _ _ _ _ _ _ us hl => by obtain ⟨_, _, rfl⟩ := len2 hl; rfl
  have E18 := fun_mk (st := s_times_awake) l18 c18 k18
  have b18 := E18.binds (ps := ["keeper", "own", "off"]) fun _ _ _ _ _ _ us hl => by obtain ⟨_, _, _, rfl⟩ := len3 hl; rfl
  have E19 := fun_mk (st := s_times_asleep) l19 c19 k19
  have b19 := E19.binds (ps := ["keeper", "own"]) fun _ _ _ _ _ _ us hl => by obtain ⟨_, _, rfl⟩ := len2 hl; rfl
  have E20 := fun_mk (st := s_times) l20 c20 k20
  have b20 := E20.binds (ps := ["keeper", "own", "what", "so"]) fun _ _ _ _ _ _ us hl => by obtain ⟨_, _, _, _, rfl⟩ := len4 hl; rfl
  have E21 := fun_mk (st := s_Hand___init__) l21 c21 k21
  have b21 := E21.binds (ps := ["self", "many", "scale"]) fun _ _ _ _ _ _ us hl => by obtain ⟨_, _, _, rfl⟩ := len3 hl; rfl
  have E22 := fun_mk (st := s_Weigher___init__) l22 c22 k22
  have b22 := E22.binds (ps := ["self", "many", "scale", "top", "bottom"]) fun _ _ _ _ _ _ us hl => by obtain ⟨_, _, _, _, _, rfl⟩ := len5 hl; rfl
  have E23 := fun_mk (st := s_Shifter___init__) l23 c23 k23
  have b23 := E23.binds (ps := ["self", "many", "scale", "top", "bottom", "share", "parts"]) fun _ _ _ _ _ _ us hl => by obtain ⟨_, _, _, _, _, _, _, rfl⟩ := len7 hl; rfl
  have E24 := fun_mk (st := s_Weigher_heeded) l24 c24 k24
  have b24 := E24.binds (ps := ["self"]) fun _ _ _ _ _ _ us hl => by obtain ⟨_, rfl⟩ := len1 hl; rfl
  have E25 := fun_mk (st := s_Weigher_weights) l25 c25 k25
  have b25 := E25.binds (ps := ["self"]) fun _ _ _ _ _ _ us hl => by obtain ⟨_, rfl⟩ := len1 hl; rfl
  have E26 := fun_mk (st := s_Hand_say) l26 c26 k26
  have b26 := E26.binds (ps := ["self", "said"]) fun _ _ _ _ _ _ us hl => by obtain ⟨_, _, rfl⟩ := len2 hl; rfl
  have E27 := fun_mk (st := s_Weigher_weigh) l27 c27 k27
  have b27 := E27.binds (ps := ["self", "said", "so"]) fun _ _ _ _ _ _ us hl => by obtain ⟨_, _, _, rfl⟩ := len3 hl; rfl
  have E28 := fun_mk (st := s_Shifter_deal) l28 c28 k28
  have b28 := E28.binds (ps := ["self"]) fun _ _ _ _ _ _ us hl => by obtain ⟨_, rfl⟩ := len1 hl; rfl
  have E29 := fun_mk (st := s_Shifter_hear) l29 c29 k29
  have b29 := E29.binds (ps := ["self", "said", "so"]) fun _ _ _ _ _ _ us hl => by obtain ⟨_, _, _, rfl⟩ := len3 hl; rfl
  have E30 := fun_mk (st := s_l_cell_at) l30 c30 k30
  have b30 := E30.binds (ps := ["_law_script", "_law_k"]) fun _ _ _ _ _ _ us hl => by obtain ⟨_, _, rfl⟩ := len2 hl; rfl
  have E31 := fun_mk (st := s_l_next) l31 c31 k31
  have b31 := E31.binds (ps := ["_law_x"]) fun _ _ _ _ _ _ us hl => by obtain ⟨_, rfl⟩ := len1 hl; rfl
  have E32 := fun_mk (st := s_l_seed) l32 c32 k32
  have b32 := E32.binds (ps := ["_law_script", "_law_k"]) fun _ _ _ _ _ _ us hl => by obtain ⟨_, _, rfl⟩ := len2 hl; rfl
  have E33 := fun_mk (st := s_l_is_whole) l33 c33 k33
  have b33 := E33.binds (ps := ["_law_thing"]) fun _ _ _ _ _ _ us hl => by obtain ⟨_, rfl⟩ := len1 hl; rfl
  have E34 := fun_mk (st := s_l_good) l34 c34 k34
  have b34 := E34.binds (ps := ["_law_some"]) fun _ _ _ _ _ _ us hl => by obtain ⟨_, rfl⟩ := len1 hl; rfl
  have E35 := fun_mk (st := s_l_odd) l35 c35 k35
  have b35 := E35.binds (ps := ["_law_some", "_law_x", "_law_cell"]) fun _ _ _ _ _ _ us hl => by obtain ⟨_, _, _, rfl⟩ := len3 hl; rfl
  have E36 := fun_mk (st := s_l_which) l36 c36 k36
  have b36 := E36.binds (ps := ["_law_error"]) fun _ _ _ _ _ _ us hl => by obtain ⟨_, rfl⟩ := len1 hl; rfl
  have E37 := fun_mk (st := s_l_made) l37 c37 k37
  have b37 := E37.binds (ps := ["_law_some"]) fun _ _ _ _ _ _ us hl => by obtain ⟨_, rfl⟩ := len1 hl; rfl
  have E38 := fun_mk (st := s_l_say) l38 c38 k38
  have b38 := E38.binds (ps := ["_law_hand", "_law_said"]) fun _ _ _ _ _ _ us hl => by obtain ⟨_, _, rfl⟩ := len2 hl; rfl
  have E39 := fun_mk (st := s_l_hear) l39 c39 k39
  have b39 := E39.binds (ps := ["_law_hand", "_law_said", "_law_so"]) fun _ _ _ _ _ _ us hl => by obtain ⟨_, _, _, rfl⟩ := len3 hl; rfl
  have E40 := fun_mk (st := s_l_on_scale) l40 c40 k40
  have b40 := E40.binds (ps := ["_law_thing", "_law_scale"]) fun _ _ _ _ _ _ us hl => by obtain ⟨_, _, rfl⟩ := len2 hl; rfl
  have E41 := fun_mk (st := s_l_turn_due) l41 c41 k41
  have b41 := E41.binds (ps := ["_law_hand", "_law_said", "_law_so"]) fun _ _ _ _ _ _ us hl => by obtain ⟨_, _, _, rfl⟩ := len3 hl; rfl
  have E42 := fun_mk (st := s_l_heard) l42 c42 k42
  have b42 := E42.binds (ps := ["_law_hand", "_law_x"]) fun _ _ _ _ _ _ us hl => by obtain ⟨_, _, rfl⟩ := len2 hl; rfl
  have E43 := fun_mk (st := s_law) l43 c43 k43
  have b43 := E43.binds (ps := ["_law_script"]) fun _ _ _ _ _ _ us hl => by obtain ⟨_, rfl⟩ := len1 hl; rfl
  refine ⟨PySem.W.fnOf "law" "law" (defArgs s_law) (defBody s_law) (defScope s_law) .none kV43 dc43 pm43 an43 cd43 ct43, fun s v => .of_eq rfl, fun base _ _ => ?_⟩
  have Z_NoTurn : ExcI K C_NoTurn f0 "number" := ⟨⟨_, _, _, _, _, _, _, _, _, _, _, _, _, _, _, Ll_NoTurn, fun h X => tail1 X Ee_HeedError⟩, a0, beq_iff_eq.mp i0, Tsa_NoTurn, En_NoTurn_number, Tkp_NoTurn⟩
  have W_NoTurn___init__ : FnOk l.prog w K mg base CX0 1 f0 _ ["self", "number"] (spI C_NoTurn "number") := ok_NoTurn___init__ T E0 Z_NoTurn
  have F_is_whole : DefOk l.prog w K mg base 1 "is_whole" (pureSp spIsWholeO) := ok_is_whole T E1 (PySem.W.mg_of X G a1) b1
  have F_counted : DefOk l.prog w K mg base 1 "counted" (pureSp spCounted) := ok_counted T E2 (PySem.W.mg_of X G a2) b2
  have F_middle : DefOk l.prog w K mg base 2 "middle" (pureSp spMiddle) := ok_middle T E3 (PySem.W.mg_of X G a3) b3 F_counted
  have F_check_within : DefX l.prog w K mg base 2 "check_within" (spWithinX C_NoRule) := ok_check_within T E4 (PySem.W.mg_of X G a4) b4 F_is_whole
  have F_check_scale : DefX l.prog w K mg base 3 "check_scale" (spScaleX C_NoRule) := ok_check_scale T E5 (PySem.W.mg_of X G a5) b5 F_check_within
  have F_check_making : DefX l.prog w K mg base 4 "check_making" (spMakingX C_NoRule) := ok_check_making T E6 (PySem.W.mg_of X G a6) b6 F_check_within F_check_scale
  have F_check_fraction : DefX l.prog w K mg base 3 "check_fraction" (spFractionX C_NoRule) := ok_check_fraction T E7 (PySem.W.mg_of X G a7) b7 F_check_within
  have F_check_share : DefX l.prog w K mg base 3 "check_share" (spShareX C_NoRule) := ok_check_share T E8 (PySem.W.mg_of X G a8) b8 F_check_within
  have F_is_on_scale : DefOk l.prog w K mg base 2 "is_on_scale" (pureSp spOnSO) := ok_is_on_scale T E9 (PySem.W.mg_of X G a9) b9 F_is_whole
  have F_is_said : DefOk l.prog w K mg base 3 "is_said" (pureSp spIsSaidO) := ok_is_said T E10 (PySem.W.mg_of X G a10) b10 F_is_on_scale
  have J_NoTurn : InitI l.prog w K mg base C_NoTurn 1 "NoTurn" "number" := ⟨⟨_, _, _, W_NoTurn___init__, Z_NoTurn, b0⟩, T.t_NoTurn, T.m_NoTurn⟩
  have F_check_said : DefX l.prog w K mg base 4 "check_said" (spCheckSaidX C_NoTurn) := ok_check_said T E11 (PySem.W.mg_of X G a11) b11 F_is_said J_NoTurn
  have F_power : DefOk l.prog w K mg base 1 "power" (pureSp spPow) := ok_power T E12 (PySem.W.mg_of X G a12) b12
  have F_charge : DefOk l.prog w K mg base 1 "charge" (pureSp spCharge) := ok_charge T E13 (PySem.W.mg_of X G a13) b13
  have F_is_turn : DefOk l.prog w K mg base 4 "is_turn" (pureSp spIsTurnO) := ok_is_turn T E14 (PySem.W.mg_of X G a14) b14 F_is_said F_is_on_scale
  have F_check_turn : DefX l.prog w K mg base 5 "check_turn" (spCheckX C_NoTurn) := ok_check_turn T E15 (PySem.W.mg_of X G a15) b15 F_is_turn J_NoTurn
  have F_awake_in : DefOk l.prog w K mg base 1 "awake_in" (pureSp spAwake) := ok_awake_in T E16 (PySem.W.mg_of X G a16) b16
  have F_middle_awake : DefOk l.prog w K mg base 4 "middle_awake" (pureSp spMA) := ok_middle_awake T E17 (PySem.W.mg_of X G a17) b17 F_middle F_awake_in
  have F_times_awake : DefOk l.prog w K mg base 2 "times_awake" (spTAS C_Shifter) := ok_times_awake T E18 (PySem.W.mg_of X G a18) b18 F_power
  have F_times_asleep : DefOk l.prog w K mg base 2 "times_asleep" (spTSS C_Shifter) := ok_times_asleep T E19 (PySem.W.mg_of X G a19) b19 F_power
  have F_times : DefOk l.prog w K mg base 3 "times" (spTFS C_Shifter) := ok_times T E20 (PySem.W.mg_of X G a20) b20 F_charge F_times_asleep F_times_awake
  have W_Hand___init__ : FnOk l.prog w K mg base (CX1 l.prog w) 5 f21 _ ["self", "many", "scale"] (toSpX K (spInitHX C_Shifter C_NoRule)) := ok_Hand___init__ T E21 F_check_making
  have O_Hand___init__ : OfClsX l.prog w K mg base "Hand" 5 "__init__" (spInitHX C_Shifter C_NoRule) := ⟨_, _, _, _, _, T.m_Hand, so0___init__, rd0___init__, fc0___init__, rfl, W_Hand___init__, k21, b21⟩
  have W_Weigher___init__ : FnOk l.prog w K mg base (CX1 l.prog w) 6 f22 _ ["self", "many", "scale", "top", "bottom"] (toSpX K (spInitWX C_Shifter C_NoRule)) := ok_Weigher___init__ T E22 F_check_fraction O_Hand___init__
  have O_Weigher___init__ : OfClsX l.prog w K mg base "Weigher" 6 "__init__" (spInitWX C_Shifter C_NoRule) := ⟨_, _, _, _, _, T.m_Weigher, so1___init__, rd1___init__, fc1___init__, rfl, W_Weigher___init__, k22, b22⟩
  have W_Shifter___init__ : FnOk l.prog w K mg base (CX1 l.prog w) 7 f23 _ ["self", "many", "scale", "top", "bottom", "share", "parts"] (toSpX K (spInitSX C_Shifter C_NoRule)) := ok_Shifter___init__ T E23 F_check_share O_Weigher___init__
  have W_Weigher_heeded : FnOk l.prog w K mg base CX0 1 f24 _ ["self"] (toSp K (spHeedS C_Shifter)) := ok_Weigher_heeded T E24
  have W_Weigher_weights : FnOk l.prog w K mg base CX0 1 f25 _ ["self"] (toSp K (spWeightsS C_Shifter)) := ok_Weigher_weights T E25
  have M_Shifter_heeded : MethOk l.prog w K mg base C_Shifter 1 "heeded" (spHeedS C_Shifter) := ⟨⟨_, _, _, W_Weigher_heeded, ⟨e2_heeded, i24, k24⟩, b24⟩, T.c_Shifter.cls⟩
  have W_Hand_say : FnOk l.prog w K mg base (CX1 l.prog w) 6 f26 _ ["self", "said"] (toSpX K (spSayX C_Shifter C_NoTurn)) := ok_Hand_say T E26 F_check_said F_middle_awake M_Shifter_heeded
  have M_Shifter_say : MethX l.prog w K mg base C_Shifter 6 "say" (spSayX C_Shifter C_NoTurn) := ⟨⟨_, _, _, W_Hand_say, ⟨e2_say, i26, k26⟩, b26⟩, T.c_Shifter.cls⟩
  have W_Weigher_weigh : FnOk l.prog w K mg base CX0 7 f27 _ ["self", "said", "so"] (toSp K (spWeighS C_Shifter)) := ok_Weigher_weigh T E27 F_charge M_Shifter_say F_times F_times_asleep
  have W_Shifter_deal : FnOk l.prog w K mg base CX0 1 f28 _ ["self"] (toSp K (spDealS C_Shifter)) := ok_Shifter_deal T E28
  have M_Shifter_weigh : MethOk l.prog w K mg base C_Shifter 7 "weigh" (spWeighS C_Shifter) := ⟨⟨_, _, _, W_Weigher_weigh, ⟨e2_weigh, i27, k27⟩, b27⟩, T.c_Shifter.cls⟩
  have M_Shifter_deal : MethOk l.prog w K mg base C_Shifter 1 "deal" (spDealS C_Shifter) := ⟨⟨_, _, _, W_Shifter_deal, ⟨a28, i28, k28⟩, b28⟩, T.c_Shifter.cls⟩
  have W_Shifter_hear : FnOk l.prog w K mg base (CX1 l.prog w) 8 f29 _ ["self", "said", "so"] (toSpX K (spHearX C_Shifter C_NoTurn)) := ok_Shifter_hear T E29 F_check_turn M_Shifter_weigh M_Shifter_deal
  have F_l_cell_at : DefOk l.prog w K mg base 1 "_law_cell_at" (pureSp spCell) := ok_l_cell_at T E30 (PySem.W.mg_of X G a30) b30
  have F_l_next : DefOk l.prog w K mg base 1 "_law_next" (pureSp spNext) := ok_l_next T E31 (PySem.W.mg_of X G a31) b31
  have F_l_seed : DefOk l.prog w K mg base 2 "_law_seed" (pureSp spSeedS) := ok_l_seed T E32 (PySem.W.mg_of X G a32) b32 F_l_cell_at F_l_next
  have F_l_is_whole : DefOk l.prog w K mg base 1 "_law_is_whole" (pureSp spIsWholeO) := ok_l_is_whole T E33 (PySem.W.mg_of X G a33) b33
  have F_l_good : DefOk l.prog w K mg base 2 "_law_good" spGood6 := ok_l_good T E34 (PySem.W.mg_of X G a34) b34 F_l_is_whole
  have F_l_odd : DefOk l.prog w K mg base 2 "_law_odd" spOdd6 := ok_l_odd T E35 (PySem.W.mg_of X G a35) b35 F_l_is_whole
  have F_l_which : DefH l.prog w K mg base 1 "_law_which" (spWhich C_NoTurn C_NoRule) := ok_l_which T E36 (PySem.W.mg_of X G a36) b36
  have K_Shifter : MakeX l.prog w K mg base C_Shifter 7 "Shifter" (spInitSX C_Shifter C_NoRule) := ⟨⟨_, _, _, W_Shifter___init__, ⟨mk2, a23, i23, kc2⟩, b23⟩, T.m_Shifter⟩
  have F_l_made : DefOk l.prog w K mg base 10 "_law_made" (spMade6 C_Shifter) := ok_l_made T E37 (PySem.W.mg_of X G a37) b37 K_Shifter F_l_which
  have F_l_say : DefOk l.prog w K mg base 10 "_law_say" (spSay6 C_Shifter) := ok_l_say T E38 (PySem.W.mg_of X G a38) b38 M_Shifter_say F_l_which
  have M_Shifter_hear : MethX l.prog w K mg base C_Shifter 8 "hear" (spHearX C_Shifter C_NoTurn) := ⟨⟨_, _, _, W_Shifter_hear, ⟨a29, i29, k29⟩, b29⟩, T.c_Shifter.cls⟩
  have F_l_hear : DefOk l.prog w K mg base 12 "_law_hear" (spHear6 C_Shifter) := ok_l_hear T E39 (PySem.W.mg_of X G a39) b39 M_Shifter_hear F_l_which
  have F_l_on_scale : DefOk l.prog w K mg base 2 "_law_on_scale" (pureSp spOnL) := ok_l_on_scale T E40 (PySem.W.mg_of X G a40) b40 F_l_is_whole
  have F_l_turn_due : DefOk l.prog w K mg base 3 "_law_turn_due" (spDue6 C_Shifter) := ok_l_turn_due T E41 (PySem.W.mg_of X G a41) b41 F_l_on_scale
  have M_Shifter_weights : MethOk l.prog w K mg base C_Shifter 1 "weights" (spWeightsS C_Shifter) := ⟨⟨_, _, _, W_Weigher_weights, ⟨e2_weights, i25, k25⟩, b25⟩, T.c_Shifter.cls⟩
  have F_l_heard : DefOk l.prog w K mg base 14 "_law_heard" (spHeard6 C_Shifter) := ok_l_heard T E42 (PySem.W.mg_of X G a42) b42 F_l_say F_l_hear F_l_turn_due M_Shifter_weights
  exact ok_law T E43 F_l_cell_at F_l_next F_l_seed F_l_good F_l_odd F_l_made F_l_heard
theorem walk {l : PySem.W.OpenLaw} {q : Program} {loose : List Str} {XP : (Str → Option Value) → Heap → Prop} {YP : World → Heap → Prop} {d : DefRec} {K : Params → PySem.W.Frag} (hn : l.most = some 63) (hdf : d.params.defaults = [])
    (hY : ∀ (w : World) (h : Heap), YP w h → (K w.params).In h)
    (F : ∀ (w : World) (mg : Str → Option Value) (fa : Addr) (h : Heap), (K w.params).In h → h.Ns mainGlobals mg → mg d.name = some (.ref fa) →
      ∃ fd : FuncData, (∀ (s : Shared) (u : Value), BindsTo s fd ⟨[u], []⟩ [("_law_script", u)]) ∧ ∀ base : Heap, (K w.params).In base → base.Ns mainGlobals mg → FnOk l.prog w (K w.params) mg base CX0 16 fa fd ["_law_script"] (toSp (K w.params) spLaw)) :
    PySem.W.WalkO q loose XP YP l.row.toRowW d [] (fun f vs => PySem.call f vs) :=
  L2.walk_of (n := 63) (k := 16) (x := "_law_script") (CX := fun _ => CX0) (sp := fun w => toSp (K w.params) spLaw) hn (by decide) hdf ⟨rfl, by decide, by decide⟩ hY F (fun _ _ a ns hl _ hS => law_start hl hS) fun _ _ _ _ _ z => z
end My
open PySem PySem.W PyProof.Rows
theorem My.walkZ {q : Program} {loose : List Str} {XP : (Str → Option Value) → Heap → Prop} {K : Params → PySem.W.Frag} {as : List Addr} {n t : Nat} {r : RowW} {d : DefRec} {kwd : List (Str × Expr)} {run : Value → List Value → Sem Value} (e : ∀ P, as = (K P).map (·.1))
    (h : WalkO q loose XP (fun w h => (K w.params).In h) r d kwd run) : WalkX q loose XP (X.obsZ as) (X.valZ K n t) r d kwd run := fun w s₀ s₁ mg mb G y a o pm cd doc dV kV ho hd hcd hD hmg hg args vals as' L hpre hlay hrd hwl hlo =>
  h w s₀ s₁ mg mb G (fun b o' e' => L.keeps _ _ ((X.z_facts e y).2.1 b o' e')) a o pm cd doc dV kV ho hd hcd hD hmg hg args vals as' hpre hlay hrd hwl hlo
def PySem.W.Fast.tw11502501682283640216 : Nat := 0
def PySem.W.Fast.tw2470056210680774574 : Nat := 0
def PySem.W.Fast.tw129403717236290252 : Nat := 0
def PySem.W.Fast.tw12165765096077386591 : Nat := 0
def PySem.W.Fast.tw6922236630693867005 : Nat := 0
def PySem.W.Fast.tw9071145159906769145 : Nat := 0
def PySem.W.Fast.tw6460920079551148775 : Nat := 0
def PySem.W.Fast.tw1864172402613227557 : Nat := 0
def PySem.W.Fast.tw14438996020463684029 : Nat := 0
def PySem.W.Fast.tw17573380573481560603 : Nat := 0
def PySem.W.Fast.tw13897817540421073989 : Nat := 0
def PySem.W.Fast.tw15481098032807287237 : Nat := 0
open PySem PySem.W PyProof.Rows
set_option maxRecDepth 100000 in
set_option maxHeartbeats 0 in
theorem PySem.Challenge.cw_heedwise_k62_no_shifter_holds : PySem.Challenge.rw_heedwise_k62_no_shifter.Holds := by
  w_on; o_law; z_head; (case hw => w_witness2)
  k_fill
  refine My.walkZ (fun P => rfl) ?_
  refine My.walk (l := PySem.Challenge.rw_heedwise_k62_no_shifter) rfl rfl (fun w h Y => Y) ?F
  case F =>
    intro w mg fa h KX G hmg
    refine' My.all_mk KX G hmg ?aC0 ?aC1 ?aC2 ?aE_HeedError ?aE_NoTurn ?aE_NoRule ?aE_NoRow ?aE_NoWay ?aE_NoName ?aE_Twice ?a0 ?i0 ?l0 ?c0 ?k0 ?a1 ?l1 ?c1 ?k1 ?a2 ?l2 ?c2 ?k2 ?a3 ?l3 ?c3 ?k3 ?a4 ?l4 ?c4 ?k4 ?a5 ?l5 ?c5 ?k5 ?a6 ?l6 ?c6 ?k6 ?a7 ?l7 ?c7 ?k7 ?a8 ?l8 ?c8 ?k8 ?a9 ?l9 ?c9 ?k9 ?a10 ?l10 ?c10 ?k10 ?a11 ?l11 ?c11 ?k11 ?a12 ?l12 ?c12 ?k12 ?a13 ?l13 ?c13 ?k13 ?a14 ?l14 ?c14 ?k14 ?a15 ?l15 ?c15 ?k15 ?a16 ?l16 ?c16 ?k16 ?a17 ?l17 ?c17 ?k17 ?a18 ?l18 ?c18 ?k18 ?a19 ?l19 ?c19 ?k19 ?a20 ?l20 ?c20 ?k20 ?a21 ?i21 ?l21 ?c21 ?k21 ?a22 ?i22 ?l22 ?c22 ?k22 ?a23 ?i23 ?l23 ?c23 ?k23 ?a24 ?i24 ?l24 ?c24 ?k24 ?a25 ?i25 ?l25 ?c25 ?k25 ?a26 ?i26 ?l26 ?c26 ?k26 ?a27 ?i27 ?l27 ?c27 ?k27 ?a28 ?i28 ?l28 ?c28 ?k28 ?a29 ?i29 ?l29 ?c29 ?k29 ?a30 ?l30 ?c30 ?k30 ?a31 ?l31 ?c31 ?k31 ?a32 ?l32 ?c32 ?k32 ?a33 ?l33 ?c33 ?k33 ?a34 ?l34 ?c34 ?k34 ?a35 ?l35 ?c35 ?k35 ?a36 ?l36 ?c36 ?k36 ?a37 ?l37 ?c37 ?k37 ?a38 ?l38 ?c38 ?k38 ?a39 ?l39 ?c39 ?k39 ?a40 ?l40 ?c40 ?k40 ?a41 ?l41 ?c41 ?k41 ?a42 ?l42 ?c42 ?k42 ?a43 ?l43 ?c43 ?k43 ?pg0 ?hd0 ?po0 ?sa0 ?ca0 ?cm0 ?so0___init__ ?rd0___init__ ?fc0___init__ ?pg1 ?hd1 ?po1 ?sa1 ?ca1 ?cm1 ?so1___init__ ?rd1___init__ ?fc1___init__ ?pg2 ?hd2 ?po2 ?sa2 ?ca2 ?cm2 ?n2_many ?n2_scale ?n2_top ?n2_bottom ?n2_tops ?n2_under ?n2_share ?n2_parts ?mk2 ?kc2 ?e2_heeded ?e2_say ?e2_weigh ?e2_weights ?Tga_NoTurn ?Thk_NoTurn ?Tmb_NoTurn ?Tmo_NoTurn ?Tca_NoTurn ?Thd_NoTurn ?Ll_NoTurn ?Tsa_NoTurn ?Tkp_NoTurn ?Tga_NoRule ?Thk_NoRule ?Tmb_NoRule ?Tmo_NoRule ?Tca_NoRule ?Thd_NoRule ?Ee_HeedError ?En_NoTurn_number ?Ex_NoTurn_HeedError ?Ei_NoTurn_ValueError ?Ei_NoTurn_NoTurn ?Ei_NoTurn_NoRow ?Ei_NoTurn_NoRule ?Ei_NoTurn_NoWay ?Ei_NoTurn_NoName ?Ei_NoTurn_Twice ?Ee_NoRule ?Ex_NoRule_HeedError ?Ei_NoRule_ValueError ?Ei_NoRule_NoTurn ?Ei_NoRule_NoRow ?Ei_NoRule_NoRule ?Ei_NoRule_NoWay ?Ei_NoRule_NoName ?Ei_NoRule_Twice ?gn ?gt ?z0 ?z1 ?z2 ?z3 ?z4 ?z5 ?z6 ?z7 ?z8 ?z9 ?z10 ?z11 ?z12 ?z13 ?z14 ?z15 ?y0 ?y1 ?y2 ?y3
    (case aC0 => k_is)
    (case aC1 => k_is)
    (case aC2 => k_is)
    (case aE_HeedError => k_is)
    (case aE_NoTurn => k_is)
    (case aE_NoRule => k_is)
    (case aE_NoRow => k_is)
    (case aE_NoWay => k_is)
    (case aE_NoName => k_is)
    (case aE_Twice => k_is)
    (case a0 => k_is)
    (case i0 => k_is)
    (case l0 => k_is)
    (case c0 => k_is)
    (case k0 => k_is)
    (case a1 => k_is)
    (case l1 => k_is)
    (case c1 => k_is)
    (case k1 => k_is)
    (case a2 => k_is)
    (case l2 => k_is)
    (case c2 => k_is)
    (case k2 => k_is)
    (case a3 => k_is)
    (case l3 => k_is)
    (case c3 => k_is)
    (case k3 => k_is)
    (case a4 => k_is)
    (case l4 => k_is)
    (case c4 => k_is)
    (case k4 => k_is)
    (case a5 => k_is)
    (case l5 => k_is)
    (case c5 => k_is)
    (case k5 => k_is)
    (case a6 => k_is)
    (case l6 => k_is)
    (case c6 => k_is)
    (case k6 => k_is)
    (case a7 => k_is)
    (case l7 => k_is)
    (case c7 => k_is)
    (case k7 => k_is)
    (case a8 => k_is)
    (case l8 => k_is)
    (case c8 => k_is)
    (case k8 => k_is)
    (case a9 => k_is)
    (case l9 => k_is)
    (case c9 => k_is)
    (case k9 => k_is)
    (case a10 => k_is)
    (case l10 => k_is)
    (case c10 => k_is)
    (case k10 => k_is)
    (case a11 => k_is)
    (case l11 => k_is)
    (case c11 => k_is)
    (case k11 => k_is)
    (case a12 => k_is)
    (case l12 => k_is)
    (case c12 => k_is)
    (case k12 => k_is)
    (case a13 => k_is)
    (case l13 => k_is)
    (case c13 => k_is)
    (case k13 => k_is)
    (case a14 => k_is)
    (case l14 => k_is)
    (case c14 => k_is)
    (case k14 => k_is)
    (case a15 => k_is)
    (case l15 => k_is)
    (case c15 => k_is)
    (case k15 => k_is)
    (case a16 => k_is)
    (case l16 => k_is)
    (case c16 => k_is)
    (case k16 => k_is)
    (case a17 => k_is)
    (case l17 => k_is)
    (case c17 => k_is)
    (case k17 => k_is)
    (case a18 => k_is)
    (case l18 => k_is)
    (case c18 => k_is)
    (case k18 => k_is)
    (case a19 => k_is)
    (case l19 => k_is)
    (case c19 => k_is)
    (case k19 => k_is)
    (case a20 => k_is)
    (case l20 => k_is)
    (case c20 => k_is)
    (case k20 => k_is)
    (case a21 => k_is)
    (case i21 => k_is)
    (case l21 => k_is)
    (case c21 => k_is)
    (case k21 => k_is)
    (case a22 => k_is)
    (case i22 => k_is)
    (case l22 => k_is)
    (case c22 => k_is)
    (case k22 => k_is)
    (case a23 => k_is)
    (case i23 => k_is)
    (case l23 => k_is)
    (case c23 => k_is)
    (case k23 => k_is)
    (case a24 => k_is)
    (case i24 => k_is)
    (case l24 => k_is)
    (case c24 => k_is)
    (case k24 => k_is)
    (case a25 => k_is)
    (case i25 => k_is)
    (case l25 => k_is)
    (case c25 => k_is)
    (case k25 => k_is)
    (case a26 => k_is)
    (case i26 => k_is)
    (case l26 => k_is)
    (case c26 => k_is)
    (case k26 => k_is)
    (case a27 => k_is)
    (case i27 => k_is)
    (case l27 => k_is)
    (case c27 => k_is)
    (case k27 => k_is)
    (case a28 => k_is)
    (case i28 => k_is)
    (case l28 => k_is)
    (case c28 => k_is)
    (case k28 => k_is)
    (case a29 => k_is)
    (case i29 => k_is)
    (case l29 => k_is)
    (case c29 => k_is)
    (case k29 => k_is)
    (case a30 => k_is)
    (case l30 => k_is)
    (case c30 => k_is)
    (case k30 => k_is)
    (case a31 => k_is)
    (case l31 => k_is)
    (case c31 => k_is)
    (case k31 => k_is)
    (case a32 => k_is)
    (case l32 => k_is)
    (case c32 => k_is)
    (case k32 => k_is)
    (case a33 => k_is)
    (case l33 => k_is)
    (case c33 => k_is)
    (case k33 => k_is)
    (case a34 => k_is)
    (case l34 => k_is)
    (case c34 => k_is)
    (case k34 => k_is)
    (case a35 => k_is)
    (case l35 => k_is)
    (case c35 => k_is)
    (case k35 => k_is)
    (case a36 => k_is)
    (case l36 => k_is)
    (case c36 => k_is)
    (case k36 => k_is)
    (case a37 => k_is)
    (case l37 => k_is)
    (case c37 => k_is)
    (case k37 => k_is)
    (case a38 => k_is)
    (case l38 => k_is)
    (case c38 => k_is)
    (case k38 => k_is)
    (case a39 => k_is)
    (case l39 => k_is)
    (case c39 => k_is)
    (case k39 => k_is)
    (case a40 => k_is)
    (case l40 => k_is)
    (case c40 => k_is)
    (case k40 => k_is)
    (case a41 => k_is)
    (case l41 => k_is)
    (case c41 => k_is)
    (case k41 => k_is)
    (case a42 => k_is)
    (case l42 => k_is)
    (case c42 => k_is)
    (case k42 => k_is)
    (case a43 => k_is)
    (case l43 => k_is)
    (case c43 => k_is)
    (case k43 => k_is)
    (case pg0 => k_is)
    (case hd0 => k_is)
    (case po0 => k_is)
    (case sa0 => k_is)
    (case ca0 => k_is)
    (case cm0 => k_is)
    (case so0___init__ => k_is)
    (case rd0___init__ => k_is)
    (case fc0___init__ => k_is)
    (case pg1 => k_is)
    (case hd1 => k_is)
    (case po1 => k_is)
    (case sa1 => k_is)
    (case ca1 => k_is)
    (case cm1 => k_is)
    (case so1___init__ => k_is)
    (case rd1___init__ => k_is)
    (case fc1___init__ => k_is)
    (case pg2 => k_is)
    (case hd2 => k_is)
    (case po2 => k_is)
    (case sa2 => k_is)
    (case ca2 => k_is)
    (case cm2 => k_is)
    (case n2_many => k_is)
    (case n2_scale => k_is)
    (case n2_top => k_is)
    (case n2_bottom => k_is)
    (case n2_tops => k_is)
    (case n2_under => k_is)
    (case n2_share => k_is)
    (case n2_parts => k_is)
    (case mk2 => k_is)
    (case kc2 => k_is)
    (case e2_heeded => k_is)
    (case e2_say => k_is)
    (case e2_weigh => k_is)
    (case e2_weights => k_is)
    (case Tga_NoTurn => k_is)
    (case Thk_NoTurn => k_is)
    (case Tmb_NoTurn => k_is)
    (case Tmo_NoTurn => k_is)
    (case Tca_NoTurn => k_is)
    (case Thd_NoTurn => k_is)
    (case Ll_NoTurn => k_is)
    (case Tsa_NoTurn => k_is)
    (case Tkp_NoTurn => k_is)
    (case Tga_NoRule => k_is)
    (case Thk_NoRule => k_is)
    (case Tmb_NoRule => k_is)
    (case Tmo_NoRule => k_is)
    (case Tca_NoRule => k_is)
    (case Thd_NoRule => k_is)
    (case Ee_HeedError => k_exc)
    (case En_NoTurn_number => k_is)
    (case Ex_NoTurn_HeedError => exact Eq.refl _)
    (case Ei_NoTurn_ValueError => kit_is)
    (case Ei_NoTurn_NoTurn => kit_is)
    (case Ei_NoTurn_NoRow => kit_is)
    (case Ei_NoTurn_NoRule => kit_is)
    (case Ei_NoTurn_NoWay => kit_is)
    (case Ei_NoTurn_NoName => kit_is)
    (case Ei_NoTurn_Twice => kit_is)
    (case Ee_NoRule => k_exc)
    (case Ex_NoRule_HeedError => exact Eq.refl _)
    (case Ei_NoRule_ValueError => kit_is)
    (case Ei_NoRule_NoTurn => kit_is)
    (case Ei_NoRule_NoRow => kit_is)
    (case Ei_NoRule_NoRule => kit_is)
    (case Ei_NoRule_NoWay => kit_is)
    (case Ei_NoRule_NoName => kit_is)
    (case Ei_NoRule_Twice => kit_is)
    (case gn => k_is)
    (case gt => k_is)
    (case z0 => k_is)
    (case z1 => k_is)
    (case z2 => k_is)
    (case z3 => k_is)
    (case z4 => k_is)
    (case z5 => k_is)
    (case z6 => k_is)
    (case z7 => k_is)
    (case z8 => k_is)
    (case z9 => k_is)
    (case z10 => k_is)
    (case z11 => k_is)
    (case z12 => k_is)
    (case z13 => k_is)
    (case z14 => k_is)
    (case z15 => k_is)
    (case y0 => k_is)
    (case y1 => k_is)
    (case y2 => k_is)
    (case y3 => k_is)
