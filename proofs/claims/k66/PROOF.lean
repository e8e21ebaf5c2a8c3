import PyProof.Rows.All
import Wide.All
import OpenK.AllK
import Wide.FinOn
import Lean
import PyProof.EqAt
import PyProof.EqKinds
import PyProof.TupleCall
import PyProof.NeData
import PyProof.WalkInts
import PyProof.ListRange
import PySem.Challenge.RW_heedwise_k66_all_rows_gone_through
set_option Elab.async false
set_option linter.all false
set_option maxRecDepth 100000
namespace L2
open PySem PySem.Spec PyProof.Rows
abbrev Key := Sum Int Str
def keyIs : Key → Value → Bool
  | .inl k, v => Value.isInt k v
  | .inr x, v => Value.isStrOf x v
def keyH (w : World) : Key → Int
  | .inl k => hashInt k
  | .inr x => hashStr w x
theorem keyIs_shape : ∀ {k : Key} {v : Value}, keyIs k v = true → (∃ i t, k = Sum.inl i ∧ v = Value.int i t) ∨ (∃ x t, k = Sum.inr x ∧ v = Value.str x t)
  | .inl i, v, h => by
    obtain ⟨t, e⟩ := Value.isInt_shape (k := i) (v := v) h
    exact .inl ⟨i, t, rfl, e⟩
  | .inr x, v, h => by
    obtain ⟨t, e⟩ := Value.isStrOf_shape (x := x) (v := v) h
    exact .inr ⟨x, t, rfl, e⟩
theorem key_ll (a b : Int) : decide ((Sum.inl a : Key) = Sum.inl b) = (a == b) := by
  by_cases e : a = b
  · subst e; simp
  · have h : ¬ (Sum.inl a : Key) = Sum.inl b := fun q => e (Sum.inl.inj q)
    rw [decide_eq_false h]
    exact (beq_eq_false_iff_ne.mpr e).symm
theorem key_rr (a b : Str) : decide ((Sum.inr a : Key) = Sum.inr b) = decide (a = b) := by
  by_cases e : a = b
  · subst e; simp
  · have h : ¬ (Sum.inr a : Key) = Sum.inr b := fun q => e (Sum.inr.inj q)
    rw [decide_eq_false h, decide_eq_false e]
theorem key_lr (a : Int) (b : Str) : decide ((Sum.inl a : Key) = Sum.inr b) = false := decide_eq_false (fun q => nomatch q)
theorem key_rl (a : Str) (b : Int) : decide ((Sum.inr a : Key) = Sum.inl b) = false := decide_eq_false (fun q => nomatch q)
def mixKind (prog : Program) (w : World) : PySem.KeyKind prog w Key where
  is := keyIs
  hash := keyH w
  inj := fun v a b ha hb => by
    rcases keyIs_shape ha with ⟨i, t, rfl, rfl⟩ | ⟨x, t, rfl, rfl⟩
    · rcases keyIs_shape hb with ⟨j, u, rfl, e⟩ | ⟨y, u, rfl, e⟩
      · injection e with e1 _; rw [e1]
      · exact nomatch e
    · rcases keyIs_shape hb with ⟨j, u, rfl, e⟩ | ⟨y, u, rfl, e⟩
      · exact nomatch e
      · injection e with e1 _; rw [e1]
  byValue := fun k v h => by
    rcases keyIs_shape h with ⟨i, t, rfl, rfl⟩ | ⟨x, t, rfl, rfl⟩ <;> rfl
  pyHash := fun hv h => by
    rcases keyIs_shape hv with ⟨i, t, rfl, rfl⟩ | ⟨x, t, rfl, rfl⟩
    · exact wpAny_pyHash_int h
    · exact wpAny_pyHash_str h
  eqBool := fun hu hv h => by
    rcases keyIs_shape hu with ⟨i, t, rfl, rfl⟩ | ⟨x, t, rfl, rfl⟩
    · rcases keyIs_shape hv with ⟨j, u, rfl, rfl⟩ | ⟨y, u, rfl, rfl⟩
      · rw [key_ll] at h; exact wpAny_eqBool_int h
      · rw [key_lr] at h; exact SeqAt.EqAt.int_str i t y u _ _ _ _ h
    · rcases keyIs_shape hv with ⟨j, u, rfl, rfl⟩ | ⟨y, u, rfl, rfl⟩
      · rw [key_rl] at h; exact SeqAt.EqAt.str_int x t j u _ _ _ _ h
      · rw [key_rr] at h; exact wpAny_eqBool_str h
  «strs» := fun k x t v h => by
    rcases keyIs_shape h with ⟨i, u, rfl, e⟩ | ⟨y, u, rfl, e⟩
    · exact nomatch e
    · injection e with e1 _
      subst e1
      cases v <;> rfl
end L2
namespace L2
open PySem PySem.Spec PyProof.Rows
inductive V where
  | non | bl (b : Bool) | int (i : Int) | str (x : Str) | byt (b : Array UInt8) | flt (b : UInt64) | ref (a : Addr) | ty (n : String)
  deriving DecidableEq
def RelV : V → Value → Prop
  | .non, u => u = Value.none
  | .bl b, u => u = Value.bool b
  | .int i, u => ∃ t, u = Value.int i t
  | .str x, u => ∃ t, u = Value.str x t
  | .byt b, u => ∃ t, u = Value.bytes b t
  | .flt b, u => ∃ t, u = Value.float b t
  | .ref a, u => u = Value.ref a
  | .ty n, u => u = Value.type n
abbrev Vals : List V → List Value → Prop := Paired RelV
theorem Vals.length {xs : List V} {us : List Value} (r : Vals xs us) : xs.length = us.length := Paired.length r
theorem Vals.get : ∀ {xs : List V} {us : List Value} {i : Nat} {x : V}, Vals xs us → xs[i]? = some x → ∃ u, us[i]? = some u ∧ RelV x u
  | _, _, _, _, .nil, e => by simp at e
  | _, _, 0, _, .cons r _, e => by simp at e; subst e; exact ⟨_, rfl, r⟩
  | _, _, i + 1, x, .cons _ t, e => by
    obtain ⟨u, h1, h2⟩ := Vals.get (i := i) (x := x) t (by simpa using e)
    exact ⟨u, by simpa using h1, h2⟩
theorem Vals.append : ∀ {xs ys : List V} {us ws : List Value}, Vals xs us → Vals ys ws → Vals (xs ++ ys) (us ++ ws)
  | _, _, _, _, .nil, s => s
  | _, _, _, _, .cons r t, s => .cons r (Vals.append t s)
theorem Vals.take : ∀ {xs : List V} {us : List Value} (n : Nat), Vals xs us → Vals (xs.take n) (us.take n)
  | _, _, 0, _ => .nil
  | _, _, _ + 1, .nil => .nil
  | _, _, n + 1, .cons r t => .cons r (Vals.take n t)
theorem Vals.drop : ∀ {xs : List V} {us : List Value} (n : Nat), Vals xs us → Vals (xs.drop n) (us.drop n)
  | _, _, 0, r => r
  | _, _, _ + 1, .nil => .nil
  | _, _, n + 1, .cons _ t => Vals.drop n t
def RelO : Option V → Option Value → Prop
  | some v, some u => RelV v u
  | none, none => True
  | _, _ => False
def KV {κ : Type} : List (κ × V) → List (κ × Value) → Prop := Paired fun (p : κ × V) (q : κ × Value) => p.1 = q.1 ∧ RelV p.2 q.2
def kV : Key → V
  | .inl i => .int i
  | .inr x => .str x
inductive HO where
  
  | lst (xs : List V)
  
  | tup (xs : List V)
  
  | dK (kvs : List (Key × V)) | dT (kvs : List (List Key × V))
  
  | set (S : Int → Bool) (n : Nat)
  
  | ins (C dx : Addr) (fs : List (Str × V))
  
  | own (x : Addr)
  
  | xd (fs : List (Str × V))
  
  | met (f x : Addr)
  
  | rng (lo hi : Int)
  
  | frz (o : Obj) (u : HO)
  
  | tbl (ps : Array Value)
  
  | ext (φ : Heap → Prop)
abbrev Hp := Addr → Option HO
def upd (H : Hp) (a : Addr) (o : HO) : Hp := fun b => if b = a then some o else H b
theorem upd_same {H : Hp} {a : Addr} {o : HO} : upd H a o a = some o := by unfold upd; rw [if_pos rfl]
theorem upd_ne {H : Hp} {a b : Addr} {o : HO} (h : b ≠ a) : upd H a o b = H b := by unfold upd; rw [if_neg h]
theorem ne_of_none {H : Hp} {a b : Addr} {o : HO} (h : H a = some o) (h' : H b = none) : a ≠ b := by
  intro e; subst e; rw [h] at h'; cases h'
def TupN (h : Heap) (a : Addr) (items : Array Value) : Prop := ∃ o, h.get? a = some o ∧ o.dict = none ∧ o.cls = .type "tuple" ∧ ∃ n, o.data = .seq items n
theorem TupN.t {h : Heap} {a : Addr} {items : Array Value} (x : TupN h a items) : IsTup h a items := let ⟨o, e, _, r⟩ := x; ⟨o, e, r⟩
theorem TupN.new (h : Heap) (items : Array Value) : TupN (h.push { cls := .type "tuple", data := .seq items }) h.objs.size items := ⟨_, Heap.get?_push_size _ rfl, rfl, rfl, _, rfl⟩
section
variable (P : Program) (w : World)
def ObjOk (H : Hp) (h : Heap) (a : Addr) : HO → Prop
  | .lst xs => xs.length ≤ sizeLine ∧ ∃ (its : List Value) (n : Nat), Vals xs its ∧ h.get? a = some { cls := .type "list", data := .seq its.toArray n }
  | .tup xs => xs.length ≤ sizeLine ∧ ∃ its : List Value, Vals xs its ∧ TupN h a its.toArray
  | .dK kvs => kvs.length ≤ sizeLine ∧ (a == sysModules) = false ∧ ∃ vs, KV kvs vs ∧ h.DictOf (mixKind P w) a vs
  | .dT kvs => kvs.length ≤ sizeLine ∧ (a == sysModules) = false ∧ ∃ xs : List (List Key × Addr × Value),
      Paired (fun (p : List Key × V) (q : List Key × Addr × Value) => p.1 = q.1 ∧ H q.2.1 = some (.tup (p.1.map kV)) ∧ RelV p.2 q.2.2) kvs xs ∧
      ∃ o es ep, h.get? a = some o ∧ o.ExactDict ∧ o.data = .dict es ep ∧ es.toList = xs.map (entryOfKey (tupleKind (mixKind P w))) ∧ (xs.map (·.1)).Nodup
  | .set S n => h.SetOf (intKind P w) a S n
  | .ins C dx fs => H dx = some (.own a) ∧ fs.length ≤ 1000 ∧ dx ≠ a ∧ h.get? a = some (PySem.W.instObj C dx) ∧
      ∃ mA, h.Ns1 dx mA ∧ (∀ f, RelO (fs.lookup f) (mA f)) ∧ PySem.Within mA (fs.map (·.1))
  | .own _ => ∃ o, h.get? a = some o
  | .xd fs => ∃ mA, h.Ns1 a mA ∧ ∀ f, RelO (fs.lookup f) (mA f)
  | .rng lo hi => ∃ t u v, h.get? a = some { cls := .type "range", data := .fields #[.int lo t, .int hi u, .int 1 v] }
  | .frz o u => h.get? a = some o ∧ ObjOk H h a u
  | .tbl ps => h.get? a = some { cls := .none, data := .fields ps }
  | .met f x => h.get? a = some (PySem.W.methodObj (.ref f) (.ref x))
  | .ext φ => φ h ∧ (∃ o, h.get? a = some o) ∧ ∀ h1 h2 : Heap, φ h1 → (∀ o, h1.get? a = some o → h2.get? a = some o) → φ h2
def HOk (H : Hp) (h : Heap) : Prop := ∀ a o, H a = some o → ObjOk P w H h a o
end
section
variable {P : Program} {w : World} {H H' : Hp} {h h' : Heap} {a : Addr} {o : HO}
theorem ObjOk.lt (x : ObjOk P w H h a o) : a < h.objs.size := by
  cases o with
  | lst xs => obtain ⟨_, _, _, _, e⟩ := x; exact Heap.lt_size e
  | tup xs => obtain ⟨_, _, _, p⟩ := x; exact p.t.lt
  | dK kvs => obtain ⟨_, _, _, _, o, _, _, e, _⟩ := x; exact Heap.lt_size e
  | dT kvs => obtain ⟨_, _, _, _, o, _, _, e, _⟩ := x; exact Heap.lt_size e
  | set S n => obtain ⟨o, _, _, _, e, _⟩ := x; exact Heap.lt_size e
  | ins C dx fs => obtain ⟨_, _, _, e, _⟩ := x; exact Heap.lt_size e
  | own y => obtain ⟨_, e⟩ := x; exact Heap.lt_size e
  | xd fs => obtain ⟨_, ⟨_, _, _, e, _⟩, _⟩ := x; exact Heap.lt_size e
  | rng lo hi => obtain ⟨_, _, _, e⟩ := x; exact Heap.lt_size e
  | frz ob u => obtain ⟨e, _⟩ := x; exact Heap.lt_size e
  | tbl ps => exact Heap.lt_size (show h.get? a = some _ from x)
  | met f y => exact Heap.lt_size (show h.get? a = some _ from x)
  | ext φ => obtain ⟨_, ⟨_, e⟩, _⟩ := x; exact Heap.lt_size e
theorem Paired.mapP {α β : Type} {F G : α → β → Prop} : ∀ {l₁ : List α} {l₂ : List β}, Paired F l₁ l₂ → (∀ a b, F a b → G a b) → Paired G l₁ l₂
  | _, _, .nil, _ => .nil
  | _, _, .cons r t, f => .cons (f _ _ r) (Paired.mapP t f)
theorem ObjOk.stay (x : ObjOk P w H h a o) (k : ∀ b u, (b = a ∨ H b = some (.own a)) → h.get? b = some u → h'.get? b = some u)
    (ho : ∀ b, H b = some (.own a) → H' b = some (.own a)) (ht : ∀ b xs, H b = some (.tup xs) → H' b = some (.tup xs)) : ObjOk P w H' h' a o := by
  induction o with
  | lst xs => obtain ⟨z, its, n, r, e⟩ := x; exact ⟨z, its, n, r, k _ _ (.inl rfl) e⟩
  | tup xs => obtain ⟨z, its, r, ob, e, c⟩ := x; exact ⟨z, its, r, ob, k _ _ (.inl rfl) e, c⟩
  | dK kvs => obtain ⟨z, y, vs, r, ob, es, ep, e, c⟩ := x; exact ⟨z, y, vs, r, ob, es, ep, k _ _ (.inl rfl) e, c⟩
  | dT kvs =>
    obtain ⟨z, y, xs, r, ob, es, ep, e, c⟩ := x
    exact ⟨z, y, xs, Paired.mapP r fun p q z => ⟨z.1, ht _ _ z.2.1, z.2.2⟩, ob, es, ep, k _ _ (.inl rfl) e, c⟩
  | set S n => obtain ⟨ob, es, ep, t, e, c⟩ := x; exact ⟨ob, es, ep, t, k _ _ (.inl rfl) e, c⟩
  | ins C dx fs =>
    obtain ⟨d, z, ne, e, mA, ⟨od, es, ep, e2, c⟩, r⟩ := x
    exact ⟨ho _ d, z, ne, k _ _ (.inl rfl) e, mA, ⟨od, es, ep, k _ _ (.inr d) e2, c⟩, r⟩
  | own y => obtain ⟨ob, e⟩ := x; exact ⟨ob, k _ _ (.inl rfl) e⟩
  | xd fs => obtain ⟨mA, ⟨od, es, ep, e, c⟩, r⟩ := x; exact ⟨mA, ⟨od, es, ep, k _ _ (.inl rfl) e, c⟩, r⟩
  | rng lo hi => obtain ⟨t, u, v, e⟩ := x; exact ⟨t, u, v, k _ _ (.inl rfl) e⟩
  | frz ob u ih => obtain ⟨e, q⟩ := x; exact ⟨k _ _ (.inl rfl) e, ih q⟩
  | tbl ps =>
    have e : h.get? a = some { cls := .none, data := .fields ps } := x
    show h'.get? a = some { cls := .none, data := .fields ps }
    exact k a _ (.inl rfl) e
  | met f y =>
    have e : h.get? a = some (PySem.W.methodObj (.ref f) (.ref y)) := x
    show h'.get? a = some (PySem.W.methodObj (.ref f) (.ref y))
    exact k a _ (.inl rfl) e
  | ext φ => obtain ⟨p, ⟨o, e⟩, st⟩ := x; exact ⟨st _ _ p fun o q => k _ _ (.inl rfl) q, ⟨o, k _ _ (.inl rfl) e⟩, st⟩
theorem HOk.lt (x : HOk P w H h) (e : H a = some o) : a < h.objs.size := (x a o e).lt
theorem HOk.fresh (x : HOk P w H h) (e : h.objs.size ≤ a) : H a = none := by
  cases q : H a with
  | none => rfl
  | some u => exact absurd (Nat.lt_of_lt_of_le (x.lt q) e) (Nat.lt_irrefl _)
theorem HOk.kept (x : HOk P w H h) (k : ∀ b u, h.get? b = some u → h'.get? b = some u) : HOk P w H h' := fun a o e =>
  (x a o e).stay (fun b u _ q => k b u q) (fun _ q => q) fun _ _ q => q
theorem HOk.laid (x : HOk P w H h) (k : ∀ b u, h.get? b = some u → h'.get? b = some u) (hp : h.objs.size ≤ a) (new : ObjOk P w (upd H a o) h' a o) : HOk P w (upd H a o) h' := fun b u e => by
  have hn := x.fresh hp
  by_cases hb : b = a
  · subst hb; rw [upd_same] at e; cases e; exact new
  · rw [upd_ne hb] at e
    exact (x b u e).stay (fun c v _ q => k c v q) (fun c q => by rw [upd_ne (ne_of_none q hn)]; exact q) fun c xs q => by rw [upd_ne (ne_of_none q hn)]; exact q
end
def Rd (H : Hp) (a : Addr) (u : HO) : Prop := H a = some u ∨ ∃ o, H a = some (.frz o u)
theorem Rd.ok {P : Program} {w : World} {H : Hp} {h : Heap} {a : Addr} {u : HO} (r : Rd H a u) (x : HOk P w H h) : ObjOk P w H h a u := by
  rcases r with r | ⟨o, r⟩
  · exact x a u r
  · obtain ⟨_, q⟩ := x a _ r
    exact q
def Mut : Option HO → Prop
  | some (.lst _) => True
  | some (.dK _) => True
  | some (.dT _) => True
  | some (.set _ _) => True
  | some (.ins _ _ _) => True
  | some (.ext _) => True
  | _ => False
section
variable {P : Program} {w : World} {H : Hp} {h h' : Heap} {x e : Addr} {o' : HO}
theorem HOk.write (ok : HOk P w H h) (mu : Mut (H x)) (he : e = x ∨ H e = some (.own x)) (k : ∀ b u, b ≠ e → h.get? b = some u → h'.get? b = some u) (heo : ∃ u, h'.get? e = some u)
    (new : ObjOk P w (upd H x o') h' x o') : HOk P w (upd H x o') h' := fun b u q => by
  have nown : ∀ c y, H c = some (.own y) → c ≠ x := fun c y r z => by subst z; rw [r] at mu; exact mu
  have ntup : ∀ c xs, H c = some (.tup xs) → c ≠ x := fun c xs r z => by subst z; rw [r] at mu; exact mu
  by_cases hb : b = x
  · subst hb; rw [upd_same] at q; cases q; exact new
  · rw [upd_ne hb] at q
    by_cases hbe : b = e
    · have q' : H b = some (.own x) := by
        rcases he with z | z
        · exact absurd (hbe.trans z) hb
        · rw [hbe]; exact z
      rw [q] at q'; cases q'
      obtain ⟨v, hv⟩ := heo
      exact ⟨v, by rw [hbe]; exact hv⟩
    · refine (ok b u q).stay (fun c v hc r => k c v ?_ r) (fun c r => by rw [upd_ne (nown c b r)]; exact r) fun c xs r => by rw [upd_ne (ntup c xs r)]; exact r
      rcases hc with rfl | hc
      · exact hbe
      · rintro rfl
        rcases he with z | z
        · exact nown c b hc z
        · rw [hc] at z; cases z; exact hb rfl
end
structure Un (fs ex : List Addr) (H H' : Hp) (h h' : Heap) : Prop where
  keep : ∀ b o, h.get? b = some o → H b = none → b ∉ fs → b ∉ ex → h'.get? b = some o
  slot : ∀ b o, h.get? b = some o → H b = none → b ∈ fs → b ∉ ex → ∃ sl, h'.get? b = some { o with slots := sl }
  free : ∀ b o, h.get? b = some o → H b = none → b ∉ ex → H' b = none
  there : ∀ b o, h.get? b = some o → b ∉ ex → ∃ o', h'.get? b = some o'
  tups : ∀ b xs, H b = some (.tup xs) → H' b = some (.tup xs)
  frzs : ∀ b o u, H b = some (.frz o u) → H' b = some (.frz o u)
  tbls : ∀ b ps, H b = some (.tbl ps) → ∃ more, H' b = some (.tbl (ps ++ more))
section
variable {fs fs' ex ex' : List Addr} {H H1 H2 : Hp} {h h1 h2 h' : Heap} {a x e : Addr} {o : HO}
theorem Un.any (u : Un fs ex H H1 h h1) {b : Addr} {ob : Obj} (q : h.get? b = some ob) (n : H b = none) (hx : b ∉ ex) : ∃ sl, h1.get? b = some { ob with slots := sl } := by
  by_cases hb : b ∈ fs
  · exact u.slot b ob q n hb hx
  · exact ⟨ob.slots, u.keep b ob q n hb hx⟩
theorem Un.kept (k : ∀ b u, h.get? b = some u → h'.get? b = some u) : Un fs ex H H h h' :=
  ⟨fun b ob q _ _ _ => k b ob q, fun b ob q _ _ _ => ⟨ob.slots, k b ob q⟩, fun _ _ _ n _ => n, fun b ob q _ => ⟨ob, k b ob q⟩, fun _ _ q => q, fun _ _ _ q => q, fun _ ps q => ⟨#[], by rw [q]; simp⟩⟩
theorem Un.refl : Un fs ex H H h h := Un.kept fun _ _ q => q
theorem Un.laid (k : ∀ b u, h.get? b = some u → h'.get? b = some u) (hp : h.objs.size ≤ a) (hn : H a = none) : Un fs ex H (upd H a o) h h' where
  keep := fun b u q _ _ _ => k b u q
  slot := fun b u q _ _ _ => ⟨u.slots, k b u q⟩
  free := fun b u q n _ => by rw [upd_ne (Nat.ne_of_lt (Nat.lt_of_lt_of_le (Heap.lt_size q) hp))]; exact n
  there := fun b u q _ => ⟨u, k b u q⟩
  tups := fun b xs q => by rw [upd_ne (ne_of_none q hn)]; exact q
  frzs := fun b u xs q => by rw [upd_ne (ne_of_none q hn)]; exact q
  tbls := fun b ps q => ⟨#[], by rw [upd_ne (ne_of_none q hn), q]; simp⟩
theorem Un.write (mu : Mut (H x)) (he : e = x ∨ H e = some (.own x)) (k : ∀ b u, b ≠ e → h.get? b = some u → h'.get? b = some u) (heo : ∃ u, h'.get? e = some u) : Un fs ex H (upd H x o) h h' := by
  have hx : ∀ b, H b = none → b ≠ x := fun b n z => by subst z; rw [n] at mu; exact mu
  have hb : ∀ b, H b = none → b ≠ e := fun b n z => by
    subst z
    rcases he with r | r
    · exact hx b n r
    · rw [n] at r; cases r
  have hm : ∀ b u, H b = some u → ¬ Mut (some u) → b ≠ x := fun b u q nm z => by subst z; rw [q] at mu; exact nm mu
  refine ⟨fun b u q n _ _ => k b u (hb b n) q, fun b u q n _ _ => ⟨u.slots, k b u (hb b n) q⟩, fun b u q n _ => by rw [upd_ne (hx b n)]; exact n, fun b u q _ => ?_,
    fun b xs q => by rw [upd_ne (hm b _ q fun z => z)]; exact q, fun b u xs q => by rw [upd_ne (hm b _ q fun z => z)]; exact q, fun b ps q => ⟨#[], by rw [upd_ne (hm b _ q fun z => z), q]; simp⟩⟩
  by_cases hbe : b = e
  · subst hbe; exact heo
  · exact ⟨u, k b u hbe q⟩
end
def trk (h : Heap) (H : Hp) : List Addr := (List.range h.objs.size).filter fun a => (H a).isSome
def hidT (h : Heap) (H : Hp) : Heap := PySem.W.hideAll h (trk h H)
theorem hidT_size (h : Heap) (H : Hp) : (hidT h H).objs.size = h.objs.size := PySem.W.hideAll_size _ _
theorem hidT_get {h : Heap} {H : Hp} {b : Addr} {o : Obj} (e : h.get? b = some o) (n : H b = none) : (hidT h H).get? b = some o :=
  PySem.W.hideAll_get _ e fun hm => by
    have q : (H b).isSome = true := (List.mem_filter.mp hm).2
    rw [n] at q; simp at q
theorem of_hidT {h : Heap} {H : Hp} {b : Addr} {o : Obj} (e : (hidT h H).get? b = some o) : h.get? b = some o ∧ H b = none := by
  have e' : h.get? b = some o := PySem.W.of_hideAll (trk h H) e
  refine ⟨e', ?_⟩
  cases q : H b with
  | none => rfl
  | some x =>
    have hm : b ∈ trk h H := List.mem_filter.mpr ⟨List.mem_range.mpr (Heap.lt_size e'), by simp [q]⟩
    have z : (hidT h H).get? b = none := PySem.W.hideAll_none (trk h H) hm
    rw [z] at e; cases e
def allNews (g h : Heap) (L : Addr) : List (Addr × Obj) := (List.range h.objs.size).filterMap fun a => if a = L ∨ (g.get? a).isSome = true then none else (h.get? a).map fun o => (a, o)
def rest (g h : Heap) (L d : Addr) : List (Addr × Obj) := (allNews g h L).filter fun p => decide (p.1 ≠ d)
end L2
namespace L2
open PySem PySem.Spec PyProof.Rows
structure Mod (K : PySem.W.Frag) (mg : Str → Option Value) (base : Heap) : Prop where
  kin : K.In base
  glob : base.Ns mainGlobals mg
  blt : ∃ mb, base.Ns builtinsNs mb ∧ ∀ x : Str, x ≠ "__name__" → mb x = bootBuiltins x
  nolimit : base.NoLimit
structure Cx where
  prog : Program
  w : World
  K : PySem.W.Frag
  mg : Str → Option Value
  base : Heap
  A : Around
  N : List Str
  s₀ : Shared
  H₀ : Hp
  env : Env
  outer : List Env
  stack : List Env
  ex : List Addr
  fn : Str → Bool
  calm : Bool
  pn : List (Addr × Obj)
  xe : Value → Shared → Prop
def frs (l : List Env) : List Addr := l.filterMap (·.frame)
abbrev Cx.fs (X : Cx) : List Addr := frs X.outer
def Vis (sc : Scope) (x : Str) : Prop := sc.names.lookup x = some .local ∨ sc.names.lookup x = some .cell ∨ sc.names.lookup x = some .free
def Loc (sc : Scope) (x : Str) : Prop := sc.names.lookup x = some .local ∨ sc.names.lookup x = some .cell
def Look (env : Env) (h : Heap) (m : Str → Option Value) (x : Str) (u : Value) : Prop :=
  (env.kindOf x = some .local ∧ m x = some u) ∨ ((env.kindOf x = some .cell ∨ env.kindOf x = some .free) ∧ ∃ c, env.cells.lookup x = some c ∧ h.IsCell c (some u))
structure Cx.Ok (X : Cx) : Prop where
  mod : Mod X.K X.mg X.base
  kind : X.env.scope.kind = .function
  glob : X.env.globals = mainGlobals
  blt : X.env.builtins = builtinsNs
  above : X.s₀.heap.objs.size ≤ X.env.locals
  inj : ∀ x y c, X.env.cells.lookup x = some c → X.env.cells.lookup y = some c → x = y
  has : ∀ x, (X.env.kindOf x = some .cell ∨ X.env.kindOf x = some .free) → ∃ c, X.env.cells.lookup x = some c
  cab : ∀ x c, X.fn x = true → X.env.cells.lookup x = some c → X.s₀.heap.objs.size ≤ c
  hd : X.calm = true → X.A.handled = none
  frames : X.A.frames = some X.stack
  stk : X.stack = X.outer ∨ (X.stack = X.env :: X.outer ∧ X.env.frame = some X.env.locals)
  exf : ∀ b ∈ X.ex, b ≠ X.env.locals ∧ ∀ x c, X.env.cells.lookup x = some c → c ≠ b
  bs : ∀ b o, X.base.get? b = some o → X.s₀.heap.get? b = some o ∧ X.H₀ b = none
  bsz : X.base.objs.size ≤ X.s₀.heap.objs.size
  noex : ∀ b o, X.base.get? b = some o → b ∉ X.ex
  exfs : ∀ b ∈ X.ex, b ∉ X.fs
  funs : X.s₀.heap.FunFrames X.base X.outer
  frf : ∀ b ∈ X.fs, X.H₀ b = none
structure Inv (X : Cx) (pins : List (Addr × Obj)) (σ : List (Option V)) (H : Hp) (s : Shared) : Prop where
  ok : X.Ok
  os : s.os = X.s₀.os
  bare : AllBare s.gens
  base : Un X.fs X.ex X.H₀ H X.s₀.heap s.heap
  loc : ∃ m, s.heap.Ns X.env.locals m ∧ ∀ (i : Nat) (x : Str) (v : V), X.N[i]? = some x → σ[i]? = some (some v) → Vis X.env.scope x → ∃ u, RelV v u ∧ Look X.env s.heap m x u
  cell : ∀ x c, X.env.cells.lookup x = some c → ∃ v, s.heap.IsCell c v
  free : H X.env.locals = none
  freeC : ∀ x c, X.env.cells.lookup x = some c → H c = none
  pin : ∀ p ∈ X.pn ++ pins, s.heap.get? p.1 = some p.2 ∧ H p.1 = none ∧ p.1 ≠ X.env.locals ∧ p.1 ∉ X.fs ∧ ∀ v, p.2.data ≠ .cell v
  hok : HOk X.prog X.w H s.heap
  len : σ.length = X.N.length
section
variable {X : Cx} {pins : List (Addr × Obj)} {σ : List (Option V)} {H H' : Hp} {s : Shared} {h' : Heap}
theorem Cx.Ok.nofr (ok : X.Ok) {b : Addr} {o : Obj} (e : X.base.get? b = some o) : b ∉ X.fs := fun hb => by
  have := (ok.funs.mem hb).1
  rw [e] at this; cases this
theorem Inv.bs (I : Inv X pins σ H s) : ∀ b o, X.base.get? b = some o → s.heap.get? b = some o ∧ H b = none := fun b o e =>
  ⟨I.base.keep b o (I.ok.bs b o e).1 (I.ok.bs b o e).2 (I.ok.nofr e) (I.ok.noex b o e), I.base.free b o (I.ok.bs b o e).1 (I.ok.bs b o e).2 (I.ok.noex b o e)⟩
theorem Inv.bk (I : Inv X pins σ H s) : ∀ b o, X.base.get? b = some o → s.heap.get? b = some o := fun b o e => (I.bs b o e).1
theorem Inv.mod (I : Inv X pins σ H s) : Mod X.K X.mg X.base := I.ok.mod
theorem Inv.kIn (I : Inv X pins σ H s) : X.K.In s.heap := I.ok.mod.kin.keeps I.bk
theorem Inv.lt (I : Inv X pins σ H s) : X.env.locals < s.heap.objs.size := let ⟨_, hn, _⟩ := I.loc; hn.lt
theorem Inv.sz (I : Inv X pins σ H s) : X.s₀.heap.objs.size ≤ s.heap.objs.size := Nat.le_trans I.ok.above (Nat.le_of_lt I.lt)
theorem Inv.nofs (I : Inv X pins σ H s) {a : Addr} (h : s.heap.objs.size ≤ a) : a ∉ X.fs := fun hb => by
  obtain ⟨_, o, ho, _⟩ := I.ok.funs.mem hb
  exact absurd (Nat.lt_of_lt_of_le (Heap.lt_size ho) (Nat.le_trans I.sz h)) (Nat.lt_irrefl _)
theorem Inv.cne (I : Inv X pins σ H s) : ∀ x c, X.env.cells.lookup x = some c → c ≠ X.env.locals := fun x c e z => by
  obtain ⟨v, o, ho, hd⟩ := I.cell x c e
  obtain ⟨m, ⟨o', es, ep, ho', hd', _⟩, _⟩ := I.loc
  rw [z, ho'] at ho; cases ho; rw [hd'] at hd; cases hd
theorem Inv.funs (I : Inv X pins σ H s) : s.heap.FunFrames X.base X.outer := by
  have all : ∀ (l : List Env), (∀ b ∈ frs l, b ∈ X.fs) → X.s₀.heap.FunFrames X.base l → s.heap.FunFrames X.base l := by
    intro l
    induction l with
    | nil => intro _ _; trivial
    | cons env r ih =>
      intro hs hl
      obtain ⟨hk, ⟨L, o, hf, hn, ho, hd⟩, hr⟩ := hl
      have hL : L ∈ X.fs := hs L (by unfold frs; rw [List.filterMap_cons, hf]; exact List.mem_cons_self)
      obtain ⟨sl, e⟩ := I.base.slot L o ho (I.ok.frf L hL) hL fun z => I.ok.exfs L z hL
      exact ⟨hk, ⟨L, _, hf, hn, e, hd⟩, ih (fun b hb => hs b (by unfold frs; rw [List.filterMap_cons, hf]; exact List.mem_cons_of_mem _ hb)) hr⟩
  exact all X.outer (fun _ hb => hb) I.ok.funs
theorem Inv.stack (I : Inv X pins σ H s) : s.heap.FunFrames X.base X.stack := by
  rcases I.ok.stk with e | ⟨e, hf⟩
  · rw [e]; exact I.funs
  · rw [e]
    obtain ⟨m, hn, _⟩ := I.loc
    refine .cons (by rw [I.ok.kind]; decide) hf hn ?_ I.funs
    exact Heap.get?_none_of_le (Nat.le_trans I.ok.bsz I.ok.above)
theorem Inv.stkSub (I : Inv X pins σ H s) : ∀ b ∈ frs X.stack, b ∈ X.env.locals :: X.fs := fun b hb => by
  rcases I.ok.stk with e | ⟨e, hf⟩
  · rw [e] at hb; exact List.mem_cons_of_mem _ hb
  · rw [e] at hb
    unfold frs at hb
    rw [List.filterMap_cons, hf] at hb
    exact hb
theorem Inv.stkFree (I : Inv X pins σ H s) : ∀ b ∈ frs X.stack, H b = none := fun b hb => by
  rcases List.mem_cons.mp (I.stkSub b hb) with e | hb
  · rw [e]; exact I.free
  · obtain ⟨_, o, ho, _⟩ := I.ok.funs.mem hb
    exact I.base.free b o ho (I.ok.frf b hb) fun z => I.ok.exfs b z hb
theorem Inv.step {g' : Array GenState} {t' : Nat} {d' : Drawn} {ch : List Addr} (I : Inv X pins σ H s)
    (hch : ∀ b ∈ ch, (b ∈ X.ex ∨ X.s₀.heap.objs.size ≤ b) ∧ b ≠ X.env.locals ∧ (∀ x c, X.env.cells.lookup x = some c → c ≠ b) ∧ ∀ p ∈ X.pn ++ pins, p.1 ≠ b)
    (keep : ∀ b o, b ≠ X.env.locals → b ∉ X.fs → b ∉ ch → s.heap.get? b = some o → H b = none → h'.get? b = some o)
    (slot : ∀ b o, b ≠ X.env.locals → b ∈ X.fs → b ∉ ch → s.heap.get? b = some o → H b = none → ∃ sl, h'.get? b = some { o with slots := sl }) (free : ∀ b o, b ∉ ch → s.heap.get? b = some o → H b = none → H' b = none)
    (there : ∀ b o, b ∉ ch → s.heap.get? b = some o → ∃ o', h'.get? b = some o')
    (tups : ∀ b xs, H b = some (.tup xs) → H' b = some (.tup xs)) (frzs : ∀ b o u, H b = some (.frz o u) → H' b = some (.frz o u)) (tbls : ∀ b ps, H b = some (.tbl ps) → ∃ more, H' b = some (.tbl (ps ++ more)))
    (ns : ∀ m, s.heap.Ns X.env.locals m → h'.Ns X.env.locals m) (hok : HOk X.prog X.w H' h') (hg : AllBare g') :
    Inv X pins σ H' { s with heap := h', gens := g', drawn := d', toks := t' } := by
  have neL : ∀ b o, X.s₀.heap.get? b = some o → b ≠ X.env.locals := fun b o e => Nat.ne_of_lt (Nat.lt_of_lt_of_le (Heap.lt_size e) I.ok.above)
  have neC : ∀ b o, X.s₀.heap.get? b = some o → b ∉ X.ex → b ∉ ch := fun b o e hx hb => by
    rcases (hch b hb).1 with z | z
    · exact hx z
    · exact absurd (Nat.lt_of_lt_of_le (Heap.lt_size e) z) (Nat.lt_irrefl _)
  have cellK : ∀ x c, X.env.cells.lookup x = some c → ∀ v, s.heap.IsCell c v → h'.IsCell c v := fun x c e v ⟨o, ho, hd⟩ => by
    have nch : c ∉ ch := fun z => (hch c z).2.2.1 x c e rfl
    by_cases hc : c ∈ X.fs
    · obtain ⟨sl, q⟩ := slot c o (I.cne x c e) hc nch ho (I.freeC x c e)
      exact ⟨_, q, hd⟩
    · exact ⟨o, keep c o (I.cne x c e) hc nch ho (I.freeC x c e), hd⟩
  refine ⟨I.ok, I.os, hg, ⟨fun b o e n hb hx => ?_, fun b o e n hb hx => ?_, fun b o e n hx => ?_, fun b o e hx => ?_, fun b xs e => tups b xs (I.base.tups b xs e), fun b o xs e => frzs b o xs (I.base.frzs b o xs e), fun b ps e => ?_⟩, ?_, fun x c e => ?_, ?_, fun x c e => ?_, fun p hp => ?_, hok, I.len⟩
  · exact keep b o (neL b o e) hb (neC b o e hx) (I.base.keep b o e n hb hx) (I.base.free b o e n hx)
  · obtain ⟨sl, e1⟩ := I.base.slot b o e n hb hx
    obtain ⟨sl', e2⟩ := slot b _ (neL b o e) hb (neC b o e hx) e1 (I.base.free b o e n hx)
    exact ⟨sl', e2⟩
  · obtain ⟨o', e1⟩ := I.base.there b o e hx
    exact free b o' (neC b o e hx) e1 (I.base.free b o e n hx)
  · obtain ⟨o', e1⟩ := I.base.there b o e hx
    exact there b o' (neC b o e hx) e1
  · obtain ⟨m1, e1⟩ := I.base.tbls b ps e
    obtain ⟨m2, e2⟩ := tbls b _ e1
    exact ⟨m1 ++ m2, by rw [e2, Array.append_assoc]⟩
  · obtain ⟨m, hn, hl⟩ := I.loc
    refine ⟨m, ns m hn, fun i x v e1 e2 e3 => ?_⟩
    obtain ⟨u, r, l⟩ := hl i x v e1 e2 e3
    refine ⟨u, r, ?_⟩
    rcases l with l | ⟨k, c, e, z⟩
    · exact .inl l
    · exact .inr ⟨k, c, e, cellK x c e _ z⟩
  · obtain ⟨v, z⟩ := I.cell x c e
    exact ⟨v, cellK x c e v z⟩
  · obtain ⟨m, ⟨o, _, _, ho, _⟩, _⟩ := I.loc
    exact free _ o (fun z => (hch _ z).2.1 rfl) ho I.free
  · obtain ⟨v, o, ho, hd⟩ := I.cell x c e
    exact free c o (fun z => (hch c z).2.2.1 x c e rfl) ho (I.freeC x c e)
  · obtain ⟨e, n, ne, nf, d⟩ := I.pin p hp
    have nch : p.1 ∉ ch := fun z => (hch p.1 z).2.2.2 p hp rfl
    exact ⟨keep p.1 p.2 ne nf nch e n, free p.1 p.2 nch e n, ne, nf, d⟩
theorem Inv.un {t' : Nat} (I : Inv X pins σ H s) (u : Un X.fs [] H H' s.heap h') (hok : HOk X.prog X.w H' h') : Inv X pins σ H' { s with heap := h', toks := t' } := by
  obtain ⟨m, ⟨o, es, ep, ho, r⟩, _⟩ := id I.loc
  obtain ⟨sl, hL⟩ := u.any ho I.free (by simp)
  exact I.step (g' := s.gens) (d' := s.drawn) (ch := []) (fun _ z => nomatch z) (fun b o _ hb _ e n => u.keep b o e n hb (by simp)) (fun b o _ hb _ e n => u.slot b o e n hb (by simp)) (fun b o _ e n => u.free b o e n (by simp)) (fun b o _ e => u.there b o e (by simp)) u.tups u.frzs u.tbls (fun m' hm => by
    obtain ⟨o', es', ep', ho', r'⟩ := hm
    rw [ho] at ho'; cases ho'
    exact ⟨_, es', ep', hL, r'⟩) hok I.bare
theorem Inv.call {g' : Array GenState} {t' : Nat} {d' : Drawn} {ch : List Addr} (I : Inv X pins σ H s) (u : Un (frs X.stack) ch H H' s.heap h') (hok : HOk X.prog X.w H' h') (hg : AllBare g')
    (hch : ∀ b ∈ ch, (b ∈ X.ex ∨ X.s₀.heap.objs.size ≤ b) ∧ b ≠ X.env.locals ∧ (∀ x c, X.env.cells.lookup x = some c → c ≠ b) ∧ ∀ p ∈ X.pn ++ pins, p.1 ≠ b) :
    Inv X pins σ H' { s with heap := h', gens := g', drawn := d', toks := t' } := by
  obtain ⟨m, ⟨o, es, ep, ho, r⟩, _⟩ := id I.loc
  obtain ⟨sl, hL⟩ := u.any ho I.free fun z => (hch _ z).2.1 rfl
  exact I.step (ch := ch) hch (fun b o hL hb hc e n => u.keep b o e n (fun z => (List.mem_cons.mp (I.stkSub b z)).elim hL hb) hc) (fun b o _ _ hc e n => u.any e n hc) (fun b o hc e n => u.free b o e n hc) (fun b o hc e => u.there b o e hc) u.tups u.frzs u.tbls (fun m' hm => by
    obtain ⟨o', es', ep', ho', r'⟩ := hm
    rw [ho] at ho'; cases ho'
    exact ⟨_, es', ep', hL, r'⟩) hok hg
theorem Inv.turned {t' : Nat} {it : Addr} (I : Inv X pins σ H s) (k : ∀ b o, b ≠ it → s.heap.get? b = some o → h'.get? b = some o) (hn : H it = none) (hL : it ≠ X.env.locals)
    (h1 : it ∈ X.ex ∨ X.s₀.heap.objs.size ≤ it) (h2 : ∀ x c, X.env.cells.lookup x = some c → c ≠ it) (h3 : ∀ p ∈ X.pn ++ pins, p.1 ≠ it) : Inv X pins σ H { s with heap := h', toks := t' } := by
  have nit : ∀ b u, H b = some u → b ≠ it := fun b u e z => by rw [z, hn] at e; cases e
  refine I.step (g' := s.gens) (d' := s.drawn) (ch := [it]) (fun b hb => ?_) (fun b o _ _ hc e _ => k b o (fun z => hc (by simp [z])) e) (fun b o _ _ hc e _ => ⟨o.slots, k b o (fun z => hc (by simp [z])) e⟩) (fun _ _ _ _ n => n)
    (fun b o hc e => ⟨o, k b o (fun z => hc (by simp [z])) e⟩) (fun _ _ e => e) (fun _ _ _ e => e) (fun b ps e => ⟨#[], by rw [e]; simp⟩) (fun m hm => ?_) (fun b u e => ?_) I.bare
  · have e : b = it := by simpa using hb
    subst e
    exact ⟨h1, hL, h2, h3⟩
  · obtain ⟨o, es, ep, ho, r⟩ := hm
    exact ⟨o, es, ep, k _ o (Ne.symm hL) ho, r⟩
  · refine (I.hok b u e).stay (fun c v hc q => k c v ?_ q) (fun _ q => q) fun _ _ q => q
    rcases hc with z | z
    · rw [z]; exact nit b u e
    · exact nit c _ z
theorem Inv.tok (I : Inv X pins σ H s) (t : Nat) : Inv X pins σ H { s with toks := t } := I.un (h' := s.heap) (t' := t) Un.refl I.hok
theorem Inv.kept {t' : Nat} (I : Inv X pins σ H s) (k : ∀ b u, s.heap.get? b = some u → h'.get? b = some u) : Inv X pins σ H { s with heap := h', toks := t' } := I.un (Un.kept k) (I.hok.kept k)
theorem Inv.laid {a : Addr} {o : HO} {t' : Nat} (I : Inv X pins σ H s) (k : ∀ b u, s.heap.get? b = some u → h'.get? b = some u) (hp : s.heap.objs.size ≤ a) (new : ObjOk X.prog X.w (upd H a o) h' a o) :
    Inv X pins σ (upd H a o) { s with heap := h', toks := t' } := I.un (Un.laid k hp (I.hok.fresh hp)) (I.hok.laid k hp new)
theorem Inv.write {x e : Addr} {o : HO} {t' : Nat} (I : Inv X pins σ H s) (mu : Mut (H x)) (he : e = x ∨ H e = some (.own x)) (k : ∀ b u, b ≠ e → s.heap.get? b = some u → h'.get? b = some u) (heo : ∃ u, h'.get? e = some u)
    (new : ObjOk X.prog X.w (upd H x o) h' x o) : Inv X pins σ (upd H x o) { s with heap := h', toks := t' } := I.un (Un.write mu he k heo) (I.hok.write mu he k heo new)
theorem Inv.pins_of {pins' : List (Addr × Obj)} (I : Inv X pins σ H s) (h : ∀ p ∈ pins', s.heap.get? p.1 = some p.2 ∧ H p.1 = none ∧ p.1 ≠ X.env.locals ∧ p.1 ∉ X.fs ∧ ∀ v, p.2.data ≠ .cell v) : Inv X pins' σ H s :=
  ⟨I.ok, I.os, I.bare, I.base, I.loc, I.cell, I.free, I.freeC, fun p hp => (List.mem_append.mp hp).elim (fun z => I.pin p (List.mem_append_left _ z)) (h p), I.hok, I.len⟩
theorem nodup_ix {N : List Str} (hN : N.Nodup) {i j : Nat} {x : Str} (a : N[i]? = some x) (b : N[j]? = some x) : i = j := by
  obtain ⟨h1, e1⟩ := List.getElem?_eq_some_iff.mp a
  obtain ⟨h2, e2⟩ := List.getElem?_eq_some_iff.mp b
  exact (List.getElem_inj hN).mp (e1.trans e2.symm)
theorem store_ok2 {M : Model} {A : Around} {E : Value → Shared → Prop} {i : Nat} {x : Str} {v : V} {u : Value} {Q : Unit → Shared → Prop} (I : Inv X pins σ H s) (hN : X.N.Nodup) (hi : X.N[i]? = some x) (hx : Loc X.env.scope x) (r : RelV v u)
    (h : ∀ s', Inv X pins (σ.set i (some v)) H s' → (∃ a, Heap.SameBut a s.heap s'.heap ∧ (a = X.env.locals ∨ X.env.cells.lookup x = some a)) → Q () s') (hf : X.fn x = true ∨ X.env.scope.names.lookup x = some .local := by first | exact .inl rfl | exact .inr rfl | assumption) : wpAny M A (storeName X.env x u) Q E s := by
  obtain ⟨m, hn, hl⟩ := id I.loc
  have hcls : (X.env.scope.kind == .class || (X.env.scope.kind == .module && X.env.locals != X.env.globals)) = false := by rw [I.ok.kind]; rfl
  have hiσ : i < σ.length := by rw [I.len]; exact (List.getElem?_eq_some_iff.mp hi).1
  have cne := I.cne
  have tracked : ∀ {a : Addr} {h' : Heap}, (∃ o, s.heap.get? a = some o ∧ H a = none) → Heap.SameBut a s.heap h' → HOk X.prog X.w H h' := fun {a h'} ha hs b ob e => by
    obtain ⟨_, _, hfree⟩ := ha
    refine (I.hok b ob e).stay (fun c w' hc q => (hs.2 c ?_).trans q) (fun _ q => q) fun _ _ q => q
    rintro rfl
    rcases hc with rfl | hc
    · rw [hfree] at e; cases e
    · rw [hfree] at hc; cases hc
  rcases hx with hk | hk
  · refine wpAny_storeName_local hk hn (fun h' hn' hs => ?_) hcls
    obtain ⟨oL, _, _, hoL, _⟩ := id hn
    refine h _ ⟨I.ok, I.os, I.bare, ⟨fun b o e n hb hx => ?_, fun b o e n hb hx => ?_, I.base.free, fun b o e hx => ?_, I.base.tups, I.base.frzs, I.base.tbls⟩, ⟨_, hn', fun j y v' e1 e2 e3 => ?_⟩, fun y c e => ?_, I.free, I.freeC, fun p hp => ?_, tracked ⟨oL, hoL, I.free⟩ hs, by simpa using I.len⟩ ⟨_, hs, .inl rfl⟩
    · exact (hs.2 b (Nat.ne_of_lt (Nat.lt_of_lt_of_le (Heap.lt_size e) I.ok.above))).trans (I.base.keep b o e n hb hx)
    · obtain ⟨sl, e1⟩ := I.base.slot b o e n hb hx
      exact ⟨sl, (hs.2 b (Nat.ne_of_lt (Nat.lt_of_lt_of_le (Heap.lt_size e) I.ok.above))).trans e1⟩
    · obtain ⟨o', e1⟩ := I.base.there b o e hx
      exact ⟨o', (hs.2 b (Nat.ne_of_lt (Nat.lt_of_lt_of_le (Heap.lt_size e) I.ok.above))).trans e1⟩
    · by_cases hj : j = i
      · subst hj
        rw [hi] at e1; cases e1
        rw [List.getElem?_set_self hiσ] at e2
        cases e2
        exact ⟨u, r, .inl ⟨hk, by simp⟩⟩
      · rw [List.getElem?_set_ne (Ne.symm hj)] at e2
        obtain ⟨u', r', q⟩ := hl j y v' e1 e2 e3
        refine ⟨u', r', ?_⟩
        rcases q with ⟨k, e⟩ | ⟨k, c, e, z⟩
        · refine .inl ⟨k, ?_⟩
          have : y ≠ x := fun e => hj (nodup_ix hN e1 (e ▸ hi))
          simp [this, e]
        · exact .inr ⟨k, c, e, z.sameBut hs (cne y c e)⟩
    · obtain ⟨w', z⟩ := I.cell y c e
      exact ⟨w', z.sameBut hs (cne y c e)⟩
    · obtain ⟨e, n, ne, nf, d⟩ := I.pin p hp
      exact ⟨(hs.2 p.1 ne).trans e, n, ne, nf, d⟩
  · have hfn : X.fn x = true := by
      rcases hf with z | z
      · exact z
      · rw [z] at hk; cases hk
    obtain ⟨c, hc⟩ := I.ok.has x (.inl hk)
    obtain ⟨w', z⟩ := I.cell x c hc
    refine wpAny_storeName_cell I.ok.kind hk hc z (fun h' hc' hs => ?_)
    obtain ⟨oc, hoc, hocd⟩ := id z
    refine h { s with heap := h' } ⟨I.ok, I.os, I.bare, ⟨fun b o e n hb hx => ?_, fun b o e n hb hx => ?_, I.base.free, fun b o e hx => ?_, I.base.tups, I.base.frzs, I.base.tbls⟩, ⟨m, hn.sameBut hs (Ne.symm (cne x c hc)), fun j y v' e1 e2 e3 => ?_⟩, fun y c' e => ?_, I.free, I.freeC, fun p hp => ?_, tracked ⟨oc, hoc, I.freeC x c hc⟩ hs, by simpa using I.len⟩ ⟨c, hs, .inr hc⟩
    · exact (hs.2 b (Nat.ne_of_lt (Nat.lt_of_lt_of_le (Heap.lt_size e) (I.ok.cab x c hfn hc)))).trans (I.base.keep b o e n hb hx)
    · obtain ⟨sl, e1⟩ := I.base.slot b o e n hb hx
      exact ⟨sl, (hs.2 b (Nat.ne_of_lt (Nat.lt_of_lt_of_le (Heap.lt_size e) (I.ok.cab x c hfn hc)))).trans e1⟩
    · obtain ⟨o', e1⟩ := I.base.there b o e hx
      exact ⟨o', (hs.2 b (Nat.ne_of_lt (Nat.lt_of_lt_of_le (Heap.lt_size e) (I.ok.cab x c hfn hc)))).trans e1⟩
    · by_cases hj : j = i
      · subst hj
        rw [hi] at e1; cases e1
        rw [List.getElem?_set_self hiσ] at e2
        cases e2
        exact ⟨u, r, .inr ⟨.inl hk, c, hc, hc'⟩⟩
      · rw [List.getElem?_set_ne (Ne.symm hj)] at e2
        obtain ⟨u', r', q⟩ := hl j y v' e1 e2 e3
        refine ⟨u', r', ?_⟩
        rcases q with q | ⟨k, c', e, z'⟩
        · exact .inl q
        · refine .inr ⟨k, c', e, z'.sameBut hs ?_⟩
          rintro rfl
          exact hj (nodup_ix hN e1 (I.ok.inj _ _ _ e hc ▸ hi))
    · by_cases hcc : c' = c
      · subst hcc; exact ⟨_, hc'⟩
      · obtain ⟨w2, z2⟩ := I.cell y c' e
        exact ⟨w2, z2.sameBut hs hcc⟩
    · obtain ⟨e, n, ne, nf, d⟩ := I.pin p hp
      refine ⟨(hs.2 p.1 ?_).trans e, n, ne, nf, d⟩
      intro q
      rw [q, hoc] at e
      have q' : oc = p.2 := Option.some.inj e
      exact d w' (by rw [← q']; exact hocd)
theorem store_ok {M : Model} {A : Around} {E : Value → Shared → Prop} {i : Nat} {x : Str} {v : V} {u : Value} {Q : Unit → Shared → Prop} (I : Inv X pins σ H s) (hN : X.N.Nodup) (hi : X.N[i]? = some x) (hx : Loc X.env.scope x) (r : RelV v u)
    (h : ∀ s', Inv X pins (σ.set i (some v)) H s' → Q () s') (hf : X.fn x = true ∨ X.env.scope.names.lookup x = some .local := by first | exact .inl rfl | exact .inr rfl | assumption) : wpAny M A (storeName X.env x u) Q E s :=
  store_ok2 I hN hi hx r (fun s' I' _ => h s' I') hf
theorem Inv.call' {s' : Shared} {ch : List Addr} (I : Inv X pins σ H s) (ho : s'.os = s.os) (u : Un (frs X.stack) ch H H' s.heap s'.heap) (hok : HOk X.prog X.w H' s'.heap) (hg : AllBare s'.gens)
    (hch : ∀ b ∈ ch, (b ∈ X.ex ∨ X.s₀.heap.objs.size ≤ b) ∧ b ≠ X.env.locals ∧ (∀ x c, X.env.cells.lookup x = some c → c ≠ b) ∧ ∀ p ∈ X.pn ++ pins, p.1 ≠ b) : Inv X pins σ H' s' := by
  obtain ⟨h', g', d', t', o'⟩ := s'
  have e : o' = s.os := ho
  subst e
  exact I.call (g' := g') (t' := t') (d' := d') u hok hg hch
end
abbrev XK := Value → Option Addr → Hp → Prop
abbrev St := List (Option V)
abbrev VK := V → Hp → Prop
abbrev TE := St → Hp → VK → Prop
abbrev TT := St → Hp → (Bool → Hp → Prop) → Prop
abbrev TA := St → Hp → (List V → Hp → Prop) → Prop
structure Ends where
  nx : St → Hp → Prop
  rt : VK
  bk : St → Hp → Prop := fun _ _ => False
  ct : St → Hp → Prop := fun _ _ => False
abbrev TS := Ends → St → Hp → Prop
def EP (X : Cx) (pins : List (Addr × Obj)) (σ : St) (Q : VK) (u : Value) (s' : Shared) : Prop := ∃ v H', Inv X pins σ H' s' ∧ RelV v u ∧ Q v H'
def TP (X : Cx) (pins : List (Addr × Obj)) (σ : St) (Q : Bool → Hp → Prop) (b : Bool) (s' : Shared) : Prop := ∃ H', Inv X pins σ H' s' ∧ Q b H'
def AP (X : Cx) (pins : List (Addr × Obj)) (σ : St) (Q : List V → Hp → Prop) (us : List Value) (s' : Shared) : Prop := ∃ vs H', Inv X pins σ H' s' ∧ Vals vs us ∧ Q vs H'
def SP (X : Cx) (pins : List (Addr × Obj)) (D : Ends) (f : Flow) (s' : Shared) : Prop :=
  match f with
  | .next => ∃ σ' H', Inv X pins σ' H' s' ∧ D.nx σ' H'
  | .brk => ∃ σ' H', Inv X pins σ' H' s' ∧ D.bk σ' H'
  | .cont => ∃ σ' H', Inv X pins σ' H' s' ∧ D.ct σ' H'
  | .ret u => ∃ v σ' H', Inv X pins σ' H' s' ∧ RelV v u ∧ D.rt v H'
def PE (X : Cx) (e : Expr) (t : TE) : Prop :=
  ∀ (pins : List (Addr × Obj)) (s : Shared) (σ : St) (H : Hp) (Q : VK), Inv X pins σ H s → t σ H Q → wpAny (model X.prog X.w) X.A (eval e X.env) (EP X pins σ Q) X.xe s
def PT (X : Cx) (e : Expr) (t : TT) : Prop :=
  ∀ (pins : List (Addr × Obj)) (s : Shared) (σ : St) (H : Hp) (Q : Bool → Hp → Prop), Inv X pins σ H s → t σ H Q → wpAny (model X.prog X.w) X.A (isTrue e X.env (eval e X.env)) (TP X pins σ Q) X.xe s
def PW (X : Cx) (e : Expr) (t : TT) : Prop :=
  ∀ (whole : Sem Value) (pins : List (Addr × Obj)) (s : Shared) (σ : St) (H : Hp) (Q : Bool → Hp → Prop), Inv X pins σ H s → t σ H Q → wpAny (model X.prog X.w) X.A (isTrue e X.env whole) (TP X pins σ Q) X.xe s
theorem PW.pt {X : Cx} {e : Expr} {t : TT} (h : PW X e t) : PT X e t := h _
def PA (X : Cx) (es : List Expr) (t : TA) : Prop :=
  ∀ (pos : Pos) (pins : List (Addr × Obj)) (s : Shared) (σ : St) (H : Hp) (Q : List V → Hp → Prop), Inv X pins σ H s → t σ H Q → wpAny (model X.prog X.w) X.A (spliced (backTo pos (starEach es X.env))) (AP X pins σ Q) X.xe s
def PS (X : Cx) (st : Stmt) (t : TS) : Prop :=
  ∀ (pins : List (Addr × Obj)) (s : Shared) (σ : St) (H : Hp) (D : Ends), Inv X pins σ H s → t D σ H → wpAny (model X.prog X.w) X.A (exec st X.env) (SP X pins D) X.xe s
def PSs (X : Cx) (st : List Stmt) (t : TS) : Prop :=
  ∀ (pins : List (Addr × Obj)) (s : Shared) (σ : St) (H : Hp) (D : Ends), Inv X pins σ H s → t D σ H → wpAny (model X.prog X.w) X.A (execs st X.env) (SP X pins D) X.xe s
theorem thn {α : Type} {t : Sem α} {Q Q' : α → Shared → Prop} {M : Model} {A : Around} {E : Value → Shared → Prop} {s : Shared} (h : wpAny M A t Q E s) (hQ : ∀ a s, Q a s → Q' a s) : wpAny M A t Q' E s := wpAny_mono h hQ fun _ _ x => x
end L2
namespace L2
open PySem PySem.Spec PyProof.Rows
section
variable {X : Cx}
def tVar (i : Nat) : TE := fun σ H Q => ∃ v, σ[i]? = some (some v) ∧ Q v H
def tC (v : V) : TE := fun _ H Q => Q v H
theorem pe_var {i : Nat} {x : Str} {pos : Pos} (hN : X.N[i]? = some x) (hv : Vis X.env.scope x) (hd : (x == ("__debug__" : Str)) = false := by decide) (hcd : (x == ("__classdict__" : Str)) = false := by decide) : PE X (.Name x pos) (tVar i) := by
  intro pins s σ H Q I h
  obtain ⟨v, e, h⟩ := h
  obtain ⟨m, hn, hl⟩ := I.loc
  obtain ⟨u, r, l⟩ := hl i x v hN e hv
  have fin : EP X pins σ Q u s := ⟨v, H, I, r, h⟩
  rcases l with ⟨hk, hm⟩ | ⟨hk, c, hc, hcell⟩
  · exact wpAny_Name (wpAny_loadName_local I.ok.kind hk hn hm fin) hd
  · rcases hk with hk | hk
    · exact wpAny_Name (wpAny_loadName_cell I.ok.kind hk hc hcell fin) hd
    · exact wpAny_Name (wpAny_loadName_free I.ok.kind hk hc hcell fin hcd) hd
theorem pe_int {i j pos} : PE X (.Constant (.int i) j pos) (tC (.int i)) := fun _ _ _ H _ I h => wpAny_Constant_int ⟨.int i, H, I.tok _, ⟨_, rfl⟩, h⟩
theorem pe_bl {b j pos} : PE X (.Constant (.bool b) j pos) (tC (.bl b)) := fun _ _ _ H _ I h => Constant_bool ⟨.bl b, H, I, rfl, h⟩
theorem pe_non {j pos} : PE X (.Constant .none j pos) (tC .non) := fun _ _ _ H _ I h => Constant_none ⟨.non, H, I, rfl, h⟩
def Gl (X : Cx) (x : Str) : Prop := X.env.kindOf x = some .globalImplicit
theorem ld_glob {E : Value → Shared → Prop} {pins : List (Addr × Obj)} {s : Shared} {σ : St} {H : Hp} {x : Str} {u : Value} {pos : Pos} {Q : Value → Shared → Prop} (I : Inv X pins σ H s) (hg : Gl X x) (hm : X.mg x = some u) (h : Q u s)
    (hd : (x == ("__debug__" : Str)) = false := by decide) : wpAny (model X.prog X.w) X.A (eval (.Name x pos) X.env) Q E s :=
  Calls.Name_function_global I.ok.kind hg (Calls.loadGlobal_global (by rw [I.ok.glob]; exact I.mod.glob.keeps I.bk) hm h) hd
theorem ld_blt {E : Value → Shared → Prop} {pins : List (Addr × Obj)} {s : Shared} {σ : St} {H : Hp} {x : Str} {u : Value} {pos : Pos} {Q : Value → Shared → Prop} (I : Inv X pins σ H s) (hg : Gl X x) (hm : X.mg x = none) (hv : bootBuiltins x = some u) (h : Q u s)
    (hn : x ≠ "__name__" := by decide) (hd : (x == ("__debug__" : Str)) = false := by decide) : wpAny (model X.prog X.w) X.A (eval (.Name x pos) X.env) Q E s := by
  obtain ⟨mb, h1, h2⟩ := I.mod.blt
  exact Calls.Name_function_global I.ok.kind hg (Calls.loadGlobal_builtin (by rw [I.ok.glob]; exact I.mod.glob.keeps I.bk) hm (by rw [I.ok.blt]; exact h1.keeps I.bk) ((h2 x hn).trans hv) h) hd
theorem pe_bltn {x : Str} {v : V} {u : Value} {pos : Pos} (hg : Gl X x) (hm : X.mg x = none) (hv : bootBuiltins x = some u) (r : RelV v u) (hn : x ≠ "__name__" := by decide) (hd : (x == ("__debug__" : Str)) = false := by decide) : PE X (.Name x pos) (tC v) :=
  fun _ _ _ H _ I h => ld_blt I hg hm hv ⟨v, H, I, r, h⟩ hn hd
def t2I (ta tb : TE) (k : Int → Int → Hp → Prop) : St → Hp → Prop := fun σ H => ta σ H fun x H1 => tb σ H1 fun y H2 => ∃ i j, x = .int i ∧ y = .int j ∧ k i j H2
def tAdd (ta tb : TE) : TE := fun σ H Q => t2I ta tb (fun i j H2 => Q (.int (i + j)) H2) σ H
def tSub (ta tb : TE) : TE := fun σ H Q => t2I ta tb (fun i j H2 => Q (.int (i - j)) H2) σ H
def tMul (ta tb : TE) : TE := fun σ H Q => t2I ta tb (fun i j H2 => (-(2 ^ 64) < i ∧ i < 2 ^ 64) ∧ Q (.int (i * j)) H2) σ H
variable {a b : Expr} {ta tb : TE} {pos : Pos}
def PC (X : Cx) (op : CmpOp) (a b : Expr) (t : TE) : Prop :=
  ∀ (pins : List (Addr × Obj)) (s : Shared) (σ : St) (H : Hp) (Q : VK), Inv X pins σ H s → t σ H Q →
    wpAny (model X.prog X.w) X.A (eval a X.env) (fun v s₁ => wpAny (model X.prog X.w) X.A (eval b X.env) (fun u s₂ => wpAny (model X.prog X.w) X.A (compareOp op v u) (EP X pins σ Q) X.xe s₂) X.xe s₁) X.xe s
def tCmp (p : Int → Int → Bool) (ta tb : TE) : TE := fun σ H Q => t2I ta tb (fun i j H2 => Q (.bl (p i j)) H2) σ H
abbrev tLt : TE → TE → TE := tCmp fun i j => decide (i < j)
abbrev tLe : TE → TE → TE := tCmp fun i j => decide (i ≤ j)
abbrev tGt : TE → TE → TE := tCmp fun i j => decide (j < i)
abbrev tGe : TE → TE → TE := tCmp fun i j => decide (j ≤ i)
abbrev tEqI : TE → TE → TE := tCmp fun i j => decide (i = j)
abbrev tNeI : TE → TE → TE := tCmp fun i j => !decide (i = j)
def tIsN (ta : TE) : TE := fun σ H Q => ta σ H fun x H1 => Q (.bl (decide (x = .non))) H1
def tNotN (ta : TE) : TE := fun σ H Q => ta σ H fun x H1 => Q (.bl (!decide (x = .non))) H1
def tB (t : TE) : TT := fun σ H Q => t σ H fun x H1 => ∃ c, x = .bl c ∧ Q c H1
variable {tA tB' : TT} {rest : List Expr}
def tAnd (t u : TT) : TT := fun σ H Q => t σ H fun c H1 => if c = true then u σ H1 Q else Q false H1
def tOr (t u : TT) : TT := fun σ H Q => t σ H fun c H1 => if c = true then Q true H1 else u σ H1 Q
def tNot (t : TT) : TT := fun σ H Q => t σ H fun c H1 => Q (!c) H1
theorem pw_and1 (ha : PT X a tA) : PW X (.BoolOp .And [a] pos) tA := by
  intro wh pins s σ H Q I h
  refine isTrue_and (thn (ha pins s σ H Q I h) fun c s1 e => ?_)
  cases c with
  | true => exact isTrue_and_nil e
  | false => exact e
theorem pw_or1 (ha : PT X a tA) : PW X (.BoolOp .Or [a] pos) tA := by
  intro wh pins s σ H Q I h
  refine isTrue_or (thn (ha pins s σ H Q I h) fun c s1 e => ?_)
  cases c with
  | false => exact isTrue_or_nil e
  | true => exact e
theorem pt_not (ha : PT X a tA) : PT X (.UnaryOp .Not a pos) (tNot tA) := by
  intro pins s σ H Q I h
  exact isTrue_not (ha pins s σ H (fun c H1 => Q (!c) H1) I h)
def tAndV (ta tb : TE) : TE := fun σ H Q => ta σ H fun x H1 => ∃ c, x = .bl c ∧ if c = true then tb σ H1 Q else Q (.bl false) H1
def tOrV (ta tb : TE) : TE := fun σ H Q => ta σ H fun x H1 => ∃ c, x = .bl c ∧ if c = true then Q (.bl true) H1 else tb σ H1 Q
def tNotV (ta : TE) : TE := fun σ H Q => ta σ H fun x H1 => ∃ c, x = .bl c ∧ Q (.bl (!c)) H1
theorem pe_one {op} {t : TE} (h : PE X a t) : PE X (.BoolOp op [a] pos) t := fun pins s σ H Q I hw => BoolOp_one (h pins s σ H Q I hw)
def tIf (t : TT) (ta tb : TE) : TE := fun σ H Q => t σ H fun c H1 => if c = true then ta σ H1 Q else tb σ H1 Q
end
end L2
namespace L2
open PySem PySem.Spec PyProof.Rows
def SqL (K : PySem.W.Frag) (H : Hp) (a : Addr) (xs : List V) : Prop :=
  Rd H a (.lst xs) ∨
    ∃ (o : Obj) (its : Array Value) (n : Nat), K.lookup a = some o ∧ o.cls = .type "list" ∧ o.dict = none ∧ o.data = .seq its n ∧ its.size ≤ sizeLine ∧ Vals xs its.toList
def SqT (K : PySem.W.Frag) (H : Hp) (a : Addr) (xs : List V) : Prop :=
  Rd H a (.tup xs) ∨
    ∃ (o : Obj) (its : Array Value) (n : Nat), K.lookup a = some o ∧ o.cls = .type "tuple" ∧ o.dict = none ∧ o.data = .seq its n ∧ its.size ≤ sizeLine ∧ Vals xs its.toList
def absV : Value → Option V
  | .none => some .non
  | .bool b => some (.bl b)
  | .int i _ => some (.int i)
  | .str x _ => some (.str x)
  | .bytes b _ => some (.byt b)
  | .float b _ => some (.flt b)
  | .ref a => some (.ref a)
  | .type n => some (.ty n)
  | _ => none
theorem RelV.abs {x : V} {u : Value} (r : RelV x u) : absV u = some x := by
  cases x with
  | non => cases r; rfl
  | bl _ => cases r; rfl
  | int _ => obtain ⟨t, rfl⟩ := r; rfl
  | str _ => obtain ⟨t, rfl⟩ := r; rfl
  | byt _ => obtain ⟨t, rfl⟩ := r; rfl
  | flt _ => obtain ⟨t, rfl⟩ := r; rfl
  | ref _ => cases r; rfl
  | ty _ => cases r; rfl
theorem RelV.inj {x y : V} {u : Value} (r : RelV x u) (q : RelV y u) : x = y := Option.some.inj (r.abs.symm.trans q.abs)
theorem Vals.inj : ∀ {xs ys : List V} {us : List Value}, Vals xs us → Vals ys us → xs = ys
  | _, _, _, .nil, .nil => rfl
  | _, _, _, .cons r t, .cons r' t' => by rw [r.inj r', Vals.inj t t']
section
variable {X : Cx} {pins : List (Addr × Obj)} {σ : St} {H : Hp} {s : Shared} {a : Addr} {xs ys : List V}
theorem SqL.of {K : PySem.W.Frag} (h : H a = some (.lst xs)) : SqL K H a xs := .inl (.inl h)
theorem SqT.of {K : PySem.W.Frag} (h : H a = some (.tup xs)) : SqT K H a xs := .inl (.inl h)
theorem Inv.list (I : Inv X pins σ H s) (h : SqL X.K H a xs) : ∃ its : List Value, Vals xs its ∧ PlainL s.heap a its.toArray ∧ xs.length ≤ sizeLine := by
  rcases h with h | ⟨o, its, n, hk, hc, hd, hs, hz, r⟩
  · obtain ⟨z, its, n, r, e⟩ := h.ok I.hok
    exact ⟨its, r, ⟨_, n, e, rfl, rfl, rfl⟩, z⟩
  · refine ⟨its.toList, r, ⟨o, n, I.kIn a o hk, hc, hd, by simpa using hs⟩, ?_⟩
    have e := r.length
    simp only [Array.length_toList] at e
    omega
theorem Inv.tuple (I : Inv X pins σ H s) (h : SqT X.K H a xs) : ∃ its : List Value, Vals xs its ∧ IsTup s.heap a its.toArray ∧ xs.length ≤ sizeLine := by
  rcases h with h | ⟨o, its, n, hk, hc, _, hs, hz, r⟩
  · obtain ⟨z, its, r, p⟩ := h.ok I.hok
    exact ⟨its, r, p.t, z⟩
  · refine ⟨its.toList, r, ⟨o, I.kIn a o hk, hc, n, by simpa using hs⟩, ?_⟩
    have e := r.length
    simp only [Array.length_toList] at e
    omega
theorem Inv.tupN (I : Inv X pins σ H s) (h : SqT X.K H a xs) : ∃ its : List Value, Vals xs its ∧ TupN s.heap a its.toArray ∧ xs.length ≤ sizeLine := by
  rcases h with h | ⟨o, its, n, hk, hc, hd, hs, hz, r⟩
  · obtain ⟨z, its, r, p⟩ := h.ok I.hok
    exact ⟨its, r, p, z⟩
  · refine ⟨its.toList, r, ⟨o, I.kIn a o hk, hd, hc, n, by simpa using hs⟩, ?_⟩
    have e := r.length
    simp only [Array.length_toList] at e
    omega
theorem Inv.list_inj (I : Inv X pins σ H s) (h : SqL X.K H a xs) (h' : SqL X.K H a ys) : xs = ys := by
  obtain ⟨its, r, ⟨o, n, e, _, _, d⟩, _⟩ := I.list h
  obtain ⟨its', r', ⟨o', n', e', _, _, d'⟩, _⟩ := I.list h'
  rw [e] at e'; cases e'
  rw [d] at d'
  injection d' with d1 _
  have : its = its' := by simpa using congrArg Array.toList d1
  subst this
  exact r.inj r'
theorem Inv.tuple_inj (I : Inv X pins σ H s) (h : SqT X.K H a xs) (h' : SqT X.K H a ys) : xs = ys := by
  obtain ⟨its, r, ⟨o, e, _, n, d⟩, _⟩ := I.tuple h
  obtain ⟨its', r', ⟨o', e', _, n', d'⟩, _⟩ := I.tuple h'
  rw [e] at e'; cases e'
  rw [d] at d'
  injection d' with d1 _
  have : its = its' := by simpa using congrArg Array.toList d1
  subst this
  exact r.inj r'
end
abbrev Cx.wish (X : Cx) (E : Value → Shared → Prop) : Cx := { X with xe := E }
abbrev Cx.nox (X : Cx) : Cx := X.wish fun _ _ => False
theorem Cx.Ok.wish {X : Cx} (ok : X.Ok) (E : Value → Shared → Prop) : (X.wish E).Ok :=
  ⟨ok.mod, ok.kind, ok.glob, ok.blt, ok.above, ok.inj, ok.has, ok.cab, ok.hd, ok.frames, ok.stk, ok.exf, ok.bs, ok.bsz, ok.noex, ok.exfs, ok.funs, ok.frf⟩
theorem Cx.Ok.unwish {X : Cx} {E : Value → Shared → Prop} (ok : (X.wish E).Ok) : X.Ok :=
  ⟨ok.mod, ok.kind, ok.glob, ok.blt, ok.above, ok.inj, ok.has, ok.cab, ok.hd, ok.frames, ok.stk, ok.exf, ok.bs, ok.bsz, ok.noex, ok.exfs, ok.funs, ok.frf⟩
section
variable {X : Cx} {pins : List (Addr × Obj)} {σ : St} {H : Hp} {s : Shared} {E : Value → Shared → Prop}
theorem Inv.wish (I : Inv X pins σ H s) (E : Value → Shared → Prop) : Inv (X.wish E) pins σ H s := ⟨I.ok.wish E, I.os, I.bare, I.base, I.loc, I.cell, I.free, I.freeC, I.pin, I.hok, I.len⟩
theorem Inv.unwish (I : Inv (X.wish E) pins σ H s) : Inv X pins σ H s := ⟨I.ok.unwish, I.os, I.bare, I.base, I.loc, I.cell, I.free, I.freeC, I.pin, I.hok, I.len⟩
theorem SP.unwish {D : Ends} {f : Flow} {s' : Shared} (h : SP (X.wish E) pins D f s') : SP X pins D f s' := by
  cases f with
  | next => obtain ⟨σ', H', I, q⟩ := h; exact ⟨σ', H', I.unwish, q⟩
  | brk => obtain ⟨σ', H', I, q⟩ := h; exact ⟨σ', H', I.unwish, q⟩
  | cont => obtain ⟨σ', H', I, q⟩ := h; exact ⟨σ', H', I.unwish, q⟩
  | ret u => obtain ⟨v, σ', H', I, r, q⟩ := h; exact ⟨v, σ', H', I.unwish, r, q⟩
theorem PSs.nox {st : List Stmt} {t : TS} (h : PSs X.nox st t) : PSs X st t := fun pins s σ H D I hw =>
  wpAny_mono (h pins s σ H D (I.wish _) hw) (fun _ _ q => q.unwish) fun _ _ z => False.elim z
end
section
variable {X : Cx} {st : Stmt} {rest : List Stmt} {t u : TS} {e : Expr} {te : TE} {pos : Pos}
def tNext : TS := fun D σ H => D.nx σ H
def tSeq (t u : TS) : TS := fun D σ H => t { D with nx := u D } σ H
theorem pss_nil : PSs X [] tNext := fun _ _ σ H _ I h => wpAny_execs_nil ⟨σ, H, I, h⟩
theorem pss_cons (h1 : PS X st t) (h2 : PSs X rest u) : PSs X (st :: rest) (tSeq t u) := by
  intro pins s σ H D I h
  refine wpAny_execs_cons (thn (h1 pins s σ H { D with nx := u D } I h) fun f s1 q => ?_)
  cases f with
  | next =>
    obtain ⟨σ', H', I', q⟩ := q
    exact h2 pins s1 σ' H' D I' q
  | ret v => exact q
  | brk => exact q
  | cont => exact q
def tBreak : TS := fun D σ H => D.bk σ H
def tCont : TS := fun D σ H => D.ct σ H
theorem Inv.quiet {pins : List (Addr × Obj)} {σ : St} {H : Hp} {s : Shared} (I : Inv X pins σ H s) : interactive X.env = false := by simp [interactive, I.ok.kind]
def tDrop (te : TE) : TS := fun D σ H => te σ H fun _ H1 => D.nx σ H1
theorem ps_expr (he : PE X e te) (hs : swapsWith e none pos.line X.env = pure false := by rfl) : PS X (.Expr e pos) (tDrop te) := by
  intro pins s σ H D I h
  exact wpAny_Expr_any (thn (he pins s σ H _ I h) fun v s1 ⟨x, H1, I1, r1, q1⟩ => ⟨σ, H1, I1, q1⟩) I.quiet hs
def tRet (te : TE) : TS := fun D σ H => te σ H D.rt
theorem ps_ret (he : PE X e te) : PS X (.Return (some e) pos) (tRet te) := by
  intro pins s σ H D I h
  exact wpAny_Return_some (thn (he pins s σ H _ I h) fun v s1 ⟨x, H1, I1, r1, q1⟩ => ⟨x, σ, H1, I1, r1, q1⟩)
def tRetN : TS := fun D _ H => D.rt .non H
def tIfS (c : TT) (t u : TS) : TS := fun D σ H => c σ H fun b H1 => if b = true then t D σ H1 else u D σ H1
theorem ps_if {c : Expr} {a b : List Stmt} {tc : TT} (hc : PT X c tc) (ha : PSs X a t) (hb : PSs X b u) : PS X (.If c a b pos) (tIfS tc t u) := by
  intro pins s σ H D I h
  refine wpAny_If (thn (hc pins s σ H _ I h) fun d s1 ⟨H1, I1, q1⟩ => ?_)
  cases d with
  | true => exact ha pins s1 σ H1 D I1 q1
  | false => exact hb pins s1 σ H1 D I1 q1
def tNever : TS := fun _ _ _ => False
end
abbrev TG := V → St → Hp → (St → Hp → Prop) → Prop
abbrev TGs := List V → St → Hp → (St → Hp → Prop) → Prop
def PG (X : Cx) (target : Expr) (t : TG) : Prop :=
  ∀ (pins : List (Addr × Obj)) (s : Shared) (σ : St) (H : Hp) (v : V) (u : Value) (Q : St → Hp → Prop), Inv X pins σ H s → RelV v u → t v σ H Q →
    wpAny (model X.prog X.w) X.A (assign target X.env u) (fun _ s' => ∃ σ' H', Inv X pins σ' H' s' ∧ Q σ' H') X.xe s
def PGs (X : Cx) (ts : List Expr) (t : TGs) : Prop :=
  ∀ (pins : List (Addr × Obj)) (s : Shared) (σ : St) (H : Hp) (vs : List V) (us : List Value) (Q : St → Hp → Prop), Inv X pins σ H s → Vals vs us → t vs σ H Q →
    wpAny (model X.prog X.w) X.A (assignInOrder ((assignEach ts X.env).map (·.2)) us) (fun _ s' => ∃ σ' H', Inv X pins σ' H' s' ∧ Q σ' H') X.xe s
abbrev TSet := V → V → V → Hp → (Hp → Prop) → Prop
def PSet (X : Cx) (t : TSet) : Prop :=
  ∀ (pins : List (Addr × Obj)) (s : Shared) (σ : St) (H : Hp) (o i v : V) (ov iv u : Value) (Q : Hp → Prop), Inv X pins σ H s → RelV o ov → RelV i iv → RelV v u → t o i v H Q →
    wpAny (model X.prog X.w) X.A (setItem ov iv u) (fun _ s' => ∃ H', Inv X pins σ H' s' ∧ Q H') X.xe s
abbrev TIp := V → V → Hp → VK → Prop
def PIp (X : Cx) (op : Operator) (t : TIp) : Prop :=
  ∀ (pins : List (Addr × Obj)) (s : Shared) (σ : St) (H : Hp) (x y : V) (v u : Value) (Q : VK), Inv X pins σ H s → RelV x v → RelV y u → t x y H Q →
    wpAny (model X.prog X.w) X.A (inplaceOp op v u) (EP X pins σ Q) X.xe s
section
variable {X : Cx} {pos : Pos}
def gName (i : Nat) : TG := fun v σ H Q => Q (σ.set i (some v)) H
theorem pg_name {i : Nat} {x : Str} (hN : X.N.Nodup) (hi : X.N[i]? = some x) (hx : Loc X.env.scope x) (hf : X.fn x = true ∨ X.env.scope.names.lookup x = some .local := by first | exact .inl rfl | exact .inr rfl | assumption) : PG X (.Name x pos) (gName i) := by
  intro pins s σ H v u Q I r h
  exact wpAny_assign_Name (store_ok I hN hi hx r (fun s' I' => ⟨_, H, I', h⟩) hf)
def gNil : TGs := fun vs σ H Q => vs = [] ∧ Q σ H
def gCons (t : TG) (u : TGs) : TGs := fun vs σ H Q => ∃ v r, vs = v :: r ∧ t v σ H fun σ' H' => u r σ' H' Q
theorem pgs_nil : PGs X [] gNil := by
  intro pins s σ H vs us Q I r h
  obtain ⟨e, h⟩ := h
  subst e
  cases r
  exact assignInOrder_nil ⟨σ, H, I, h⟩
theorem pgs_cons {e : Expr} {es : List Expr} {t : TG} {u : TGs} (h1 : PG X e t) (h2 : PGs X es u)
    (hs : (assignEach (e :: es) X.env).map (·.2) = assign e X.env :: (assignEach es X.env).map (·.2) := by rfl) : PGs X (e :: es) (gCons t u) := by
  intro pins s σ H vs us Q I r h
  obtain ⟨v, vr, e1, h⟩ := h
  subst e1
  cases r with
  | cons r rr =>
    rw [hs]
    refine assignInOrder_cons (thn (h1 pins s σ H _ _ _ I r h) fun _ s1 ⟨σ1, H1, I1, q1⟩ => ?_)
    exact h2 pins s1 σ1 H1 _ _ Q I1 rr q1
def gTup (K : PySem.W.Frag) (n : Nat) (t : TGs) : TG := fun v σ H Q => ∃ a xs, v = .ref a ∧ SqT K H a xs ∧ xs.length = n ∧ t xs σ H Q
theorem pg_tup {es : List Expr} {k : Nat} {t : TGs} {n : Nat} (hc : X.calm = true) (h : PGs X es t)
    (hn : (assignEach es X.env).length = n := by rfl) (hst : (assignEach es X.env).findIdx? (·.1) = none := by rfl) : PG X (.Tuple es k pos) (gTup X.K n t) := by
  intro pins s σ H v u Q I r hw
  obtain ⟨a, xs, e1, hq, hl, hw⟩ := hw
  subst e1
  cases r
  obtain ⟨its, rv, ht, hz⟩ := I.tuple hq
  refine assign_Tuple_tuple (I.ok.hd hc) ht (by simp [hn, ← hl, rv.length]) hst fun h' hx => ?_
  have I1 : Inv X pins σ H { s with heap := h' } := I.kept (t' := s.toks) fun b o e => hx b o (Nat.ne_of_lt (Heap.lt_size e)) e
  exact h pins _ σ H xs _ Q I1 (by simpa using rv) hw
def gSub (to ti : TE) (t : TSet) : TG := fun v σ H Q => to σ H fun o H1 => ti σ H1 fun i H2 => t o i v H2 fun H3 => Q σ H3
def tAsg (te : TE) (g : TG) : TS := fun D σ H => te σ H fun x H1 => g x σ H1 D.nx
theorem ps_set {i : Nat} {x : Str} {e : Expr} {te : TE} {pos' : Pos} (hN : X.N.Nodup) (hi : X.N[i]? = some x) (hx : Loc X.env.scope x) (he : PE X e te) (hs : swapsWith e (some (.Name x pos')) pos.line X.env = pure false := by rfl) (hf : X.fn x = true ∨ X.env.scope.names.lookup x = some .local := by first | exact .inl rfl | exact .inr rfl | assumption) :
    PS X (.Assign [.Name x pos'] e pos) (tAsg te (gName i)) := by
  intro pins s σ H D I h
  refine wpAny_Assign_Name (thn (he pins s σ H _ I h) fun v s1 ⟨y, H1, I1, r1, q1⟩ => ?_) hs
  exact store_ok I1 hN hi hx r1 (fun s2 I2 => ⟨_, H1, I2, q1⟩) hf
def tPar (i j : Nat) (ta : TA) : TS := fun D σ H => ta σ H fun vs H1 => ∃ v w, vs = [v, w] ∧ D.nx ((σ.set i (some v)).set j (some w)) H1
def tAug (i : Nat) (te : TE) (ti : TIp) : TS := fun D σ H => ∃ x, σ[i]? = some (some x) ∧ te σ H fun y H1 => ti x y H1 fun z H2 => D.nx (σ.set i (some z)) H2
def tAugS (to ti te : TE) (tget : V → V → Hp → VK → Prop) (tip : TIp) (tset : TSet) : TS := fun D σ H => to σ H fun o H1 => ti σ H1 fun i H2 => tget o i H2 fun x H3 => te σ H3 fun y H4 => tip x y H4 fun z H5 => tset o i z H5 fun H6 => D.nx σ H6
def PGet (X : Cx) (t : V → V → Hp → VK → Prop) : Prop :=
  ∀ (pins : List (Addr × Obj)) (s : Shared) (σ : St) (H : Hp) (o i : V) (ov iv : Value) (Q : VK), Inv X pins σ H s → RelV o ov → RelV i iv → t o i H Q →
    wpAny (model X.prog X.w) X.A (getItem ov iv) (EP X pins σ Q) X.xe s
def ipI (f : Int → Int → Int) : TIp := fun x y H Q => ∃ i j, x = .int i ∧ y = .int j ∧ Q (.int (f i j)) H
end
section
variable {X : Cx} {pos : Pos}
def tWhile (c : TT) (tb : TS) : TS := fun D σ H => ∃ W : Nat → St → Hp → Prop, (∃ m, W m σ H) ∧ ∀ m σ H, W m σ H →
  c σ H fun b H1 => if b = true then ∃ N : St → Hp → Prop, (∀ σ' H', N σ' H' → ∃ m', m' < m ∧ W m' σ' H') ∧ tb { D with nx := N, ct := N, bk := D.nx } σ H1 else D.nx σ H1
end
structure It where
  go : Nat → Hp → Prop
  yld : Nat → Hp → V → Hp → Prop
  stop : Nat → Hp → Prop
def FpOk (X : Cx) (pins : List (Addr × Obj)) (H : Hp) (b : Addr) : Prop :=
  H b = none ∧ b ≠ X.env.locals ∧ b ∉ X.fs ∧ (b ∈ X.ex ∨ X.s₀.heap.objs.size ≤ b) ∧ (∀ x c, X.env.cells.lookup x = some c → c ≠ b) ∧ ∀ p ∈ X.pn ++ pins, p.1 ≠ b
theorem Inv.fpOk {X : Cx} {pins : List (Addr × Obj)} {σ : St} {H H' : Hp} {s : Shared} {b : Addr} (I : Inv X pins σ H s) (hb : s.heap.objs.size ≤ b) (hn : H' b = none) : FpOk X pins H' b := by
  refine ⟨hn, Nat.ne_of_gt (Nat.lt_of_lt_of_le I.lt hb), I.nofs hb, .inr (Nat.le_trans I.sz hb), fun x c e z => ?_, fun p hp z => ?_⟩
  · obtain ⟨v, q⟩ := I.cell x c e
    exact absurd (Nat.lt_of_lt_of_le q.lt (by rw [z]; exact hb)) (Nat.lt_irrefl _)
  · exact absurd (Nat.lt_of_lt_of_le (Heap.lt_size (I.pin p hp).1) (by rw [z]; exact hb)) (Nat.lt_irrefl _)
structure Turn (P : Program) (w : World) (K : PySem.W.Frag) (tg : Expr) (J : It) (fp : List Addr) (it : Addr) (tn : Nat → Heap → Prop) : Prop where
  mem : it ∈ fp
  obj : ∀ i h, tn i h → ∀ b ∈ fp, ∃ o, h.get? b = some o ∧ ∀ v, o.data ≠ .cell v
  keep : ∀ i h h', tn i h → (∀ b ∈ fp, ∀ o, h.get? b = some o → h'.get? b = some o) → tn i h'
  item : ∀ (X : Cx), X.prog = P → X.w = w → X.K = K → X.calm = true → ∀ (i : Nat) (pins : List (Addr × Obj)) (s : Shared) (σ : St) (H : Hp) (E : Value → Shared → Prop), Inv X pins σ H s → (∀ b ∈ fp, FpOk X pins H b) → tn i s.heap → J.go i H →
    wpAny (model P w) X.A (pyNext (.ref it)) (fun r s1 => ∃ u, r = some u ∧
      wpAny (model P w) X.A (letOwnedTupleGo tg (.ref it) u) (fun _ s2 => ∃ x H', Inv X pins σ H' s2 ∧ RelV x u ∧ J.yld i H x H' ∧ tn (i + 1) s2.heap ∧ ∀ b ∈ fp, H' b = none) E s1) E s
  done : ∀ (X : Cx), X.prog = P → X.w = w → X.K = K → X.calm = true → ∀ (i : Nat) (pins : List (Addr × Obj)) (s : Shared) (σ : St) (H : Hp) (E : Value → Shared → Prop), Inv X pins σ H s → (∀ b ∈ fp, FpOk X pins H b) → tn i s.heap → J.stop i H →
    wpAny (model P w) X.A (pyNext (.ref it)) (fun r s1 => r = none ∧ Inv X pins σ H s1) E s
  self : ∀ (A : Around) (i : Nat) (s : Shared) (Q : Value → Shared → Prop) (E : Value → Shared → Prop), tn i s.heap → Q (.ref it) s → wpAny (model P w) A (pyIter (.ref it)) Q E s
abbrev TI := St → Hp → (It → Hp → Prop) → Prop
def PIE (X : Cx) (pins : List (Addr × Obj)) (σ : St) (tg : Expr) (R : It → Hp → Prop) (itv : Value) (s2 : Shared) : Prop :=
  ∃ (it : Addr) (fp : List Addr) (tn : Nat → Heap → Prop) (J : It) (H' : Hp), itv = .ref it ∧ Inv X pins σ H' s2 ∧ Turn X.prog X.w X.K tg J fp it tn ∧ tn 0 s2.heap ∧ (∀ b ∈ fp, FpOk X pins H' b) ∧ R J H'
def PI (X : Cx) (tg iter : Expr) (wi : TI) : Prop :=
  ∀ (pins : List (Addr × Obj)) (s : Shared) (σ : St) (H : Hp) (R : It → Hp → Prop), Inv X pins σ H s → wi σ H R →
    wpAny (model X.prog X.w) X.A (eval iter X.env) (fun v s1 => wpAny (model X.prog X.w) X.A (pyIter v) (PIE X pins σ tg R) X.xe s1) X.xe s
theorem go_of {M : Model} {A : Around} {E : Value → Shared → Prop} {s : Shared} {tg : Expr} {it : Addr} {u : Value} {o : Obj} {n : String} {vs : Array Value} {Q : Unit → Shared → Prop} (ho : s.heap.get? it = some o) (hc : o.cls = .type n) (hd : o.data = .fields vs)
    (hn : ["enumerate", "zip", "dict_itemiterator", "dict_reverseitemiterator", "odict_iterator", "itertools.zip_longest", "itertools.pairwise"].contains n = false) (hQ : Q () s) : wpAny M A (letOwnedTupleGo tg (.ref it) u) Q E s := by
  unfold letOwnedTupleGo
  cases tg <;> first
    | exact wpAny_pure hQ
    | (cases u <;> first
        | exact wpAny_pure hQ
        | (refine wpAny_bind (wpAny_load ho ?_)
           rw [hc, hd]
           show wpAny M A (if (["enumerate", "zip", "dict_itemiterator", "dict_reverseitemiterator", "odict_iterator", "itertools.zip_longest", "itertools.pairwise"].contains n && vs[0]? == some (rawInt _)) = true then _ else _) Q E s
           rw [if_neg (by intro h; rw [hn, Bool.false_and] at h; cases h)]
           exact wpAny_pure hQ))
def Itl (K : PySem.W.Frag) (a : Addr) : It :=
  ⟨fun i H => ∃ xs x, SqL K H a xs ∧ xs[i]? = some x, fun i H x H' => H' = H ∧ ∀ xs, SqL K H a xs → xs[i]? = some x, fun i H => ∃ xs, SqL K H a xs ∧ xs.length ≤ i⟩
def Itt (K : PySem.W.Frag) (a : Addr) : It :=
  ⟨fun i H => ∃ xs x, SqT K H a xs ∧ xs[i]? = some x, fun i H x H' => H' = H ∧ ∀ xs, SqT K H a xs → xs[i]? = some x, fun i H => ∃ xs, SqT K H a xs ∧ xs.length ≤ i⟩
def Itr (lo : Int) (n : Nat) : It := ⟨fun i _ => i < n, fun i H x H' => H' = H ∧ x = .int (lo + i), fun i _ => n ≤ i⟩
theorem turn_list {P : Program} {w : World} {K : PySem.W.Frag} {tg : Expr} (a it : Addr) : Turn P w K tg (Itl K a) [it] it (fun i h => h.IsListIter it a i) where
  mem := by simp
  obj := fun i h st b hb => by
    have e : b = it := by simpa using hb
    subst e
    obtain ⟨o, e, c, d⟩ := st
    exact ⟨o, e, fun v z => by rw [d] at z; cases z⟩
  keep := fun i h h' st k => st.at fun o e => k it (by simp) o e
  item := by
    intro X hP hw hK hc i pins s σ H E I hf st hg
    subst hP hw hK
    obtain ⟨xs, x, hq, hx⟩ := hg
    obtain ⟨its, rv, p, hz⟩ := I.list hq
    obtain ⟨u, hu, ru⟩ := rv.get hx
    obtain ⟨f0, f1, f2, f3, f4, f5⟩ := hf it (by simp)
    refine wpAny_pyNext_list_item st p.isList (x := u) (by simpa using hu) fun h' st' sb => ?_
    have I1 : Inv X pins σ H { s with heap := h' } := I.turned (t' := s.toks) (fun b o hb e => (sb.2 b hb).trans e) f0 f1 f3 f4 f5
    obtain ⟨o, e, c, d⟩ := id st'
    exact ⟨u, rfl, go_of (s := { s with heap := h' }) e c d (by decide) ⟨x, H, I1, ru, ⟨rfl, fun ys hy => by rw [I.list_inj hy hq]; exact hx⟩, st', fun b hb => (hf b hb).1⟩⟩
  done := by
    intro X hP hw hK hc i pins s σ H E I hf st hg
    subst hP hw hK
    obtain ⟨xs, hq, hx⟩ := hg
    obtain ⟨its, rv, p, hz⟩ := I.list hq
    obtain ⟨f0, f1, f2, f3, f4, f5⟩ := hf it (by simp)
    have hl := rv.length
    exact wpAny_pyNext_list_end (I.ok.hd hc) st p.isList (by simp; omega) fun h' eb => ⟨rfl, I.turned (t' := s.toks) (fun b o hb e => eb b o hb e) f0 f1 f3 f4 f5⟩
  self := fun _ _ _ _ _ st h => wpAny_pyIter_listiter st h
theorem turn_tuple {P : Program} {w : World} {K : PySem.W.Frag} {tg : Expr} (a it : Addr) : Turn P w K tg (Itt K a) [it] it (fun i h => h.IsTupleIter it a i) where
  mem := by simp
  obj := fun i h st b hb => by
    have e : b = it := by simpa using hb
    subst e
    obtain ⟨o, e, c, d⟩ := st
    exact ⟨o, e, fun v z => by rw [d] at z; cases z⟩
  keep := fun i h h' st k => st.at fun o e => k it (by simp) o e
  item := by
    intro X hP hw hK hc i pins s σ H E I hf st hg
    subst hP hw hK
    obtain ⟨xs, x, hq, hx⟩ := hg
    obtain ⟨its, rv, p, hz⟩ := I.tuple hq
    obtain ⟨u, hu, ru⟩ := rv.get hx
    obtain ⟨f0, f1, f2, f3, f4, f5⟩ := hf it (by simp)
    refine wpAny_pyNext_tuple_item st (show s.heap.IsTuple a its.toArray from p) (x := u) (by simpa using hu) fun h' st' sb => ?_
    have I1 : Inv X pins σ H { s with heap := h' } := I.turned (t' := s.toks) (fun b o hb e => (sb.2 b hb).trans e) f0 f1 f3 f4 f5
    obtain ⟨o, e, c, d⟩ := id st'
    exact ⟨u, rfl, go_of (s := { s with heap := h' }) e c d (by decide) ⟨x, H, I1, ru, ⟨rfl, fun ys hy => by rw [I.tuple_inj hy hq]; exact hx⟩, st', fun b hb => (hf b hb).1⟩⟩
  done := by
    intro X hP hw hK hc i pins s σ H E I hf st hg
    subst hP hw hK
    obtain ⟨xs, hq, hx⟩ := hg
    obtain ⟨its, rv, p, hz⟩ := I.tuple hq
    obtain ⟨f0, f1, f2, f3, f4, f5⟩ := hf it (by simp)
    have hl := rv.length
    exact wpAny_pyNext_tuple_end (I.ok.hd hc) st (show s.heap.IsTuple a its.toArray from p) (by simp; omega) fun h' eb => ⟨rfl, I.turned (t' := s.toks) (fun b o hb e => eb b o hb e) f0 f1 f3 f4 f5⟩
  self := fun _ _ _ _ _ st h => wpAny_pyIter_tupleiter st h
theorem turn_range {P : Program} {w : World} {K : PySem.W.Frag} {tg : Expr} (it : Addr) (lo : Int) (n : Nat) : Turn P w K tg (Itr lo n) [it] it (fun i h => IsRangeIter h it (lo + (i : Nat) * 1) ((n : Int) - (i : Nat)) 1) where
  mem := by simp
  obj := fun i h st b hb => by
    have e : b = it := by simpa using hb
    subst e
    exact ⟨_, st, fun v z => by
      have z' : Data.fields _ = Data.cell v := z
      cases z'⟩
  keep := fun i h h' st k => k it (by simp) _ st
  item := by
    intro X hP hw hK hc i pins s σ H E I hf st hg
    subst hP hw hK
    obtain ⟨f0, f1, f2, f3, f4, f5⟩ := hf it (by simp)
    have W := Walks.range (prog := X.prog) (w := X.w) (I.ok.hd hc) it lo 1 n
    refine W.item i s _ _ hg st fun v h' tk hv st' kk => ?_
    obtain ⟨t, rfl⟩ := hv
    have I1 : Inv X pins σ H { s with heap := h', toks := tk } := I.turned (fun b o hb e => kk b o (by simpa using hb) e) f0 f1 f3 f4 f5
    refine ⟨_, rfl, go_of (s := { s with heap := h', toks := tk }) (n := "range_iterator") st' rfl rfl (by decide) ⟨.int (lo + i), H, I1, ⟨t, ?_⟩, ⟨rfl, rfl⟩, st', fun b hb => (hf b hb).1⟩⟩
    rw [Int.mul_one]
  done := by
    intro X hP hw hK hc i pins s σ H E I hf st hg
    subst hP hw hK
    obtain ⟨f0, f1, f2, f3, f4, f5⟩ := hf it (by simp)
    exact wpAny_pyNext_range_end (I.ok.hd hc) st (by have : n ≤ i := hg; omega) fun h' eb => ⟨rfl, I.turned (t' := s.toks) (fun b o hb e => eb b o hb e) f0 f1 f3 f4 f5⟩
  self := fun _ _ _ _ _ st h => wpAny_pyIter_rangeiter st h
end L2
namespace L2
open PySem PySem.Spec PyProof.Rows
section
variable {X : Cx} {tg : Expr}
def iList (K : PySem.W.Frag) (tl : TE) : TI := fun σ H R => tl σ H fun x H1 => ∃ a, x = .ref a ∧ (∃ xs, SqL K H1 a xs) ∧ R (Itl K a) H1
def iTup (K : PySem.W.Frag) (tl : TE) : TI := fun σ H R => tl σ H fun x H1 => ∃ a, x = .ref a ∧ (∃ xs, SqT K H1 a xs) ∧ R (Itt K a) H1
theorem pi_list {l : Expr} {tl : TE} (hl : PE X l tl) : PI X tg l (iList X.K tl) := by
  intro pins s σ H R I h
  refine thn (hl pins s σ H _ I h) fun v s1 ⟨x, H1, I1, r1, q1⟩ => ?_
  obtain ⟨a, e, ⟨xs, hq⟩, q⟩ := q1
  subst e
  cases r1
  obtain ⟨its, rv, p, hz⟩ := I1.list hq
  refine wpAny_pyIter_list p.isList ?_
  refine ⟨s1.heap.objs.size, [s1.heap.objs.size], _, _, H1, rfl, I1.kept (t' := s1.toks) fun b o e => Heap.get?_push_of_some _ e, turn_list a _, ⟨_, Heap.get?_push_size _ rfl, rfl, rfl⟩, fun b hb => ?_, q⟩
  have e : b = s1.heap.objs.size := by simpa using hb
  subst e
  exact I1.fpOk (Nat.le_refl _) (I1.hok.fresh (Nat.le_refl _))
theorem pi_tup {l : Expr} {tl : TE} (hl : PE X l tl) : PI X tg l (iTup X.K tl) := by
  intro pins s σ H R I h
  refine thn (hl pins s σ H _ I h) fun v s1 ⟨x, H1, I1, r1, q1⟩ => ?_
  obtain ⟨a, e, ⟨xs, hq⟩, q⟩ := q1
  subst e
  cases r1
  obtain ⟨its, rv, p, hz⟩ := I1.tuple hq
  refine wpAny_pyIter_tuple (show s1.heap.IsTuple a its.toArray from p) ?_
  refine ⟨s1.heap.objs.size, [s1.heap.objs.size], _, _, H1, rfl, I1.kept (t' := s1.toks) fun b o e => Heap.get?_push_of_some _ e, turn_tuple a _, ⟨_, Heap.get?_push_size _ rfl, rfl, rfl⟩, fun b hb => ?_, q⟩
  have e : b = s1.heap.objs.size := by simpa using hb
  subst e
  exact I1.fpOk (Nat.le_refl _) (I1.hok.fresh (Nat.le_refl _))
theorem range_it {pins : List (Addr × Obj)} {σ : St} {H : Hp} {s : Shared} {R : It → Hp → Prop} {E : Value → Shared → Prop} {lo hi : Int} {t u v : Tok} {tk : Nat} (I : Inv X pins σ H s) (h1 : -(2 ^ 62) ≤ lo) (h2 : lo < 2 ^ 62) (h3 : -(2 ^ 62) ≤ hi) (h4 : hi < 2 ^ 62)
    (q : R (Itr lo (hi - lo).toNat) H) : wpAny (model X.prog X.w) X.A (pyIter (.ref s.heap.objs.size)) (PIE X pins σ tg R) E { s with heap := s.heap.push { cls := .type "range", data := .fields #[.int lo t, .int hi u, .int 1 v] }, toks := tk } := by
  refine wpAny_pyIter_range (IsRange.new ..) (small_one h1 h2 h3 h4) ?_
  have I1 : Inv X pins σ H { s with heap := s.heap.push { cls := .type "range", data := .fields #[.int lo t, .int hi u, .int 1 v] }, toks := tk } := I.kept fun b o e => Heap.get?_push_of_some _ e
  refine ⟨(s.heap.push { cls := .type "range", data := .fields #[.int lo t, .int hi u, .int 1 v] }).objs.size, [(s.heap.push { cls := .type "range", data := .fields #[.int lo t, .int hi u, .int 1 v] }).objs.size], _, _, H, rfl,
    I1.kept (t' := tk) fun b o e => Heap.get?_push_of_some _ e, turn_range _ lo (hi - lo).toNat, ?_, fun b hb => ?_, q⟩
  · have e1 : lo + ((0 : Nat) : Int) * 1 = lo := by simp
    have e2 : (((hi - lo).toNat : Nat) : Int) - ((0 : Nat) : Int) = Builtin.Range.rangeSize lo hi 1 := by rw [rangeSize_one]; split <;> omega
    show IsRangeIter _ _ (lo + ((0 : Nat) : Int) * 1) ((((hi - lo).toNat : Nat) : Int) - ((0 : Nat) : Int)) 1
    rw [e1, e2]
    exact Heap.get?_push_size _ rfl
  · have e : b = (s.heap.push { cls := .type "range", data := .fields #[.int lo t, .int hi u, .int 1 v] }).objs.size := by simpa using hb
    subst e
    exact I1.fpOk (Nat.le_refl _) (I1.hok.fresh (Nat.le_refl _))
def iRng1 (ta : TA) : TI := fun σ H R => ta σ H fun vs H1 => ∃ j : Int, vs = [.int j] ∧ -(2 ^ 62) ≤ j ∧ j < 2 ^ 62 ∧ R (Itr 0 j.toNat) H1
def iRng2 (ta : TA) : TI := fun σ H R => ta σ H fun vs H1 => ∃ i j : Int, vs = [.int i, .int j] ∧ (-(2 ^ 62) ≤ i ∧ i < 2 ^ 62 ∧ -(2 ^ 62) ≤ j ∧ j < 2 ^ 62) ∧ R (Itr i (j - i).toNat) H1
theorem pi_range1 {a : Expr} {ta : TA} {p pos : Pos} (hg : Gl X "range") (hm : X.mg "range" = none) (ha : PA X [a] ta) (hs : starEach [a] X.env = [(false, eval a X.env)] := by rfl) : PI X tg (.Call (.Name "range" p) [a] [] pos) (iRng1 ta) := by
  intro pins s σ H R I h
  refine Call_ (ld_blt I hg hm boot_range (PyProof.Rows.callWith_type1 (thn (ha pos pins s σ H _ I h) fun us s1 ⟨vs, H1, I1, r1, q1⟩ => ?_) hs rfl))
  obtain ⟨j, e, q1, q2, q⟩ := q1
  subst e
  cases r1 with
  | cons r rr =>
    cases rr
    obtain ⟨t, rfl⟩ := r
    exact call_range_1 (range_it I1 (by omega) (by omega) q1 q2 (by simpa using q))
theorem pi_range2 {a b : Expr} {ta : TA} {p pos : Pos} (hg : Gl X "range") (hm : X.mg "range" = none) (ha : PA X [a, b] ta) (hs : starEach [a, b] X.env = [(false, eval a X.env), (false, eval b X.env)] := by rfl) (hs2 : starEach [b] X.env = [(false, eval b X.env)] := by rfl) :
    PI X tg (.Call (.Name "range" p) [a, b] [] pos) (iRng2 ta) := by
  intro pins s σ H R I h
  refine Call_ (ld_blt I hg hm boot_range (PyProof.Rows.callWith_type1 (thn (ha pos pins s σ H _ I h) fun us s1 ⟨vs, H1, I1, r1, q1⟩ => ?_) (by rw [hs, hs2]) (by rw [hs2]; rfl)))
  obtain ⟨i, j, e, ⟨q1, q2, q3, q4⟩, q⟩ := q1
  subst e
  cases r1 with
  | cons r rr =>
    cases rr with
    | cons r' rr =>
      cases rr
      obtain ⟨t, rfl⟩ := r
      obtain ⟨t', rfl⟩ := r'
      exact call_range_2 (range_it I1 q1 q2 q3 q4 q)
def tFor (wi : TI) (g : TG) (tb : TS) : TS := fun D σ H => wi σ H fun J H1 => ∃ W : Nat → Nat → St → Hp → Prop, (∃ m, W 0 m σ H1) ∧ ∀ i m σ H, W i m σ H →
  (J.stop i H ∧ D.nx σ H) ∨ (J.go i H ∧ ∃ N : St → Hp → Prop, (∀ σ' H', N σ' H' → ∃ m', m' < m ∧ W (i + 1) m' σ' H') ∧ ∀ x H', J.yld i H x H' → g x σ H' fun σ2 H2 => tb { D with nx := N, ct := N, bk := D.nx } σ2 H2)
def pinsAt (fp : List Addr) (h : Heap) : List (Addr × Obj) := fp.filterMap fun b => (h.get? b).map fun o => (b, o)
theorem mem_pinsAt {fp : List Addr} {h : Heap} {b : Addr} {o : Obj} (hb : b ∈ fp) (e : h.get? b = some o) : (b, o) ∈ pinsAt fp h := List.mem_filterMap.mpr ⟨b, hb, by rw [e]; rfl⟩
theorem of_pinsAt {fp : List Addr} {h : Heap} {p : Addr × Obj} (hp : p ∈ pinsAt fp h) : p.1 ∈ fp ∧ h.get? p.1 = some p.2 := by
  obtain ⟨b, hb, e⟩ := List.mem_filterMap.mp hp
  cases q : h.get? b with
  | none => rw [q] at e; cases e
  | some o =>
    rw [q] at e
    have e' : (b, o) = p := Option.some.inj e
    subst e'
    exact ⟨hb, q⟩
theorem Inv.pinned {pins : List (Addr × Obj)} {σ : St} {H : Hp} {s : Shared} {fp : List Addr} (I : Inv X pins σ H s) (hf : ∀ b ∈ fp, FpOk X pins H b) (ho : ∀ b ∈ fp, ∃ o, s.heap.get? b = some o ∧ ∀ v, o.data ≠ .cell v) : Inv X (pins ++ pinsAt fp s.heap) σ H s :=
  I.pins_of fun p hp => (List.mem_append.mp hp).elim (fun z => I.pin p (List.mem_append_right _ z)) fun z => by
    obtain ⟨hb, e⟩ := of_pinsAt z
    obtain ⟨f0, f1, f2, _⟩ := hf p.1 hb
    obtain ⟨o, e', d⟩ := ho p.1 hb
    rw [e] at e'; cases e'
    exact ⟨e, f0, f1, f2, d⟩
theorem Inv.unpinned {pins pl : List (Addr × Obj)} {σ : St} {H : Hp} {s : Shared} (I : Inv X (pins ++ pl) σ H s) : Inv X pins σ H s := I.pins_of fun p hp => I.pin p (List.mem_append_right _ (List.mem_append_left _ hp))
theorem ps_for {iter : Expr} {body : List Stmt} {wi : TI} {g : TG} {tb : TS} {pos : Pos} (hp : PassesOwn (model X.prog X.w) X.A X.env X.xe) (hc : X.calm = true) (hi : PI X tg iter wi) (hg : PG X tg g) (hb : PSs X body tb)
    (hs : ∀ x, foldedSetIterable iter X.env x = pure x := by intro _; rfl) : PS X (.For tg iter body [] pos) (tFor wi g tb) := by
  intro pins s σ H D I h
  refine wpAny_For (thn (hi pins s σ H _ I h) fun v s1 h1 => thn h1 fun itv s2 h2 => ?_) hs
  obtain ⟨it, fp, tn, J, H2, e, I2, T, st2, f2, W, ⟨m0, w0⟩, turn⟩ := h2
  subst e
  -- what stays true of the iterator's objects through the loop
  have stat : ∀ {H' : Hp}, (∀ b ∈ fp, H' b = none) → ∀ b ∈ fp, FpOk X pins H' b := fun hn b hb => ⟨hn b hb, (f2 b hb).2⟩
  refine codeAny_forLoop_any (fun n s' => ∃ i σ' H', Inv X pins σ' H' s' ∧ tn i s'.heap ∧ (∀ b ∈ fp, H' b = none) ∧ W i n σ' H') ?_ m0 ⟨0, σ, H2, I2, st2, fun b hb => (f2 b hb).1, w0⟩
  rintro n s3 ⟨i, σ3, H3, I3, st3, fr3, w3⟩
  rcases turn i n σ3 H3 w3 with ⟨stop, qn⟩ | ⟨go, N, hN, step⟩
  · refine wpAny_passesOwn hp (thn (T.done X rfl rfl rfl hc i pins s3 σ3 H3 X.xe I3 (stat fr3) st3 stop) fun r s4 ⟨hr, I4⟩ => ?_)
    subst hr
    exact wpAny_execs_nil ⟨σ3, H3, I4, qn⟩
  · refine wpAny_passesOwn hp (thn (T.item X rfl rfl rfl hc i pins s3 σ3 H3 X.xe I3 (stat fr3) st3 go) fun r s4 ⟨u, hr, h4⟩ => ?_)
    subst hr
    refine wpAny_passesOwn hp (thn h4 fun _ s5 ⟨x, H5, I5, r5, y5, st5, fr5⟩ => ?_)
    have I5' := I5.pinned (stat fr5) (T.obj _ _ st5)
    refine wpAny_passesOwn hp (thn (hg _ s5 σ3 H5 x u _ I5' r5 (step x H5 y5)) fun _ s6 ⟨σ6, H6, I6, q6⟩ => ?_)
    refine wpAny_passesOwn hp (thn (hb _ s6 σ6 H6 _ I6 q6) fun f s7 q7 => ?_)
    have again : ∀ {σ7 : St} {H7 : Hp}, Inv X (pins ++ pinsAt fp s5.heap) σ7 H7 s7 → N σ7 H7 → ∃ m, m < n ∧ ∃ i σ' H', Inv X pins σ' H' s7 ∧ tn i s7.heap ∧ (∀ b ∈ fp, H' b = none) ∧ W i m σ' H' := fun {σ7 H7} I7 n7 => by
      obtain ⟨m', hm, w7⟩ := hN σ7 H7 n7
      refine ⟨m', hm, i + 1, σ7, H7, I7.unpinned, T.keep _ _ _ st5 fun b hb o e => (I7.pin (b, o) (List.mem_append_right _ (List.mem_append_right _ (mem_pinsAt hb e)))).1, fun b hb => ?_, w7⟩
      obtain ⟨o, e, d⟩ := T.obj _ _ st5 b hb
      exact (I7.pin (b, o) (List.mem_append_right _ (List.mem_append_right _ (mem_pinsAt hb e)))).2.1
    cases f with
    | next => obtain ⟨σ7, H7, I7, n7⟩ := q7; exact again I7 n7
    | cont => obtain ⟨σ7, H7, I7, n7⟩ := q7; exact again I7 n7
    | brk => obtain ⟨σ7, H7, I7, q7⟩ := q7; exact ⟨σ7, H7, I7.unpinned, q7⟩
    | ret v => obtain ⟨x7, σ7, H7, I7, r7, q7⟩ := q7; exact ⟨x7, σ7, H7, I7.unpinned, r7, q7⟩
end
end L2
namespace L2
open PySem PySem.Spec PyProof.Rows
abbrev R2 := V → V → Hp → VK → Prop
def OpR (X : Cx) (f : Value → Value → Sem Value) (r : R2) : Prop :=
  ∀ (pins : List (Addr × Obj)) (s : Shared) (σ : St) (H : Hp) (x y : V) (v u : Value) (Q : VK), Inv X pins σ H s → RelV x v → RelV y u → r x y H Q →
    wpAny (model X.prog X.w) X.A (f v u) (EP X pins σ Q) X.xe s
def UnR (X : Cx) (f : Value → Sem Value) (r : V → Hp → VK → Prop) : Prop :=
  ∀ (pins : List (Addr × Obj)) (s : Shared) (σ : St) (H : Hp) (x : V) (v : Value) (Q : VK), Inv X pins σ H s → RelV x v → r x H Q →
    wpAny (model X.prog X.w) X.A (f v) (EP X pins σ Q) X.xe s
def CallR (X : Cx) (f : Value) (r : List V → Hp → VK → Prop) : Prop :=
  ∀ (pins : List (Addr × Obj)) (s : Shared) (σ : St) (H : Hp) (xs : List V) (us : List Value) (Q : VK), Inv X pins σ H s → Vals xs us → r xs H Q →
    wpAny (model X.prog X.w) X.A (call f us) (EP X pins σ Q) X.xe s
def TruR (X : Cx) (r : V → Hp → (Bool → Hp → Prop) → Prop) : Prop :=
  ∀ (pins : List (Addr × Obj)) (s : Shared) (σ : St) (H : Hp) (x : V) (v : Value) (Q : Bool → Hp → Prop), Inv X pins σ H s → RelV x v → r x H Q →
    wpAny (model X.prog X.w) X.A (truthy v) (TP X pins σ Q) X.xe s
def tOp (r : R2) (ta tb : TE) : TE := fun σ H Q => ta σ H fun x H1 => tb σ H1 fun y H2 => r x y H2 Q
def tUn (r : V → Hp → VK → Prop) (ta : TE) : TE := fun σ H Q => ta σ H fun x H1 => r x H1 Q
def rI (C : Int → Int → Prop) (g : Int → Int → V) : R2 := fun x y H Q => ∃ i j, x = .int i ∧ y = .int j ∧ C i j ∧ Q (g i j) H
def rI0 (g : Int → Int → V) : R2 := fun x y H Q => ∃ i j, x = .int i ∧ y = .int j ∧ Q (g i j) H
def rU (g : Int → V) : V → Hp → VK → Prop := fun x H Q => ∃ i, x = .int i ∧ Q (g i) H
section
variable {X : Cx} {a b c : Expr} {ta tb tc : TE} {pos : Pos}
theorem binT (ha : PE X a ta) (hb : PE X b tb) {pins : List (Addr × Obj)} {s : Shared} {σ : St} {H : Hp} {R : V → V → Hp → Prop} (I : Inv X pins σ H s)
    (h : ta σ H fun x H1 => tb σ H1 fun y H2 => R x y H2) {Q : Value → Shared → Prop} {f : Value → Value → Sem Value}
    (hf : ∀ v u s2 x y H2, Inv X pins σ H2 s2 → RelV x v → RelV y u → R x y H2 → wpAny (model X.prog X.w) X.A (f v u) Q X.xe s2) :
    wpAny (model X.prog X.w) X.A (eval a X.env) (fun v s₁ => wpAny (model X.prog X.w) X.A (eval b X.env) (fun u s₂ => wpAny (model X.prog X.w) X.A (f v u) Q X.xe s₂) X.xe s₁) X.xe s := by
  refine thn (ha pins s σ H _ I h) fun v s1 ⟨x, H1, I1, r1, q1⟩ => ?_
  refine thn (hb pins s1 σ H1 _ I1 q1) fun u s2 ⟨y, H2, I2, r2, q2⟩ => ?_
  exact hf v u s2 x y H2 I2 r1 r2 q2
theorem pe_un {op : UnaryOp} {r : V → Hp → VK → Prop} (ho : UnR X (unaryOp op) r) (ha : PE X a ta) : PE X (.UnaryOp op a pos) (tUn r ta) := by
  intro pins s σ H Q I h
  exact UnaryOp_ (thn (ha pins s σ H _ I h) fun v s1 ⟨x, H1, I1, r1, q1⟩ => ho pins s1 σ H1 x v Q I1 r1 q1)
theorem opI {f : Value → Value → Sem Value} {C : Int → Int → Prop} {g : Int → Int → Int}
    (rule : ∀ (i j : Int) (t u : Tok) (s : Shared) (Q : Value → Shared → Prop) (E : Value → Shared → Prop), C i j → Q (.int (g i j) s.toks) { s with toks := s.toks + 1 } → wpAny (model X.prog X.w) X.A (f (.int i t) (.int j u)) Q E s) :
    OpR X f (rI C fun i j => .int (g i j)) := by
  intro pins s σ H x y v u Q I rx ry h
  obtain ⟨i, j, rfl, rfl, hc, q⟩ := h
  obtain ⟨t, rfl⟩ := rx
  obtain ⟨t', rfl⟩ := ry
  exact rule i j t t' s _ _ hc ⟨.int (g i j), H, I.tok _, ⟨_, rfl⟩, q⟩
theorem opI0 {f : Value → Value → Sem Value} {g : Int → Int → Int}
    (rule : ∀ (i j : Int) (t u : Tok) (s : Shared) (Q : Value → Shared → Prop) (E : Value → Shared → Prop), Q (.int (g i j) s.toks) { s with toks := s.toks + 1 } → wpAny (model X.prog X.w) X.A (f (.int i t) (.int j u)) Q E s) :
    OpR X f (rI0 fun i j => .int (g i j)) := by
  intro pins s σ H x y v u Q I rx ry h
  obtain ⟨i, j, rfl, rfl, q⟩ := h
  obtain ⟨t, rfl⟩ := rx
  obtain ⟨t', rfl⟩ := ry
  exact rule i j t t' s _ _ ⟨.int (g i j), H, I.tok _, ⟨_, rfl⟩, q⟩
theorem opB0 {f : Value → Value → Sem Value} {g : Int → Int → Bool}
    (rule : ∀ (i j : Int) (t u : Tok) (s : Shared) (Q : Value → Shared → Prop) (E : Value → Shared → Prop), Q (.bool (g i j)) s → wpAny (model X.prog X.w) X.A (f (.int i t) (.int j u)) Q E s) :
    OpR X f (rI0 fun i j => .bl (g i j)) := by
  intro pins s σ H x y v u Q I rx ry h
  obtain ⟨i, j, rfl, rfl, q⟩ := h
  obtain ⟨t, rfl⟩ := rx
  obtain ⟨t', rfl⟩ := ry
  exact rule i j t t' s _ _ ⟨.bl (g i j), H, I, rfl, q⟩
def CDiv (i j : Int) : Prop := 0 < j ∧ j < 1073741824
def CDivN (i j : Int) : Prop := j ≠ 0 ∧ j.natAbs < 1073741824
def CPow (i j : Int) : Prop := 0 ≤ j ∧ j ≤ 1000000 ∧ i.natAbs < 2 ^ 64
def CMul (i j : Int) : Prop := (-(2 ^ 64) < i ∧ i < 2 ^ 64) ∨ (-(2 ^ 64) < j ∧ j < 2 ^ 64)
theorem op_add : OpR X (binaryOp .Add) (rI0 fun i j => .int (i + j)) := opI0 fun _ _ _ _ _ _ _ q => add_int q
theorem op_sub : OpR X (binaryOp .Sub) (rI0 fun i j => .int (i - j)) := opI0 fun _ _ _ _ _ _ _ q => sub_int q
theorem op_fdiv : OpR X (binaryOp .FloorDiv) (rI CDiv fun i j => .int (i / j)) := opI fun i j _ _ _ _ _ hc q => by
  have h1 : (0 : Int) < j := hc.1
  have h2 : j < 1073741824 := hc.2
  exact floordiv_int (by omega) (by rw [Int.fdiv_eq_ediv_of_nonneg i (by omega)]; exact q) (.inl (PyProof.noPylong_small (by omega)))
theorem op_mod : OpR X (binaryOp .Mod) (rI (fun _ j => 0 < j) fun i j => .int (i % j)) := opI fun i j _ _ _ _ _ hc q => by
  have h1 : (0 : Int) < j := hc
  exact mod_int' (by omega) (by rw [Int.fmod_eq_emod_of_nonneg i (by omega)]; exact q)
theorem unI {f : Value → Sem Value} {g : Int → Int}
    (rule : ∀ (i : Int) (t : Tok) (s : Shared) (Q : Value → Shared → Prop) (E : Value → Shared → Prop), Q (.int (g i) s.toks) { s with toks := s.toks + 1 } → wpAny (model X.prog X.w) X.A (f (.int i t)) Q E s) :
    UnR X f (rU fun i => .int (g i)) := by
  intro pins s σ H x v Q I rx h
  obtain ⟨i, rfl, q⟩ := h
  obtain ⟨t, rfl⟩ := rx
  exact rule i t s _ _ ⟨.int (g i), H, I.tok _, ⟨_, rfl⟩, q⟩
theorem un_neg : UnR X (unaryOp .USub) (rU fun i => .int (-i)) := unI fun _ _ _ _ _ q => neg_int q
end
def scal : V → V → Bool
  | .non, .non => true | .non, .int _ => true | .int _, .non => true | .non, .bl _ => true | .bl _, .non => true | .non, .str _ => true | .str _, .non => true
  | .int _, .int _ => true | .bl _, .bl _ => true | .str _, .str _ => true | .byt _, .byt _ => true
  | .int _, .str _ => true | .str _, .int _ => true | .bl _, .str _ => true | .str _, .bl _ => true
  | _, _ => false
def rEq : R2 := fun x y H Q => scal x y = true ∧ Q (.bl (decide (x = y))) H
def rNe : R2 := fun x y H Q => scal x y = true ∧ Q (.bl (!decide (x = y))) H
theorem dec_int {i j : Int} : decide (V.int i = V.int j) = (i == j) := by
  rw [Bool.eq_iff_iff]
  simp
theorem dec_bl {i j : Bool} : decide (V.bl i = V.bl j) = (i == j) := by
  rw [Bool.eq_iff_iff]
  simp
theorem dec_str {i j : Str} : decide (V.str i = V.str j) = (i == j) := by
  rw [Bool.eq_iff_iff]
  simp
theorem dec_byt {i j : Array UInt8} : decide (V.byt i = V.byt j) = (i.toList == j.toList) := by
  rw [Bool.eq_iff_iff]
  cases i
  cases j
  simp
section
variable {X : Cx} {a b c : Expr} {ta tb tc : TE} {pos : Pos}
theorem fin_bl {pins : List (Addr × Obj)} {σ : St} {H : Hp} {s : Shared} {Q : VK} {k k' : Bool} (I : Inv X pins σ H s) (q : Q (.bl k) H) (e : k = k') : EP X pins σ Q (.bool k') s := by
  subst e
  exact ⟨.bl k, H, I, rfl, q⟩
theorem op_eq : OpR X (compareOp .Eq) rEq := by
  intro pins s σ H x y v u Q I rx ry h
  obtain ⟨hs, q⟩ := h
  cases x with
  | non =>
    cases rx
    cases y with
    | non => cases ry; exact PySem.EqNone.eq_none_none (fin_bl I q (by simp))
    | bl j => cases ry; exact PySem.EqNone.eq_none_bool (fin_bl I q (by simp))
    | int j => obtain ⟨t', rfl⟩ := ry; exact PySem.EqNone.eq_none_int (fin_bl I q (by simp))
    | str j => obtain ⟨t', rfl⟩ := ry; exact PySem.EqNone.eq_none_str (fin_bl I q (by simp))
    | _ => exact absurd (show false = true from hs) Bool.false_ne_true
  | bl i =>
    cases rx
    cases y with
    | non => cases ry; exact PySem.EqNone.eq_bool_none (fin_bl I q (by simp))
    | bl j => cases ry; exact eq_bool (fin_bl I q dec_bl)
    | str j => obtain ⟨t', rfl⟩ := ry; exact PySem.EqMixed.eq_bool_str (fin_bl I q (by simp))
    | _ => exact absurd (show false = true from hs) Bool.false_ne_true
  | int i =>
    obtain ⟨t, rfl⟩ := rx
    cases y with
    | non => cases ry; exact PySem.EqNone.eq_int_none (fin_bl I q (by simp))
    | int j => obtain ⟨t', rfl⟩ := ry; exact eq_int (fin_bl I q dec_int)
    | str j => obtain ⟨t', rfl⟩ := ry; exact PySem.EqMixed.eq_int_str (fin_bl I q (by simp))
    | _ => exact absurd (show false = true from hs) Bool.false_ne_true
  | str i =>
    obtain ⟨t, rfl⟩ := rx
    cases y with
    | non => cases ry; exact PySem.EqNone.eq_str_none (fin_bl I q (by simp))
    | bl j => cases ry; exact PySem.EqMixed.eq_str_bool (fin_bl I q (by simp))
    | int j => obtain ⟨t', rfl⟩ := ry; exact PySem.EqMixed.eq_str_int (fin_bl I q (by simp))
    | str j => obtain ⟨t', rfl⟩ := ry; exact eq_str (fin_bl I q dec_str)
    | _ => exact absurd (show false = true from hs) Bool.false_ne_true
  | byt i =>
    obtain ⟨t, rfl⟩ := rx
    cases y with
    | byt j => obtain ⟨t', rfl⟩ := ry; exact PySem.W.eq_bytes (fin_bl I q dec_byt)
    | _ => exact absurd (show false = true from hs) Bool.false_ne_true
  | _ => cases y <;> exact absurd (show false = true from hs) Bool.false_ne_true
theorem op_ne : OpR X (compareOp .NotEq) rNe := by
  intro pins s σ H x y v u Q I rx ry h
  obtain ⟨hs, q⟩ := h
  cases x with
  | non =>
    cases rx
    cases y with
    | non => cases ry; exact PySem.EqNone.ne_none_none (fin_bl I q (by simp))
    | bl j => cases ry; exact PySem.EqNone.ne_none_bool (fin_bl I q (by simp))
    | int j => obtain ⟨t', rfl⟩ := ry; exact PySem.EqNone.ne_none_int (fin_bl I q (by simp))
    | str j => obtain ⟨t', rfl⟩ := ry; exact PySem.EqNone.ne_none_str (fin_bl I q (by simp))
    | _ => exact absurd (show false = true from hs) Bool.false_ne_true
  | bl i =>
    cases rx
    cases y with
    | non => cases ry; exact PySem.EqNone.ne_bool_none (fin_bl I q (by simp))
    | bl j => cases ry; exact ne_bool (fin_bl I q (congrArg not dec_bl))
    | str j => obtain ⟨t', rfl⟩ := ry; exact PySem.EqMixed.ne_bool_str (fin_bl I q (by simp))
    | _ => exact absurd (show false = true from hs) Bool.false_ne_true
  | int i =>
    obtain ⟨t, rfl⟩ := rx
    cases y with
    | non => cases ry; exact PySem.EqNone.ne_int_none (fin_bl I q (by simp))
    | int j => obtain ⟨t', rfl⟩ := ry; exact ne_int (fin_bl I q (congrArg not dec_int))
    | str j => obtain ⟨t', rfl⟩ := ry; exact PySem.EqMixed.ne_int_str (fin_bl I q (by simp))
    | _ => exact absurd (show false = true from hs) Bool.false_ne_true
  | str i =>
    obtain ⟨t, rfl⟩ := rx
    cases y with
    | non => cases ry; exact PySem.EqNone.ne_str_none (fin_bl I q (by simp))
    | bl j => cases ry; exact PySem.EqMixed.ne_str_bool (fin_bl I q (by simp))
    | int j => obtain ⟨t', rfl⟩ := ry; exact PySem.EqMixed.ne_str_int (fin_bl I q (by simp))
    | str j => obtain ⟨t', rfl⟩ := ry; exact ne_str (fin_bl I q (congrArg not dec_str))
    | _ => exact absurd (show false = true from hs) Bool.false_ne_true
  | byt i =>
    obtain ⟨t, rfl⟩ := rx
    cases y with
    | byt j => obtain ⟨t', rfl⟩ := ry; exact PySem.W.ne_bytes (fin_bl I q (congrArg not dec_byt))
    | _ => exact absurd (show false = true from hs) Bool.false_ne_true
  | _ => cases y <;> exact absurd (show false = true from hs) Bool.false_ne_true
theorem op_lt : OpR X (compareOp .Lt) (rI0 fun i j => .bl (decide (i < j))) := opB0 fun _ _ _ _ _ _ _ q => lt_int q
theorem op_le : OpR X (compareOp .LtE) (rI0 fun i j => .bl (decide (i ≤ j))) := opB0 fun _ _ _ _ _ _ _ q => le_int q
theorem op_gt : OpR X (compareOp .Gt) (rI0 fun i j => .bl (decide (j < i))) := opB0 fun _ _ _ _ _ _ _ q => gt_int q
theorem op_isN : OpR X (compareOp .Is) (fun x y H Q => y = .non ∧ Q (.bl (decide (x = .non))) H) := by
  intro pins s σ H x y v u Q I rx ry h
  obtain ⟨rfl, q⟩ := h
  cases ry
  refine is_none_gen (fin_bl I q ?_)
  cases x <;> first
    | (cases rx; rfl)
    | (obtain ⟨t, rfl⟩ := rx; rfl)
theorem op_notN : OpR X (compareOp .IsNot) (fun x y H Q => y = .non ∧ Q (.bl (!decide (x = .non))) H) := by
  intro pins s σ H x y v u Q I rx ry h
  obtain ⟨rfl, q⟩ := h
  cases ry
  refine isnot_none_gen (fin_bl I q ?_)
  cases x <;> first
    | (cases rx; rfl)
    | (obtain ⟨t, rfl⟩ := rx; rfl)
def isObj : HO → Bool
  | .lst _ => true
  | .ins _ _ _ => true
  | _ => false
theorem nomark (b : Expr) {op : CmpOp} (h : op ≠ .In := by decide) (h2 : op ≠ .NotIn := by decide) : behindInMarks op b = false := by
  have e1 : (op == CmpOp.In) = false := by cases op <;> first | rfl | exact absurd rfl h
  have e2 : (op == CmpOp.NotIn) = false := by cases op <;> first | rfl | exact absurd rfl h2
  cases b <;> simp [behindInMarks, e1, e2]
def tTest (t : TE) : TT := fun σ H Q => t σ H fun x H' => ∃ k, x = .bl k ∧ Q k H'
def tChain (r r' : R2) (ta tb tc : TE) : TE := fun σ H Q => ta σ H fun x H1 => tb σ H1 fun y H2 => r x y H2 fun z H3 => ∃ k, z = .bl k ∧
  (if k = true then tc σ H3 fun w' H4 => r' y w' H4 Q else Q (.bl false) H3)
def TruV (K : PySem.W.Frag) (x : V) (H : Hp) (k : Bool) : Prop :=
  match x with
  | .non => k = false
  | .bl b => k = b
  | .int i => k = (i != 0)
  | .str y => y.length ≤ sizeLine ∧ k = ((y.length : Int) != 0)
  | .byt y => y.size ≤ sizeLine ∧ k = ((y.size : Int) != 0)
  | .ref p => (∃ xs, SqL K H p xs ∧ k = !xs.isEmpty) ∨ (∃ xs, SqT K H p xs ∧ k = !xs.isEmpty) ∨ ∃ kvs, H p = some (.dK kvs) ∧ k = !kvs.isEmpty
  | _ => False
theorem isEmpty_kv {κ : Type} {kvs : List (κ × V)} {vs : List (κ × Value)} (r : KV kvs vs) : (!vs.isEmpty) = !kvs.isEmpty := by
  cases r <;> rfl
theorem isEmpty_of {xs : List V} {its : List Value} (r : Vals xs its) : (!its.toArray.isEmpty) = !xs.isEmpty := by
  cases r <;> simp
theorem line63 : (sizeLine : Nat) < 2 ^ 63 := by rw [sizeLine_eq]; decide
theorem tru_ok : TruR X (fun x H Q => ∃ k, TruV X.K x H k ∧ Q k H) := by
  intro pins s σ H x v Q I rx h
  obtain ⟨k, e, q⟩ := h
  have hl := line63
  have hs : sizeLine = 16777216 := sizeLine_eq
  cases x with
  | non =>
    cases rx
    have e' : k = false := e
    subst e'
    exact truthy_none ⟨H, I, q⟩
  | bl b =>
    cases rx
    have e' : k = b := e
    subst e'
    exact wpAny_truthy_bool ⟨H, I, q⟩
  | int i =>
    obtain ⟨t, rfl⟩ := rx
    have e' : k = (i != 0) := e
    subst e'
    exact PySem.P.truthy_int ⟨H, I, q⟩
  | str y =>
    obtain ⟨t, rfl⟩ := rx
    obtain ⟨hy, e'⟩ : y.length ≤ sizeLine ∧ k = ((y.length : Int) != 0) := e
    subst e'
    exact PySem.P.truthy_str (by omega) ⟨H, I.tok _, q⟩
  | byt y =>
    obtain ⟨t, rfl⟩ := rx
    obtain ⟨hy, e'⟩ : y.size ≤ sizeLine ∧ k = ((y.size : Int) != 0) := e
    subst e'
    exact PySem.W.truthy_bytes (by omega) ⟨H, I.tok _, q⟩
  | ref p =>
    cases rx
    have e' : (∃ xs, SqL X.K H p xs ∧ k = !xs.isEmpty) ∨ (∃ xs, SqT X.K H p xs ∧ k = !xs.isEmpty) ∨ ∃ kvs, H p = some (.dK kvs) ∧ k = !kvs.isEmpty := e
    rcases e' with ⟨xs, hx, e'⟩ | ⟨xs, hx, e'⟩ | ⟨kvs, hx, e'⟩
    · subst e'
      obtain ⟨its, r, pl, hz⟩ := I.list hx
      have hlen := r.length
      exact wpAny_truthy_list pl.isList (by simp only [List.size_toArray]; omega) ⟨H, I.tok _, by rw [isEmpty_of r]; exact q⟩
    · subst e'
      obtain ⟨its, r, pl, hz⟩ := I.tuple hx
      have hlen := r.length
      exact truthy_tuple pl (by simp only [List.size_toArray]; omega) ⟨H, I.tok _, by rw [isEmpty_of r]; exact q⟩
    · subst e'
      obtain ⟨hz, hS, vs, r, m⟩ : kvs.length ≤ sizeLine ∧ (p == sysModules) = false ∧ ∃ vs, KV kvs vs ∧ s.heap.DictOf (mixKind X.prog X.w) p vs := I.hok p _ hx
      have hlen : kvs.length = vs.length := Paired.length r
      exact wpAny_truthy_dict hS m (by omega) ⟨H, I.tok _, by rw [isEmpty_kv r]; exact q⟩
  | _ => exact (show False from e).elim
theorem pt_truth (ha : PE X a ta) (he : ∀ whole, isTrue a X.env whole = (do let v ← whole; standAt a.pos; holding [v] (truthy v))) :
    PT X a (fun σ H Q => ta σ H fun x H' => ∃ k, TruV X.K x H' k ∧ Q k H') := by
  intro pins s σ H Q I h
  exact isTrue_plain (thn (ha pins s σ H _ I h) fun v s1 ⟨x, H1, I1, r1, q1⟩ => tru_ok pins s1 σ H1 x v Q I1 r1 q1) (he _)
def PlainIxT (b : Expr) : Prop := ∀ o i, subscripted b false o i = operate [o, i] (getItem o i)
theorem vals1 {x : V} {us : List Value} (r : Vals [x] us) : ∃ u, us = [u] ∧ RelV x u := by
  cases r with
  | cons r1 r2 => cases r2; exact ⟨_, rfl, r1⟩
theorem vals2 {x y : V} {us : List Value} (r : Vals [x, y] us) : ∃ u w', us = [u, w'] ∧ RelV x u ∧ RelV y w' := by
  cases r with
  | cons r1 r2 =>
    cases r2 with
    | cons r3 r4 => cases r4; exact ⟨_, _, rfl, r1, r3⟩
theorem call_abs : CallR X (.builtin "abs") (fun xs H Q => ∃ i, xs = [.int i] ∧ Q (.int (if i < 0 then -i else i)) H) := by
  intro pins s σ H xs us Q I r h
  obtain ⟨i, rfl, q⟩ := h
  obtain ⟨u, rfl, t, rfl⟩ := vals1 r
  exact call_abs_int fun u tk => ⟨.int (if i < 0 then -i else i), H, I.tok _, ⟨_, rfl⟩, q⟩
theorem call_max2 (hc : X.calm = true) : CallR X (.builtin "max") (fun xs H Q => ∃ i j, xs = [.int i, .int j] ∧ Q (.int (if j > i then j else i)) H) := by
  intro pins s σ H xs us Q I r h
  obtain ⟨i, j, rfl, q⟩ := h
  obtain ⟨u, w', rfl, ⟨t, rfl⟩, ⟨t', rfl⟩⟩ := vals2 r
  refine max_two_ints (I.ok.hd hc) fun h' tk k => ⟨_, H, I.kept k, ?_, q⟩
  by_cases hj : j > i
  · rw [if_pos hj, if_pos hj]; exact ⟨_, rfl⟩
  · rw [if_neg hj, if_neg hj]; exact ⟨_, rfl⟩
theorem call_min2 (hc : X.calm = true) : CallR X (.builtin "min") (fun xs H Q => ∃ i j, xs = [.int i, .int j] ∧ Q (.int (if j < i then j else i)) H) := by
  intro pins s σ H xs us Q I r h
  obtain ⟨i, j, rfl, q⟩ := h
  obtain ⟨u, w', rfl, ⟨t, rfl⟩, ⟨t', rfl⟩⟩ := vals2 r
  refine min_two_ints (I.ok.hd hc) fun h' tk k => ⟨_, H, I.kept k, ?_, q⟩
  by_cases hj : j < i
  · rw [if_pos hj, if_pos hj]; exact ⟨_, rfl⟩
  · rw [if_neg hj, if_neg hj]; exact ⟨_, rfl⟩
def LenV (K : PySem.W.Frag) (x : V) (H : Hp) (n : Nat) : Prop :=
  match x with
  | .str y => y.length ≤ sizeLine ∧ n = y.length
  | .byt y => y.size ≤ sizeLine ∧ n = y.size
  | .ref p => (∃ xs, SqL K H p xs ∧ n = xs.length) ∨ ∃ xs, SqT K H p xs ∧ n = xs.length
  | _ => False
end
end L2
namespace L2
open PySem PySem.Spec PyProof.Rows
structure ObjM (h : Heap) (x dx C : Addr) (mA : Str → Option Value) : Prop where
  obj : h.get? x = some (PySem.W.instObj C dx)
  ns : h.Ns1 dx mA
  ne : dx ≠ x
section
variable {prog : Program} {w : World} {A : Around} {E : Value → Shared → Prop} {s : Shared} {K : PySem.W.Frag} {x dx C f : Addr} {mA : Str → Option Value} {name : Str} {v : Value}
end
def putF (f : Str) (v : V) : List (Str × V) → List (Str × V)
  | [] => [(f, v)]
  | (g, x) :: r => if g = f then (g, v) :: r else (g, x) :: putF f v r
section
variable {P : Program} {w : World} {H H' : Hp} {h h' : Heap} {a C dx : Addr} {fs fs' : List (Str × V)}
end
structure Cls (K : PySem.W.Frag) (C : Addr) : Prop where
  pg : PySem.W.plainGet K C Str.empty = true
  hd : PySem.W.hasDictIn K C = true
  po : PySem.W.plainOver K C = true
  sa : PySem.W.findIn K (.ref C) "__setattr__" = some (some (.builtin "object.__setattr__"))
def NoAttr (K : PySem.W.Frag) (C : Addr) (f : Str) : Prop := PySem.W.findIn K (.ref C) f = some none
structure Con (K : PySem.W.Frag) (C : Addr) (f : Str) (v : V) (u : Value) : Prop where
  at_ : PySem.W.findIn K (.ref C) f = some (some u)
  rel : RelV v u
  get : PySem.W.specialIn K u "__get__" = some none
  cp : PySem.W.copiedNames.contains f = false
structure Meth (K : PySem.W.Frag) (C : Addr) (m : Str) (f : Addr) : Prop where
  at_ : PySem.W.findIn K (.ref C) m = some (some (.ref f))
  fn : PySem.W.isFn K (.ref f) = true
  kp : PySem.W.keepIn K (.ref f) = true
section
variable {X : Cx} {pins : List (Addr × Obj)} {σ : St} {H : Hp} {s : Shared} {a C dx : Addr} {fs : List (Str × V)} {f : Str} {v : V} {A : Around} {E : Value → Shared → Prop}
end
def tFld (K : PySem.W.Frag) (ta : TE) (f : Str) : TE := fun σ H Q => ta σ H fun x H1 => ∃ a C dx fs v, x = .ref a ∧ H1 a = some (.ins C dx fs) ∧ Cls K C ∧ NoAttr K C f ∧ fs.lookup f = some v ∧ Q v H1
def tCon (K : PySem.W.Frag) (ta : TE) (f : Str) : TE := fun σ H Q => ta σ H fun x H1 => ∃ a C dx fs v u, x = .ref a ∧ H1 a = some (.ins C dx fs) ∧ Cls K C ∧ Con K C f v u ∧ fs.lookup f = none ∧ Q v H1
def sFld (K : PySem.W.Frag) (ta tv : TE) (f : Str) : TS := fun D σ H => tv σ H fun y H1 => ta σ H1 fun x H2 => ∃ a C dx fs, x = .ref a ∧ H2 a = some (.ins C dx fs) ∧ Cls K C ∧ NoAttr K C f ∧ fs.length < 1000 ∧
  D.nx σ (upd H2 a (.ins C dx (putF f y fs)))
def InOp (X : Cx) (op : Operator) (rd : V → V → Hp → VK → Prop) : Prop :=
  ∀ (pins : List (Addr × Obj)) (s : Shared) (σ : St) (H : Hp) (x y : V) (u v : Value) (Q : VK), Inv X pins σ H s → RelV x u → RelV y v → rd x y H Q → wpAny (model X.prog X.w) X.A (inplaceOp op u v) (EP X pins σ Q) X.xe s
def sFldAug (K : PySem.W.Frag) (ta tv : TE) (rd : V → V → Hp → VK → Prop) (f : Str) : TS := fun D σ H => ta σ H fun x H1 => ∃ a C dx fs v, x = .ref a ∧ H1 a = some (.ins C dx fs) ∧ Cls K C ∧ NoAttr K C f ∧ fs.lookup f = some v ∧
  tv σ H1 fun y H2 => rd v y H2 fun z H3 => ∃ dx' fs', H3 a = some (.ins C dx' fs') ∧ fs'.length < 1000 ∧ D.nx σ (upd H3 a (.ins C dx' (putF f z fs')))
section
variable {X : Cx} {o e value : Expr} {f : Str} {pos pos' tpos : Pos} {ta tv : TE}
def rAdd : V → V → Hp → VK → Prop := fun x y H Q => ∃ i j, x = .int i ∧ y = .int j ∧ Q (.int (i + j)) H
def rSub : V → V → Hp → VK → Prop := fun x y H Q => ∃ i j, x = .int i ∧ y = .int j ∧ Q (.int (i - j)) H
end
section
variable {X : Cx} {pins : List (Addr × Obj)} {σ : St} {H : Hp} {s : Shared} {A : Around} {E : Value → Shared → Prop} {Q : Value → Shared → Prop} {c : Value} {b : Bool}
inductive TyOf (K : PySem.W.Frag) (H : Hp) : V → Value → Prop where
  | non : TyOf K H .non (.type "NoneType")
  | bl (x : Bool) : TyOf K H (.bl x) (.type "bool")
  | int (i : Int) : TyOf K H (.int i) (.type "int")
  | str (x : Str) : TyOf K H (.str x) (.type "str")
  | flt (x : UInt64) : TyOf K H (.flt x) (.type "float")
  | lst {a : Addr} {xs : List V} (e : H a = some (.lst xs)) : TyOf K H (.ref a) (.type "list")
  | frz {a : Addr} {o : Obj} {xs : List V} (e : H a = some (.frz o (.lst xs))) : TyOf K H (.ref a) (.type "list")
  | tup {a : Addr} {xs : List V} (e : H a = some (.tup xs)) : TyOf K H (.ref a) (.type "tuple")
  | dK {a : Addr} {kvs : List (Key × V)} (e : H a = some (.dK kvs)) : TyOf K H (.ref a) (.type "dict")
  | dT {a : Addr} {kvs : List (List Key × V)} (e : H a = some (.dT kvs)) : TyOf K H (.ref a) (.type "dict")
  | ins {a C dx : Addr} {fs : List (Str × V)} (e : H a = some (.ins C dx fs)) (cl : Cls K C) (ha : PySem.W.findIn K (.ref C) "__class__" = some (some (.builtin "object.__class__")))
      (hn : PySem.W.specialIn K (.builtin "object.__class__") "__get__" = some (some (.builtin "getset_descriptor.__get__"))) (htk : PySem.W.takesIn K (.builtin "object.__class__") = some true)
      (hm : PySem.W.mroIn K C (.type "object") = some true) : TyOf K H (.ref a) (.ref C)
end
end L2
namespace L2
open PySem PySem.Spec PyProof.Rows
structure Room (k : Nat) (A : Around) : Prop where
  hd : A.handled = none
  dp : A.depth + 3 * k + 5 < recursionLimit
  un : A.units + 16 * k + 200 < cLine
theorem Room.mono {j k : Nat} {A : Around} (r : Room k A) (h : j ≤ k) : Room j A := ⟨r.hd, by have := r.dp; omega, by have := r.un; omega⟩
theorem Room.deeper {k : Nat} {A : Around} (r : Room (k + 1) A) (env : Env) : Room k (A.deeper env) :=
  ⟨r.hd, by have := r.dp; show A.depth + 1 + 3 * k + 5 < _; omega, by have := r.un; show A.units + 3 + 16 * k + 200 < _; omega⟩
theorem Room.depth {k : Nat} {A : Around} (r : Room k A) : A.depth < recursionLimit := by have := r.dp; omega
theorem Room.units {k : Nat} {A : Around} (r : Room k A) : A.units + 64 < cLine := by have := r.un; omega
def tNil : TA := fun _ H Q => Q [] H
def tCons (ta : TE) (tr : TA) : TA := fun σ H Q => ta σ H fun x H1 => tr σ H1 fun xs H2 => Q (x :: xs) H2
section
variable {X : Cx} {e : Expr} {es : List Expr} {te : TE} {t : TA} {pos : Pos}
theorem pa_nil : PA X [] tNil := fun _ _ _ _ H Q I h => Calls.spliced_nil ⟨[], H, I, .nil, h⟩
theorem pa_cons (ha : PE X e te) (hr : PA X es t) (hs : starEach (e :: es) X.env = (false, eval e X.env) :: starEach es X.env := by rfl) : PA X (e :: es) (tCons te t) := by
  intro pos pins s σ H Q I h
  rw [hs]
  show wpAny _ _ (spliced ((false, eval e X.env) :: backTo pos (starEach es X.env))) _ _ s
  refine Calls.spliced_cons (thn (ha pins s σ H _ I h) fun u s1 ⟨x, H1, I1, r1, q1⟩ => ?_)
  exact thn (hr pos pins s1 σ H1 _ I1 q1) fun us s2 ⟨xs, H2, I2, r2, q2⟩ => ⟨x :: xs, H2, I2, .cons r1 r2, q2⟩
def tTup (t : TA) : TE := fun σ H Q => t σ H fun xs H1 => xs.length ≤ sizeLine ∧ ∀ p, H1 p = none → Q (.ref p) (upd H1 p (.tup xs))
def tLst (t : TA) : TE := fun σ H Q => t σ H fun xs H1 => xs.length ≤ sizeLine ∧ ∀ p, H1 p = none → Q (.ref p) (upd H1 p (.lst xs))
theorem pe_tup {x1} (h : PA X es t) : PE X (.Tuple es x1 pos) (tTup t) := by
  intro pins s σ H Q I hq
  refine wpAny_Tuple_spliced (thn (h pos pins s σ H _ I hq) fun us s1 ⟨xs, H1, I1, r, z, q⟩ => ⟨by rw [← r.length]; exact z, ?_⟩)
  have hf : H1 s1.heap.objs.size = none := I1.hok.fresh (Nat.le_refl _)
  refine ⟨.ref s1.heap.objs.size, upd H1 s1.heap.objs.size (.tup xs), I1.laid (t' := s1.toks) (fun b u e => Heap.get?_push_of_some _ e) (Nat.le_refl _) ?_, rfl, q _ hf⟩
  exact ⟨z, us, r, TupN.new _ _⟩
theorem pe_lst (h : PA X es t) : PE X (.List es pos) (tLst t) := by
  intro pins s σ H Q I hq
  refine wpAny_List_spliced (thn (h pos pins s σ H _ I hq) fun us s1 ⟨xs, H1, I1, r, z, q⟩ => ⟨by rw [← r.length]; exact z, ?_⟩)
  have hf : H1 s1.heap.objs.size = none := I1.hok.fresh (Nat.le_refl _)
  refine ⟨.ref s1.heap.objs.size, upd H1 s1.heap.objs.size (.lst xs), I1.laid (t' := s1.toks) (fun b u e => Heap.get?_push_of_some _ e) (Nat.le_refl _) ?_, rfl, q _ hf⟩
  exact ⟨z, us, 0, r, Heap.get?_push_size _ rfl⟩
end
abbrev Sp := List V → Hp → VK → XK → Prop
abbrev CXT := List Env → Hp → Shared → XK → Value → Shared → Prop
structure Env0 (P : Program) (w : World) (K : PySem.W.Frag) (mg : Str → Option Value) (base : Heap) (A : Around) (outer : List Env) (s : Shared) (H : Hp) : Prop where
  frames : A.frames = some outer
  mod : Mod K mg base
  bs : ∀ b o, base.get? b = some o → s.heap.get? b = some o ∧ H b = none
  bsz : base.objs.size ≤ s.heap.objs.size
  funs : s.heap.FunFrames base outer
  frf : ∀ b ∈ frs outer, H b = none
  hok : HOk P w H s.heap
  bare : AllBare s.gens
def CE (outer : List Env) (P : Program) (w : World) (H : Hp) (s : Shared) (Q : VK) (u : Value) (s' : Shared) : Prop :=
  ∃ v H', s'.os = s.os ∧ AllBare s'.gens ∧ Un (frs outer) [] H H' s.heap s'.heap ∧ HOk P w H' s'.heap ∧ RelV v u ∧ Q v H'
def CR (CX : CXT) (outer : List Env) (P : Program) (w : World) (H : Hp) (s : Shared) (Q : VK) (E : XK) (r : Result) (s' : Shared) : Prop :=
  match r with
  | .ok (.ret u) => CE outer P w H s Q u s'
  | .ok _ => False
  | .error e => CX outer H s E e s'
structure FnOk (P : Program) (w : World) (K : PySem.W.Frag) (mg : Str → Option Value) (base : Heap) (CX : CXT) (k : Nat) (f : Addr) (fd : FuncData) (ps : List Str) (sp : Sp) : Prop where
  len : ∀ vs H Q E, sp vs H Q E → vs.length = ps.length
  run : ∀ (A : Around) (outer : List Env) (s : Shared) (H : Hp) (args : Args) (us : List Value) (vs : List V) (Q : VK) (E : XK), Room k A → Env0 P w K mg base A outer s H → BindsTo s fd args (ps.zip us) → Vals vs us → sp vs H Q E →
    codeAny (model P w) A (.call (.ref f) args) (CR CX outer P w H s Q E) s
section
variable {X : Cx} {pins : List (Addr × Obj)} {σ : St} {H : Hp} {s s' : Shared}
theorem Inv.env0 (I : Inv X pins σ H s) : Env0 X.prog X.w X.K X.mg X.base X.A X.stack s H :=
  ⟨I.ok.frames, I.ok.mod, I.bs, Nat.le_trans I.ok.bsz I.sz, I.stack, I.stkFree, I.hok, I.bare⟩
theorem Inv.after {Q : VK} {u : Value} (I : Inv X pins σ H s) (h : CE X.stack X.prog X.w H s Q u s') : EP X pins σ Q u s' := by
  obtain ⟨v, H', os, bare, un, hok, r, q⟩ := h
  obtain ⟨hh, g, d, t, os'⟩ := s'
  obtain rfl : os' = s.os := os
  exact ⟨v, H', I.call (h' := hh) (g' := g) (d' := d) (t' := t) (ch := []) un hok bare (fun b z => absurd z (by simp)), r, q⟩
end
def tCall (sp : Sp) (dvs : List V) (E : XK) (t : TA) : TE := fun σ H Q => t σ H fun vs H1 => sp (vs ++ dvs) H1 Q E
def tMeth (C : Addr) (m : Str) (sp : Sp) (dvs : List V) (E : XK) (ta : TE) (t : TA) : TE := fun σ H Q => ta σ H fun x H1 => ∃ a dx fs, x = .ref a ∧ H1 a = some (.ins C dx fs) ∧ fs.lookup m = none ∧
  t σ H1 fun vs H2 => sp (x :: (vs ++ dvs)) H2 Q E
def tMake (C : Addr) (sp : Sp) (dvs : List V) (E : XK) (t : TA) : TE := fun σ H Q => t σ H fun vs H1 => ∀ x dx, H1 x = none → H1 dx = none → dx ≠ x →
  sp (.ref x :: (vs ++ dvs)) (upd (upd H1 dx (.own x)) x (.ins C dx [])) (fun v H2 => v = .non ∧ Q (.ref x) H2) E
def Binds (K : PySem.W.Frag) (fd : FuncData) (ps : List Str) (ds : List Value) : Prop :=
  ∀ (s : Shared) (us : List Value), K.In s.heap → (us ++ ds).length = ps.length → BindsTo s fd ⟨us, []⟩ (ps.zip (us ++ ds))
theorem Binds.all {K : PySem.W.Frag} {fd : FuncData} {ps : List Str} (h : ∀ us : List Value, us.length = ps.length → bindArgs fd ⟨us, []⟩ = pure (ps.zip us)) : Binds K fd ps [] := fun s us _ hl => by
  rw [List.append_nil] at hl ⊢
  exact .of_eq (h us hl)
def Passes (CX : CXT) (X : Cx) (E : XK) : Prop := ∀ (pins : List (Addr × Obj)) (σ : St) (H : Hp) (s : Shared) (e : Value) (s' : Shared), Inv X pins σ H s → CX X.stack H s E e s' → X.xe e s'
section
variable {X : Cx} {CX : CXT} {k : Nat} {f C : Addr} {fd : FuncData} {ps : List Str} {sp : Sp} {dvs : List V} {ds : List Value} {E : XK} {x m : Str} {p pos apos : Pos} {e o : Expr} {es : List Expr} {ta : TE} {t : TA}
theorem run_fn {pins : List (Addr × Obj)} {σ : St} {H : Hp} {s : Shared} {Q : VK} {us : List Value} {vs : List V} (F : FnOk X.prog X.w X.K X.mg X.base CX k f fd ps sp) (hr : Room k X.A) (hb : Binds X.K fd ps ds) (hd : Vals dvs ds) (hx : Passes CX X E)
    (I : Inv X pins σ H s) (r : Vals vs us) (h : sp (vs ++ dvs) H Q E) : wpAny (model X.prog X.w) X.A (call (.ref f) us) (EP X pins σ Q) X.xe s := by
  have r2 : Vals (vs ++ dvs) (us ++ ds) := r.append hd
  have hl : (us ++ ds).length = ps.length := by rw [← r2.length]; exact F.len _ _ _ _ h
  refine wpAny_call (codeAny_mono (F.run X.A X.stack s H ⟨us, []⟩ (us ++ ds) (vs ++ dvs) Q E hr I.env0 (hb s us I.kIn hl) r2 h) fun r s' hq => ?_)
  cases r with
  | error e => exact hx pins σ H s e s' I hq
  | ok fl =>
    cases fl with
    | ret u => exact I.after hq
    | next => exact False.elim hq
    | brk => exact False.elim hq
    | cont => exact False.elim hq
theorem pe_call (F : FnOk X.prog X.w X.K X.mg X.base CX k f fd ps sp) (hr : Room k X.A) (hg : Gl X x) (hm : X.mg x = some (.ref f)) (hk : PySem.W.keepIn X.K (.ref f) = true) (hb : Binds X.K fd ps ds) (hd : Vals dvs ds) (hx : Passes CX X E)
    (ha : PA X (e :: es) t) (hdb : (x == ("__debug__" : Str)) = false := by decide) (he : starEach (e :: es) X.env = (false, eval e X.env) :: starEach es X.env := by rfl) (hpl : (backTo pos (starEach es X.env)).any (·.1) = false := by rfl) :
    PE X (.Call (.Name x p) (e :: es) [] pos) (tCall sp dvs E t) := by
  intro pins s σ H Q I h
  refine wpAny_Call_Name_kw (ld_glob I hg hm ?_ hdb)
  refine PySem.W.callWith_K (h₀ := X.base) I.ok.mod.kin hk (thn (ha pos pins s σ H _ I h) fun us s1 ⟨vs, H1, I1, r, q⟩ => ⟨I1.kIn, ?_⟩) he hpl
  exact run_fn F hr hb hd hx I1 r q
structure Mk (K : PySem.W.Frag) (C f : Addr) : Prop where
  makes : PySem.W.makesIn K C = true
  init : PySem.W.findIn K (.ref C) "__init__" = some (some (.ref f))
  fn : PySem.W.isFn K (.ref f) = true
  kp : PySem.W.keepIn K (.ref C) = true
end
def PK (X : Cx) (kws : List Keyword) (t : TA) : Prop :=
  ∀ (pos : Pos) (pins : List (Addr × Obj)) (s : Shared) (σ : St) (H : Hp) (Q : List V → Hp → Prop), Inv X pins σ H s → t σ H Q → wpAny (model X.prog X.w) X.A (evalAll ((backToKw pos (keywordEach kws X.env)).map (·.2))) (AP X pins σ Q) X.xe s
section
variable {X : Cx} {CX : CXT} {k : Nat} {f C : Addr} {fd : FuncData} {ps ks : List Str} {sp : Sp} {E : XK} {x m : Str} {p pos apos kpos : Pos} {e o : Expr} {es : List Expr} {kws : List Keyword} {te ta : TE} {t tk : TA} {nm : Option Str}
structure KBinds (K : PySem.W.Frag) (fd : FuncData) (ps ks : List Str) (g : List Value → List Value → List Value) (gV : List V → List V → List V) : Prop where
  to : ∀ (s : Shared) (us ws : List Value), K.In s.heap → (g us ws).length = ps.length → BindsTo s fd ⟨us, ks.zip ws⟩ (ps.zip (g us ws))
  rel : ∀ {vs : List V} {us : List Value} {zs : List V} {ws : List Value}, Vals vs us → Vals zs ws → Vals (gV vs zs) (g us ws)
def tCallK (sp : Sp) (gV : List V → List V → List V) (E : XK) (t tk : TA) : TE := fun σ H Q => t σ H fun vs H1 => tk σ H1 fun zs H2 => sp (gV vs zs) H2 Q E
variable {g : List Value → List Value → List Value} {gV : List V → List V → List V}
end
structure FnScope (N P : List Str) (sc : Scope) : Prop where
  kind : sc.kind = .function
  co : sc.isCoroutine = false
  gen : sc.isGenerator = false
  nd : N.Nodup
  pre : N.take P.length = P
  par : ∀ x ∈ P, sc.names.lookup x = some .local ∨ sc.names.lookup x = some .cell
  nofree : ∀ y ∈ sc.names, y.2 ≠ .free
theorem bindL_out {kindOf : Str → Option NameKind} {x : Str} : ∀ {binds : List (Str × Value)} {m : Str → Option Value}, (∀ v, (x, v) ∉ binds) → bindL kindOf binds m x = m x
  | [], _, _ => rfl
  | (n, v) :: r, m, h => by
    unfold bindL
    rw [bindL_out fun w hw => h w (List.mem_cons_of_mem _ hw)]
    split
    · have : x ≠ n := by rintro rfl; exact h v List.mem_cons_self
      simp [this]
    · rfl
theorem bindC_out {kindOf : Str → Option NameKind} {x : Str} : ∀ {binds : List (Str × Value)} {m : Str → Option Value}, (∀ v, (x, v) ∉ binds) → bindC kindOf binds m x = m x
  | [], _, _ => rfl
  | (n, v) :: r, m, h => by
    unfold bindC
    rw [bindC_out fun w hw => h w (List.mem_cons_of_mem _ hw)]
    split
    · rfl
    · have : x ≠ n := by rintro rfl; exact h v List.mem_cons_self
      simp [this]
theorem bindL_get {kindOf : Str → Option NameKind} {x : Str} {v : Value} : ∀ {P : List Str} {vs : List Value} {i : Nat} {m : Str → Option Value}, P.Nodup → P[i]? = some x → vs[i]? = some v → kindOf x = some .local →
    bindL kindOf (P.zip vs) m x = some v
  | [], _, _, _, _, h, _, _ => by simp at h
  | _ :: _, [], _, _, _, _, h, _ => by simp at h
  | p :: P, w :: vs, 0, m, nd, h1, h2, hk => by
    simp at h1 h2; subst h1; subst h2
    show bindL kindOf ((p, w) :: P.zip vs) m p = _
    unfold bindL
    rw [bindL_out fun v hv => (List.nodup_cons.mp nd).1 (List.of_mem_zip hv).1, if_pos hk]
    simp
  | p :: P, w :: vs, i + 1, m, nd, h1, h2, hk => by
    show bindL kindOf ((p, w) :: P.zip vs) m x = _
    unfold bindL
    exact bindL_get (i := i) (List.nodup_cons.mp nd).2 (by simpa using h1) (by simpa using h2) hk
theorem bindC_get {kindOf : Str → Option NameKind} {x : Str} {v : Value} : ∀ {P : List Str} {vs : List Value} {i : Nat} {m : Str → Option Value}, P.Nodup → P[i]? = some x → vs[i]? = some v → kindOf x ≠ some .local →
    bindC kindOf (P.zip vs) m x = some v
  | [], _, _, _, _, h, _, _ => by simp at h
  | _ :: _, [], _, _, _, _, h, _ => by simp at h
  | p :: P, w :: vs, 0, m, nd, h1, h2, hk => by
    simp at h1 h2; subst h1; subst h2
    show bindC kindOf ((p, w) :: P.zip vs) m p = _
    unfold bindC
    rw [bindC_out fun v hv => (List.nodup_cons.mp nd).1 (List.of_mem_zip hv).1, if_neg hk]
    simp
  | p :: P, w :: vs, i + 1, m, nd, h1, h2, hk => by
    show bindC kindOf ((p, w) :: P.zip vs) m x = _
    unfold bindC
    exact bindC_get (i := i) (List.nodup_cons.mp nd).2 (by simpa using h1) (by simpa using h2) hk
def start (N : List Str) (vs : List V) : St := vs.map some ++ List.replicate (N.length - vs.length) none
def cxOf (CX : CXT) (P : Program) (w : World) (K : PySem.W.Frag) (mg : Str → Option Value) (base : Heap) (N : List Str) (qual : Str) (scope : Scope) (f : Addr) (cd : Value) (A : Around) (outer : List Env) (s : Shared) (H : Hp) (E : XK) : Cx where
  prog := P
  w := w
  K := K
  mg := mg
  base := base
  A := A.deeper (envOfC qual scope s.heap.objs.size f cd)
  N := N
  s₀ := s
  H₀ := H
  env := envOfC qual scope s.heap.objs.size f cd
  outer := outer
  stack := envOfC qual scope s.heap.objs.size f cd :: outer
  ex := []
  calm := true
  fn := fun _ => true
  pn := []
  xe := fun e s' => wpAny (model P w) (A.deeper (envOfC qual scope s.heap.objs.size f cd)) (leaving (envOfC qual scope s.heap.objs.size f cd) e) (fun _ s'' => CX outer H s E e s'') (fun e' s'' => CX outer H s E e' s'') s'
theorem cell_has {sc : Scope} {n : Nat} {x : Str} (h : sc.names.lookup x = some .cell) : ∃ c, (cellsFrom n sc.names []).lookup x = some c := by
  have q := PySem.W.cellsFrom_some sc.names n [] (.inl h)
  exact Option.isSome_iff_exists.mp q
theorem inv_start {CX : CXT} {P : Program} {w : World} {K : PySem.W.Frag} {mg : Str → Option Value} {base : Heap} {N ps : List Str} {qual : Str} {scope : Scope} {f : Addr} {cd : Value} {A : Around} {outer : List Env} {s s1 : Shared} {H : Hp} {E : XK} {us : List Value} {vs : List V}
    (S : FnScope N ps scope) (hd : A.handled = none) (e0 : Env0 P w K mg base A outer s H) (hl : vs.length = ps.length) (r : Vals vs us)
    (x : InCallC s s.heap.objs.size (bindL (envOfC qual scope s.heap.objs.size f cd).kindOf (ps.zip us) fun _ => none) (cellsFrom (s.heap.objs.size + 1) scope.names []) (bindC (envOfC qual scope s.heap.objs.size f cd).kindOf (ps.zip us) fun _ => none) s1) :
    Inv (cxOf CX P w K mg base N qual scope f cd A outer s H E) [] (start N vs) H s1 := by
  have hpl : ps.length ≤ N.length := by have := congrArg List.length S.pre; rw [List.length_take] at this; omega
  obtain ⟨h1, tk, rfl, hk⟩ := x.done
  have noA : ∀ b : Addr, b ∉ (cxOf CX P w K mg base N qual scope f cd A outer s H E).ex := fun b z => absurd (show b ∈ ([] : List Addr) from z) (by simp)
  refine ⟨⟨e0.mod, S.kind, rfl, rfl, Nat.le_refl _, fun y z c h1 h2 => ?_, fun y hy => ?_, fun y c _ h => ?_, fun _ => hd, Around.frames_deeper e0.frames, .inr ⟨rfl, rfl⟩, fun b z => absurd z (noA b), e0.bs, e0.bsz, fun b _ _ => noA b, fun b z => absurd z (noA b), e0.funs, e0.frf⟩,
    rfl, e0.bare, Un.kept hk, ⟨_, x.toInCall.ns, fun i y v h1 h2 h3 => ?_⟩, fun y c h => ⟨_, x.cell y c h⟩, e0.hok.fresh (Nat.le_refl _), fun y c h => ?_, fun p hp => absurd (show p ∈ ([] : List (Addr × Obj)) from hp) (by simp), e0.hok.kept hk, ?_⟩
  · exact name_of_addr x.apart (PySem.mem_of_lookup h1) (PySem.mem_of_lookup h2)
  · have hy : scope.names.lookup y = some .cell ∨ scope.names.lookup y = some .free := hy
    rcases hy with hy | hy
    · exact cell_has hy
    · exact absurd rfl (S.nofree _ (PySem.mem_of_lookup hy))
  · exact Nat.le_of_lt (x.above y c (PySem.mem_of_lookup h))
  · have hi : i < vs.length := by
      unfold start at h2
      by_cases hi : i < vs.length
      · exact hi
      · rw [List.getElem?_append_right (by simpa using hi)] at h2
        rw [List.getElem?_replicate] at h2
        split at h2 <;> cases h2
    have ha : vs[i]? = some v := by
      unfold start at h2
      rw [List.getElem?_append_left (by simpa using hi), List.getElem?_map] at h2
      cases e : vs[i]? with
      | none => rw [e] at h2; cases h2
      | some a => rw [e] at h2; cases h2; rfl
    obtain ⟨u, hu, rv⟩ := r.get ha
    have hp : ps[i]? = some y := by
      rw [← S.pre, List.getElem?_take_of_lt (by omega)]; exact h1
    have ndP : ps.Nodup := by rw [← S.pre]; exact S.nd.sublist (List.take_sublist _ _)
    refine ⟨u, rv, ?_⟩
    rcases S.par y (List.mem_of_getElem? hp) with k | k
    · exact .inl ⟨k, bindL_get ndP hp hu k⟩
    · obtain ⟨c, e⟩ := cell_has (n := s.heap.objs.size + 1) k
      refine .inr ⟨.inl k, c, e, ?_⟩
      have q := x.cell y c e
      rw [bindC_get ndP hp hu (by show scope.names.lookup y ≠ _; rw [k]; decide)] at q
      exact q
  · exact e0.hok.fresh (Nat.le_of_lt (x.above y c (PySem.mem_of_lookup h)))
  · unfold start
    show _ = N.length
    rw [List.length_append, List.length_map, List.length_replicate]
    omega
theorem fn_of {CX : CXT} {P : Program} {w : World} {K : PySem.W.Frag} {mg : Str → Option Value} {base : Heap} {k : Nat} {f : Addr} {name qual : Str} {params : Arguments} {body : List Stmt} {scope : Scope} {dV kV doc pm cdv ct oc : Value} {an od : Option Addr}
    {osl : Array (Option Value)} {N ps : List Str} {sp : Sp} (lk : K.lookup f = some ⟨oc, od, .func (PySem.W.fnOf name qual params body scope dV kV doc pm an cdv ct), osl⟩) (hcd : PySem.W.codeIn K cdv qual = true) (S : FnScope N ps scope)
    (len : ∀ vs H Q E, sp vs H Q E → vs.length = ps.length)
    (hbody : ∀ (A : Around) (outer : List Env) (s : Shared) (H : Hp) (vs : List V) (Q : VK) (E : XK), Room k (A.deeper (envOfC qual scope s.heap.objs.size f cdv)) → sp vs H Q E →
      ∃ t, PSs (cxOf CX P w K mg base N qual scope f cdv A outer s H E) body t ∧ t { nx := fun _ H' => Q .non H', rt := Q } (start N vs) H) :
    FnOk P w K mg base CX (k + 1) f (PySem.W.fnOf name qual params body scope dV kV doc pm an cdv ct) ps sp := by
  refine ⟨len, fun A outer s H args us vs Q E hr e0 hb r hsp => ?_⟩
  have hl := len _ _ _ _ hsp
  have KX : K.In s.heap := e0.mod.kin.keeps fun b o e => (e0.bs b o e).1
  have lim : s.heap.NoLimit := e0.mod.nolimit.keeps fun b o e => (e0.bs b o e).1
  have hkind : ∀ y ∈ ps.zip us, scope.names.lookup y.1 = some .local ∨ (scope.names.lookup y.1 = some .cell ∧ ((cellsFrom (s.heap.objs.size + 1) scope.names []).lookup y.1).isSome = true) := fun ⟨n, v⟩ hy => by
    rcases S.par n (List.of_mem_zip hy).1 with q | q
    · exact .inl q
    · exact .inr ⟨q, PySem.W.cellsFrom_some _ _ _ (.inl q)⟩
  refine codeAny_call_function hr.depth (KX _ _ lk) rfl S.co S.gen rfl (PySem.W.codeRec_of KX hcd) (hb _ _ _ _ ?_)
  refine wpAny_newFunctionEnv_cells S.kind hkind fun env he s1 x => ?_
  subst he
  refine ⟨lim.keeps x.toInCall.keep, codeAny_func ?_⟩
  obtain ⟨t, ht, hq⟩ := hbody A outer s H vs Q E (hr.deeper _) hsp
  have I : Inv (cxOf CX P w K mg base N qual scope f cdv A outer s H E) [] (start N vs) H s1 := inv_start S hr.hd e0 hl r x
  refine wpAny_mono (ht [] s1 (start N vs) H _ I hq) (fun fl s' hs => ?_) fun e s' hs => hs
  have fin : ∀ {σ' : St} {H' : Hp} {v : V} {u : Value}, Inv (cxOf CX P w K mg base N qual scope f cdv A outer s H E) [] σ' H' s' → RelV v u → Q v H' → CE outer P w H s Q u s' :=
    fun {σ' H' v u} J rv q => ⟨v, H', J.os, J.bare, J.base, J.hok, rv, q⟩
  cases fl with
  | ret u =>
    obtain ⟨v, σ', H', J, rv, q⟩ := hs
    exact fin J rv q
  | next =>
    obtain ⟨σ', H', J, q⟩ := hs
    exact fin (v := V.non) (u := Value.none) J rfl q
  | brk =>
    obtain ⟨_, _, _, q⟩ := hs
    exact False.elim q
  | cont =>
    obtain ⟨_, _, _, q⟩ := hs
    exact False.elim q
end L2
namespace L2
open PySem PySem.Spec PyProof.Rows
section
variable {X : Cx} {x : Str} {p pos : Pos} {e : Expr} {es : List Expr} {t : TA} {id T : String} {r : List V → Hp → VK → Prop}
def tCB (r : List V → Hp → VK → Prop) (t : TA) : TE := fun σ H Q => t σ H fun vs H1 => r vs H1 Q
theorem pe_callB (hc : CallR X (.builtin id) r) (hg : Gl X x) (hm : X.mg x = none) (hv : bootBuiltins x = some (.builtin id)) (ha : PA X (e :: es) t) (hn : x ≠ "__name__" := by decide) (hdb : (x == ("__debug__" : Str)) = false := by decide)
    (he : starEach (e :: es) X.env = (false, eval e X.env) :: starEach es X.env := by rfl) (hpl : (backTo pos (starEach es X.env)).any (·.1) = false := by rfl) : PE X (.Call (.Name x p) (e :: es) [] pos) (tCB r t) := by
  intro pins s σ H Q I h
  refine wpAny_Call_Name_kw (ld_blt I hg hm hv ?_ hn hdb)
  exact PyProof.Rows.callWith_builtin1 (thn (ha pos pins s σ H _ I h) fun us s1 ⟨vs, H1, I1, r1, q1⟩ => hc pins s1 σ H1 vs us Q I1 r1 q1) he hpl
theorem pe_callTy (hc : CallR X (.type T) r) (hg : Gl X x) (hm : X.mg x = none) (hv : bootBuiltins x = some (.type T)) (ha : PA X (e :: es) t) (hn : x ≠ "__name__" := by decide) (hdb : (x == ("__debug__" : Str)) = false := by decide)
    (he : starEach (e :: es) X.env = (false, eval e X.env) :: starEach es X.env := by rfl) (hpl : (backTo pos (starEach es X.env)).any (·.1) = false := by rfl) : PE X (.Call (.Name x p) (e :: es) [] pos) (tCB r t) := by
  intro pins s σ H Q I h
  refine wpAny_Call_Name_kw (ld_blt I hg hm hv ?_ hn hdb)
  exact PyProof.Rows.callWith_type1 (thn (ha pos pins s σ H _ I h) fun us s1 ⟨vs, H1, I1, r1, q1⟩ => hc pins s1 σ H1 vs us Q I1 r1 q1) he hpl
end
end L2
namespace HT
open PySem PyProof.Rows
def lexLt : List Int → List Int → Bool
  | [], [] => false
  | [], _ :: _ => true
  | _ :: _, [] => false
  | x :: xs, y :: ys => if x = y then lexLt xs ys else decide (x < y)
section
open PySem.SeqAt
open PySem.AutoSeq1 (wpAny_loadPart')
open PySem.MeetsSeq PySem.MeetsSeq2 PySem.MeetsSeq3
end
section
variable {prog : Program} {w : World} {A : Around} {E : Value → Shared → Prop} {s : Shared}
def sIx (n d : Nat) : Option Int → Nat
  | none => d
  | some v => if v < 0 then (v + (n : Int)).toNat else min v.toNat n
theorem sIx_le (n d : Nat) (hd : d ≤ n) (o : Option Int) : sIx n d o ≤ n := by
  cases o with
  | none => exact hd
  | some v =>
    show (if v < 0 then (v + (n : Int)).toNat else min v.toNat n) ≤ n
    by_cases hv : v < 0
    · rw [if_pos hv]; omega
    · rw [if_neg hv]; exact Nat.min_le_right _ _
theorem clip_eq (v : Int) (n d : Nat) : (if v < 0 then max (v + (n : Int)) 0 else min v (n : Int)) = ((sIx n d (some v) : Nat) : Int) := by
  show (if v < 0 then max (v + (n : Int)) 0 else min v (n : Int)) = (((if v < 0 then (v + (n : Int)).toNat else min v.toNat n) : Nat) : Int)
  by_cases hv : v < 0
  · simp only [if_pos hv]; omega
  · simp only [if_neg hv]; omega
theorem adjust_gen (lo hi : Option Int) (n : Nat) : Builtin.Slice.sliceAdjust lo hi 1 (n : Int) = (((sIx n 0 lo : Nat) : Int), ((sIx n n hi : Nat) : Int)) := by
  have h1 : ¬ ((1 : Int) < 0) := by omega
  unfold Builtin.Slice.sliceAdjust
  simp only [h1, if_false]
  refine Prod.ext ?_ ?_
  · cases lo with
    | none => rfl
    | some v => exact clip_eq v n 0
  · cases hi with
    | none => rfl
    | some v => exact clip_eq v n n
theorem places_gen (i j : Nat) : Builtin.Slice.slicePlaces (i : Int) (j : Int) 1 = j - i := by
  unfold Builtin.Slice.slicePlaces
  have h1 : (1 : Int) > 0 := by omega
  simp only [h1, if_true, Int.ediv_one]
  split <;> omega
theorem slicePart_ {v : Value} {o : Option Int} {Q : Option Int → Shared → Prop} (p : IsPart v o) (h : Q o s) : wpAny (model prog w) A (Builtin.Slice.slicePartIndex v) Q E s := by
  cases p with
  | none => exact slicePart_none h
  | int i t => exact slicePart_int h
theorem sliceApplied_gen {sl : Addr} {vl vu : Value} {lo hi : Option Int} {n : Nat} {Q : Int × Int × Nat → Shared → Prop} (hs : s.heap.IsSliceOf sl vl vu .none) (pl : IsPart vl lo) (pu : IsPart vu hi)
    (h : Q (((sIx n 0 lo : Nat) : Int), 1, sIx n n hi - sIx n 0 lo) s) : wpAny (model prog w) A (Builtin.Slice.sliceApplied (.ref sl) (pure (n : Int))) Q E s := by
  obtain ⟨os, hos, hcs, hds⟩ := id hs
  unfold Builtin.Slice.sliceApplied Builtin.Slice.sliceFields
  refine wpAny_bind (wpAny_bind (wpAny_field hos hds (x := vl) rfl (wpAny_bind (wpAny_field hos hds (x := vu) rfl (wpAny_bind (wpAny_field hos hds (x := .none) rfl (wpAny_pure ?_)))))))
  refine wpAny_bind (slicePart_none ?_)
  show wpAny _ _ (if ((1 : Int) == 0) = true then _ else _) _ _ s
  rw [if_neg (by decide)]
  refine wpAny_bind (slicePart_ pl (wpAny_bind (slicePart_ pu (wpAny_bind (wpAny_pure ?_)))))
  show wpAny _ _ (match Builtin.Slice.sliceAdjust lo hi 1 (n : Int) with | (lo, hi) => pure (lo, (1 : Int), Builtin.Slice.slicePlaces lo hi 1)) _ _ s
  rw [adjust_gen lo hi n]
  show wpAny _ _ (pure (((sIx n 0 lo : Nat) : Int), (1 : Int), Builtin.Slice.slicePlaces ((sIx n 0 lo : Nat) : Int) ((sIx n n hi : Nat) : Int) 1)) _ _ s
  rw [places_gen]
  exact wpAny_pure h
theorem pick_gen (xs : Array Value) (i k : Nat) : ((List.range k).filterMap fun (m : Nat) => xs[((i : Int) + (m : Int) * 1).toNat]?).toArray = ((xs.toList.drop i).take k).toArray := by
  have e : (fun (m : Nat) => xs[((i : Int) + (m : Int) * 1).toNat]?) = fun m => xs[i + m]? := by
    funext m
    have : ((i : Int) + (m : Int) * 1).toNat = i + m := by omega
    rw [this]
  rw [e]
  have := pick_run xs i k
  rw [List.filterMap_map] at this
  have e2 : ((fun x => xs[x]?) ∘ fun x => i + x) = fun m => xs[i + m]? := rfl
  rw [e2] at this
  rw [this]
theorem getItem_tuple_cut {t sl : Addr} {items : Array Value} {vl vu : Value} {lo hi : Option Int} {Q : Value → Shared → Prop} (ht : IsTup s.heap t items) (hs : s.heap.IsSliceOf sl vl vu .none) (pl : IsPart vl lo) (pu : IsPart vu hi)
    (hw : ¬ (sIx items.size 0 lo = 0 ∧ sIx items.size items.size hi = items.size))
    (h : Q (.ref s.heap.objs.size) { s with heap := s.heap.push { cls := .type "tuple", data := .seq ((items.toList.drop (sIx items.size 0 lo)).take (sIx items.size items.size hi - sIx items.size 0 lo)).toArray } })
    (hsz : items.size ≤ sizeLine) : wpAny (model prog w) A (getItem (.ref t) (.ref sl)) Q E s := by
  have htake : sizeOk (.seq ((items.toList.drop (sIx items.size 0 lo)).take (sIx items.size items.size hi - sIx items.size 0 lo)).toArray) := by
    show ((items.toList.drop (sIx items.size 0 lo)).take (sIx items.size items.size hi - sIx items.size 0 lo)).toArray.size ≤ sizeLine
    rw [List.size_toArray, List.length_take, List.length_drop, Array.length_toList]
    omega
  have hj : sIx items.size items.size hi ≤ items.size := sIx_le _ _ (Nat.le_refl _) hi
  obtain ⟨os, hos, hcs, hds⟩ := id hs
  have hTs : s.TypeIs (.ref sl) "slice" := ⟨os, hos, hcs⟩
  unfold getItem
  try with_reducible refine wpAny_holding ?_
  first | refine wpAny_bind (wpAny_pure ?_) | skip
  refine wpAny_bind (wpAny_sequenceKey ht.typeIs (by decide) ?_)
  refine wpAny_bind (wpAny_callSpecial?_slot (name := Str.ofString "__getitem__") ht.typeIs PyProof.Rows.slot_tuple_getitem
    (wpAny_call_entry PyProof.Rows.slot_tuple_getitem ht.typeIs entry_tuple_getitem ?_ (args_tuple_getitem _ _)))
  show wpAny _ _ (Builtin.Tuple.tupleItemsOf (.ref t) >>= _) _ _ s
  refine wpAny_bind (tupleItemsOf_ ht ?_)
  refine wpAny_bind (wpAny_typeOf hTs ?_)
  rw [if_pos (by decide)]
  refine wpAny_bind (sliceApplied_gen hs pl pu ?_)
  have hno : ¬ ((((sIx items.size 0 lo : Nat) : Int) == 0 && (1 : Int) == 1 && (sIx items.size items.size hi - sIx items.size 0 lo) == items.size) = true) := by
    intro q
    rw [Bool.and_eq_true, Bool.and_eq_true] at q
    have q1 : ((sIx items.size 0 lo : Nat) : Int) = 0 := eq_of_beq q.1.1
    have q2 : sIx items.size items.size hi - sIx items.size 0 lo = items.size := eq_of_beq q.2
    exact hw ⟨by omega, by omega⟩
  show wpAny _ _ (if (((sIx items.size 0 lo : Nat) : Int) == 0 && (1 : Int) == 1 && (sIx items.size items.size hi - sIx items.size 0 lo) == items.size) = true then _ else _) _ _ s
  rw [if_neg hno, pick_gen]
  first
    | exact wpAny_bind (m := Builtin.Tuple.tupleExact _) (wpAny_newObj_type (wpAny_pure ⟨_, rfl, wpAny_pure h⟩) htake)
    | exact wpAny_bind (m := Builtin.Tuple.tupleExact _) (wpAny_newObj_type (wpAny_bind (wpAny_pure (wpAny_pure ⟨_, rfl, wpAny_pure h⟩))) htake)
    | exact wpAny_bind (wpAny_bind (m := Builtin.Tuple.tupleExact _) (wpAny_newObj_type (wpAny_pure (wpAny_pure ⟨_, rfl, wpAny_pure h⟩)) htake))
    | exact wpAny_bind (wpAny_bind (m := Builtin.Tuple.tupleExact _) (wpAny_newObj_type (wpAny_pure ⟨_, rfl, wpAny_pure h⟩) htake))
end
end HT
namespace L2
open PySem PySem.Spec PyProof.Rows
abbrev TO := St → Hp → (Option Int → Hp → Prop) → Prop
def PO (X : Cx) (e : Option Expr) (t : TO) : Prop :=
  ∀ (pins : List (Addr × Obj)) (s : Shared) (σ : St) (H : Hp) (Q : Option Int → Hp → Prop), Inv X pins σ H s → t σ H Q →
    wpAny (model X.prog X.w) X.A (evalPart e X.env) (fun u s' => ∃ o H', Inv X pins σ H' s' ∧ IsPart u o ∧ Q o H') X.xe s
def tNoPart : TO := fun _ H Q => Q none H
def tPart (t : TE) : TO := fun σ H Q => t σ H fun x H1 => ∃ i, x = .int i ∧ Q (some i) H1
section
variable {X : Cx} {e : Expr} {te : TE} {lo hi : Option Expr} {tl th : TO} {pos p2 : Pos}
theorem po_none : PO X none tNoPart := by
  intro pins s σ H Q I h
  rw [evalPart_none]
  exact wpAny_pure ⟨none, H, I, .none, h⟩
theorem po_some (h : PE X e te) : PO X (some e) (tPart te) := by
  intro pins s σ H Q I hw
  rw [evalPart_some]
  refine thn (h pins s σ H _ I hw) fun u s1 ⟨x, H1, I1, r1, q1⟩ => ?_
  obtain ⟨i, rfl, q⟩ := q1
  obtain ⟨t, rfl⟩ := r1
  exact ⟨some i, H1, I1, .int i t, q⟩
def SlR (X : Cx) (r : V → Option Int → Option Int → Hp → VK → Prop) : Prop :=
  ∀ (pins : List (Addr × Obj)) (s : Shared) (σ : St) (H : Hp) (x : V) (v vl vu : Value) (lo hi : Option Int) (sl : Addr) (Q : VK), Inv X pins σ H s → RelV x v → s.heap.IsSliceOf sl vl vu .none → IsPart vl lo → IsPart vu hi → r x lo hi H Q →
    ∃ T id, typeLookup (.type T) "__getitem__" = pure (some (.builtin id)) ∧ s.TypeIs v T ∧ wpAny (model X.prog X.w) X.A (getItem v (.ref sl)) (EP X pins σ Q) X.xe s
theorem SlR.or {r r' : V → Option Int → Option Int → Hp → VK → Prop} (h : SlR X r) (h' : SlR X r') : SlR X (fun x lo hi H Q => r x lo hi H Q ∨ r' x lo hi H Q) := by
  intro pins s σ H x v vl vu lo hi sl Q I rx hs pl pu q
  rcases q with q | q
  · exact h pins s σ H x v vl vu lo hi sl Q I rx hs pl pu q
  · exact h' pins s σ H x v vl vu lo hi sl Q I rx hs pl pu q
def tSl (r : V → Option Int → Option Int → Hp → VK → Prop) (te : TE) (tl th : TO) : TE := fun σ H Q => te σ H fun x H1 => tl σ H1 fun l H2 => th σ H2 fun u H3 => r x l u H3 Q
theorem pe_slice {r : V → Option Int → Option Int → Hp → VK → Prop} (hr : SlR X r) (he : PE X e te) (hl : PO X lo tl) (hu : PO X hi th) : PE X (.Subscript e (.Slice lo hi none p2) pos) (tSl r te tl th) := by
  intro pins s σ H Q I h
  refine Subscript_ (thn (he pins s σ H _ I h) fun v s1 ⟨x, H1, I1, r1, q1⟩ => ?_)
  refine wpAny_Slice (thn (hl pins s1 σ H1 _ I1 q1) fun vl s2 ⟨l, H2, I2, pl, q2⟩ => thn (hu pins s2 σ H2 _ I2 q2) fun vu s3 ⟨u, H3, I3, pu, q3⟩ => ?_)
  rw [evalPart_none]
  refine wpAny_pure ?_
  have I4 : Inv X pins σ H3 { s3 with heap := s3.heap.push { cls := .type "slice", data := .fields #[vl, vu, .none] } } := I3.kept (t' := s3.toks) fun b ob q => Heap.get?_push_of_some _ q
  obtain ⟨T, id, hT, ht, hg⟩ := hr pins { s3 with heap := s3.heap.push { cls := .type "slice", data := .fields #[vl, vu, .none] } } σ H3 x v vl vu l u s3.heap.objs.size Q I4 r1 (Heap.IsSliceOf.new ..) pl pu q3
  show wpAny (model X.prog X.w) X.A (subscriptTail e (.Slice lo hi none p2) v (.ref s3.heap.objs.size)) (EP X pins σ Q) X.xe { s3 with heap := s3.heap.push { cls := .type "slice", data := .fields #[vl, vu, .none] } }
  exact tail_any (ops := [.ref s3.heap.objs.size, v]) ht hT hg (by with_unfolding_all rfl)
def cutV (xs : List V) (lo hi : Option Int) : List V := (xs.drop (HT.sIx xs.length 0 lo)).take (HT.sIx xs.length xs.length hi - HT.sIx xs.length 0 lo)
theorem cutV_length (xs : List V) (lo hi : Option Int) : (cutV xs lo hi).length ≤ xs.length := by
  unfold cutV
  rw [List.length_take, List.length_drop]
  omega
def rSlT (K : PySem.W.Frag) : V → Option Int → Option Int → Hp → VK → Prop := fun x lo hi H Q => ∃ a xs, x = .ref a ∧ SqT K H a xs ∧
  ¬ (HT.sIx xs.length 0 lo = 0 ∧ HT.sIx xs.length xs.length hi = xs.length) ∧ ∀ p, H p = none → Q (.ref p) (upd H p (.tup (cutV xs lo hi)))
theorem sl_tup : SlR X (rSlT X.K) := by
  intro pins s σ H x v vl vu lo hi sl Q I rx hs pl pu h
  obtain ⟨a, xs, rfl, hx, hw, q⟩ := h
  cases rx
  obtain ⟨its, r, ht, hz⟩ := I.tuple hx
  have hlen : its.toArray.size = xs.length := by rw [List.size_toArray]; exact r.length.symm
  refine ⟨"tuple", _, PyProof.Rows.slot_tuple_getitem.lookup, ht.typeIs, ?_⟩
  refine HT.getItem_tuple_cut ht hs pl pu (by rw [hlen]; exact hw) ?_ (by rw [hlen]; exact hz)
  rw [hlen]
  refine ⟨.ref s.heap.objs.size, _, I.laid (t' := s.toks) (o := .tup (cutV xs lo hi)) (fun b ob q => Heap.get?_push_of_some _ q) (Nat.le_refl _) ?_, rfl, q _ (I.hok.fresh (Nat.le_refl _))⟩
  exact ⟨Nat.le_trans (cutV_length xs lo hi) hz, _, (r.drop (HT.sIx xs.length 0 lo)).take (HT.sIx xs.length xs.length hi - HT.sIx xs.length 0 lo), TupN.new _ _⟩
def rLtT (K : PySem.W.Frag) : R2 := fun x y H Q => ∃ a b ns ms, x = .ref a ∧ y = .ref b ∧ SqT K H a (ns.map V.int) ∧ SqT K H b (ms.map V.int) ∧ Q (.bl (HT.lexLt ns ms)) H
def rCatT (K : PySem.W.Frag) : R2 := fun x y H Q => ∃ a b xs ys, x = .ref a ∧ y = .ref b ∧ SqT K H a xs ∧ SqT K H b ys ∧ xs ≠ [] ∧ xs.length + ys.length ≤ sizeLine ∧
  (ys = [] → Q (.ref a) H) ∧ (ys ≠ [] → ∀ p, H p = none → Q (.ref p) (upd H p (.tup (xs ++ ys))))
end
end L2
namespace L2
open PySem PySem.Spec PyProof.Rows
def ixN (n : Nat) (i : Int) : Option Nat := if 0 ≤ i then (if i < n then some i.toNat else none) else if -(n : Int) ≤ i then some (i + n).toNat else none
def atI {α : Type} (xs : List α) (i : Int) : Option α := (ixN xs.length i).bind fun j => xs[j]?
theorem ixN_seq {n : Nat} {i : Int} {j : Nat} (h : ixN n i = some j) : seqIndex? i n = some j ∧ j < n ∧ -(n : Int) ≤ i ∧ i < n := by
  unfold ixN at h
  by_cases h0 : 0 ≤ i
  · rw [if_pos h0] at h
    by_cases h1 : i < n
    · rw [if_pos h1] at h
      have e : i.toNat = j := Option.some.inj h
      exact ⟨by rw [seqIndex_of h0 h1, e], by omega, by omega, h1⟩
    · rw [if_neg h1] at h; cases h
  · rw [if_neg h0] at h
    by_cases h1 : -(n : Int) ≤ i
    · rw [if_pos h1] at h
      have e : (i + n).toNat = j := Option.some.inj h
      exact ⟨by rw [seqIndex_neg (by omega) h1, e], by omega, h1, by omega⟩
    · rw [if_neg h1] at h; cases h
theorem atI_get {α : Type} {xs : List α} {i : Int} {v : α} (h : atI xs i = some v) : ∃ j, seqIndex? i xs.length = some j ∧ xs[j]? = some v ∧ j < xs.length ∧ -(xs.length : Int) ≤ i ∧ i < xs.length := by
  unfold atI at h
  cases e : ixN xs.length i with
  | none => rw [e] at h; cases h
  | some j =>
    rw [e] at h
    obtain ⟨h1, h2, h3, h4⟩ := ixN_seq e
    exact ⟨j, h1, h, h2, h3, h4⟩
theorem atI_nat {α : Type} {xs : List α} {j : Nat} {v : α} (h : xs[j]? = some v) : atI xs (j : Int) = some v := by
  have hj : j < xs.length := (List.getElem?_eq_some_iff.mp h).1
  have e : ixN xs.length (j : Int) = some j := by
    unfold ixN
    rw [if_pos (by omega), if_pos (by omega)]; simp
  unfold atI; rw [e]; exact h
theorem atI_last {α : Type} (xs : List α) (v : α) : atI (xs ++ [v]) (-1) = some v := by
  have hl : (xs ++ [v]).length = xs.length + 1 := by simp
  have e : ixN (xs ++ [v]).length (-1) = some xs.length := by
    unfold ixN
    rw [hl, if_neg (by decide), if_pos (by omega)]
    congr 1
    omega
  unfold atI
  rw [e]
  show (xs ++ [v])[xs.length]? = some v
  simp
def PlainIx (b : Expr) : Prop := ∀ o i, subscripted b false o i = operate [o, i] (getItem o i)
def IxR (X : Cx) (r : R2) : Prop :=
  ∀ (value slice : Expr) (pins : List (Addr × Obj)) (s : Shared) (σ : St) (H : Hp) (x y : V) (v u : Value) (Q : VK), Inv X pins σ H s → RelV x v → RelV y u → r x y H Q →
    subscripted slice false v u = operate [v, u] (getItem v u) → wpAny (model X.prog X.w) X.A (subscriptTail value slice v u) (EP X pins σ Q) X.xe s
def MtR (X : Cx) (id : String) (r : V → List V → Hp → VK → Prop) : Prop :=
  ∀ (pins : List (Addr × Obj)) (s : Shared) (σ : St) (H : Hp) (x : V) (xs : List V) (v : Value) (us : List Value) (Q : VK), Inv X pins σ H s → RelV x v → Vals xs us → r x xs H Q →
    wpAny (model X.prog X.w) X.A (call (.builtin id) (v :: us)) (EP X pins σ Q) X.xe s
section
variable {X : Cx} {a b : Expr} {ta tb : TE} {pos : Pos}
def rIxL (K : PySem.W.Frag) : R2 := fun x y H Q => ∃ p xs i v, x = .ref p ∧ y = .int i ∧ SqL K H p xs ∧ atI xs i = some v ∧ Q v H
def rIxT (K : PySem.W.Frag) : R2 := fun x y H Q => ∃ p xs i v, x = .ref p ∧ y = .int i ∧ SqT K H p xs ∧ atI xs i = some v ∧ Q v H
def rIxS : R2 := fun x y H Q => ∃ z i c, x = .str z ∧ y = .int i ∧ z.length ≤ sizeLine ∧ atI z.cps.toList i = some c ∧ Q (.str ⟨#[c]⟩) H
theorem ix_list : IxR X (rIxL X.K) := by
  intro value slice pins s σ H x y v u Q I rx ry h hs
  obtain ⟨p, xs, i, z, rfl, rfl, hq, he, q⟩ := h
  cases rx
  obtain ⟨t, rfl⟩ := ry
  obtain ⟨its, r, pl, hz⟩ := I.list hq
  obtain ⟨j, h1, h2, h3, h4, h5⟩ := atI_get he
  obtain ⟨w, ew, rw'⟩ := r.get h2
  have hl := r.length
  have hn := line63
  have fin : EP X pins σ Q w s := ⟨z, H, I, rw', q⟩
  by_cases h0 : 0 ≤ i
  · have hj : i.toNat = j := by
      rw [seqIndex_of h0 h5] at h1
      exact Option.some.inj h1
    exact item_listR pl.isList h0 (by omega) (by rw [hj]; simpa using ew) fin hs
  · have hj : (i + (its.toArray.size : Int)).toNat = j := by
      rw [seqIndex_neg (by omega) h4] at h1
      rw [List.size_toArray, ← hl]
      exact Option.some.inj h1
    exact subscriptTail_builtinR (x := w) pl.isList.typeIs slot_list_getitem.lookup
      (wpAny_getItem_list_neg (Q := fun r s' => r = w ∧ EP X pins σ Q r s') pl.isList (by omega) (by rw [List.size_toArray] <;> omega) (by omega) (by rw [hj]; simpa using ew) ⟨rfl, fin⟩) hs
theorem ix_tup : IxR X (rIxT X.K) := by
  intro value slice pins s σ H x y v u Q I rx ry h hs
  obtain ⟨p, xs, i, z, rfl, rfl, hq, he, q⟩ := h
  cases rx
  obtain ⟨t, rfl⟩ := ry
  obtain ⟨its, r, pl, hz⟩ := I.tuple hq
  obtain ⟨j, h1, h2, h3, h4, h5⟩ := atI_get he
  obtain ⟨w, ew, rw'⟩ := r.get h2
  have hl := r.length
  have hn := line63
  have fin : EP X pins σ Q w s := ⟨z, H, I, rw', q⟩
  exact subscriptTail_builtinR (x := w) pl.typeIs slot_tuple_getitem.lookup
    (getItem_tuple (j := j) (Q := fun r s' => r = w ∧ EP X pins σ Q r s') pl (by omega) (by omega) (by rw [List.size_toArray, ← hl]; exact h1) (by simpa using ew) ⟨rfl, fin⟩) hs
def rIx (K : PySem.W.Frag) : R2 := fun x y H Q => rIxL K x y H Q ∨ rIxT K x y H Q ∨ rIxS x y H Q
def rSetL : V → V → V → Hp → (Hp → Prop) → Prop := fun o i v H Q => ∃ p xs k j, o = .ref p ∧ i = .int k ∧ H p = some (.lst xs) ∧ ixN xs.length k = some j ∧ Q (upd H p (.lst (xs.set j v)))
def rSlL (K : PySem.W.Frag) : V → Option Int → Option Int → Hp → VK → Prop := fun x lo hi H Q => ∃ a xs, x = .ref a ∧ SqL K H a xs ∧ ∀ p, H p = none → Q (.ref p) (upd H p (.lst (cutV xs lo hi)))
def flatV : V → Bool
  | .non => true
  | .bl _ => true
  | .int _ => true
  | .str _ => true
  | _ => false
def eqV : V → V → Bool
  | .non, .non => true
  | .bl a, .bl b => a == b
  | .bl a, .int b => (if a then 1 else 0) == b
  | .int a, .bl b => a == (if b then 1 else 0)
  | .int a, .int b => a == b
  | .str a, .str b => a == b
  | _, _ => false
def eqU (x : V) (u : Value) : Bool := match u with
  | .none => eqV .non x
  | .bool b => eqV (.bl b) x
  | .int i _ => eqV (.int i) x
  | .str z _ => eqV (.str z) x
  | _ => false
def inV (x : V) (xs : List V) : Bool := xs.any fun y => eqV y x
def rIn (K : PySem.W.Frag) (neg : Bool) : R2 := fun x y H Q => ∃ p xs, y = .ref p ∧ (SqL K H p xs ∨ SqT K H p xs) ∧ flatV x = true ∧ xs.all flatV = true ∧ Q (.bl (if neg then !inV x xs else inV x xs)) H
theorem call_len_seq : CallR X (.builtin "len") (fun xs H Q => ∃ p ys, xs = [.ref p] ∧ (SqL X.K H p ys ∨ SqT X.K H p ys) ∧ Q (.int ys.length) H) := by
  intro pins s σ H xs us Q I r h
  obtain ⟨p, ys, rfl, hq, q⟩ := h
  obtain ⟨u, rfl, rx⟩ := vals1 r
  cases rx
  have hn := line63
  rcases hq with hq | hq
  · obtain ⟨its, r', pl, hz⟩ := I.list hq
    have hlen := r'.length
    exact Calls.call_len_list pl.isList (by simp only [List.size_toArray] <;> omega) ⟨.int ys.length, H, I.tok _, ⟨s.toks + 1, by rw [List.size_toArray, hlen]⟩, q⟩
  · obtain ⟨its, r', pl, hz⟩ := I.tuple hq
    have hlen := r'.length
    exact len_tuple pl (by simp only [List.size_toArray] <;> omega) ⟨.int ys.length, H, I.tok _, ⟨s.toks + 1, by rw [List.size_toArray, hlen]⟩, q⟩
theorem call_list_of : CallR X (.type "list") (fun xs H Q => ∃ p ys, xs = [.ref p] ∧ (SqL X.K H p ys ∨ SqT X.K H p ys) ∧ ∀ l, H l = none → Q (.ref l) (upd H l (.lst ys))) := by
  intro pins s σ H xs us Q I r h
  obtain ⟨p, ys, rfl, hq, q⟩ := h
  obtain ⟨u, rfl, rx⟩ := vals1 r
  cases rx
  have fin : ∀ (its : List Value), Vals ys its → ys.length ≤ sizeLine → ∀ (h' : Heap) (c' : Nat), (∀ b o', s.heap.get? b = some o' → h'.get? b = some o') →
      h'.get? s.heap.objs.size = some { cls := .type "list", dict := none, data := .seq its.toArray c', slots := #[] } → EP X pins σ Q (.ref s.heap.objs.size) { s with heap := h' } := fun its r' hz h' c' kp e =>
    ⟨.ref s.heap.objs.size, _, I.laid (t' := s.toks) kp (Nat.le_refl _) (show ObjOk X.prog X.w _ h' _ (.lst ys) from ⟨hz, its, c', r', e⟩), rfl, q _ (I.hok.fresh (Nat.le_refl _))⟩
  rcases hq with hq | hq
  · obtain ⟨its, r', pl, hz⟩ := I.list hq
    have hlen := r'.length
    obtain ⟨o, ho, hc, n, hd⟩ := pl.isList
    exact call_list_seq p (.inl rfl) ho hc hd (fun h' c' kp e => fin its r' hz h' c' kp e) (by simp only [List.size_toArray] <;> omega)
  · obtain ⟨its, r', pl, hz⟩ := I.tuple hq
    have hlen := r'.length
    obtain ⟨o, ho, hc, n, hd⟩ := pl
    exact call_list_seq p (.inr rfl) ho hc hd (fun h' c' kp e => fin its r' hz h' c' kp e) (by simp only [List.size_toArray] <;> omega)
theorem call_tuple_of : CallR X (.type "tuple") (fun xs H Q => ∃ p ys, xs = [.ref p] ∧ ((SqL X.K H p ys ∧ ∀ l, H l = none → Q (.ref l) (upd H l (.tup ys))) ∨ (SqT X.K H p ys ∧ Q (.ref p) H))) := by
  intro pins s σ H xs us Q I r h
  obtain ⟨p, ys, rfl, h⟩ := h
  obtain ⟨u, rfl, rx⟩ := vals1 r
  cases rx
  rcases h with ⟨hq, q⟩ | ⟨hq, q⟩
  · obtain ⟨its, r', pl, hz⟩ := I.list hq
    have hlen := r'.length
    refine call_tuple_list pl.isList (fun h' kp => ?_) (by simp only [List.size_toArray] <;> omega)
    have I1 : Inv X pins σ H { s with heap := h' } := I.kept (t' := s.toks) kp
    have I2 : Inv X pins σ (upd H h'.objs.size (.tup ys)) { s with heap := h'.push { cls := .type "tuple", data := .seq its.toArray } } :=
      I1.laid (t' := s.toks) (fun b o e => Heap.get?_push_of_some _ e) (Nat.le_refl _) (show ObjOk X.prog X.w _ _ _ (.tup ys) from ⟨hz, its, r', TupN.new _ _⟩)
    exact ⟨.ref h'.objs.size, _, I2, rfl, q _ (I1.hok.fresh (Nat.le_refl _))⟩
  · obtain ⟨its, r', pl, hz⟩ := I.tuple hq
    exact call_tuple_same pl ⟨.ref p, H, I, rfl, q⟩
def tyV (K : PySem.W.Frag) (T : String) (x : V) (H : Hp) : Prop := match x with
  | .str _ => T = "str"
  | .int _ => T = "int"
  | .ref p => (T = "list" ∧ ∃ xs, SqL K H p xs) ∨ (T = "tuple" ∧ ∃ xs, SqT K H p xs) ∨
      (T = "dict" ∧ ((∃ kvs, H p = some (.dK kvs)) ∨ ∃ kvs, H p = some (.dT kvs))) ∨ (T = "set" ∧ ∃ S n, H p = some (.set S n))
  | _ => False
theorem tyV_is {pins : List (Addr × Obj)} {σ : St} {H : Hp} {s : Shared} {T : String} {x : V} {v : Value} (I : Inv X pins σ H s) (r : RelV x v) (ty : tyV X.K T x H) :
    s.TypeIs v T ∧ ∀ a, v = .ref a → ∃ ob, s.heap.get? a = some ob ∧ ob.dict = none := by
  cases x with
  | str z =>
    obtain ⟨t, rfl⟩ := r
    cases (show T = "str" from ty)
    exact ⟨typeIs_str s z t, fun _ e => nomatch e⟩
  | int i =>
    obtain ⟨t, rfl⟩ := r
    cases (show T = "int" from ty)
    exact ⟨typeIs_int s i t, fun _ e => nomatch e⟩
  | ref p =>
    cases r
    rcases ty with ⟨rfl, xs, hq⟩ | ⟨rfl, xs, hq⟩ | ⟨rfl, hk⟩ | ⟨rfl, S, n, hk⟩
    · obtain ⟨its, _, pl, _⟩ := I.list hq
      refine ⟨pl.isList.typeIs, fun a e => ?_⟩
      cases e
      obtain ⟨o, n, e, c, hd, _⟩ := pl
      exact ⟨o, e, hd⟩
    · obtain ⟨its, _, ⟨o, e1, hd, hc, _⟩, _⟩ := I.tupN hq
      refine ⟨⟨o, e1, hc⟩, fun a e => ?_⟩
      cases e
      exact ⟨o, e1, hd⟩
    · have z : ∃ o, s.heap.get? p = some o ∧ o.ExactDict := by
        rcases hk with ⟨kvs, hk⟩ | ⟨kvs, hk⟩
        · obtain ⟨_, _, _, _, o, _, _, e, ex, _⟩ := I.hok p _ hk
          exact ⟨o, e, ex⟩
        · obtain ⟨_, _, _, _, o, _, _, e, ex, _⟩ := I.hok p _ hk
          exact ⟨o, e, ex⟩
      obtain ⟨o, e, ex⟩ := z
      refine ⟨⟨o, e, ex.1⟩, fun a e2 => ?_⟩
      cases e2
      exact ⟨o, e, ex.2.1⟩
    · obtain ⟨o, _, _, _, e, ex, _⟩ := I.hok p _ hk
      refine ⟨⟨o, e, ex.1⟩, fun a e2 => ?_⟩
      cases e2
      exact ⟨o, e, ex.2.1⟩
  | _ => exact False.elim ty
def tBM0 (K : PySem.W.Frag) (T : String) (r : V → List V → Hp → VK → Prop) (to : TE) : TE := fun σ H Q => to σ H fun x H1 => tyV K T x H1 ∧ r x [] H1 Q
def tBM (K : PySem.W.Frag) (T : String) (r : V → List V → Hp → VK → Prop) (to : TE) (t : TA) : TE := fun σ H Q => to σ H fun x H1 => tyV K T x H1 ∧ t σ H1 fun xs H2 => r x xs H2 Q
variable {o e : Expr} {es : List Expr} {to : TE} {t : TA} {name : Str} {apos cpos : Pos} {T id : String} {r : V → List V → Hp → VK → Prop}
theorem pe_bm (pa : PlainAttrs T) (slot : Slot T name id) (hty : typeOf (.builtin id) = pure (.type "method_descriptor")) (hm : MtR X id r) (ho : PE X o to) (ha : PA X (e :: es) t)
    (hbase : attributeBase o name X.env (eval o X.env) = eval o X.env := by rfl)
    (hfew : ((backTo cpos (starEach (e :: es) X.env)).all (fun x => !x.1) && (backToKw cpos (keywordEach [] X.env)).all (fun x => x.1.isSome)
      && decide ((e :: es).length + ([] : List Keyword).length + (if ([] : List Keyword).isEmpty then 0 else 1) < 30)) = true := by rfl)
    (hline : (apos.endLine == cpos.line) = true := by rfl) (hs : starEach (e :: es) X.env = (false, eval e X.env) :: starEach es X.env := by rfl) (hplain : (backTo cpos (starEach es X.env)).any (·.1) = false := by rfl) :
    PE X (.Call (.Attribute o name apos) (e :: es) [] cpos) (tBM X.K T r to t) := by
  intro pins s σ H Q I h
  refine wpAny_Call_method_late hbase hfew hline rfl (thn (ho pins s σ H _ I h) fun v s1 ⟨x, H1, I1, r1, ty, q1⟩ => ?_)
  obtain ⟨h1, h2⟩ := tyV_is I1 r1 ty
  refine ⟨T, id, pa, slot, hty, h1, h2, ?_⟩
  have hA := ha cpos pins s1 σ H1 _ I1 q1
  rw [hs] at hA ⊢
  refine Calls.callWith_builtin (by show (false || (backTo cpos (starEach es X.env)).any (·.1)) = false; rw [hplain] <;> rfl) (Calls.evalArgs_plain ?_)
  exact thn hA fun us s2 ⟨vs, H2, I2, r2, q2⟩ => hm pins s2 σ H2 x vs v us Q I2 r1 r2 q2
end
end L2
namespace L2
open PySem PySem.Spec PyProof.Rows
def MtM (X : Cx) (id : String) (r : V → List V → Hp → VK → Prop) : Prop :=
  ∀ (pins : List (Addr × Obj)) (s : Shared) (σ : St) (H : Hp) (x : V) (xs : List V) (v : Value) (us : List Value) (Q : VK), Inv X pins σ H s → RelV x v → Vals xs us → r x xs H Q →
    wpAny (model X.prog X.w) X.A (call (.builtin id) (v :: us)) (EP X pins σ Q) X.xe s
theorem Vals.one : ∀ {x : V} {us : List Value}, Vals [x] us → ∃ u, us = [u] ∧ RelV x u
  | _, _, .cons r .nil => ⟨_, rfl, r⟩
theorem Vals.rep {xs : List V} {us : List Value} (h : Vals xs us) : ∀ k : Nat, Vals (List.replicate k xs).flatten (List.replicate k us).flatten
  | 0 => .nil
  | k + 1 => by
    rw [List.replicate_succ, List.replicate_succ, List.flatten_cons, List.flatten_cons]
    exact Vals.append h (Vals.rep h k)
theorem foldl_rep (its : List Value) : ∀ (k : Nat) (acc : List Value),
    List.foldl (fun x1 x2 => x1 ++ x2) acc.toArray (List.replicate k its.toArray) = (acc ++ (List.replicate k its).flatten).toArray
  | 0, acc => by simp
  | k + 1, acc => by
    have e : acc.toArray ++ its.toArray = (acc ++ its).toArray := by simp
    have e2 : (acc ++ its) ++ (List.replicate k its).flatten = acc ++ (List.replicate (k + 1) its).flatten := by
      rw [List.replicate_succ, List.flatten_cons, List.append_assoc]
    rw [← e2, ← foldl_rep its k (acc ++ its), ← e, List.replicate_succ, List.foldl_cons]
section
variable {X : Cx} {pins : List (Addr × Obj)} {σ : St} {H : Hp} {s : Shared} {l b : Addr} {xs ys zs : List V}
theorem Inv.lset {its its' : List Value} {n : Nat} {f : Array Value → Array Value} {t' : Nat} (I : Inv X pins σ H s) (hH : H l = some (.lst xs))
    (e : s.heap.get? l = some { cls := .type "list", data := .seq its.toArray n }) (hf : f its.toArray = its'.toArray) (hv : Vals ys its') (hz : ys.length ≤ sizeLine) :
    Inv X pins σ (upd H l (.lst ys)) { s with heap := s.heap.update l (Obj.mapSeq f), toks := t' } := by
  have q := PySem.IsL.update e f
  rw [hf] at q
  refine I.write (x := l) (e := l) (by rw [hH]; exact trivial) (.inl rfl) (fun b' u hb hu => (Heap.get?_update_other s.heap (Obj.mapSeq f) (Ne.symm hb)).trans hu) ⟨_, q⟩ ?_
  exact ⟨hz, its', _, hv, q⟩
theorem Inv.lnew {its : List Value} {t' : Nat} (I : Inv X pins σ H s) (hv : Vals ys its) (hz : ys.length ≤ sizeLine) :
    Inv X pins σ (upd H s.heap.objs.size (.lst ys)) { s with heap := s.heap.push { cls := .type "list", data := .seq its.toArray }, toks := t' } :=
  I.laid (fun _ _ q => Heap.get?_push_of_some _ q) (Nat.le_refl _) ⟨hz, its, 0, hv, Heap.get?_push_size _ rfl⟩
theorem Inv.fresh (I : Inv X pins σ H s) : H s.heap.objs.size = none := I.hok.fresh (Nat.le_refl _)
theorem Inv.lstM (I : Inv X pins σ H s) (hH : H l = some (.lst xs)) : xs.length ≤ sizeLine ∧ ∃ (its : List Value) (n : Nat), Vals xs its ∧ xs.length = its.length ∧ s.heap.get? l = some { cls := .type "list", data := .seq its.toArray n } := by
  obtain ⟨z, its, n, r, e⟩ := I.hok l _ hH
  exact ⟨z, its, n, r, r.length, e⟩
theorem notLongL {n : Nat} (h : n ≤ sizeLine) : Builtin.List.listTooLong n = false := by
  unfold Builtin.List.listTooLong
  exact decide_eq_false (by omega)
end
section
variable {X : Cx}
def rAppend : V → List V → Hp → VK → Prop := fun x vs H Q => ∃ l xs y, x = .ref l ∧ vs = [y] ∧ H l = some (.lst xs) ∧ xs.length < sizeLine ∧ Q .non (upd H l (.lst (xs ++ [y])))
theorem mt_append : MtM X "list.append" rAppend := by
  intro pins s σ H x vs v us Q I rx rv h
  obtain ⟨l, xs, y, rfl, rfl, hH, hz, q⟩ := h
  cases rx
  obtain ⟨u, rfl, ru⟩ := rv.one
  obtain ⟨z, its, n, r, hl, e⟩ := I.lstM hH
  refine call_meets F.slot_list_append ⟨_, e, rfl⟩ F.entry_list_append (F.args_list_append_2 _ _) (PySem.list_append l its.toArray n u (by rw [List.size_toArray]; omega)) ⟨e, ?_⟩
  refine ⟨.non, _, I.lset (its' := its ++ [u]) hH e (by simp) (r.append (.cons ru .nil)) ?_, rfl, q⟩
  rw [List.length_append, List.length_singleton]
  omega
def rExtend : V → List V → Hp → VK → Prop := fun x vs H Q => ∃ l b xs zs, x = .ref l ∧ vs = [.ref b] ∧ H l = some (.lst xs) ∧ H b = some (.lst zs) ∧ xs.length + zs.length ≤ sizeLine ∧ Q .non (upd H l (.lst (xs ++ zs)))
theorem mt_extend : MtM X "list.extend" rExtend := by
  intro pins s σ H x vs v us Q I rx rv h
  obtain ⟨l, b, xs, zs, rfl, rfl, hH, hB, hz, q⟩ := h
  cases rx
  obtain ⟨u, rfl, ru⟩ := rv.one
  cases ru
  obtain ⟨z, its, n, r, hl, e⟩ := I.lstM hH
  obtain ⟨z2, its2, n2, r2, hl2, e2⟩ := I.lstM hB
  have hsz : its.toArray.size + its2.toArray.size ≤ sizeLine := by rw [List.size_toArray, List.size_toArray]; omega
  have hlong : ¬ (!its.toArray.isEmpty && Builtin.List.listTooLong (its.toArray.size + its2.toArray.size)) = true := by
    rw [notLongL hsz, Bool.and_false]
    exact Bool.false_ne_true
  refine call_meets F.slot_list_extend ⟨_, e, rfl⟩ F.entry_list_extend (F.args_list_extend_2 _ _)
    (AutoSeq1.list_extend_list_list_0 l its.toArray n b its2.toArray n2 hlong (by rw [List.size_toArray]; omega) (by omega)) ⟨e, e2, ?_⟩
  refine ⟨.non, _, I.lset (its' := its ++ its2) hH e (by simp) (r.append r2) ?_, rfl, q⟩
  rw [List.length_append]
  omega
def rPop : V → List V → Hp → VK → Prop := fun x vs H Q => ∃ l xs y, x = .ref l ∧ vs = [] ∧ H l = some (.lst xs) ∧ xs[xs.length - 1]? = some y ∧ Q y (upd H l (.lst xs.dropLast))
def rPopAt : V → List V → Hp → VK → Prop := fun x vs H Q => ∃ l xs i k y, x = .ref l ∧ vs = [.int i] ∧ H l = some (.lst xs) ∧ -(2 ^ 63) ≤ i ∧ i < 2 ^ 63 ∧ seqIndex? i xs.length = some k ∧ xs[k]? = some y ∧ Q y (upd H l (.lst (xs.eraseIdx k)))
def rReverse : V → List V → Hp → VK → Prop := fun x vs H Q => ∃ l xs, x = .ref l ∧ vs = [] ∧ H l = some (.lst xs) ∧ Q .non (upd H l (.lst xs.reverse))
def rClear : V → List V → Hp → VK → Prop := fun x vs H Q => ∃ l xs, x = .ref l ∧ vs = [] ∧ H l = some (.lst xs) ∧ Q .non (upd H l (.lst []))
def rCat : R2 := fun x y H Q => ∃ l b xs zs, x = .ref l ∧ y = .ref b ∧ H l = some (.lst xs) ∧ H b = some (.lst zs) ∧ xs.length + zs.length ≤ sizeLine ∧ ∀ p, H p = none → Q (.ref p) (upd H p (.lst (xs ++ zs)))
theorem op_cat : OpR X (binaryOp .Add) rCat := by
  intro pins s σ H x y v u Q I rx ry h
  obtain ⟨l, b, xs, zs, rfl, rfl, hH, hB, hz, q⟩ := h
  cases rx
  cases ry
  obtain ⟨z, its, n, r, hl, e⟩ := I.lstM hH
  obtain ⟨z2, its2, n2, r2, hl2, e2⟩ := I.lstM hB
  refine PySem.P.add_list e e2 ?_ (by rw [List.size_toArray, List.size_toArray]; omega)
  have ea : its.toArray ++ its2.toArray = (its ++ its2).toArray := by simp
  rw [ea]
  exact ⟨.ref _, _, I.lnew (t' := s.toks) (r.append r2) (by rw [List.length_append]; omega), rfl, q _ I.fresh⟩
def rRep : R2 := fun x y H Q => ∃ l k xs, x = .ref l ∧ y = .int k ∧ H l = some (.lst xs) ∧ -(2 ^ 63) ≤ k ∧ k < 2 ^ 63 ∧ xs.length * k.toNat ≤ sizeLine ∧
  ∀ p, H p = none → Q (.ref p) (upd H p (.lst (List.replicate k.toNat xs).flatten))
theorem len_rep {α : Type} (xs : List α) (k : Nat) : (List.replicate k xs).flatten.length = k * xs.length := by
  induction k with
  | zero => simp
  | succ k ih => rw [List.replicate_succ, List.flatten_cons, List.length_append, ih, Nat.succ_mul, Nat.add_comm]
end
section
variable {prog : Program} {w : World} {A : Around} {E : Value → Shared → Prop} {s : Shared}
end
section
variable {X : Cx}
end
end L2
namespace Att
open PySem PySem.W PySem.Calls PyProof.Rows
theorem ints_of_wellAll {P : Params} {h : Heap} : ∀ (ns : List Int) (vs : List Value), WellAll P h vs (ns.map WData.int) → IntsAre vs ns := by
  intro ns
  induction ns with
  | nil =>
    intro vs w
    rw [List.map_nil] at w
    cases w
    exact .nil
  | cons n ns ih =>
    intro vs w
    rw [List.map_cons] at w
    cases w with
    | cons a b =>
      cases a
      exact .cons _ _ (ih _ b)
theorem script_of {l : OpenLaw} {n : Nat} (hn : l.most = some n) {P : Params} {h : Heap} {args : List WData} {vals : List Value}
    (hpre : l.row.toRowW.claim.pre args = true) (hwl : WellAll P h vals args) :
    ∃ a vs ns, vals = [Value.ref a] ∧ args = [WData.list (ns.map WData.int)] ∧ h.get? a = some { cls := .type "list", data := .seq vs.toArray } ∧ IntsAre vs ns ∧ ns.length ≤ n := by
  have hsh : WShape.hasAll [] args [.list .int] = true := (pre_splitW hpre).1
  have hc : l.pre.holds [] { args := args } = true := (pre_splitW hpre).2
  obtain ⟨d, r, rfl, h1, h2⟩ := hasAllW_cons hsh
  obtain rfl := hasAllW_nil h2
  obtain ⟨xs, rfl, h3⟩ := hasW_list h1
  obtain ⟨ns, rfl⟩ := items_int h3
  have hlen : ns.length ≤ n := by
    unfold OpenLaw.pre at hc
    have h4 : (WTm.not (.lt (.lit (.int (n : Int))) (.len (.arg 0)))).holds [] { args := [.list (ns.map .int)] } = true := by
      have h4 := (holds_andW hc).1
      rw [hn] at h4
      exact h4
    have h5 := condW_of h4 (w_not (w_lt w_lit (w_len_list (w_arg rfl))))
    rw [List.length_map] at h5
    refine Nat.le_of_not_lt fun q => ?_
    have q' : (n : Int) < ((ns.length : Nat) : Int) := by omega
    first
      | (rw [decide_eq_true q'] at h5; exact absurd h5 (by decide))
      | (simp at h5; omega)
  cases hwl with
  | cons w1 w2 =>
    cases w2
    cases w1 with
    | list ho hall => exact ⟨_, _, ns, rfl, rfl, ho, ints_of_wellAll ns _ hall, hlen⟩
theorem post_true (l : OpenLaw) (args : List WData) : l.row.toRowW.claim.post args (.bool true) args = true :=
  postW_of (r := l.row.toRowW) (X := (true == true))
    (show WShape.has [] (.bool true) .bool = true by first | rfl | decide | simp [WShape.has, WShape.arms, WShape.armsAll])
    (show (WTm.eq .res (.lit (.bool true))).value [] { args := args, res := some (.bool true), after := args } = some (.bool (true == true)) from w_eq_bool (w_res rfl) w_lit) rfl
theorem attach_call {l : OpenLaw} {n : Nat} {q : Program} {loose : List Str} {XP : (Str → Option Value) → Heap → Prop} {YP : World → Heap → Prop} {d : DefRec}
    (hn : l.most = some n) (hdf : d.params.defaults = [])
    (call : ∀ (w : World) (s₀ s₁ : Shared) (mg mb : Str → Option Value) (fa : Addr) (o : Obj) (pm cd doc : Value) (a : Addr) (vs : List Value) (ns : List Int),
      Ground q loose [] XP w s₀ mg mb s₁.heap → YP w s₁.heap →
      s₁.heap.get? fa = some o → o.data = .func (docDef d.name d.params d.body d.scope pm cd doc) → s₁.heap.CodeRec cd d.name → mg d.name = some (.ref fa) →
      s₁.heap.get? a = some { cls := .type "list", data := .seq vs.toArray } → IntsAre vs ns → ns.length ≤ n → s₁.gens = #[] →
      codeAny (model l.prog w) callerA (.call (.ref fa) ⟨[.ref a], []⟩) (fun r s' => r = .ok (.ret (.bool true)) ∧ OldK s₁.heap s'.heap ∧ s'.os = s₁.os ∧ AllBare s'.gens) s₁) :
    WalkO q loose XP YP l.row.toRowW d [] (fun f vs => PySem.call f vs) := by
  intro w s₀ s₁ mg mb G Y fa o pm cd doc dV kV ho hd hcd hD hmg hg args vals as hpre hlay hrd hwl hlo
  obtain rfl : dV = .none := Dflts.none hD hdf
  obtain rfl : kV = .none := Dflts.noKw hD
  obtain ⟨a, vs, ns, rfl, rfl, hobj, hints, hlen⟩ := script_of hn hpre hwl
  refine enter_call (codeAny_mono (call w s₀ s₁ mg mb fa o pm cd doc a vs ns G Y ho (fd_plain hd) hcd hmg hobj hints hlen hg) fun r s' hq => ?_)
  obtain ⟨rfl, h2, h3, h4⟩ := hq
  exact ⟨.inl ⟨.bool true, .bool true, [], rfl, fun _ => rfl, .bool true, post_true l _, fun _ => ⟨List.Pairwise.nil, fun _ hm => (nomatch hm)⟩⟩, h2, h3, h4⟩
section
variable {prog : Program} {w : World} {A : Around} {E : Value → Shared → Prop} {s : Shared} {K : Frag}
def noObjs (h : Heap) : Heap := { h with objs := #[] }
def ledger (h : Heap) (L d : Addr) : List (Addr × Obj) := (List.range h.objs.size).filterMap fun a => if a = L ∨ a = d then none else (h.get? a).map fun o => (a, o)
end
end Att
namespace L2
open PySem PySem.Spec PyProof.Rows
theorem vals_ints : ∀ {vs : List Value} {ns : List Int}, IntsAre vs ns → Vals (ns.map V.int) vs
  | _, _, .nil => .nil
  | _, _, .cons n t h => .cons ⟨t, rfl⟩ (vals_ints h)
def Only (H : Hp) : Prop := ∀ b, H b = none ∨ ∃ o xs, H b = some (.frz o (.lst xs))
theorem law_call {P : Program} {w : World} {K : PySem.W.Frag} {mg mb : Str → Option Value} {CX : CXT} {k : Nat} {fa a : Addr} {fd : FuncData} {x : Str} {sp : Sp} {s₁ : Shared} {vs : List Value} {ns : List Int}
    (KX : K.In s₁.heap) (hns : s₁.heap.Ns mainGlobals mg) (hb : s₁.heap.Ns builtinsNs mb) (hbb : ∀ x : Str, x ≠ "__name__" → mb x = bootBuiltins x) (hlim : s₁.heap.NoLimit) (hg : s₁.gens = #[])
    (ha : s₁.heap.get? a = some { cls := .type "list", data := .seq vs.toArray }) (hi : IntsAre vs ns) (hl : ns.length ≤ sizeLine) (hr : Room k callerA)
    (F : ∀ base : Heap, K.In base → base.Ns mainGlobals mg → FnOk P w K mg base CX k fa fd [x] sp) (hbind : ∀ (s : Shared) (u : Value), BindsTo s fd ⟨[u], []⟩ [(x, u)])
    (hsp : ∀ H : Hp, Only H → SqL K H a (ns.map V.int) → sp [.ref a] H (fun v _ => v = .bl true) fun _ _ _ => False)
    (hCX : ∀ H e s', CX [] H s₁ (fun _ _ _ => False) e s' → False) :
    codeAny (model P w) callerA (.call (.ref fa) ⟨[.ref a], []⟩) (fun r s' => r = .ok (.ret (.bool true)) ∧ OldK s₁.heap s'.heap ∧ s'.os = s₁.os ∧ AllBare s'.gens) s₁ := by
  have rv := vals_ints hi
  have lenV := hi.length
  -- from an abstract heap in which nothing but the script may be tracked
  have core : ∀ H : Hp, Only H → SqL K H a (ns.map V.int) → HOk P w H s₁.heap → (∀ b, H b ≠ none → b = a) → (H a ≠ none → K.lookup a = none) →
      codeAny (model P w) callerA (.call (.ref fa) ⟨[.ref a], []⟩) (fun r s' => r = .ok (.ret (.bool true)) ∧ OldK s₁.heap s'.heap ∧ s'.os = s₁.os ∧ AllBare s'.gens) s₁ := by
    intro H hO hS hok hA hK
    have base_of : ∀ {b : Addr} {o : Obj}, s₁.heap.get? b = some o → H b = none → (hidT s₁.heap H).get? b = some o := fun e n => hidT_get e n
    have noA : ∀ {b : Addr} {o : Obj} {es : Array DictEntry} {ep : Nat}, s₁.heap.get? b = some o → o.data = .dict es ep → H b = none := fun {b o es ep} e d => by
      cases q : H b with
      | none => rfl
      | some u =>
        have e' : b = a := hA b (by rw [q]; simp)
        subst e'
        rw [ha] at e; cases e
        have d' : Data.seq vs.toArray _ = Data.dict es ep := d
        cases d'
    have nsK : ∀ {b : Addr} {m : Str → Option Value}, s₁.heap.Ns b m → (hidT s₁.heap H).Ns b m := fun {b m} ⟨o, es, ep, e, d, r⟩ => ⟨o, es, ep, base_of e (noA e d), d, r⟩
    have hKb : K.In (hidT s₁.heap H) := fun b o e => base_of (KX b o e) (by
      cases q : H b with
      | none => rfl
      | some u =>
        have e' : b = a := hA b (by rw [q]; simp)
        subst e'
        rw [hK (by rw [q]; simp)] at e; cases e)
    have hM : Mod K mg (hidT s₁.heap H) := ⟨hKb, nsK hns, ⟨mb, nsK hb, hbb⟩, let ⟨mc, h1, h2⟩ := hlim; ⟨mc, nsK h1, h2⟩⟩
    have e0 : Env0 P w K mg (hidT s₁.heap H) callerA [] s₁ H := ⟨rfl, hM, fun b o e => of_hidT e, Nat.le_of_eq (hidT_size _ _), trivial, fun b hb => absurd (show b ∈ ([] : List Addr) from hb) (by simp), hok, .of_eq hg⟩
    refine codeAny_mono ((F _ hKb (nsK hns)).run callerA [] s₁ H ⟨[.ref a], []⟩ [.ref a] [.ref a] _ _ hr e0 (hbind s₁ (.ref a)) (.cons rfl .nil) (hsp H hO hS)) fun r s' h => ?_
    cases r with
    | error e => exact (hCX H e s' h).elim
    | ok fl =>
      cases fl with
      | next => exact False.elim h
      | brk => exact False.elim h
      | cont => exact False.elim h
      | ret u =>
        obtain ⟨v, H', os, bare, un, hok', r', q⟩ := h
        have q' : v = .bl true := q
        subst q'
        obtain rfl : u = Value.bool true := r'
        refine ⟨rfl, OldK.of_keep fun b o e => ?_, os, bare⟩
        cases q : H b with
        | none => exact un.keep b o e q (by intro z; exact absurd (show b ∈ ([] : List Addr) from z) (by simp)) (by simp)
        | some u =>
          rcases hO b with z | ⟨ob, xs, z⟩
          · rw [q] at z; cases z
          · have z2 := un.frzs b ob _ z
            obtain ⟨e1, _⟩ := hok b _ z
            obtain ⟨e2, _⟩ := hok' b _ z2
            rw [e] at e1; cases e1
            exact e2
  cases hk : K.lookup a with
  | some o =>
    -- the script is one of the module's own objects
    have e := KX a o hk
    rw [ha] at e
    cases e
    refine core (fun _ => none) (fun _ => .inl rfl) (.inr ⟨_, vs.toArray, _, hk, rfl, rfl, rfl, by rw [List.size_toArray, lenV]; exact hl, by simpa using rv⟩) (fun b u z => by have z' : (none : Option HO) = some u := z; cases z') (fun b z => absurd rfl z) fun z => absurd rfl z
  | none =>
    refine core (fun b => if b = a then some (.frz { cls := .type "list", data := .seq vs.toArray } (.lst (ns.map V.int))) else none) (fun b => ?_) (.inl (.inr ⟨{ cls := .type "list", data := .seq vs.toArray }, if_pos rfl⟩)) (fun b u z => ?_) (fun b z => ?_) fun _ => hk
    · by_cases hb : b = a
      · exact .inr ⟨_, _, if_pos hb⟩
      · exact .inl (if_neg hb)
    · by_cases hb : b = a
      · have z' := (if_pos hb).symm.trans z
        cases z'
        subst hb
        exact ⟨ha, by rw [List.length_map]; exact hl, vs, _, rv, ha⟩
      · have z' := (if_neg hb).symm.trans z
        cases z'
    · by_cases hb : b = a
      · exact hb
      · exact absurd (if_neg hb) z
end L2
namespace L2
open PySem PySem.Spec PyProof.Rows
abbrev KOf {K : PySem.W.Frag} {h : Heap} (_ : K.In h) : PySem.W.Frag := K
theorem walk_of {l : PySem.W.OpenLaw} {n k : Nat} {q : Program} {loose : List Str} {XP : (Str → Option Value) → Heap → Prop} {YP : World → Heap → Prop} {d : DefRec} {K : Params → PySem.W.Frag} {CX : World → CXT} {sp : World → Sp} {x : Str}
    (hn : l.most = some n) (hn2 : n ≤ sizeLine) (hdf : d.params.defaults = []) (hr : Room k callerA)
    (hY : ∀ (w : World) (h : Heap), YP w h → (K w.params).In h)
    (F : ∀ (w : World) (mg : Str → Option Value) (fa : Addr) (h : Heap), (K w.params).In h → h.Ns mainGlobals mg → mg d.name = some (.ref fa) →
      ∃ fd : FuncData, (∀ (s : Shared) (u : Value), BindsTo s fd ⟨[u], []⟩ [(x, u)]) ∧
        ∀ base : Heap, (K w.params).In base → base.Ns mainGlobals mg → FnOk l.prog w (K w.params) mg base (CX w) k fa fd [x] (sp w))
    (hsp : ∀ (w : World) (H : Hp) (a : Addr) (ns : List Int), ns.length ≤ n → Only H → SqL (K w.params) H a (ns.map V.int) → sp w [.ref a] H (fun v _ => v = .bl true) fun _ _ _ => False)
    (hCX : ∀ (w : World) (H : Hp) (s : Shared) (e : Value) (s' : Shared), CX w [] H s (fun _ _ _ => False) e s' → False) :
    PySem.W.WalkO q loose XP YP l.row.toRowW d [] (fun f vs => PySem.call f vs) := by
  refine Att.attach_call hn hdf fun w s₀ s₁ mg mb fa o pm cd doc a vs ns G Y ho hd hcd hmg hobj hints hlen hg => ?_
  have KX := hY w _ Y
  obtain ⟨fd, hb, hF⟩ := F w mg fa _ KX G.T.g hmg
  exact law_call KX G.T.g G.T.b G.T.builtins G.T.nolimit hg hobj hints (Nat.le_trans hlen hn2) hr hF hb (fun H hO hS => hsp w H a ns hlen hO hS) fun H e s' => hCX w H s₁ e s'
end L2
namespace L2
open PySem PySem.Spec PyProof.Rows
def inClass (s : Stmt) (j : Nat) : Stmt := match s with
  | .ClassDef _ _ _ body _ _ _ _ _ _ _ => body.getD j (.Pass ⟨0, 0, 0, 0⟩)
  | _ => .Pass ⟨0, 0, 0, 0⟩
def defArgs (s : Stmt) : Arguments := match s with
  | .FunctionDef _ a _ _ _ _ _ _ _ _ => a
  | _ => { posonlyargs := [], args := [], vararg := none, kwonlyargs := [], kw_defaults := [], kwarg := none, defaults := [] }
def defBody (s : Stmt) : List Stmt := match s with
  | .FunctionDef _ _ b _ _ _ _ _ _ _ => b
  | _ => []
def defScope (s : Stmt) : Scope := match s with
  | .FunctionDef _ _ _ _ _ _ sc _ _ _ => sc
  | _ => { kind := .function, names := [], isGenerator := false, isCoroutine := false }
abbrev CX0 : CXT := fun _ _ _ _ _ _ => False
abbrev E0 : XK := fun _ _ _ => False
theorem pass0 {X : Cx} : Passes CX0 X E0 := fun _ _ _ _ _ _ _ h => h.elim
structure Fun (K : PySem.W.Frag) (x qual : Str) (st : Stmt) (f : Addr) (fd : FuncData) : Prop where
  ex : ∃ (oc : Value) (od : Option Addr) (kV doc pm : Value) (an : Option Addr) (cdv ct : Value) (osl : Array (Option Value)),
    fd = PySem.W.fnOf x qual (defArgs st) (defBody st) (defScope st) .none kV doc pm an cdv ct ∧ K.lookup f = some ⟨oc, od, .func fd, osl⟩ ∧ PySem.W.codeIn K cdv qual = true
  kp : PySem.W.keepIn K (.ref f) = true
section
variable {P : Program} {w : World} {K : PySem.W.Frag} {mg : Str → Option Value} {base : Heap}
theorem Fun.ok {x qual : Str} {st : Stmt} {f : Addr} {fd : FuncData} {N ps : List Str} {k : Nat} {sp : Sp} (F : Fun K x qual st f fd) (S : FnScope N ps (defScope st)) (len : ∀ vs H Q E, sp vs H Q E → vs.length = ps.length)
    (hbody : ∀ (cdv : Value) (A : Around) (outer : List Env) (s : Shared) (H : Hp) (vs : List V) (Q : VK) (E : XK), Room k (A.deeper (envOfC qual (defScope st) s.heap.objs.size f cdv)) → sp vs H Q E →
      ∃ t, PSs (cxOf CX0 P w K mg base N qual (defScope st) f cdv A outer s H E).nox (defBody st) t ∧ t { nx := fun _ H' => Q .non H', rt := Q } (start N vs) H) : FnOk P w K mg base CX0 (k + 1) f fd ps sp := by
  obtain ⟨oc, od, kV, doc, pm, an, cdv, ct, osl, rfl, lk, hcd⟩ := F.ex
  refine fn_of lk hcd S len fun A outer s H vs Q E hr hsp => ?_
  obtain ⟨t, h, q⟩ := hbody cdv A outer s H vs Q E hr hsp
  exact ⟨t, h.nox, q⟩
theorem Fun.binds {x qual : Str} {st : Stmt} {f : Addr} {fd : FuncData} {ps : List Str} (F : Fun K x qual st f fd)
    (h : ∀ (kV doc pm : Value) (an : Option Addr) (cdv ct : Value) (us : List Value), us.length = ps.length → bindArgs (PySem.W.fnOf x qual (defArgs st) (defBody st) (defScope st) .none kV doc pm an cdv ct) ⟨us, []⟩ = pure (ps.zip us)) : Binds K fd ps [] := by
  obtain ⟨oc, od, kV, doc, pm, an, cdv, ct, osl, rfl, lk, hcd⟩ := F.ex
  exact .all (h kV doc pm an cdv ct)
theorem fun_mk {x qual : Str} {st : Stmt} {f : Addr} {oc : Value} {od an : Option Addr} {osl : Array (Option Value)} {kV doc pm cdv ct : Value} (l : K.lookup f = some ⟨oc, od, .func (PySem.W.fnOf x qual (defArgs st) (defBody st) (defScope st) .none kV doc pm an cdv ct), osl⟩)
    (c : PySem.W.codeIn K cdv qual = true) (k : PySem.W.keepIn K (.ref f) = true) : Fun K x qual st f (PySem.W.fnOf x qual (defArgs st) (defBody st) (defScope st) .none kV doc pm an cdv ct) := ⟨⟨oc, od, kV, doc, pm, an, cdv, ct, osl, rfl, l, c⟩, k⟩
end
section
variable {X : Cx}
end
theorem iteF {A B : Prop} (h : B) : if false = true then A else B := by
  rw [if_neg Bool.false_ne_true]
  exact h
theorem iteT {A B : Prop} (h : A) : if true = true then A else B := by
  rw [if_pos rfl]
  exact h
def Same (H H' : Hp) : Prop := ∀ b o, H b = some o → H' b = some o
theorem Same.refl (H : Hp) : Same H H := fun _ _ h => h
theorem Same.trans {H H1 H2 : Hp} (a : Same H H1) (b : Same H1 H2) : Same H H2 := fun c o h => b c o (a c o h)
theorem Same.free {H H' : Hp} (e : Same H H') {l : Addr} (h : H' l = Option.none) : H l = Option.none := by
  cases q : H l with
  | none => rfl
  | some o =>
    rw [e l o q] at h
    cases h
theorem Same.seq {K : PySem.W.Frag} {H H' : Hp} {a : Addr} {xs : List V} (e : Same H H') (h : SqL K H a xs) : SqL K H' a xs := by
  rcases h with (h | ⟨o, h⟩) | h
  · exact .inl (.inl (e _ _ h))
  · exact .inl (.inr ⟨o, e _ _ h⟩)
  · exact .inr h
end L2
set_option Elab.async false
set_option linter.all false
set_option maxRecDepth 100000
namespace DL
open PySem PySem.Spec PyProof.Rows L2
inductive D where
  | non | bl (b : Bool) | int (i : Int) | str (x : Str) | tup (xs : List D) | lst (xs : List D) | scr (xs : List D) | ptr (n : Nat) | ty (n : String) | fn (a : Addr) | dct (ks : List Key) (xs : List D)
structure Wd where
  g : Hp
  l : List Addr
structure Ext (G G' : Wd) : Prop where
  g : Same G.g G'.g
  l : ∃ t, G'.l = G.l ++ t
theorem Ext.refl (G : Wd) : Ext G G := ⟨Same.refl _, [], (List.append_nil _).symm⟩
theorem Ext.trans {G G' G'' : Wd} (a : Ext G G') (b : Ext G' G'') : Ext G G'' := ⟨a.g.trans b.g, by
  obtain ⟨t, e⟩ := a.l; obtain ⟨u, e'⟩ := b.l; exact ⟨t ++ u, by rw [e', e, List.append_assoc]⟩⟩
theorem Ext.at {G G' : Wd} {n : Nat} {a : Addr} (e : Ext G G') (h : G.l[n]? = some a) : G'.l[n]? = some a := by
  obtain ⟨t, e⟩ := e.l
  rw [e, List.getElem?_append_left (List.getElem?_eq_some_iff.mp h).1, h]
mutual
inductive Is (K : PySem.W.Frag) (G : Wd) : D → V → Prop
  | non : Is K G .non .non
  | bl (b : Bool) : Is K G (.bl b) (.bl b)
  | int (i : Int) : Is K G (.int i) (.int i)
  | str (x : Str) : Is K G (.str x) (.str x)
  | tup {a : Addr} {ds : List D} {vs : List V} (h : SqT K G.g a vs) (r : Iss K G ds vs) : Is K G (.tup ds) (.ref a)
  | lst {a : Addr} {ds : List D} {vs : List V} (h : G.g a = some (.lst vs)) (r : Iss K G ds vs) : Is K G (.lst ds) (.ref a)
  | scr {a : Addr} {ds : List D} {vs : List V} (h : SqL K G.g a vs) (r : Iss K G ds vs) : Is K G (.scr ds) (.ref a)
  | ptr {a : Addr} (n : Nat) (h : G.l[n]? = some a) : Is K G (.ptr n) (.ref a)
  | ty (n : String) : Is K G (.ty n) (.ty n)
  | fn (a : Addr) : Is K G (.fn a) (.ref a)
  | dct {a : Addr} {ks : List Key} {ds : List D} {vs : List V} (h : Rd G.g a (.dK (ks.zip vs))) (hl : ks.length = vs.length) (r : Iss K G ds vs) : Is K G (.dct ks ds) (.ref a)
inductive Iss (K : PySem.W.Frag) (G : Wd) : List D → List V → Prop
  | nil : Iss K G [] []
  | cons {d : D} {v : V} {ds : List D} {vs : List V} (h : Is K G d v) (r : Iss K G ds vs) : Iss K G (d :: ds) (v :: vs)
end
theorem sqT_same {K : PySem.W.Frag} {H H' : Hp} {a : Addr} {xs : List V} (e : Same H H') (h : SqT K H a xs) : SqT K H' a xs := by
  rcases h with (h | ⟨o, h⟩) | h
  · exact .inl (.inl (e _ _ h))
  · exact .inl (.inr ⟨o, e _ _ h⟩)
  · exact .inr h
theorem rd_same {H H' : Hp} {a : Addr} {u : HO} (e : Same H H') (h : Rd H a u) : Rd H' a u := by
  rcases h with h | ⟨o, h⟩
  · exact .inl (e _ _ h)
  · exact .inr ⟨o, e _ _ h⟩
mutual
theorem Is.ext {K : PySem.W.Frag} {G G' : Wd} (e : Ext G G') : ∀ {d : D} {v : V}, Is K G d v → Is K G' d v
  | _, _, .non => .non
  | _, _, .bl b => .bl b
  | _, _, .int i => .int i
  | _, _, .str x => .str x
  | _, _, .tup h r => .tup (sqT_same e.g h) (Iss.ext e r)
  | _, _, .lst h r => .lst (e.g _ _ h) (Iss.ext e r)
  | _, _, .scr h r => .scr (e.g.seq h) (Iss.ext e r)
  | _, _, .ptr n h => .ptr n (e.at h)
  | _, _, .ty n => .ty n
  | _, _, .fn n => .fn n
  | _, _, .dct h hl r => .dct (rd_same e.g h) hl (Iss.ext e r)
theorem Iss.ext {K : PySem.W.Frag} {G G' : Wd} (e : Ext G G') : ∀ {ds : List D} {vs : List V}, Iss K G ds vs → Iss K G' ds vs
  | _, _, .nil => .nil
  | _, _, .cons h r => .cons (Is.ext e h) (Iss.ext e r)
end
section
variable {K : PySem.W.Frag} {G G' : Wd}
theorem Iss.length : ∀ {ds : List D} {vs : List V}, Iss K G ds vs → ds.length = vs.length
  | _, _, .nil => rfl
  | _, _, .cons _ r => by rw [List.length_cons, List.length_cons, r.length]
theorem Iss.append : ∀ {ds es : List D} {vs us : List V}, Iss K G ds vs → Iss K G es us → Iss K G (ds ++ es) (vs ++ us)
  | _, _, _, _, .nil, q => q
  | _, _, _, _, .cons h r, q => .cons h (Iss.append r q)
theorem Iss.get : ∀ {ds : List D} {vs : List V} {i : Nat} {d : D}, Iss K G ds vs → ds[i]? = some d → ∃ v, vs[i]? = some v ∧ Is K G d v
  | _, _, _, _, .nil, e => by simp at e
  | _, _, 0, _, .cons h r, e => by simp at e; subst e; exact ⟨_, rfl, h⟩
  | _, _, i + 1, d, .cons h r, e => by
    obtain ⟨v, e1, h1⟩ := Iss.get (i := i) (d := d) r (by simpa using e)
    exact ⟨v, by simpa using e1, h1⟩
theorem Iss.getV : ∀ {ds : List D} {vs : List V} {i : Nat} {v : V}, Iss K G ds vs → vs[i]? = some v → ∃ d, ds[i]? = some d ∧ Is K G d v
  | _, _, _, _, .nil, e => by simp at e
  | _, _, 0, _, .cons h r, e => by simp at e; subst e; exact ⟨_, rfl, h⟩
  | _, _, i + 1, d, .cons h r, e => by
    obtain ⟨v, e1, h1⟩ := Iss.getV (i := i) (v := d) r (by simpa using e)
    exact ⟨v, by simpa using e1, h1⟩
theorem Iss.take : ∀ {ds : List D} {vs : List V} (n : Nat), Iss K G ds vs → Iss K G (ds.take n) (vs.take n)
  | _, _, 0, _ => .nil
  | _, _, _ + 1, .nil => .nil
  | _, _, n + 1, .cons h r => .cons h (Iss.take n r)
theorem Iss.drop : ∀ {ds : List D} {vs : List V} (n : Nat), Iss K G ds vs → Iss K G (ds.drop n) (vs.drop n)
  | _, _, 0, h => h
  | _, _, _ + 1, .nil => .nil
  | _, _, n + 1, .cons h r => Iss.drop n r
theorem Iss.reverse {ds : List D} {vs : List V} (h : Iss K G ds vs) : Iss K G ds.reverse vs.reverse := by
  induction ds generalizing vs with
  | nil => cases h; exact .nil
  | cons d ds ih =>
    cases h with
    | cons h r =>
      rw [List.reverse_cons, List.reverse_cons]
      exact (ih r).append (.cons h .nil)
theorem Iss.ints : ∀ {ns : List Int}, Iss K G (ns.map D.int) (ns.map V.int)
  | [] => .nil
  | n :: ns => .cons (.int n) (Iss.ints (ns := ns))
theorem Iss.toInts : ∀ {ns : List Int} {vs : List V}, Iss K G (ns.map D.int) vs → vs = ns.map V.int
  | [], _, .nil => rfl
  | n :: ns, _, .cons h r => by cases h; rw [Iss.toInts r]; rfl
end
inductive MO where
  | lst (xs : List D)
  | ins (C : Addr) (fs : List (Str × D))
  
  | exc (C : Addr) (fs : List (Str × D))
  
  | dct (ks : List Key) (xs : List D)
abbrev Sto := List (Option MO)
inductive FsIs (K : PySem.W.Frag) (G : Wd) : List (Str × D) → List (Str × V) → Prop
  | nil : FsIs K G [] []
  | cons {f : Str} {d : D} {v : V} {fs : List (Str × D)} {vs : List (Str × V)} (h : Is K G d v) (r : FsIs K G fs vs) : FsIs K G ((f, d) :: fs) ((f, v) :: vs)
theorem FsIs.ext {K : PySem.W.Frag} {G G' : Wd} (e : Ext G G') : ∀ {fs : List (Str × D)} {vs : List (Str × V)}, FsIs K G fs vs → FsIs K G' fs vs
  | _, _, .nil => .nil
  | _, _, .cons h r => .cons (h.ext e) (FsIs.ext e r)
def MOk (K : PySem.W.Frag) (G : Wd) (H : Hp) (p : Addr) : MO → Prop
  | .lst xs => ∃ vs, H p = some (.lst vs) ∧ Iss K G xs vs
  | .ins C fs => ∃ dx vs, H p = some (.ins C dx vs) ∧ FsIs K G fs vs
  | .exc C fs => ∃ ob, H p = some (.ext fun h => h.get? p = some ob) ∧ (ob.cls = .ref C ∧ ∃ ws, ob.data = .fields ws) ∧ (fs = [] ∨ ∃ dx vs, ob.dict = some dx ∧ G.g dx = some (.xd vs) ∧ FsIs K G fs vs)
  | .dct ks xs => ∃ vs, H p = some (.dK (ks.zip vs)) ∧ ks.length = vs.length ∧ Iss K G xs vs
structure SA (K : PySem.W.Frag) (G : Wd) (H : Hp) (O : Sto) : Prop where
  sub : Same G.g H
  len : G.l.length = O.length
  nd : G.l.Nodup
  liv : ∀ a ∈ G.l, ∃ o, H a = some o
  mt : ∀ (n : Nat) (m : MO), O[n]? = some (some m) → ∃ a, G.l[n]? = some a ∧ G.g a = none ∧ MOk K G H a m
section
variable {K : PySem.W.Frag} {G G' : Wd} {H H' : Hp} {O : Sto}
theorem MOk.ext {p : Addr} {m : MO} (e : Ext G G') (q : H' p = H p) (h : MOk K G H p m) : MOk K G' H' p m := by
  cases m with
  | lst xs => obtain ⟨vs, h1, h2⟩ := h; exact ⟨vs, by rw [q]; exact h1, h2.ext e⟩
  | ins C fs => obtain ⟨dx, vs, h1, h2⟩ := h; exact ⟨dx, vs, by rw [q]; exact h1, h2.ext e⟩
  | exc C fs =>
    obtain ⟨ob, h1, h2, h3⟩ := h
    refine ⟨ob, by rw [q]; exact h1, h2, h3.imp id ?_⟩
    rintro ⟨dx, vs, a1, a2, a3⟩
    exact ⟨dx, vs, a1, e.g _ _ a2, a3.ext e⟩
  | dct ks xs => obtain ⟨vs, h1, hl, h2⟩ := h; exact ⟨vs, by rw [q]; exact h1, hl, h2.ext e⟩
theorem MOk.some {p : Addr} {m : MO} (h : MOk K G H p m) : ∃ o, H p = some o := by
  cases m with
  | lst xs => obtain ⟨vs, h1, h2⟩ := h; exact ⟨_, h1⟩
  | ins C fs => obtain ⟨dx, vs, h1, h2⟩ := h; exact ⟨_, h1⟩
  | exc C fs => obtain ⟨ob, h1, _⟩ := h; exact ⟨_, h1⟩
  | dct ks xs => obtain ⟨vs, h1, _⟩ := h; exact ⟨_, h1⟩
theorem SA.free {p : Addr} (s : SA K G H O) (h : H p = none) : G.g p = none := s.sub.free h
theorem same_upd {p : Addr} {o : HO} (h : H p = none) : Same H (upd H p o) := fun b u q => by
  rw [upd_ne]; exact q
  rintro rfl; rw [h] at q; cases q
theorem SA.laid {p : Addr} {o : HO} (s : SA K G H O) (h : H p = none) : Ext G ⟨upd G.g p o, G.l⟩ ∧ SA K ⟨upd G.g p o, G.l⟩ (upd H p o) O := by
  have e : Ext G ⟨upd G.g p o, G.l⟩ := ⟨same_upd (s.free h), [], (List.append_nil _).symm⟩
  refine ⟨e, ⟨fun b u q => ?_, s.len, s.nd, fun a ha => let ⟨o, q⟩ := s.liv a ha; ⟨o, same_upd h _ _ q⟩, fun n m hq => ?_⟩⟩
  · by_cases hb : b = p
    · subst hb
      have q : upd G.g b o b = some u := q
      rw [upd_same] at q; rw [upd_same]; exact q
    · have q : upd G.g p o b = some u := q
      rw [upd_ne hb] at q ⊢; exact s.sub b u q
  · obtain ⟨a, h1, h2, h3⟩ := s.mt n m hq
    have ne : a ≠ p := by
      rintro rfl; obtain ⟨o, h4⟩ := h3.some; rw [h] at h4; cases h4
    exact ⟨a, h1, by show upd G.g p o a = none; rw [upd_ne ne]; exact h2, h3.ext e (upd_ne ne)⟩
theorem SA.new {p : Addr} {o : HO} {m : MO} (s : SA K G H O) (h : H p = none) (r : MOk K ⟨G.g, G.l ++ [p]⟩ (upd H p o) p m) : Ext G ⟨G.g, G.l ++ [p]⟩ ∧ SA K ⟨G.g, G.l ++ [p]⟩ (upd H p o) (O ++ [some m]) := by
  have e : Ext G ⟨G.g, G.l ++ [p]⟩ := ⟨Same.refl _, [p], rfl⟩
  have hp : p ∉ G.l := fun z => by obtain ⟨o, q⟩ := s.liv p z; rw [h] at q; cases q
  refine ⟨e, ⟨s.sub.trans (same_upd h), ?_, ?_, ?_, ?_⟩⟩
  · simp [s.len]
  · exact List.nodup_append.mpr ⟨s.nd, List.nodup_cons.mpr ⟨List.not_mem_nil, List.nodup_nil⟩, fun a ha b hb => by
      rw [List.mem_singleton] at hb; subst hb; rintro rfl; exact hp ha⟩
  · intro a ha
    rcases List.mem_append.mp ha with ha | ha
    · obtain ⟨u, q⟩ := s.liv a ha; exact ⟨u, same_upd h _ _ q⟩
    · rw [List.mem_singleton] at ha; subst ha; exact ⟨_, upd_same⟩
  · intro n m' hq
    by_cases hn : n < O.length
    · rw [List.getElem?_append_left hn] at hq
      obtain ⟨a, h1, h2, h3⟩ := s.mt n m' hq
      have ne : a ≠ p := by rintro rfl; exact hp (List.mem_of_getElem? h1)
      exact ⟨a, e.at h1, h2, h3.ext e (upd_ne ne)⟩
    · have e1 : n = O.length := by
        have := (List.getElem?_eq_some_iff.mp hq).1
        rw [List.length_append, List.length_singleton] at this
        omega
      subst e1
      rw [List.getElem?_append_right (Nat.le_refl _), Nat.sub_self] at hq
      cases hq
      exact ⟨p, by show (G.l ++ [p])[O.length]? = _; rw [← s.len, List.getElem?_append_right (Nat.le_refl _), Nat.sub_self]; rfl, s.free h, r⟩
theorem SA.put {n : Nat} {p : Addr} {o : HO} {m m' : MO} (s : SA K G H O) (h : O[n]? = some (some m)) (hp : G.l[n]? = some p) (r : MOk K G (upd H p o) p m') : SA K G (upd H p o) (O.set n (some m')) := by
  obtain ⟨a, h1, h2, h3⟩ := s.mt n m h
  obtain rfl : p = a := Option.some.inj (hp.symm.trans h1)
  refine ⟨fun b u q => ?_, by simp [s.len], s.nd, fun b hb => ?_, fun k m2 hk => ?_⟩
  · rw [upd_ne]; exact s.sub b u q
    rintro rfl; rw [h2] at q; cases q
  · by_cases hbp : b = p
    · subst hbp; exact ⟨_, upd_same⟩
    · obtain ⟨u, q⟩ := s.liv b hb; exact ⟨u, by rw [upd_ne hbp]; exact q⟩
  · by_cases hkn : n = k
    · subst hkn
      rw [List.getElem?_set_self (List.getElem?_eq_some_iff.mp h).1] at hk
      cases hk
      exact ⟨p, hp, h2, r⟩
    · rw [List.getElem?_set_ne hkn] at hk
      obtain ⟨b, g1, g2, g3⟩ := s.mt k m2 hk
      have ne : b ≠ p := by
        rintro rfl
        exact hkn ((List.getElem?_inj (List.getElem?_eq_some_iff.mp hp).1 s.nd).mp (hp.trans g1.symm))
      exact ⟨b, g1, g2, g3.ext (Ext.refl _) (upd_ne ne)⟩
theorem SA.frozen {n : Nat} {xs : List D} (s : SA K G H O) (h : O[n]? = some (some (.lst xs))) : ∃ G' p, Ext G G' ∧ SA K G' H (O.set n none) ∧ G.l[n]? = some p ∧ Is K G' (.lst xs) (.ref p) := by
  obtain ⟨p, hp, g, vs, h1, r⟩ := s.mt n _ h
  have e : Ext G ⟨upd G.g p (.lst vs), G.l⟩ := ⟨same_upd g, [], (List.append_nil _).symm⟩
  refine ⟨⟨upd G.g p (.lst vs), G.l⟩, p, e, ⟨fun b u q => ?_, by simp [s.len], s.nd, s.liv, fun k m hq => ?_⟩, hp, .lst upd_same (r.ext e)⟩
  · by_cases hb : b = p
    · subst hb
      have q : upd G.g b _ b = some u := q
      rw [upd_same] at q; cases q; exact h1
    · have q : upd G.g p _ b = some u := q
      rw [upd_ne hb] at q; exact s.sub b u q
  · by_cases hkn : n = k
    · subst hkn
      rw [List.getElem?_set_self (List.getElem?_eq_some_iff.mp h).1] at hq
      cases hq
    · rw [List.getElem?_set_ne hkn] at hq
      obtain ⟨b, g1, g2, g3⟩ := s.mt k m hq
      have ne : b ≠ p := by
        rintro rfl
        exact hkn ((List.getElem?_inj (List.getElem?_eq_some_iff.mp hp).1 s.nd).mp (hp.trans g1.symm))
      exact ⟨b, g1, by show upd G.g p _ b = none; rw [upd_ne ne]; exact g2, g3.ext e rfl⟩
end
abbrev Rho := List (Option D)
structure EnvR (K : PySem.W.Frag) (G : Wd) (σ : L2.St) (ρ : Rho) : Prop where
  len : σ.length = ρ.length
  get : ∀ (i : Nat) (d : D), ρ[i]? = some (some d) → ∃ v, σ[i]? = some (some v) ∧ Is K G d v
theorem EnvR.ext {K : PySem.W.Frag} {G G' : Wd} {σ : L2.St} {ρ : Rho} (e : Ext G G') (h : EnvR K G σ ρ) : EnvR K G' σ ρ :=
  ⟨h.len, fun i d q => let ⟨v, h1, h2⟩ := h.get i d q; ⟨v, h1, h2.ext e⟩⟩
theorem EnvR.set {K : PySem.W.Frag} {G : Wd} {σ : L2.St} {ρ : Rho} {d : D} {v : V} (i : Nat) (h : EnvR K G σ ρ) (q : Is K G d v) : EnvR K G (σ.set i (some v)) (ρ.set i (some d)) := by
  refine ⟨by simp [h.len], fun j e hj => ?_⟩
  by_cases hij : i = j
  · subst hij
    by_cases hl : i < ρ.length
    · rw [List.getElem?_set_self hl] at hj
      cases hj
      exact ⟨v, List.getElem?_set_self (by rw [h.len]; exact hl), q⟩
    · rw [List.getElem?_eq_none (by simp; omega)] at hj; cases hj
  · rw [List.getElem?_set_ne hij] at hj ⊢
    exact h.get j e hj
def Ev (X : Cx) (ρ : Rho) (O : Sto) (e : Expr) (R : D → Sto → Prop) : Prop :=
  ∀ G, PE X e (fun σ H Q => SA X.K G H O ∧ EnvR X.K G σ ρ ∧ ∀ v d O' G' H', Ext G G' → SA X.K G' H' O' → Is X.K G' d v → R d O' → Q v H')
def EvP (X : Cx) (ρ : Rho) (O : Sto) (e : Expr) (d : D) : Prop :=
  ∀ G, PE X e (fun σ H Q => SA X.K G H O ∧ EnvR X.K G σ ρ ∧ ∀ v G' H', Ext G G' → SA X.K G' H' O → Is X.K G' d v → Q v H')
def EvT (X : Cx) (ρ : Rho) (O : Sto) (e : Expr) (b : Bool) : Prop :=
  ∀ G, PT X e (fun σ H Q => SA X.K G H O ∧ EnvR X.K G σ ρ ∧ ∀ G' H', Ext G G' → SA X.K G' H' O → Q b H')
def EvW (X : Cx) (ρ : Rho) (O : Sto) (e : Expr) (b : Bool) : Prop :=
  ∀ G, PW X e (fun σ H Q => SA X.K G H O ∧ EnvR X.K G σ ρ ∧ ∀ G' H', Ext G G' → SA X.K G' H' O → Q b H')
def EvAs (X : Cx) (ρ : Rho) (O : Sto) (es : List Expr) (R : List D → Sto → Prop) : Prop :=
  ∀ G, PA X es (fun σ H Q => SA X.K G H O ∧ EnvR X.K G σ ρ ∧ ∀ vs ds O' G' H', Ext G G' → SA X.K G' H' O' → Iss X.K G' ds vs → R ds O' → Q vs H')
theorem _root_.L2.PE.imp {X : Cx} {e : Expr} {t u : TE} (h : PE X e t) (k : ∀ σ H Q, u σ H Q → t σ H Q) : PE X e u := fun pins s σ H Q I q => h pins s σ H Q I (k _ _ _ q)
theorem _root_.L2.PT.imp {X : Cx} {e : Expr} {t u : TT} (h : PT X e t) (k : ∀ σ H Q, u σ H Q → t σ H Q) : PT X e u := fun pins s σ H Q I q => h pins s σ H Q I (k _ _ _ q)
theorem _root_.L2.PA.imp {X : Cx} {es : List Expr} {t u : TA} (h : PA X es t) (k : ∀ σ H Q, u σ H Q → t σ H Q) : PA X es u := fun pos pins s σ H Q I q => h pos pins s σ H Q I (k _ _ _ q)
theorem _root_.L2.PS.imp {X : Cx} {e : Stmt} {t u : TS} (h : PS X e t) (k : ∀ D σ H, u D σ H → t D σ H) : PS X e u := fun pins s σ H D I q => h pins s σ H D I (k _ _ _ q)
theorem _root_.L2.PSs.imp {X : Cx} {e : List Stmt} {t u : TS} (h : PSs X e t) (k : ∀ D σ H, u D σ H → t D σ H) : PSs X e u := fun pins s σ H D I q => h pins s σ H D I (k _ _ _ q)
section
variable {X : Cx} {ρ : Rho} {O : Sto} {e a b c : Expr} {d da db : D} {R : D → Sto → Prop} {pos : Pos}
theorem EvP.ev (h : EvP X ρ O e d) (r : R d O) : Ev X ρ O e R := fun G => (h G).imp fun σ H Q ⟨s, n, k⟩ => ⟨s, n, fun v G' H' e1 s' i => k v d O G' H' e1 s' i r⟩
theorem Ev.evp (h : Ev X ρ O e fun d' O' => d' = d ∧ O' = O) : EvP X ρ O e d := fun G => (h G).imp fun σ H Q ⟨s, n, k⟩ => ⟨s, n, fun v d' O' G' H' e1 s' i r => by obtain ⟨rfl, rfl⟩ := r; exact k v G' H' e1 s' i⟩
theorem EvW.t (h : EvW X ρ O e b') : EvT X ρ O e b' := fun G => (h G).pt
theorem ev_var (i : Nat) {x : Str} {p : Pos} (hr : ρ[i]? = some (some d) := by rfl) (hN : X.N[i]? = some x := by rfl) (hv : Vis X.env.scope x := by first | exact Or.inl rfl | exact Or.inr (Or.inl rfl) | exact Or.inr (Or.inr rfl))
    (hd : (x == ("__debug__" : Str)) = false := by decide) (hcd : (x == ("__classdict__" : Str)) = false := by decide) : EvP X ρ O (.Name x p) d := fun G =>
  PE.imp (pe_var hN hv hd hcd) fun σ H Q ⟨s, n, k⟩ => by
    obtain ⟨v, e1, i1⟩ := n.get i d hr
    exact ⟨v, e1, k v G H (Ext.refl _) s i1⟩
theorem ev_int {i : Int} {j : Nat} : EvP X ρ O (.Constant (.int i) j pos) (.int i) := fun G => PE.imp pe_int fun σ H Q ⟨s, n, k⟩ => k _ G H (Ext.refl _) s (.int i)
theorem ev_bl {i : Bool} {j : Nat} : EvP X ρ O (.Constant (.bool i) j pos) (.bl i) := fun G => PE.imp pe_bl fun σ H Q ⟨s, n, k⟩ => k _ G H (Ext.refl _) s (.bl i)
theorem ev_non {j : Nat} : EvP X ρ O (.Constant .none j pos) .non := fun G => PE.imp pe_non fun σ H Q ⟨s, n, k⟩ => k _ G H (Ext.refl _) s .non
def Op2 (X : Cx) (O : Sto) (f : Value → Value → Sem Value) (da db d : D) : Prop :=
  ∀ G, OpR X f (fun v u H Q => SA X.K G H O ∧ Is X.K G da v ∧ Is X.K G db u ∧ ∀ w G' H', Ext G G' → SA X.K G' H' O → Is X.K G' d w → Q w H')
theorem Op2.of {f : Value → Value → Sem Value} {r : R2} (ho : OpR X f r)
    (k : ∀ G v u H Q, SA X.K G H O → Is X.K G da v → Is X.K G db u → (∀ w G' H', Ext G G' → SA X.K G' H' O → Is X.K G' d w → Q w H') → r v u H Q) : Op2 X O f da db d :=
  fun G pins s σ H x y v u Q I rx ry ⟨h1, h2, h3, h4⟩ => ho pins s σ H x y v u Q I rx ry (k G _ _ _ _ h1 h2 h3 h4)
theorem ev_bin {op : Operator} (ha : EvP X ρ O a da) (hb : EvP X ρ O b db) (ho : Op2 X O (binaryOp op) da db d) : EvP X ρ O (.BinOp a op b pos) d := fun G pins s σ H Q I ⟨h1, h2, h3⟩ =>
  wpAny_BinOp (binT (ta := fun σ H Q => SA X.K G H O ∧ EnvR X.K G σ ρ ∧ ∀ v G' H', Ext G G' → SA X.K G' H' O → Is X.K G' da v → Q v H') (ha G)
    (tb := fun σ H Q => ∃ G1 v0, SA X.K G1 H O ∧ EnvR X.K G1 σ ρ ∧ ∀ v G' H', Ext G1 G' → SA X.K G' H' O → Is X.K G' db v → Q v H') (fun pins s σ H Q I ⟨G1, _, q⟩ => hb G1 pins s σ H Q I q) I
    (R := fun x y H2 => ∃ G2, Ext G G2 ∧ SA X.K G2 H2 O ∧ Is X.K G2 da x ∧ Is X.K G2 db y)
    ⟨h1, h2, fun v G1 H1 e1 s1 i1 => ⟨G1, (0 : Nat), s1, h2.ext e1, fun u G2 H2 e2 s2 i2 => ⟨G2, e1.trans e2, s2, i1.ext e2, i2⟩⟩⟩
    fun v u s2 x y H2 I2 rx ry ⟨G2, e2, s2', i1, i2⟩ => ho G2 pins s2 σ H2 x y v u Q I2 rx ry ⟨s2', i1, i2, fun w G3 H3 e3 s3 i3 => h3 w G3 H3 (e2.trans e3) s3 i3⟩)
theorem o_int {f : Value → Value → Sem Value} {g : Int → Int → Int} {i j : Int} (ho : OpR X f (rI0 fun i j => .int (g i j))) : Op2 X O f (.int i) (.int j) (.int (g i j)) :=
  .of ho fun G v u H Q s h1 h2 k => by cases h1; cases h2; exact ⟨i, j, rfl, rfl, k _ G H (Ext.refl _) s (.int _)⟩
theorem o_intC {f : Value → Value → Sem Value} {C : Int → Int → Prop} {g : Int → Int → Int} {i j : Int} (ho : OpR X f (rI C fun i j => .int (g i j))) (hc : C i j) : Op2 X O f (.int i) (.int j) (.int (g i j)) :=
  .of ho fun G v u H Q s h1 h2 k => by cases h1; cases h2; exact ⟨i, j, rfl, rfl, hc, k _ G H (Ext.refl _) s (.int _)⟩
theorem o_intB {f : Value → Value → Sem Value} {g : Int → Int → Bool} {i j : Int} (ho : OpR X f (rI0 fun i j => .bl (g i j))) : Op2 X O f (.int i) (.int j) (.bl (g i j)) :=
  .of ho fun G v u H Q s h1 h2 k => by cases h1; cases h2; exact ⟨i, j, rfl, rfl, k _ G H (Ext.refl _) s (.bl _)⟩
theorem o_add {i j : Int} : Op2 X O (binaryOp .Add) (.int i) (.int j) (.int (i + j)) := o_int op_add
theorem o_sub {i j : Int} : Op2 X O (binaryOp .Sub) (.int i) (.int j) (.int (i - j)) := o_int op_sub
theorem op_mulG : OpR X (binaryOp .Mult) (rI IntMulOk fun i j => .int (i * j)) := opI fun _ _ _ _ _ _ _ hc q => mul_int q hc
theorem o_mul {i j : Int} (h : IntMulOk i j) : Op2 X O (binaryOp .Mult) (.int i) (.int j) (.int (i * j)) := o_intC op_mulG h
theorem o_div {i j : Int} (h : CDiv i j) : Op2 X O (binaryOp .FloorDiv) (.int i) (.int j) (.int (i / j)) := o_intC op_fdiv h
theorem o_mod {i j : Int} (h : 0 < j) : Op2 X O (binaryOp .Mod) (.int i) (.int j) (.int (i % j)) := o_intC (C := fun _ j => 0 < j) op_mod h
theorem cmp_lt {i j : Int} : Op2 X O (compareOp .Lt) (.int i) (.int j) (.bl (decide (i < j))) := o_intB op_lt
theorem cmp_le {i j : Int} : Op2 X O (compareOp .LtE) (.int i) (.int j) (.bl (decide (i ≤ j))) := o_intB op_le
theorem cmp_gt {i j : Int} : Op2 X O (compareOp .Gt) (.int i) (.int j) (.bl (decide (j < i))) := o_intB op_gt
theorem dec_V {i j : Int} : decide (V.int i = V.int j) = decide (i = j) := by
  by_cases h : i = j
  · subst h; rw [decide_eq_true rfl, decide_eq_true rfl]
  · rw [decide_eq_false h, decide_eq_false]; intro z; injection z with z; exact h z
theorem cmp_eqI {i j : Int} : Op2 X O (compareOp .Eq) (.int i) (.int j) (.bl (decide (i = j))) :=
  .of op_eq fun G v u H Q s h1 h2 k => by cases h1; cases h2; exact ⟨rfl, by rw [dec_V]; exact k _ G H (Ext.refl _) s (.bl _)⟩
theorem cmp_neI {i j : Int} : Op2 X O (compareOp .NotEq) (.int i) (.int j) (.bl (!decide (i = j))) :=
  .of op_ne fun G v u H Q s h1 h2 k => by cases h1; cases h2; exact ⟨rfl, by rw [dec_V]; exact k _ G H (Ext.refl _) s (.bl _)⟩
def isN : D → Bool
  | .non => true
  | _ => false
theorem isN_of {K : PySem.W.Frag} {G : Wd} {v : V} (h : Is K G d v) : decide (v = V.non) = isN d := by
  cases h <;> first | rfl | exact decide_eq_false (fun z => by cases z)
theorem cmp_is : Op2 X O (compareOp .Is) da .non (.bl (isN da)) :=
  .of op_isN fun G v u H Q s h1 h2 k => by cases h2; exact ⟨rfl, by rw [isN_of h1]; exact k _ G H (Ext.refl _) s (.bl _)⟩
theorem cmp_isnot : Op2 X O (compareOp .IsNot) da .non (.bl (!isN da)) :=
  .of op_notN fun G v u H Q s h1 h2 k => by cases h2; exact ⟨rfl, by rw [isN_of h1]; exact k _ G H (Ext.refl _) s (.bl _)⟩
theorem ev_cmp {op : CmpOp} (ha : EvP X ρ O a da) (hb : EvP X ρ O b db) (ho : Op2 X O (compareOp op) da db d) (hm : behindInMarks op b = false := by first | exact nomark _ | (with_unfolding_all rfl)) : EvP X ρ O (.Compare a [op] [b] pos) d := fun G pins s σ H Q I ⟨h1, h2, h3⟩ =>
  wpAny_Compare1 (binT (ta := fun σ H Q => SA X.K G H O ∧ EnvR X.K G σ ρ ∧ ∀ v G' H', Ext G G' → SA X.K G' H' O → Is X.K G' da v → Q v H') (ha G)
    (tb := fun σ H Q => ∃ G1 v0, SA X.K G1 H O ∧ EnvR X.K G1 σ ρ ∧ ∀ v G' H', Ext G1 G' → SA X.K G' H' O → Is X.K G' db v → Q v H') (fun pins s σ H Q I ⟨G1, _, q⟩ => hb G1 pins s σ H Q I q) I
    (R := fun x y H2 => ∃ G2, Ext G G2 ∧ SA X.K G2 H2 O ∧ Is X.K G2 da x ∧ Is X.K G2 db y)
    ⟨h1, h2, fun v G1 H1 e1 s1 i1 => ⟨G1, (0 : Nat), s1, h2.ext e1, fun u G2 H2 e2 s2 i2 => ⟨G2, e1.trans e2, s2, i1.ext e2, i2⟩⟩⟩
    fun v u s2 x y H2 I2 rx ry ⟨G2, e2, s2', i1, i2⟩ => ho G2 pins s2 σ H2 x y v u Q I2 rx ry ⟨s2', i1, i2, fun w G3 H3 e3 s3 i3 => h3 w G3 H3 (e2.trans e3) s3 i3⟩) hm
theorem et_cmp {op : CmpOp} {k : Bool} (ha : EvP X ρ O a da) (hb : EvP X ρ O b db) (ho : Op2 X O (compareOp op) da db (.bl k)) (hm : behindInMarks op b = false := by first | exact nomark _ | (with_unfolding_all rfl)) : EvT X ρ O (.Compare a [op] [b] pos) k := fun G pins s σ H Q I ⟨h1, h2, h3⟩ => by
  refine wpAny_isTrue_Compare1 (thn (ha G pins s σ H _ I ⟨h1, h2, fun v G1 H1 e1 s1 i1 => (⟨G1, e1, s1, i1⟩ : ∃ G1, Ext G G1 ∧ SA X.K G1 H1 O ∧ Is X.K G1 da v)⟩) fun v s1 ⟨x, H1, I1, r1, G1, e1, sa1, i1⟩ =>
    thn (hb G1 pins s1 σ H1 _ I1 ⟨sa1, h2.ext e1, fun u G2 H2 e2 s2 i2 => (⟨G2, e2, s2, i2⟩ : ∃ G2, Ext G1 G2 ∧ SA X.K G2 H2 O ∧ Is X.K G2 db u)⟩) fun u s2 ⟨y, H2, I2, r2, G2, e2, sa2, i2⟩ =>
    thn (ho G2 pins s2 σ H2 x y v u _ I2 r1 r2 ⟨sa2, i1.ext e2, i2, fun w G3 H3 e3 s3 i3 => (⟨G3, e3, s3, i3⟩ : ∃ G3, Ext G2 G3 ∧ SA X.K G3 H3 O ∧ Is X.K G3 (.bl k) w)⟩) fun c s3 ⟨z, H3, I3, r3, G3, e3, sa3, i3⟩ => ?_) hm
  cases i3
  cases r3
  exact wpAny_truthy_bool ⟨H3, I3, h3 G3 H3 ((e1.trans e2).trans e3) sa3⟩
theorem et_bl {k : Bool} (ha : EvP X ρ O a (.bl k)) (he : ∀ whole, isTrue a X.env whole = (do let v ← whole; standAt a.pos; holding [v] (truthy v)) := by intro _; rfl) : EvT X ρ O a k := fun G =>
  (pt_truth (ha G) he).imp fun σ H Q ⟨h1, h2, h3⟩ => ⟨h1, h2, fun v G' H' e1 s1 i1 => by cases i1; exact ⟨k, rfl, h3 G' H' e1 s1⟩⟩
theorem et_not {k : Bool} (ha : EvT X ρ O a k) : EvT X ρ O (.UnaryOp .Not a pos) (!k) := fun G =>
  (pt_not (ha G)).imp fun σ H Q ⟨h1, h2, h3⟩ => ⟨h1, h2, fun G' H' e1 s1 => h3 G' H' e1 s1⟩
theorem ew_and1 {k : Bool} (ha : EvT X ρ O a k) : EvW X ρ O (.BoolOp .And [a] pos) k := fun G => pw_and1 (ha G)
theorem ew_or1 {k : Bool} (ha : EvT X ρ O a k) : EvW X ρ O (.BoolOp .Or [a] pos) k := fun G => pw_or1 (ha G)
theorem ew_and {k l : Bool} {rest : List Expr} (ha : EvT X ρ O a k) (hb : k = true → EvW X ρ O (.BoolOp .And (b :: rest) pos) l) : EvW X ρ O (.BoolOp .And (a :: b :: rest) pos) (k && l) := fun G wh pins s σ H Q I ⟨h1, h2, h3⟩ => by
  refine isTrue_and (thn (ha G pins s σ H (fun c H1 => c = k ∧ ∃ G1, Ext G G1 ∧ SA X.K G1 H1 O) I ⟨h1, h2, fun G1 H1 e1 s1 => ⟨rfl, G1, e1, s1⟩⟩) ?_)
  rintro c s1 ⟨H1, I1, rfl, G1, e1, sa1⟩
  cases c with
  | false => exact ⟨H1, I1, h3 G1 H1 e1 sa1⟩
  | true => exact hb rfl G1 wh pins s1 σ H1 Q I1 ⟨sa1, h2.ext e1, fun G2 H2 e2 s2 => h3 G2 H2 (e1.trans e2) s2⟩
theorem ew_or {k l : Bool} {rest : List Expr} (ha : EvT X ρ O a k) (hb : k = false → EvW X ρ O (.BoolOp .Or (b :: rest) pos) l) : EvW X ρ O (.BoolOp .Or (a :: b :: rest) pos) (k || l) := fun G wh pins s σ H Q I ⟨h1, h2, h3⟩ => by
  refine isTrue_or (thn (ha G pins s σ H (fun c H1 => c = k ∧ ∃ G1, Ext G G1 ∧ SA X.K G1 H1 O) I ⟨h1, h2, fun G1 H1 e1 s1 => ⟨rfl, G1, e1, s1⟩⟩) ?_)
  rintro c s1 ⟨H1, I1, rfl, G1, e1, sa1⟩
  cases c with
  | true => exact ⟨H1, I1, h3 G1 H1 e1 sa1⟩
  | false => exact hb rfl G1 wh pins s1 σ H1 Q I1 ⟨sa1, h2.ext e1, fun G2 H2 e2 s2 => h3 G2 H2 (e1.trans e2) s2⟩
theorem ev_one {op : BoolOp} (ha : EvP X ρ O a d) : EvP X ρ O (.BoolOp op [a] pos) d := fun G => pe_one (ha G)
theorem ev_and {k l : Bool} {rest : List Expr} (ha : EvP X ρ O a (.bl k)) (hb : k = true → EvP X ρ O (.BoolOp .And (b :: rest) pos) (.bl l)) : EvP X ρ O (.BoolOp .And (a :: b :: rest) pos) (.bl (k && l)) := fun G pins s σ H Q I ⟨h1, h2, h3⟩ => by
  refine BoolOp_and (thn (ha G pins s σ H (fun v H1 => ∃ G1, Ext G G1 ∧ SA X.K G1 H1 O ∧ Is X.K G1 (.bl k) v) I ⟨h1, h2, fun v G1 H1 e1 s1 i1 => ⟨G1, e1, s1, i1⟩⟩) ?_)
  rintro v s1 ⟨x, H1, I1, r1, G1, e1, sa1, i1⟩
  cases i1
  cases r1
  refine wpAny_truthy_bool ?_
  cases k with
  | false => exact ⟨.bl false, H1, I1, rfl, h3 _ G1 H1 e1 sa1 (.bl _)⟩
  | true => exact hb rfl G1 pins s1 σ H1 Q I1 ⟨sa1, h2.ext e1, fun w G2 H2 e2 s2 i2 => h3 w G2 H2 (e1.trans e2) s2 i2⟩
end
end DL
set_option Elab.async false
set_option linter.all false
set_option maxRecDepth 100000
namespace DL
open PySem PySem.Spec PyProof.Rows L2
def LV (O : Sto) (d : D) (xs : List D) : Prop := d = .lst xs ∨ d = .scr xs ∨ ∃ n, d = .ptr n ∧ O[n]? = some (some (.lst xs))
def LT (O : Sto) (d : D) (xs : List D) : Prop := LV O d xs ∨ d = .tup xs
theorem LV.sq {K : PySem.W.Frag} {G : Wd} {H : Hp} {O : Sto} {d : D} {xs : List D} {v : V} (h : LV O d xs) (s : SA K G H O) (i : Is K G d v) : ∃ a vs, v = .ref a ∧ SqL K H a vs ∧ Iss K G xs vs := by
  rcases h with rfl | rfl | ⟨p, rfl, h⟩
  · cases i with | lst h r => exact ⟨_, _, rfl, SqL.of (s.sub _ _ h), r⟩
  · cases i with | scr h r => exact ⟨_, _, rfl, s.sub.seq h, r⟩
  · cases i with
    | ptr _ q =>
      obtain ⟨a, e, _, vs, h1, h2⟩ := s.mt p _ h
      obtain rfl := Option.some.inj (q.symm.trans e)
      exact ⟨_, vs, rfl, SqL.of h1, h2⟩
theorem tup_sq {K : PySem.W.Frag} {G : Wd} {H : Hp} {O : Sto} {xs : List D} {v : V} (s : SA K G H O) (i : Is K G (.tup xs) v) : ∃ a vs, v = .ref a ∧ SqT K H a vs ∧ Iss K G xs vs := by
  cases i with | tup h r => exact ⟨_, _, rfl, sqT_same s.sub h, r⟩
def EvPs (X : Cx) (ρ : Rho) (O : Sto) (es : List Expr) (ds : List D) : Prop :=
  ∀ G, PA X es (fun σ H Q => SA X.K G H O ∧ EnvR X.K G σ ρ ∧ ∀ vs G' H', Ext G G' → SA X.K G' H' O → Iss X.K G' ds vs → Q vs H')
section
variable {X : Cx} {ρ : Rho} {O : Sto} {e a b c : Expr} {es : List Expr} {d da db : D} {ds : List D} {R : D → Sto → Prop} {pos p : Pos} {x : Str}
theorem es_nil : EvPs X ρ O [] [] := fun G => PA.imp pa_nil fun σ H Q ⟨h1, h2, h3⟩ => h3 _ G H (Ext.refl _) h1 .nil
theorem es_cons (he : EvP X ρ O e d) (hs : EvPs X ρ O es ds) (hst : starEach (e :: es) X.env = (false, eval e X.env) :: starEach es X.env := by rfl) : EvPs X ρ O (e :: es) (d :: ds) := fun G =>
  PA.imp (pa_cons (he G) (t := fun σ H Q => ∃ G1, SA X.K G1 H O ∧ EnvR X.K G1 σ ρ ∧ ∀ vs G' H', Ext G1 G' → SA X.K G' H' O → Iss X.K G' ds vs → Q vs H') (fun pos pins s σ H Q I ⟨G1, q⟩ => hs G1 pos pins s σ H Q I q) hst)
    fun σ H Q ⟨h1, h2, h3⟩ => ⟨h1, h2, fun v G1 H1 e1 s1 i1 => ⟨G1, s1, h2.ext e1, fun vs G2 H2 e2 s2 i2 => h3 _ G2 H2 (e1.trans e2) s2 (.cons (i1.ext e2) i2)⟩⟩
theorem EvPs.as {R : List D → Sto → Prop} (h : EvPs X ρ O es ds) (r : R ds O) : EvAs X ρ O es R := fun G => PA.imp (h G) fun σ H Q ⟨h1, h2, h3⟩ => ⟨h1, h2, fun vs G' H' e1 s1 i1 => h3 vs ds O G' H' e1 s1 i1 r⟩
theorem ev_tup {x1 : Nat} (h : EvPs X ρ O es ds) (hz : ds.length ≤ sizeLine := by exact Nat.le_of_ble_eq_true rfl) : EvP X ρ O (.Tuple es x1 pos) (.tup ds) := fun G =>
  PE.imp (pe_tup (h G)) fun σ H Q ⟨h1, h2, h3⟩ => ⟨h1, h2, fun vs G1 H1 e1 s1 i1 => ⟨by rw [← i1.length]; exact hz, fun p hp => by
    obtain ⟨e2, s2⟩ := s1.laid (o := .tup vs) hp
    exact h3 _ _ _ (e1.trans e2) s2 (.tup (SqT.of upd_same) (i1.ext e2))⟩⟩
theorem ev_lst (h : EvPs X ρ O es ds) (hz : ds.length ≤ sizeLine := by exact Nat.le_of_ble_eq_true rfl) : EvP X ρ O (.List es pos) (.lst ds) := fun G =>
  PE.imp (pe_lst (h G)) fun σ H Q ⟨h1, h2, h3⟩ => ⟨h1, h2, fun vs G1 H1 e1 s1 i1 => ⟨by rw [← i1.length]; exact hz, fun p hp => by
    obtain ⟨e2, s2⟩ := s1.laid (o := .lst vs) hp
    exact h3 _ _ _ (e1.trans e2) s2 (.lst upd_same (i1.ext e2))⟩⟩
theorem ev_lstM (h : EvPs X ρ O es ds) (k : R (.ptr O.length) (O ++ [some (.lst ds)])) (hz : ds.length ≤ sizeLine := by exact Nat.le_of_ble_eq_true rfl) : Ev X ρ O (.List es pos) R := fun G =>
  PE.imp (pe_lst (h G)) fun σ H Q ⟨h1, h2, h3⟩ => ⟨h1, h2, fun vs G1 H1 e1 s1 i1 => ⟨by rw [← i1.length]; exact hz, fun p hp => by
    have e : Ext G1 ⟨G1.g, G1.l ++ [p]⟩ := ⟨Same.refl _, [p], rfl⟩
    obtain ⟨e2, s2⟩ := s1.new (m := .lst ds) hp ⟨vs, upd_same, i1.ext e⟩
    refine h3 _ _ _ _ _ (e1.trans e2) s2 (.ptr _ ?_) k
    rw [← s1.len, List.getElem?_append_right (Nat.le_refl _), Nat.sub_self]; rfl⟩⟩
theorem ixN_len {xs : List D} {vs : List V} {K : PySem.W.Frag} {G : Wd} {i : Int} (r : Iss K G xs vs) (h : atI xs i = some d) : ∃ v, atI vs i = some v ∧ Is K G d v := by
  unfold atI at h ⊢
  rw [← r.length]
  cases q : ixN xs.length i with
  | none => rw [q] at h; cases h
  | some j =>
    rw [q] at h
    exact r.get h
theorem ev_ixL {xs : List D} {i : Int} (ha : EvP X ρ O a da) (hl : LV O da xs) (hb : EvP X ρ O b (.int i)) (hi : atI xs i = some d) (hs : PlainIx b := by intro _ _; rfl) : EvP X ρ O (.Subscript a b pos) d := fun G pins s σ H Q I ⟨h1, h2, h3⟩ =>
  Subscript_ (binT (ta := fun σ H Q => SA X.K G H O ∧ EnvR X.K G σ ρ ∧ ∀ v G' H', Ext G G' → SA X.K G' H' O → Is X.K G' da v → Q v H') (ha G)
    (tb := fun σ H Q => ∃ G1, SA X.K G1 H O ∧ EnvR X.K G1 σ ρ ∧ ∀ v G' H', Ext G1 G' → SA X.K G' H' O → Is X.K G' (.int i) v → Q v H') (fun pins s σ H Q I ⟨G1, q⟩ => hb G1 pins s σ H Q I q) I
    (R := fun x y H2 => ∃ G2, Ext G G2 ∧ SA X.K G2 H2 O ∧ Is X.K G2 da x ∧ Is X.K G2 (.int i) y)
    ⟨h1, h2, fun v G1 H1 e1 s1 i1 => ⟨G1, s1, h2.ext e1, fun u G2 H2 e2 s2 i2 => ⟨G2, e1.trans e2, s2, i1.ext e2, i2⟩⟩⟩
    fun v u s2 x y H2 I2 rx ry ⟨G2, e2, s2', i1, i2⟩ => by
      obtain ⟨p, vs, rfl, q, r⟩ := hl.sq s2' i1
      cases i2
      obtain ⟨w, hw, iw⟩ := ixN_len r hi
      exact ix_list a b pins s2 σ H2 _ _ v u Q I2 rx ry ⟨p, vs, i, w, rfl, rfl, q, hw, h3 w G2 H2 e2 s2' iw⟩ (hs _ _))
theorem ev_ixT {xs : List D} {i : Int} (ha : EvP X ρ O a (.tup xs)) (hb : EvP X ρ O b (.int i)) (hi : atI xs i = some d) (hs : PlainIx b := by intro _ _; rfl) : EvP X ρ O (.Subscript a b pos) d := fun G pins s σ H Q I ⟨h1, h2, h3⟩ =>
  Subscript_ (binT (ta := fun σ H Q => SA X.K G H O ∧ EnvR X.K G σ ρ ∧ ∀ v G' H', Ext G G' → SA X.K G' H' O → Is X.K G' (.tup xs) v → Q v H') (ha G)
    (tb := fun σ H Q => ∃ G1, SA X.K G1 H O ∧ EnvR X.K G1 σ ρ ∧ ∀ v G' H', Ext G1 G' → SA X.K G' H' O → Is X.K G' (.int i) v → Q v H') (fun pins s σ H Q I ⟨G1, q⟩ => hb G1 pins s σ H Q I q) I
    (R := fun x y H2 => ∃ G2, Ext G G2 ∧ SA X.K G2 H2 O ∧ Is X.K G2 (.tup xs) x ∧ Is X.K G2 (.int i) y)
    ⟨h1, h2, fun v G1 H1 e1 s1 i1 => ⟨G1, s1, h2.ext e1, fun u G2 H2 e2 s2 i2 => ⟨G2, e1.trans e2, s2, i1.ext e2, i2⟩⟩⟩
    fun v u s2 x y H2 I2 rx ry ⟨G2, e2, s2', i1, i2⟩ => by
      obtain ⟨p, vs, rfl, q, r⟩ := tup_sq s2' i1
      cases i2
      obtain ⟨w, hw, iw⟩ := ixN_len r hi
      exact ix_tup a b pins s2 σ H2 _ _ v u Q I2 rx ry ⟨p, vs, i, w, rfl, rfl, q, hw, h3 w G2 H2 e2 s2' iw⟩ (hs _ _))
def sliceD (xs : List D) (lo hi : Option Int) : List D := (xs.drop (HT.sIx xs.length 0 lo)).take (HT.sIx xs.length xs.length hi - HT.sIx xs.length 0 lo)
theorem cut_is {xs : List D} {vs : List V} {K : PySem.W.Frag} {G : Wd} {lo hi : Option Int} (r : Iss K G xs vs) : Iss K G (sliceD xs lo hi) (cutV vs lo hi) := by
  unfold sliceD cutV
  rw [← r.length]
  exact (r.drop _).take _
def EvO (X : Cx) (ρ : Rho) (O : Sto) (e : Option Expr) (i : Option Int) : Prop :=
  ∀ G, PO X e (fun σ H Q => SA X.K G H O ∧ EnvR X.K G σ ρ ∧ ∀ G' H', Ext G G' → SA X.K G' H' O → Q i H')
theorem _root_.L2.PO.imp {X : Cx} {e : Option Expr} {t u : TO} (h : PO X e t) (k : ∀ σ H Q, u σ H Q → t σ H Q) : PO X e u := fun pins s σ H Q I q => h pins s σ H Q I (k _ _ _ q)
theorem eo_none : EvO X ρ O none none := fun G => PO.imp po_none fun σ H Q ⟨h1, h2, h3⟩ => h3 G H (Ext.refl _) h1
theorem eo_some {i : Int} (h : EvP X ρ O e (.int i)) : EvO X ρ O (some e) (some i) := fun G => PO.imp (po_some (h G)) fun σ H Q ⟨h1, h2, h3⟩ => ⟨h1, h2, fun v G1 H1 e1 s1 i1 => by cases i1; exact ⟨i, rfl, h3 G1 H1 e1 s1⟩⟩
theorem o_cat {xs ys : List D} (hz : xs.length + ys.length ≤ sizeLine) : Op2 X O (binaryOp .Add) (.lst xs) (.lst ys) (.lst (xs ++ ys)) :=
  .of op_cat fun G v u H Q s h1 h2 k => by
    cases h1 with
    | lst g1 r1 =>
      cases h2 with
      | lst g2 r2 =>
        refine ⟨_, _, _, _, rfl, rfl, s.sub _ _ g1, s.sub _ _ g2, by rw [← r1.length, ← r2.length]; exact hz, fun p hp => ?_⟩
        obtain ⟨e4, s4⟩ := s.laid (o := .lst _) hp
        exact k _ _ _ e4 s4 (.lst upd_same ((r1.append r2).ext e4))
def CallD (X : Cx) (O : Sto) (f : Value) (ds : List D) (d : D) : Prop :=
  ∀ G, CallR X f (fun vs H Q => SA X.K G H O ∧ Iss X.K G ds vs ∧ ∀ w G' H', Ext G G' → SA X.K G' H' O → Is X.K G' d w → Q w H')
theorem CallD.of {f : Value} {r : List V → Hp → VK → Prop} (ho : CallR X f r)
    (k : ∀ G vs H Q, SA X.K G H O → Iss X.K G ds vs → (∀ w G' H', Ext G G' → SA X.K G' H' O → Is X.K G' d w → Q w H') → r vs H Q) : CallD X O f ds d :=
  fun G pins s σ H xs us Q I r ⟨h1, h2, h3⟩ => ho pins s σ H xs us Q I r (k G _ _ _ h1 h2 h3)
theorem ev_callB {id : String} (hm : X.mg x = none) (ha : EvPs X ρ O (e :: es) ds) (hc : CallD X O (.builtin id) ds d) (hg : Gl X x := by rfl) (hv : bootBuiltins x = some (.builtin id) := by first | rfl | decide +kernel) (hn : x ≠ "__name__" := by decide) (hdb : (x == ("__debug__" : Str)) = false := by decide)
    (he : starEach (e :: es) X.env = (false, eval e X.env) :: starEach es X.env := by rfl) (hpl : (backTo pos (starEach es X.env)).any (·.1) = false := by rfl) : EvP X ρ O (.Call (.Name x p) (e :: es) [] pos) d := fun G =>
  PE.imp (pe_callB (r := fun vs H Q => ∃ G1, SA X.K G1 H O ∧ Iss X.K G1 ds vs ∧ ∀ w G' H', Ext G1 G' → SA X.K G' H' O → Is X.K G' d w → Q w H') (fun pins s σ H xs us Q I r ⟨G1, q⟩ => hc G1 pins s σ H xs us Q I r q) hg hm hv (ha G) hn hdb he hpl)
    fun σ H Q ⟨h1, h2, h3⟩ => ⟨h1, h2, fun vs G1 H1 e1 s1 i1 => ⟨G1, s1, i1, fun w G2 H2 e2 s2 i2 => h3 w G2 H2 (e1.trans e2) s2 i2⟩⟩
theorem ev_callTy {T : String} (hm : X.mg x = none) (ha : EvPs X ρ O (e :: es) ds) (hc : CallD X O (.type T) ds d) (hg : Gl X x := by rfl) (hv : bootBuiltins x = some (.type T) := by first | rfl | decide +kernel) (hn : x ≠ "__name__" := by decide) (hdb : (x == ("__debug__" : Str)) = false := by decide)
    (he : starEach (e :: es) X.env = (false, eval e X.env) :: starEach es X.env := by rfl) (hpl : (backTo pos (starEach es X.env)).any (·.1) = false := by rfl) : EvP X ρ O (.Call (.Name x p) (e :: es) [] pos) d := fun G =>
  PE.imp (pe_callTy (r := fun vs H Q => ∃ G1, SA X.K G1 H O ∧ Iss X.K G1 ds vs ∧ ∀ w G' H', Ext G1 G' → SA X.K G' H' O → Is X.K G' d w → Q w H') (fun pins s σ H xs us Q I r ⟨G1, q⟩ => hc G1 pins s σ H xs us Q I r q) hg hm hv (ha G) hn hdb he hpl)
    fun σ H Q ⟨h1, h2, h3⟩ => ⟨h1, h2, fun vs G1 H1 e1 s1 i1 => ⟨G1, s1, i1, fun w G2 H2 e2 s2 i2 => h3 w G2 H2 (e1.trans e2) s2 i2⟩⟩
theorem c_len {xs : List D} (h : LT O d xs) : CallD X O (.builtin "len") [d] (.int xs.length) := .of call_len_seq fun G vs H Q s i k => by
  cases i with
  | cons i r =>
    cases r
    rcases h with h | rfl
    · obtain ⟨p, vs, rfl, q, r⟩ := h.sq s i
      exact ⟨p, vs, rfl, .inl q, by rw [← r.length]; exact k _ G H (Ext.refl _) s (.int _)⟩
    · obtain ⟨p, vs, rfl, q, r⟩ := tup_sq s i
      exact ⟨p, vs, rfl, .inr q, by rw [← r.length]; exact k _ G H (Ext.refl _) s (.int _)⟩
theorem c_tuple {xs : List D} (h : LT O d xs) : CallD X O (.type "tuple") [d] (.tup xs) := .of call_tuple_of fun G vs H Q s i k => by
  cases i with
  | cons i r =>
    cases r
    rcases h with h | rfl
    · obtain ⟨p, vs, rfl, q, r⟩ := h.sq s i
      refine ⟨p, vs, rfl, .inl ⟨q, fun l hl => ?_⟩⟩
      obtain ⟨e4, s4⟩ := s.laid (o := .tup vs) hl
      exact k _ _ _ e4 s4 (.tup (SqT.of upd_same) (r.ext e4))
    · obtain ⟨p, vs, rfl, q, r⟩ := tup_sq s i
      exact ⟨p, vs, rfl, .inr ⟨q, k _ G H (Ext.refl _) s i⟩⟩
theorem c_list {xs : List D} (h : LT O d xs) : CallD X O (.type "list") [d] (.lst xs) := .of call_list_of fun G vs H Q s i k => by
  cases i with
  | cons i r =>
    cases r
    rcases h with h | rfl
    · obtain ⟨p, vs, rfl, q, r⟩ := h.sq s i
      refine ⟨p, vs, rfl, .inl q, fun l hl => ?_⟩
      obtain ⟨e4, s4⟩ := s.laid (o := .lst vs) hl
      exact k _ _ _ e4 s4 (.lst upd_same (r.ext e4))
    · obtain ⟨p, vs, rfl, q, r⟩ := tup_sq s i
      refine ⟨p, vs, rfl, .inr q, fun l hl => ?_⟩
      obtain ⟨e4, s4⟩ := s.laid (o := .lst vs) hl
      exact k _ _ _ e4 s4 (.lst upd_same (r.ext e4))
theorem c_abs {i : Int} : CallD X O (.builtin "abs") [.int i] (.int (if i < 0 then -i else i)) := .of call_abs fun G vs H Q s h k => by
  cases h with | cons h r => cases r; cases h; exact ⟨i, rfl, k _ G H (Ext.refl _) s (.int _)⟩
theorem c_max {i j : Int} (hc : X.calm = true := by rfl) : CallD X O (.builtin "max") [.int i, .int j] (.int (if j > i then j else i)) := .of (call_max2 hc) fun G vs H Q s h k => by
  cases h with | cons h r => cases r with | cons h' r => cases r; cases h; cases h'; exact ⟨i, j, rfl, k _ G H (Ext.refl _) s (.int _)⟩
theorem c_min {i j : Int} (hc : X.calm = true := by rfl) : CallD X O (.builtin "min") [.int i, .int j] (.int (if j < i then j else i)) := .of (call_min2 hc) fun G vs H Q s h k => by
  cases h with | cons h r => cases r with | cons h' r => cases r; cases h; cases h'; exact ⟨i, j, rfl, k _ G H (Ext.refl _) s (.int _)⟩
abbrev SpD := List D → Sto → (D → Sto → Prop) → Prop
def toSp (K : PySem.W.Frag) (sp : SpD) : Sp := fun vs H Q _ => ∃ G O ds R, SA K G H O ∧ Iss K G ds vs ∧ sp ds O R ∧ ∀ v d O' G' H', Ext G G' → SA K G' H' O' → Is K G' d v → R d O' → Q v H'
structure DefOk (P : Program) (w : World) (K : PySem.W.Frag) (mg : Str → Option Value) (base : Heap) (k : Nat) (x : Str) (sp : SpD) : Prop where
  ex : ∃ f fd ps, FnOk P w K mg base CX0 k f fd ps (toSp K sp) ∧ mg x = some (.ref f) ∧ PySem.W.keepIn K (.ref f) = true ∧ Binds K fd ps []
theorem ev_callA {k : Nat} {sp : SpD} (F : DefOk X.prog X.w X.K X.mg X.base k x sp) (hr : Room k X.A) (ha : EvAs X ρ O (e :: es) fun ds O1 => sp ds O1 R) (hg : Gl X x := by rfl) (hdb : (x == ("__debug__" : Str)) = false := by decide)
    (he : starEach (e :: es) X.env = (false, eval e X.env) :: starEach es X.env := by rfl) (hpl : (backTo pos (starEach es X.env)).any (·.1) = false := by rfl) : Ev X ρ O (.Call (.Name x p) (e :: es) [] pos) R := fun G => by
  obtain ⟨f, fd, ps, h1, h2, h3, h4⟩ := F.ex
  refine PE.imp (pe_call h1 hr hg h2 h3 h4 .nil pass0 (ha G) hdb he hpl) fun σ H Q ⟨q1, q2, q3⟩ => ⟨q1, q2, fun vs ds O1 G1 H1 e1 s1 i1 r1 => ?_⟩
  show toSp X.K sp (vs ++ []) H1 Q E0
  rw [List.append_nil]
  exact ⟨G1, O1, ds, R, s1, i1, r1, fun v d O' G' H' e2 s2 i2 r2 => q3 v d O' G' H' (e1.trans e2) s2 i2 r2⟩
theorem ev_call {k : Nat} {sp : SpD} (F : DefOk X.prog X.w X.K X.mg X.base k x sp) (hr : Room k X.A) (ha : EvPs X ρ O (e :: es) ds) (hs : sp ds O R) (hg : Gl X x := by rfl) (hdb : (x == ("__debug__" : Str)) = false := by decide)
    (he : starEach (e :: es) X.env = (false, eval e X.env) :: starEach es X.env := by rfl) (hpl : (backTo pos (starEach es X.env)).any (·.1) = false := by rfl) : Ev X ρ O (.Call (.Name x p) (e :: es) [] pos) R :=
  ev_callA F hr (ha.as hs) hg hdb he hpl
def pureSp (f : List D → D → Prop) : SpD := fun ds O R => ∃ d, f ds d ∧ R d O
theorem ev_callP {k : Nat} {f : List D → D → Prop} (F : DefOk X.prog X.w X.K X.mg X.base k x (pureSp f)) (hr : Room k X.A) (ha : EvPs X ρ O (e :: es) ds) (hs : f ds d) (hg : Gl X x := by rfl) (hdb : (x == ("__debug__" : Str)) = false := by decide)
    (he : starEach (e :: es) X.env = (false, eval e X.env) :: starEach es X.env := by rfl) (hpl : (backTo pos (starEach es X.env)).any (·.1) = false := by rfl) : EvP X ρ O (.Call (.Name x p) (e :: es) [] pos) d :=
  (ev_call F hr ha ⟨d, hs, rfl, rfl⟩ hg hdb he hpl).evp
end
structure Post where
  nx : Rho → Sto → Prop
  rt : D → Sto → Prop
  bk : Rho → Sto → Prop := fun _ _ => False
  ct : Rho → Sto → Prop := fun _ _ => False
def Goes (K : PySem.W.Frag) (G : Wd) (N : Rho → Sto → Prop) (n : L2.St → Hp → Prop) : Prop := ∀ σ ρ O G' H, Ext G G' → SA K G' H O → EnvR K G' σ ρ → N ρ O → n σ H
structure Conts (K : PySem.W.Frag) (G : Wd) (P : Post) (E : Ends) : Prop where
  nx : Goes K G P.nx E.nx
  rt : ∀ v d O G' H, Ext G G' → SA K G' H O → Is K G' d v → P.rt d O → E.rt v H
  bk : Goes K G P.bk E.bk
  ct : Goes K G P.ct E.ct
theorem Goes.ext {K : PySem.W.Frag} {G G' : Wd} {N : Rho → Sto → Prop} {n : L2.St → Hp → Prop} (h : Goes K G N n) (e : Ext G G') : Goes K G' N n := fun σ ρ O G2 H e2 => h σ ρ O G2 H (e.trans e2)
theorem Conts.ext {K : PySem.W.Frag} {G G' : Wd} {P : Post} {E : Ends} (h : Conts K G P E) (e : Ext G G') : Conts K G' P E := ⟨h.nx.ext e, fun v d O G2 H e2 => h.rt v d O G2 H (e.trans e2), h.bk.ext e, h.ct.ext e⟩
def Ex (X : Cx) (ρ : Rho) (O : Sto) (st : Stmt) (P : Post) : Prop := ∀ G, PS X st (fun E σ H => SA X.K G H O ∧ EnvR X.K G σ ρ ∧ Conts X.K G P E)
def Exs (X : Cx) (ρ : Rho) (O : Sto) (st : List Stmt) (P : Post) : Prop := ∀ G, PSs X st (fun E σ H => SA X.K G H O ∧ EnvR X.K G σ ρ ∧ Conts X.K G P E)
section
variable {X : Cx} {ρ : Rho} {O : Sto} {e a b c : Expr} {es : List Expr} {d da db : D} {ds : List D} {R : D → Sto → Prop} {pos p : Pos} {x : Str} {st : Stmt} {rest body orelse : List Stmt} {P : Post}
theorem xs_nil (h : P.nx ρ O) : Exs X ρ O [] P := fun G => PSs.imp pss_nil fun E σ H ⟨h1, h2, h3⟩ => h3.nx σ ρ O G H (Ext.refl _) h1 h2 h
theorem xs_cons (h : Ex X ρ O st { P with nx := fun ρ' O' => Exs X ρ' O' rest P }) : Exs X ρ O (st :: rest) P := fun G =>
  PSs.imp (pss_cons (h G) (u := fun E σ H => ∃ G1 ρ1 O1, SA X.K G1 H O1 ∧ EnvR X.K G1 σ ρ1 ∧ Exs X ρ1 O1 rest P ∧ Conts X.K G1 P E) (fun pins s σ H E I ⟨G1, ρ1, O1, q1, q2, q3, q4⟩ => q3 G1 pins s σ H E I ⟨q1, q2, q4⟩)) fun E σ H ⟨h1, h2, h3⟩ =>
    ⟨h1, h2, ⟨fun σ1 ρ1 O1 G1 H1 e1 s1 n1 q1 => ⟨G1, ρ1, O1, s1, n1, q1, h3.ext e1⟩, h3.rt, h3.bk, h3.ct⟩⟩
theorem xs_seq (M : Rho → Sto → Prop) (h : Ex X ρ O st { P with nx := M }) (k : ∀ ρ' O', M ρ' O' → Exs X ρ' O' rest P) : Exs X ρ O (st :: rest) P := xs_cons fun G =>
  PS.imp (h G) fun E σ H ⟨h1, h2, h3⟩ => ⟨h1, h2, ⟨fun σ1 ρ1 O1 G1 H1 e1 s1 n1 q1 => h3.nx σ1 ρ1 O1 G1 H1 e1 s1 n1 (k _ _ q1), h3.rt, h3.bk, h3.ct⟩⟩
theorem x_ret (h : Ev X ρ O e P.rt) : Ex X ρ O (.Return (some e) pos) P := fun G => PS.imp (ps_ret (h G)) fun E σ H ⟨h1, h2, h3⟩ => ⟨h1, h2, fun v d O' G' H' e1 s1 i1 r1 => h3.rt v d O' G' H' e1 s1 i1 r1⟩
theorem x_if {k : Bool} (hc : EvT X ρ O c k) (h1 : k = true → Exs X ρ O body P) (h2 : k = false → Exs X ρ O orelse P) : Ex X ρ O (.If c body orelse pos) P := fun G =>
  PS.imp (ps_if (hc G) (t := fun E σ H => ∃ G1, k = true ∧ SA X.K G1 H O ∧ EnvR X.K G1 σ ρ ∧ Conts X.K G1 P E) (fun pins s σ H E I ⟨G1, z, q⟩ => h1 z G1 pins s σ H E I q)
    (u := fun E σ H => ∃ G1, k = false ∧ SA X.K G1 H O ∧ EnvR X.K G1 σ ρ ∧ Conts X.K G1 P E) (fun pins s σ H E I ⟨G1, z, q⟩ => h2 z G1 pins s σ H E I q)) fun E σ H ⟨q1, q2, q3⟩ =>
    ⟨q1, q2, fun G' H' e1 s1 => by
      cases k with
      | true => exact iteT ⟨G', rfl, s1, q2.ext e1, q3.ext e1⟩
      | false => exact iteF ⟨G', rfl, s1, q2.ext e1, q3.ext e1⟩⟩
def Tg (X : Cx) (tg : Expr) (d : D) (ρ ρ' : Rho) : Prop := ∀ G, PG X tg (fun v σ H Q => Is X.K G d v ∧ Same G.g H ∧ EnvR X.K G σ ρ ∧ ∀ σ', EnvR X.K G σ' ρ' → Q σ' H)
def Tgs (X : Cx) (tg : List Expr) (ds : List D) (ρ ρ' : Rho) : Prop := ∀ G, PGs X tg (fun vs σ H Q => Iss X.K G ds vs ∧ Same G.g H ∧ EnvR X.K G σ ρ ∧ ∀ σ', EnvR X.K G σ' ρ' → Q σ' H)
theorem tg_name (i : Nat) (hN : X.N.Nodup) (hi : X.N[i]? = some x := by rfl) (hx : Loc X.env.scope x := by first | exact Or.inl rfl | exact Or.inr rfl) (hf : X.fn x = true ∨ X.env.scope.names.lookup x = some .local := by first | exact .inl rfl | exact .inr rfl | assumption) : Tg X (.Name x pos) d ρ (ρ.set i (some d)) := fun G pins s σ H v u Q I r ⟨h1, h2, h3, h4⟩ =>
  pg_name hN hi hx hf pins s σ H v u Q I r (h4 _ (h3.set i h1))
theorem tgs_nil : Tgs X [] [] ρ ρ := fun G pins s σ H vs us Q I r ⟨h1, h2, h3, h4⟩ => pgs_nil pins s σ H vs us Q I r ⟨by cases h1; rfl, h4 _ h3⟩
theorem tgs_cons {ρ1 ρ2 : Rho} (h : Tg X e d ρ ρ1) (k : Tgs X es ds ρ1 ρ2) (hs : (assignEach (e :: es) X.env).map (·.2) = assign e X.env :: (assignEach es X.env).map (·.2) := by rfl) : Tgs X (e :: es) (d :: ds) ρ ρ2 := fun G pins s σ H vs us Q I r ⟨h1, h2, h3, h4⟩ => by
  cases h1 with
  | cons i1 i2 =>
    exact pgs_cons (h G) (k G) hs pins s σ H _ us Q I r ⟨_, _, rfl, i1, h2, h3, fun σ' n' => ⟨i2, h2, n', h4⟩⟩
theorem tg_tup {ρ1 : Rho} {k : Nat} (h : Tgs X es ds ρ ρ1) (hc : X.calm = true := by rfl) (hn : (assignEach es X.env).length = ds.length := by rfl) (hst : (assignEach es X.env).findIdx? (·.1) = none := by rfl) : Tg X (.Tuple es k pos) (.tup ds) ρ ρ1 := fun G pins s σ H v u Q I r ⟨h1, h2, h3, h4⟩ => by
  cases h1 with
  | tup q1 q2 =>
    exact pg_tup hc (h G) hn hst pins s σ H _ u Q I r ⟨_, _, rfl, sqT_same h2 q1, by rw [← q2.length], q2, h2, h3, h4⟩
theorem x_set (i : Nat) (he : Ev X ρ O e fun d O' => P.nx (ρ.set i (some d)) O') (hN : X.N.Nodup) (hi : X.N[i]? = some x := by rfl) (hx : Loc X.env.scope x := by first | exact Or.inl rfl | exact Or.inr rfl) {p : Pos}
    (hs : swapsWith e (some (.Name x p)) pos.line X.env = pure false := by rfl) (hf : X.fn x = true ∨ X.env.scope.names.lookup x = some .local := by first | exact .inl rfl | exact .inr rfl | assumption) : Ex X ρ O (.Assign [.Name x p] e pos) P := fun G =>
  PS.imp (ps_set hN hi hx (he G) hs hf) fun E σ H ⟨h1, h2, h3⟩ => ⟨h1, h2, fun v d O' G' H' e1 s1 i1 r1 => h3.nx _ _ O' G' H' e1 s1 ((h2.ext e1).set i i1) r1⟩
theorem x_append {q : Nat} {xs : List D} {apos cpos : Pos} (ho : EvP X ρ O a (.ptr q)) (hq : O[q]? = some (some (.lst xs))) (he : EvP X ρ O e d) (hz : xs.length < sizeLine) (h : P.nx ρ (O.set q (some (.lst (xs ++ [d])))))
    (hbase : attributeBase a ("append" : Str) X.env (eval a X.env) = eval a X.env := by rfl) (hline : (apos.endLine == cpos.line) = true := by rfl) (hst : starEach [e] X.env = [(false, eval e X.env)] := by rfl)
    (hsw : swapsWith (.Call (.Attribute a ("append" : Str) apos) [e] [] cpos) none pos.line X.env = pure false := by rfl) : Ex X ρ O (.Expr (.Call (.Attribute a ("append" : Str) apos) [e] [] cpos) pos) P := fun G =>
  PS.imp (ps_expr (pe_bm PySem.F.plainAttrs_list PySem.F.slot_list_append PySem.F.type_list_append mt_append (ho G)
    (pa_cons (te := fun σ H Q => ∃ G1, SA X.K G1 H O ∧ EnvR X.K G1 σ ρ ∧ ∀ v G' H', Ext G1 G' → SA X.K G' H' O → Is X.K G' d v → Q v H') (fun pins s σ H Q I ⟨G1, q⟩ => he G1 pins s σ H Q I q) pa_nil hst) hbase
    (by rw [hst]; rfl) hline hst (by rfl)) hsw) fun E σ H ⟨q1, q2, q3⟩ => ⟨q1, q2, fun v G1 H1 e1 s1 i1 => by
      cases i1 with
      | ptr _ ha =>
      obtain ⟨a1, g0, g1, vs, g2, g3⟩ := s1.mt q _ hq
      obtain rfl := Option.some.inj (ha.symm.trans g0)
      refine ⟨.inl ⟨rfl, vs, SqL.of g2⟩, G1, s1, q2.ext e1, fun w G2 H2 e2 s2 i2 => ?_⟩
      obtain ⟨a2, g7, g4, us, g5, g6⟩ := s2.mt q _ hq
      obtain rfl := Option.some.inj ((e2.at g0).symm.trans g7)
      refine ⟨_, us, w, rfl, rfl, g5, by rw [← g6.length]; exact hz, ?_⟩
      exact q3.nx σ ρ _ G2 _ (e1.trans e2) (s2.put (m' := .lst (xs ++ [d])) hq g7 ⟨_, upd_same, g6.append (.cons i2 .nil)⟩) (q2.ext (e1.trans e2)) h⟩
structure Yields (K : PySem.W.Frag) (G : Wd) (J : It) (xs : List D) : Prop where
  go : ∀ i H, Same G.g H → i < xs.length → J.go i H
  stop : ∀ i H, Same G.g H → xs.length ≤ i → J.stop i H
  yld : ∀ i v H H' G2 O2, Ext G G2 → SA K G2 H O2 → J.yld i H v H' → i < xs.length → ∃ x G3, xs[i]? = some x ∧ Ext G2 G3 ∧ SA K G3 H' O2 ∧ Is K G3 x v
def EvI (X : Cx) (ρ : Rho) (O : Sto) (tg iter : Expr) (xs : List D) : Prop :=
  ∀ G, PI X tg iter (fun σ H R => SA X.K G H O ∧ EnvR X.K G σ ρ ∧ ∀ J G' H', Ext G G' → SA X.K G' H' O → Yields X.K G' J xs → R J H')
theorem _root_.L2.PI.imp {X : Cx} {tg iter : Expr} {t u : TI} (h : PI X tg iter t) (k : ∀ σ H R, u σ H R → t σ H R) : PI X tg iter u := fun pins s σ H R I q => h pins s σ H R I (k _ _ _ q)
theorem itl_yields {K : PySem.W.Frag} {G : Wd} {q : Addr} {vs : List V} {xs : List D} (h1 : SqL K G.g q vs) (r : Iss K G xs vs) : Yields K G (Itl K q) xs where
  go := fun i H e hi => by
    obtain ⟨v, hv, _⟩ := r.get (i := i) (d := xs[i]) (by simp [hi])
    exact ⟨vs, v, e.seq h1, hv⟩
  stop := fun i H e hi => ⟨vs, e.seq h1, by rw [← r.length]; exact hi⟩
  yld := fun i v H H' G2 O2 e s y hi => by
    obtain ⟨rfl, y⟩ := y
    obtain ⟨x, hx, ix⟩ := r.getV (y vs ((e.g.trans s.sub).seq h1))
    exact ⟨x, G2, hx, Ext.refl _, s, ix.ext e⟩
theorem itt_yields {K : PySem.W.Frag} {G : Wd} {q : Addr} {vs : List V} {xs : List D} (h1 : SqT K G.g q vs) (r : Iss K G xs vs) : Yields K G (Itt K q) xs where
  go := fun i H e hi => by
    obtain ⟨v, hv, _⟩ := r.get (i := i) (d := xs[i]) (by simp [hi])
    exact ⟨vs, v, sqT_same e h1, hv⟩
  stop := fun i H e hi => ⟨vs, sqT_same e h1, by rw [← r.length]; exact hi⟩
  yld := fun i v H H' G2 O2 e s y hi => by
    obtain ⟨rfl, y⟩ := y
    obtain ⟨x, hx, ix⟩ := r.getV (y vs (sqT_same (e.g.trans s.sub) h1))
    exact ⟨x, G2, hx, Ext.refl _, s, ix.ext e⟩
theorem ei_lst {tg : Expr} {xs : List D} (h : EvP X ρ O e (.lst xs)) : EvI X ρ O tg e xs := fun G => PI.imp (pi_list (h G)) fun σ H R ⟨h1, h2, h3⟩ => ⟨h1, h2, fun v G1 H1 e1 s1 i1 => by
  cases i1 with
  | lst q r => exact ⟨_, rfl, ⟨_, SqL.of (s1.sub _ _ q)⟩, h3 _ G1 H1 e1 s1 (itl_yields (SqL.of q) r)⟩⟩
theorem ei_scr {tg : Expr} {xs : List D} (h : EvP X ρ O e (.scr xs)) : EvI X ρ O tg e xs := fun G => PI.imp (pi_list (h G)) fun σ H R ⟨h1, h2, h3⟩ => ⟨h1, h2, fun v G1 H1 e1 s1 i1 => by
  cases i1 with
  | scr q r => exact ⟨_, rfl, ⟨_, s1.sub.seq q⟩, h3 _ G1 H1 e1 s1 (itl_yields q r)⟩⟩
theorem ei_tup {tg : Expr} {xs : List D} (h : EvP X ρ O e (.tup xs)) : EvI X ρ O tg e xs := fun G => PI.imp (pi_tup (h G)) fun σ H R ⟨h1, h2, h3⟩ => ⟨h1, h2, fun v G1 H1 e1 s1 i1 => by
  cases i1 with
  | tup q r => exact ⟨_, rfl, ⟨_, sqT_same s1.sub q⟩, h3 _ G1 H1 e1 s1 (itt_yields q r)⟩⟩
def rangeD (lo : Int) (n : Nat) : List D := (List.range n).map fun i => .int (lo + (i : Nat))
theorem rangeD_len {lo : Int} {n : Nat} : (rangeD lo n).length = n := by simp [rangeD]
theorem rangeD_get {lo : Int} {n i : Nat} (h : i < n) : (rangeD lo n)[i]? = some (.int (lo + (i : Nat))) := by simp [rangeD, h]
theorem rangeD_at {lo : Int} {n i : Nat} {x : D} (h : (rangeD lo n)[i]? = some x) : i < n ∧ x = .int (lo + (i : Nat)) := by
  have hi : i < n := by
    have := (List.getElem?_eq_some_iff.mp h).1
    rw [rangeD_len] at this
    exact this
  rw [rangeD_get hi] at h
  exact ⟨hi, (Option.some.inj h).symm⟩
theorem itr_yields {K : PySem.W.Frag} {G : Wd} {lo : Int} {n : Nat} : Yields K G (Itr lo n) (rangeD lo n) where
  go := fun i H _ hi => by rw [rangeD_len] at hi; exact hi
  stop := fun i H _ hi => by rw [rangeD_len] at hi; exact hi
  yld := fun i v H H' G2 O2 e s y hi => by
    obtain ⟨rfl, rfl⟩ := y
    rw [rangeD_len] at hi
    exact ⟨_, G2, rangeD_get hi, Ext.refl _, s, .int _⟩
theorem ei_range1 {tg : Expr} {n : Int} (h : EvP X ρ O e (.int n)) (hm : X.mg "range" = none) (h1 : -(2 ^ 62) ≤ n) (h2 : n < 2 ^ 62) (hg : Gl X "range" := by rfl) (hs : starEach [e] X.env = [(false, eval e X.env)] := by rfl) : EvI X ρ O tg (.Call (.Name "range" p) [e] [] pos) (rangeD 0 n.toNat) := fun G =>
  PI.imp (pi_range1 hg hm (es_cons h es_nil hs G) hs) fun σ H R ⟨q1, q2, q3⟩ => ⟨q1, q2, fun vs G1 H1 e1 s1 i1 => by
    cases i1 with | cons i r => cases r; cases i; exact ⟨n, rfl, h1, h2, q3 _ G1 H1 e1 s1 itr_yields⟩⟩
theorem ei_range2 {tg : Expr} {m n : Int} (ha : EvP X ρ O a (.int m)) (hb : EvP X ρ O b (.int n)) (hm : X.mg "range" = none) (h1 : -(2 ^ 62) ≤ m) (h2 : m < 2 ^ 62) (h3 : -(2 ^ 62) ≤ n) (h4 : n < 2 ^ 62) (hg : Gl X "range" := by rfl)
    (hs : starEach [a, b] X.env = [(false, eval a X.env), (false, eval b X.env)] := by rfl) (hs2 : starEach [b] X.env = [(false, eval b X.env)] := by rfl) : EvI X ρ O tg (.Call (.Name "range" p) [a, b] [] pos) (rangeD m (n - m).toNat) := fun G =>
  PI.imp (pi_range2 hg hm (es_cons ha (es_cons hb es_nil hs2) (by rw [hs, hs2]) G) hs hs2) fun σ H R ⟨q1, q2, q3⟩ => ⟨q1, q2, fun vs G1 H1 e1 s1 i1 => by
    cases i1 with | cons i r => cases r with | cons i' r => cases r; cases i; cases i'; exact ⟨m, n, rfl, ⟨h1, h2, h3, h4⟩, q3 _ G1 H1 e1 s1 itr_yields⟩⟩
theorem x_for {tg iter : Expr} {body : List Stmt} {xs : List D} (hi : EvI X ρ O tg iter xs) (inv : Nat → Rho → Sto → Prop) (h0 : inv 0 ρ O)
    (hs : ∀ i x ρ' O', xs[i]? = some x → inv i ρ' O' → ∃ ρ1, Tg X tg x ρ' ρ1 ∧ Exs X ρ1 O' body { P with nx := inv (i + 1), ct := inv (i + 1), bk := P.nx }) (hd : ∀ ρ' O', inv xs.length ρ' O' → P.nx ρ' O')
    (hp : PassesOwn (model X.prog X.w) X.A X.env X.xe := by exact PassesOwn.never) (hc : X.calm = true := by rfl) (hf : ∀ x, foldedSetIterable iter X.env x = pure x := by intro _; rfl) : Ex X ρ O (.For tg iter body [] pos) P := fun G =>
  PS.imp (ps_for hp hc (hi G) (g := fun v σ H Q => ∃ G1 ρ1 ρ2 x, Tg X tg x ρ1 ρ2 ∧ Is X.K G1 x v ∧ Same G1.g H ∧ EnvR X.K G1 σ ρ1 ∧ ∀ σ', EnvR X.K G1 σ' ρ2 → Q σ' H) (fun pins s σ H v u Q I r ⟨G1, ρ1, ρ2, x, q, q'⟩ => q G1 pins s σ H v u Q I r q')
    (tb := fun E σ H => ∃ G1 ρ1 O1 P1, SA X.K G1 H O1 ∧ EnvR X.K G1 σ ρ1 ∧ Exs X ρ1 O1 body P1 ∧ Conts X.K G1 P1 E) (fun pins s σ H E I ⟨G1, ρ1, O1, P1, q1, q2, q3, q4⟩ => q3 G1 pins s σ H E I ⟨q1, q2, q4⟩) hf) fun E σ H ⟨q1, q2, q3⟩ => by
    refine ⟨q1, q2, fun J G1 H1 e1 s1 Y => ?_⟩
    refine ⟨fun i m σ H => ∃ G2 ρ2 O2, Ext G1 G2 ∧ SA X.K G2 H O2 ∧ EnvR X.K G2 σ ρ2 ∧ inv i ρ2 O2 ∧ i ≤ xs.length ∧ m = xs.length - i, ⟨_, G1, ρ, O, Ext.refl _, s1, q2.ext e1, h0, Nat.zero_le _, rfl⟩, ?_⟩
    rintro i m σ2 H2 ⟨G2, ρ2, O2, e2, s2, n2, v2, l2, rfl⟩
    by_cases hlt : i < xs.length
    · refine .inr ⟨Y.go i H2 (e2.g.trans s2.sub) hlt, fun σ' H' => ∃ G3 ρ3 O3, Ext G1 G3 ∧ SA X.K G3 H' O3 ∧ EnvR X.K G3 σ' ρ3 ∧ inv (i + 1) ρ3 O3, fun σ' H' ⟨G3, ρ3, O3, e3, s3, n3, v3⟩ => ⟨xs.length - (i + 1), by omega, G3, ρ3, O3, e3, s3, n3, v3, hlt, rfl⟩, fun v H3 y => ?_⟩
      obtain ⟨x, G3, hx, e3, s3, i3⟩ := Y.yld i v H2 H3 G2 O2 e2 s2 y hlt
      obtain ⟨ρ3, t3, b3⟩ := hs i x ρ2 O2 hx v2
      have e13 : Ext G1 G3 := e2.trans e3
      refine ⟨G3, ρ2, ρ3, x, t3, i3, s3.sub, n2.ext e3, fun σ' n' => ⟨G3, ρ3, O2, _, s3, n', b3, ⟨fun σ4 ρ4 O4 G4 H4 e4 s4 n4 q => ⟨G4, ρ4, O4, e13.trans e4, s4, n4, q⟩, fun v d O4 G4 H4 e4 s4 i4 r => q3.rt v d O4 G4 H4 (e1.trans (e13.trans e4)) s4 i4 r,
        fun σ4 ρ4 O4 G4 H4 e4 s4 n4 q => q3.nx σ4 ρ4 O4 G4 H4 (e1.trans (e13.trans e4)) s4 n4 q, fun σ4 ρ4 O4 G4 H4 e4 s4 n4 q => ⟨G4, ρ4, O4, e13.trans e4, s4, n4, q⟩⟩⟩⟩
    · have ei : i = xs.length := by omega
      subst ei
      exact .inl ⟨Y.stop _ H2 (e2.g.trans s2.sub) (Nat.le_refl _), q3.nx σ2 ρ2 O2 G2 H2 (e1.trans e2) s2 n2 (hd _ _ v2)⟩
theorem xs_freeze {q : Nat} {xs : List D} (i : Nat) (h1 : ρ[i]? = some (some (.ptr q))) (h2 : O[q]? = some (some (.lst xs))) (h : Exs X (ρ.set i (some (.lst xs))) (O.set q none) rest P) : Exs X ρ O rest P := fun G pins s σ H E I ⟨q1, q2, q3⟩ => by
  obtain ⟨G', p, e, s', hp, i'⟩ := q1.frozen h2
  obtain ⟨v, hv, iv⟩ := q2.get i _ h1
  cases iv with
  | ptr _ ha =>
  have ea := Option.some.inj (ha.symm.trans hp)
  subst ea
  rename_i ad
  refine h G' pins s σ H E I ⟨s', ?_, q3.ext e⟩
  have n := (q2.ext e).set i i'
  have ez : σ.set i (some (V.ref ad)) = σ := by
    apply List.ext_getElem?
    intro j
    by_cases hj : i = j
    · subst hj
      rw [List.getElem?_set_self (List.getElem?_eq_some_iff.mp hv).1, hv]
    · rw [List.getElem?_set_ne hj]
  rw [ez] at n
  exact n
theorem ev_frz {q : Nat} {xs : List D} (h : EvP X ρ O e (.ptr q)) (h2 : O[q]? = some (some (.lst xs))) (r : R (.lst xs) (O.set q none)) : Ev X ρ O e R := fun G => PE.imp (h G) fun σ H Q ⟨q1, q2, q3⟩ => ⟨q1, q2, fun v G1 H1 e1 s1 i1 => by
  obtain ⟨G', p, e, s', hp, i'⟩ := s1.frozen h2
  cases i1 with
  | ptr _ ha =>
  obtain rfl := Option.some.inj (ha.symm.trans hp)
  exact q3 _ _ _ G' H1 (e1.trans e) s' i' r⟩
end
def startD (N : List Str) (ds : List D) : Rho := ds.map some ++ List.replicate (N.length - ds.length) none
section
variable {P : Program} {w : World} {K : PySem.W.Frag} {mg : Str → Option Value} {base : Heap}
theorem start_env {G : Wd} {N : List Str} {ds : List D} {vs : List V} (r : Iss K G ds vs) : EnvR K G (L2.start N vs) (startD N ds) := by
  refine ⟨by unfold L2.start startD; simp [r.length], fun i d h => ?_⟩
  unfold startD at h
  by_cases hi : i < ds.length
  · rw [List.getElem?_append_left (by simpa using hi), List.getElem?_map] at h
    cases q : ds[i]? with
    | none => rw [q] at h; cases h
    | some d' =>
      rw [q] at h; cases h
      obtain ⟨v, hv, iv⟩ := r.get q
      refine ⟨v, ?_, iv⟩
      unfold L2.start
      rw [List.getElem?_append_left (by rw [List.length_map, ← r.length]; exact hi), List.getElem?_map, hv]
      rfl
  · rw [List.getElem?_append_right (by simpa using hi), List.getElem?_replicate] at h
    split at h <;> cases h
theorem okF {x qual : Str} {st : Stmt} {f : Addr} {fd : FuncData} {N ps : List Str} {k : Nat} {sp : SpD} (F : Fun K x qual st f fd) (S : FnScope N ps (defScope st))
    (len : ∀ ds O R, sp ds O R → ds.length = ps.length)
    (hbody : ∀ (cdv : Value) (A : Around) (outer : List Env) (s : Shared) (H : Hp) (E : XK) (ds : List D) (O : Sto) (R : D → Sto → Prop), Room k (A.deeper (envOfC qual (defScope st) s.heap.objs.size f cdv)) → sp ds O R →
      Exs (cxOf CX0 P w K mg base N qual (defScope st) f cdv A outer s H E).nox (startD N ds) O (defBody st) { nx := fun _ O' => R .non O', rt := R }) : FnOk P w K mg base CX0 (k + 1) f fd ps (toSp K sp) := by
  refine F.ok S (fun vs H Q E h => ?_) (fun cdv A outer s H vs Q E hr h => ?_)
  · obtain ⟨G, O, ds, R, h1, h2, h3, h4⟩ := h
    rw [← h2.length]
    exact len _ _ _ h3
  · obtain ⟨G, O, ds, R, h1, h2, h3, h4⟩ := h
    refine ⟨_, hbody cdv A outer s H E ds O R hr h3 G, h1, start_env h2, ⟨fun σ ρ O' G' H' e1 s1 n1 q => h4 _ _ O' G' H' e1 s1 .non q, fun v d O' G' H' e1 s1 i1 q => h4 v d O' G' H' e1 s1 i1 q, fun σ ρ O' G' H' e1 s1 n1 q => q.elim, fun σ ρ O' G' H' e1 s1 n1 q => q.elim⟩⟩
theorem okD {x qual : Str} {st : Stmt} {f : Addr} {fd : FuncData} {N ps : List Str} {k : Nat} {sp : SpD} (F : Fun K x qual st f fd) (S : FnScope N ps (defScope st)) (hm : mg x = some (.ref f)) (hb : Binds K fd ps [])
    (len : ∀ ds O R, sp ds O R → ds.length = ps.length)
    (hbody : ∀ (cdv : Value) (A : Around) (outer : List Env) (s : Shared) (H : Hp) (E : XK) (ds : List D) (O : Sto) (R : D → Sto → Prop), Room k (A.deeper (envOfC qual (defScope st) s.heap.objs.size f cdv)) → sp ds O R →
      Exs (cxOf CX0 P w K mg base N qual (defScope st) f cdv A outer s H E).nox (startD N ds) O (defBody st) { nx := fun _ O' => R .non O', rt := R }) : DefOk P w K mg base (k + 1) x sp :=
  ⟨f, fd, ps, okF F S len hbody, hm, F.kp, hb⟩
end
def spLaw : SpD := fun ds O R => ∃ ns : List Int, ds = [.scr (ns.map D.int)] ∧ ns.length ≤ 63 ∧ R (.bl true) O
theorem law_start {K : PySem.W.Frag} {H : Hp} {a : Addr} {ns : List Int} (hl : ns.length ≤ 63) (hS : SqL K H a (ns.map V.int)) : toSp K spLaw [.ref a] H (fun v _ => v = .bl true) fun _ _ _ => False :=
  ⟨⟨H, []⟩, [], [.scr (ns.map D.int)], fun d _ => d = .bl true, ⟨Same.refl _, rfl, List.nodup_nil, fun a h => absurd h List.not_mem_nil, fun n m h => by cases h⟩, .cons (.scr hS Iss.ints) .nil, ⟨ns, rfl, hl, rfl⟩, fun v d O' G' H' _ _ i r => by subst r; cases i; rfl⟩
section
variable {X : Cx} {ρ : Rho} {O : Sto} {e a b c : Expr} {es : List Expr} {d da db : D} {ds : List D} {R : D → Sto → Prop} {pos p : Pos} {x : Str}
theorem ev_type {U : String} (hm : X.mg x = none) (hg : Gl X x := by rfl) (hv : bootBuiltins x = some (.type U) := by first | rfl | decide +kernel) (hn : x ≠ "__name__" := by decide) (hd : (x == ("__debug__" : Str)) = false := by decide) : EvP X ρ O (.Name x p) (.ty U) := fun G =>
  PE.imp (pe_bltn (v := .ty U) hg hm hv rfl hn hd) fun σ H Q ⟨h1, h2, h3⟩ => h3 _ G H (Ext.refl _) h1 (.ty U)
def tyD : D → Option String
  | .non => some "NoneType" | .bl _ => some "bool" | .int _ => some "int" | .str _ => some "str" | .tup _ => some "tuple" | .lst _ => some "list" | .scr _ => some "list" | .ptr _ => none | .ty _ => none | .fn _ => none | .dct _ _ => some "dict"
theorem c_isi {T U : String} {k : Bool} (ht : tyD d = some T) (hk : ∀ K, PySem.W.kitOne K (.type T) (.type U) = some k) : CallD X O (.builtin "isinstance") [d, .ty U] (.bl k) := fun G pins s σ H xs us Q I r ⟨h1, h2, h3⟩ => by
  cases h2 with
  | cons i r2 =>
    cases r2 with
    | cons i' r3 =>
      cases r3
      cases i'
      obtain ⟨u, u', rfl, r1, r2⟩ := vals2 r
      cases r2
      have fin : ∀ tk, EP X pins σ Q (.bool k) { s with toks := tk } := fun tk => ⟨.bl k, H, I.tok tk, rfl, h3 _ G H (Ext.refl _) h1 (.bl k)⟩
      cases i with
      | non => cases ht; cases r1; exact PySem.W.kia_one PySem.W.kitx_none I.kIn True.intro (hk _) (fun z => nomatch z) fin
      | bl y => cases ht; cases r1; exact PySem.W.kia_one PySem.W.kitx_bool I.kIn True.intro (hk _) (fun z => nomatch z) fin
      | int i => cases ht; obtain ⟨t, rfl⟩ := r1; exact PySem.W.kia_one PySem.W.kitx_int I.kIn True.intro (hk _) (fun z => nomatch z) fin
      | str y => cases ht; obtain ⟨t, rfl⟩ := r1; exact PySem.W.kia_one PySem.W.kitx_str I.kIn True.intro (hk _) (fun z => nomatch z) fin
      | tup q1 q2 =>
        cases ht; cases r1
        obtain ⟨its, _, ⟨o, g1, g2, _⟩, _⟩ := I.tuple (sqT_same h1.sub q1)
        exact PySem.W.kia_one PySem.W.kitx_tuple I.kIn ⟨o, g1, g2⟩ (hk _) (fun z => nomatch z) fin
      | lst q1 q2 =>
        cases ht; cases r1
        obtain ⟨its, _, ⟨o, n, g1, g2, _⟩, _⟩ := I.list (SqL.of (h1.sub _ _ q1))
        exact PySem.W.kia_one PySem.W.kitx_list I.kIn ⟨o, g1, g2⟩ (hk _) (fun z => nomatch z) fin
      | scr q1 q2 =>
        cases ht; cases r1
        obtain ⟨its, _, ⟨o, n, g1, g2, _⟩, _⟩ := I.list (h1.sub.seq q1)
        exact PySem.W.kia_one PySem.W.kitx_list I.kIn ⟨o, g1, g2⟩ (hk _) (fun z => nomatch z) fin
      | ptr _ _ => cases ht
      | ty _ => cases ht
      | fn _ => cases ht
      | dct q1 _ q2 =>
        cases ht; cases r1
        obtain ⟨_, _, _, _, o, _, _, g1, g2, _⟩ := (rd_same h1.sub q1).ok I.hok
        exact PySem.W.kia_one PySem.W.kitx_dict I.kIn ⟨o, g1, g2.1⟩ (hk _) (fun z => nomatch z) fin
def subTy (T U : String) : Bool := T == U || (T == "bool" && U == "int")
theorem kit_all : ∀ T ∈ ["NoneType", "bool", "int", "str", "tuple", "list", "dict"], ∀ U ∈ ["int", "bool", "tuple", "str", "dict", "list"], ∀ K, PySem.W.kitOne K (.type T) (.type U) = some (subTy T U) := by
  intro T hT U hU K
  simp only [List.mem_cons, List.not_mem_nil, or_false] at hT hU
  rcases hT with rfl | rfl | rfl | rfl | rfl | rfl | rfl <;> rcases hU with rfl | rfl | rfl | rfl | rfl | rfl <;> kernel_rfl
def okTy : D → Bool
  | .ptr _ => false | .ty _ => false | .fn _ => false | _ => true
def isiD (d : D) (U : String) : Bool := match tyD d with
  | some T => subTy T U
  | none => false
theorem c_isiU {U : String} (h : okTy d = true) (hU : U ∈ ["int", "bool", "tuple", "str", "dict", "list"]) : CallD X O (.builtin "isinstance") [d, .ty U] (.bl (isiD d U)) := by
  cases d with
  | ptr _ => cases h
  | ty _ => cases h
  | fn _ => cases h
  | _ => exact c_isi (T := _) rfl (kit_all _ (by decide) U hU)
theorem c_isi_tuple (h : okTy d = true) : CallD X O (.builtin "isinstance") [d, .ty "tuple"] (.bl (isiD d "tuple")) := c_isiU h (by decide)
theorem ev_neg {i : Int} (ha : EvP X ρ O a (.int i)) : EvP X ρ O (.UnaryOp .USub a pos) (.int (-i)) := fun G => PE.imp (pe_un un_neg (ha G)) fun σ H Q ⟨h1, h2, h3⟩ => ⟨h1, h2, fun v G1 H1 e1 s1 i1 => by
  cases i1; exact ⟨i, rfl, h3 _ G1 H1 e1 s1 (.int _)⟩⟩
end
end DL
set_option Elab.async false
set_option linter.all false
set_option maxRecDepth 100000
namespace DL
open PySem PySem.Spec PyProof.Rows L2
def closOf (env : Env) : List (Str × NameKind) → List (Str × Addr) → List (Str × Addr)
  | [], cs => cs
  | (n, k) :: r, cs => if k == .free then closOf env r ((n, (env.cells.lookup n).getD 0) :: cs) else closOf env r cs
theorem clos_run {env : Env} (f : Str × NameKind → List (Str × Addr) → Sem (ForInStep (List (Str × Addr))))
    (hf : ∀ n k cs, f (n, k) cs = if (k == NameKind.free) = true then (do let a ← cellOf env n; pure (.yield ((n, a) :: cs))) else pure (.yield cs)) :
    ∀ (names : List (Str × NameKind)) (cs : List (Str × Addr)), (∀ y ∈ names, y.2 = .free → ∃ a, env.cells.lookup y.1 = some a) → forIn names cs f = pure (closOf env names cs)
  | [], cs, _ => by rw [List.forIn_nil]; rfl
  | (n, k) :: r, cs, h => by
    rw [List.forIn_cons, hf]
    have hr : ∀ y ∈ r, y.2 = .free → ∃ a, env.cells.lookup y.1 = some a := fun y hy => h y (List.mem_cons_of_mem _ hy)
    unfold closOf
    by_cases hk : (k == NameKind.free) = true
    · rw [if_pos hk, if_pos hk]
      obtain ⟨a, e⟩ := h (n, k) List.mem_cons_self (by simpa using hk)
      have e' : cellOf env n = pure a := by unfold cellOf; rw [e]
      rw [e', e]
      simp only [pure_bind, Option.getD_some]
      exact clos_run f hf r _ hr
    · rw [if_neg hk, if_neg hk]
      simp only [pure_bind]
      exact clos_run f hf r _ hr
theorem clos_eq {env : Env} {scope : Scope} (h : ∀ y ∈ scope.names, y.2 = .free → ∃ a, env.cells.lookup y.1 = some a) : closureFor scope env = pure (closOf env scope.names []) := by
  have e := clos_run (env := env) (fun (x : Str × NameKind) (cs : List (Str × Addr)) => if (x.2 == NameKind.free) = true then (do let a ← cellOf env x.1; pure (.yield ((x.1, a) :: cs))) else pure (.yield cs)) (fun n k cs => rfl) scope.names [] h
  unfold closureFor
  exact (congrArg (fun z => z >>= fun q => pure q) e).trans (by simp)
theorem clos_of {env : Env} {x : Str} {c : Addr} : ∀ (names : List (Str × NameKind)) (cs : List (Str × Addr)), (∀ y ∈ names, y.2 = .free → ∃ a, env.cells.lookup y.1 = some a) →
    (closOf env names cs).lookup x = some c → cs.lookup x = some c ∨ env.cells.lookup x = some c
  | [], cs, _, h => .inl h
  | (n, k) :: r, cs, hh, h => by
    have hr : ∀ y ∈ r, y.2 = .free → ∃ a, env.cells.lookup y.1 = some a := fun y hy => hh y (List.mem_cons_of_mem _ hy)
    unfold closOf at h
    by_cases hk : (k == NameKind.free) = true
    · rw [if_pos hk] at h
      obtain ⟨a, e⟩ := hh (n, k) List.mem_cons_self (by simpa using hk)
      rcases clos_of r _ hr h with q | q
      · rw [e, Option.getD_some, List.lookup_cons] at q
        cases hx : x == n with
        | true =>
          rw [hx] at q
          have : x = n := by simpa using hx
          subst this
          exact .inr (by cases q; exact e)
        | false => rw [hx] at q; exact .inl q
      · exact .inr q
    · rw [if_neg hk] at h
      exact clos_of r cs hr h
theorem clos_has {env : Env} {x : Str} : ∀ (names : List (Str × NameKind)) (cs : List (Str × Addr)), names.lookup x = some .free ∨ (cs.lookup x).isSome = true → ((closOf env names cs).lookup x).isSome = true
  | [], cs, h => h.elim (fun e => by cases e) id
  | (n, k) :: r, cs, h => by
    unfold closOf
    by_cases hk : (k == NameKind.free) = true
    · rw [if_pos hk]
      refine clos_has r _ ?_
      cases hx : x == n with
      | true => right; rw [List.lookup_cons, hx]; rfl
      | false =>
        rw [List.lookup_cons, hx] at h
        rw [List.lookup_cons, hx]
        exact h
    · rw [if_neg hk]
      refine clos_has r _ ?_
      cases hx : x == n with
      | true =>
        rw [List.lookup_cons, hx] at h
        rcases h with h | h
        · cases h; exact absurd rfl hk
        · exact .inr h
      | false => rw [List.lookup_cons, hx] at h; exact h
theorem cf_out {x : Str} : ∀ (names : List (Str × NameKind)) (n : Nat) (acc : List (Str × Addr)), (∀ y ∈ names, y.1 = x → y.2 ≠ .cell) → (cellsFrom n names acc).lookup x = acc.lookup x
  | [], _, _, _ => rfl
  | (y, k) :: r, n, acc, h => by
    have hr : ∀ z ∈ r, z.1 = x → z.2 ≠ .cell := fun z hz => h z (List.mem_cons_of_mem _ hz)
    unfold cellsFrom
    by_cases hk : (k == NameKind.cell) = true
    · rw [if_pos hk, cf_out r _ _ hr, List.lookup_cons]
      have : y ≠ x := fun e => h (y, k) List.mem_cons_self e (by simpa using hk)
      rw [show (x == y) = false from by simpa using Ne.symm this]
    · rw [if_neg hk]
      exact cf_out r _ _ hr
theorem cf_cell {x : Str} {c : Addr} : ∀ (names : List (Str × NameKind)) (h : Heap) (acc : List (Str × Addr)), (∀ y b, acc.lookup y = some b → ∃ v, h.IsCell b v) → (cellsFrom h.objs.size names acc).lookup x = some c →
    (∃ v, (pushCells h names).IsCell c v) ∧ (acc.lookup x = some c ∨ h.objs.size ≤ c)
  | [], h, acc, hc, e => ⟨hc _ _ e, .inl e⟩
  | (y, k) :: r, h, acc, hc, e => by
    unfold cellsFrom at e
    unfold pushCells
    by_cases hk : (k == NameKind.cell) = true
    · rw [if_pos hk] at e ⊢
      have hz : (h.push { cls := .type "cell", data := .cell none }).objs.size = h.objs.size + 1 := Heap.size_push ..
      rw [← hz] at e
      obtain ⟨q1, q2⟩ := cf_cell r (h.push { cls := .type "cell", data := .cell none }) ((y, h.objs.size) :: acc) (fun z b q => by
        rw [List.lookup_cons] at q
        cases hx : z == y with
        | true => rw [hx] at q; cases q; exact ⟨none, _, Heap.get?_push_size _ rfl, rfl⟩
        | false =>
          rw [hx] at q
          obtain ⟨v, o, q1, q2⟩ := hc z b q
          exact ⟨v, o, Heap.get?_push_of_some _ q1, q2⟩) e
      refine ⟨q1, ?_⟩
      rcases q2 with q2 | q2
      · rw [List.lookup_cons] at q2
        cases hx : x == y with
        | true => rw [hx] at q2; cases q2; exact .inr (Nat.le_refl _)
        | false => rw [hx] at q2; exact .inl q2
      · exact .inr (by rw [hz] at q2; omega)
    · rw [if_neg hk] at e ⊢
      exact cf_cell r h acc hc e
theorem cf_inj : ∀ (names : List (Str × NameKind)) (n : Nat) (acc : List (Str × Addr)), (∀ x y c, acc.lookup x = some c → acc.lookup y = some c → x = y) → (∀ x c, acc.lookup x = some c → c < n) →
    ∀ x y c, (cellsFrom n names acc).lookup x = some c → (cellsFrom n names acc).lookup y = some c → x = y
  | [], _, _, hi, _ => hi
  | (z, k) :: r, n, acc, hi, hl => by
    unfold cellsFrom
    by_cases hk : (k == NameKind.cell) = true
    · rw [if_pos hk]
      refine cf_inj r (n + 1) ((z, n) :: acc) (fun x y c e1 e2 => ?_) (fun x c e => ?_)
      · rw [List.lookup_cons] at e1 e2
        cases hx : x == z <;> cases hy : y == z <;> rw [hx] at e1 <;> rw [hy] at e2
        · exact hi x y c e1 e2
        · cases e2; exact absurd (hl _ _ e1) (Nat.lt_irrefl _)
        · cases e1; exact absurd (hl _ _ e2) (Nat.lt_irrefl _)
        · rw [show x = z by simpa using hx, show y = z by simpa using hy]
      · rw [List.lookup_cons] at e
        cases hx : x == z <;> rw [hx] at e
        · exact Nat.lt_succ_of_lt (hl _ _ e)
        · cases e; exact Nat.lt_succ_self _
    · rw [if_neg hk]
      exact cf_inj r n acc hi hl
theorem relab_of {env : Env} {x : Str} {k : NameKind} : ∀ (names : List (Str × NameKind)), (names.map fun (n, k) => if (k == NameKind.free && env.scope.kind == .function && env.kindOf n == some .cell) then (n, NameKind.cell) else (n, k)).lookup x = some k →
    names.lookup x = some k ∨ (k = .cell ∧ names.lookup x = some .free)
  | [], h => by cases h
  | (n, k') :: r, h => by
    rw [List.map_cons] at h
    by_cases hc : (k' == NameKind.free && env.scope.kind == .function && env.kindOf n == some .cell) = true
    · simp only [hc, if_true] at h
      rw [List.lookup_cons] at h ⊢
      cases hx : x == n with
      | true =>
        rw [hx] at h; cases h
        have : k' = .free := by
          simp only [Bool.and_eq_true, beq_iff_eq] at hc
          exact hc.1.1
        subst this
        exact .inr ⟨rfl, rfl⟩
      | false => rw [hx] at h; exact relab_of r h
    · simp only [hc, Bool.false_eq_true, if_false] at h
      rw [List.lookup_cons] at h ⊢
      cases hx : x == n with
      | true => rw [hx] at h; exact .inl h
      | false => rw [hx] at h; exact relab_of r h
theorem relab_free {env : Env} {x : Str} : ∀ (names : List (Str × NameKind)), names.lookup x = some .free →
    (names.map fun (n, k) => if (k == NameKind.free && env.scope.kind == .function && env.kindOf n == some .cell) then (n, NameKind.cell) else (n, k)).lookup x = some .cell ∨
    (names.map fun (n, k) => if (k == NameKind.free && env.scope.kind == .function && env.kindOf n == some .cell) then (n, NameKind.cell) else (n, k)).lookup x = some .free
  | [], h => by cases h
  | (n, k') :: r, h => by
    rw [List.map_cons]
    rw [List.lookup_cons] at h
    by_cases hc : (k' == NameKind.free && env.scope.kind == .function && env.kindOf n == some .cell) = true
    · simp only [hc, if_true]
      rw [List.lookup_cons]
      cases hx : x == n with
      | true => left; rfl
      | false => rw [hx] at h; exact relab_free r h
    · simp only [hc]
      cases hx : x == n with
      | true => rw [hx] at h; right; exact (by simp [List.lookup_cons, hx]; exact Option.some.inj h)
      | false =>
        rw [hx] at h
        simpa [List.lookup_cons, hx] using relab_free r h
def cxC (X : Cx) (N : List Str) (scope : Scope) (s : Shared) (H : Hp) (fp : List Addr) : Cx :=
  { X with
    N := N
    s₀ := s
    H₀ := H
    env := compEnvC scope (cellsFrom (s.heap.objs.size + 2) scope.names (closOf X.env scope.names [])) (s.heap.objs.size + 1) X.env
    outer := X.stack
    ex := fp
    fn := fun x => scope.names.lookup x == some .cell
    pn := []
    xe := fun _ _ => False }
section
variable {X : Cx} {pins : List (Addr × Obj)} {σ : L2.St} {H : Hp} {s : Shared}
def FreeOk (X : Cx) (scope : Scope) : Prop := ∀ y ∈ scope.names, y.2 = .free → X.env.kindOf y.1 = some .cell ∨ X.env.kindOf y.1 = some .free
theorem inv_comp {N : List Str} {scope : Scope} {fp : List Addr} {σ0 : L2.St} (I : L2.Inv X pins σ H s) (hf : ∀ b ∈ fp, FpOk X pins H b) (ho : ∀ b ∈ fp, ∃ o, s.heap.get? b = some o) (hk : scope.kind = .function) (hfr : FreeOk X scope)
    (hl : σ0.length = N.length) (hσ : ∀ (i : Nat) (v : V), σ0[i]? = some (some v) → ∃ (x : Str) (j : Nat), N[i]? = some x ∧ scope.names.lookup x = some .free ∧ (∀ y ∈ scope.names, y.1 = x → y.2 ≠ .cell) ∧ X.N[j]? = some x ∧ σ[j]? = some (some v) ∧ Vis X.env.scope x) (t : Nat) (oD : Obj) :
    L2.Inv (cxC X N scope s H fp) [] σ0 H { s with heap := pushCells ((s.heap.push oD).push { cls := .type "dict", data := .dict #[] }) scope.names, toks := t } := by
  have hz1 : (s.heap.push oD).objs.size = s.heap.objs.size + 1 := Heap.size_push ..
  have hz : ((s.heap.push oD).push { cls := .type "dict", data := .dict #[] }).objs.size = s.heap.objs.size + 2 := by rw [Heap.size_push, hz1]
  have up : ∀ b o, s.heap.get? b = some o → (pushCells ((s.heap.push oD).push { cls := .type "dict", data := .dict #[] }) scope.names).get? b = some o := fun b o e => pushCells_keeps _ _ b o (Heap.get?_push_of_some _ (Heap.get?_push_of_some _ e))
  have hcl : ∀ y ∈ scope.names, y.2 = .free → ∃ a, X.env.cells.lookup y.1 = some a := fun y hy e => I.ok.has _ (hfr y hy e)
  have cl1 : ∀ y b, (closOf X.env scope.names []).lookup y = some b → X.env.cells.lookup y = some b := fun y b e => by
    rcases clos_of _ _ hcl e with q | q
    · cases q
    · exact q
  have cl2 : ∀ y b, (closOf X.env scope.names []).lookup y = some b → b < s.heap.objs.size := fun y b e => by
    obtain ⟨v, q⟩ := I.cell y b (cl1 y b e); exact q.lt
  have cc : ∀ y b, (cellsFrom (s.heap.objs.size + 2) scope.names (closOf X.env scope.names [])).lookup y = some b →
      (∃ v, (pushCells ((s.heap.push oD).push { cls := .type "dict", data := .dict #[] }) scope.names).IsCell b v) ∧ (X.env.cells.lookup y = some b ∧ b < s.heap.objs.size ∨ s.heap.objs.size + 2 ≤ b) := fun y b e => by
    rw [← hz] at e
    obtain ⟨q1, q2⟩ := cf_cell scope.names ((s.heap.push oD).push { cls := .type "dict", data := .dict #[] }) _ (fun z c q => by
      obtain ⟨v, o, q1, q2⟩ := I.cell z c (cl1 z c q)
      exact ⟨v, o, Heap.get?_push_of_some _ (Heap.get?_push_of_some _ q1), q2⟩) e
    refine ⟨q1, ?_⟩
    rcases q2 with q2 | q2
    · exact .inl ⟨cl1 _ _ q2, cl2 _ _ q2⟩
    · rw [hz] at q2; exact .inr q2
  have hlt := I.lt
  refine ⟨⟨I.ok.mod, hk, I.ok.glob, I.ok.blt, Nat.le_succ _, ?_, ?_, ?_, I.ok.hd, I.ok.frames, .inl rfl, ?_, I.bs, Nat.le_trans I.ok.bsz I.sz, ?_, ?_, I.stack, I.stkFree⟩, rfl, I.bare, Un.kept up, ?_, ?_, ?_, ?_, ?_, I.hok.kept up, hl⟩
  · exact cf_inj _ _ _ (fun x y c e1 e2 => I.ok.inj x y c (cl1 _ _ e1) (cl1 _ _ e2)) (fun x c e => Nat.lt_of_lt_of_le (cl2 x c e) (Nat.le_add_right _ 2))
  · intro x hx
    have hx : (relabel scope X.env).names.lookup x = some .cell ∨ (relabel scope X.env).names.lookup x = some .free := hx
    have : ((cellsFrom (s.heap.objs.size + 2) scope.names (closOf X.env scope.names [])).lookup x).isSome = true := by
      refine PySem.W.cellsFrom_some _ _ _ ?_
      rcases hx with hx | hx
      · rcases relab_of _ hx with q | ⟨_, q⟩
        · exact .inl q
        · exact .inr (clos_has _ _ (.inl q))
      · rcases relab_of _ hx with q | ⟨q, _⟩
        · exact .inr (clos_has _ _ (.inl q))
        · cases q
    exact Option.isSome_iff_exists.mp this
  · intro x c hfn e
    rcases (cc x c e).2 with ⟨q, q'⟩ | q
    · exfalso
      have hfn : scope.names.lookup x = some .cell := by simpa [cxC] using hfn
      -- own names' cells are new
      have : ∀ (names : List (Str × NameKind)) (n : Nat) (acc : List (Str × Addr)), names.lookup x = some .cell ∨ (∃ b, acc.lookup x = some b ∧ s.heap.objs.size ≤ b) → s.heap.objs.size ≤ n → ∀ b, (cellsFrom n names acc).lookup x = some b → s.heap.objs.size ≤ b := by
        intro names
        induction names with
        | nil =>
          intro n acc h hn b eb
          rcases h with h | ⟨b', h, hb⟩
          · cases h
          · have eb : acc.lookup x = some b := eb
            rw [h] at eb; cases eb; exact hb
        | cons p r ih =>
          obtain ⟨y, k⟩ := p
          intro n acc h hn b eb
          unfold cellsFrom at eb
          by_cases hkc : (k == NameKind.cell) = true
          · rw [if_pos hkc] at eb
            refine ih (n + 1) _ ?_ (Nat.le_succ_of_le hn) b eb
            cases hxy : x == y with
            | true => right; exact ⟨n, by rw [List.lookup_cons, hxy], hn⟩
            | false =>
              rw [List.lookup_cons, hxy] at h
              rw [List.lookup_cons, hxy]
              exact h
          · rw [if_neg hkc] at eb
            refine ih n _ ?_ hn b eb
            cases hxy : x == y with
            | true =>
              rw [List.lookup_cons, hxy] at h
              rcases h with h | h
              · cases h; exact absurd rfl hkc
              · exact .inr h
            | false => rw [List.lookup_cons, hxy] at h; exact h
      exact absurd q' (Nat.not_lt.mpr (this scope.names _ _ (.inl hfn) (Nat.le_add_right _ 2) c e))
    · exact Nat.le_trans (Nat.le_add_right _ 2) q
  · intro b hb
    have hbl : b < s.heap.objs.size := let ⟨o, e⟩ := ho b hb; Heap.lt_size e
    refine ⟨Nat.ne_of_lt (Nat.lt_succ_of_lt hbl), fun x c e => ?_⟩
    obtain ⟨f0, f1, f2, f3, f4, f5⟩ := hf b hb
    rcases (cc x c e).2 with ⟨q, _⟩ | q
    · exact f4 x c q
    · exact Nat.ne_of_gt (Nat.lt_of_lt_of_le (Nat.lt_of_lt_of_le hbl (Nat.le_add_right _ 2)) q)
  · intro b o e hb
    obtain ⟨f0, f1, f2, f3, f4, f5⟩ := hf b hb
    rcases f3 with q | q
    · exact I.ok.noex b o e q
    · exact absurd (Nat.lt_of_lt_of_le (Heap.lt_size e) (Nat.le_trans I.ok.bsz q)) (Nat.lt_irrefl _)
  · intro b hb z
    obtain ⟨f0, f1, f2, f3, f4, f5⟩ := hf b hb
    rcases List.mem_cons.mp (I.stkSub b z) with q | q
    · exact f1 q
    · exact f2 q
  · refine ⟨fun _ => none, ?_, fun i x v e1 e2 e3 => ?_⟩
    · show Heap.Ns _ (s.heap.objs.size + 1) _
      rw [← hz1]
      exact (Heap.Ns.new (s.heap.push oD) (.type "dict")).keeps (pushCells_keeps _ _)
    · obtain ⟨x', j, q1, q2, q3, q4, q5, q6⟩ := hσ i v e2
      have : x' = x := Option.some.inj (q1.symm.trans e1)
      subst this
      obtain ⟨m, hn, hlk⟩ := I.loc
      obtain ⟨u, ru, lk⟩ := hlk j x' v q4 q5 q6
      refine ⟨u, ru, .inr ⟨?_, ?_⟩⟩
      · exact relab_free _ q2
      · have hks := hfr (x', .free) (PySem.mem_of_lookup q2) rfl
        rcases lk with ⟨k, _⟩ | ⟨k, c, e, z⟩
        · rcases hks with z | z
          · rw [k] at z; cases z
          · rw [k] at z; cases z
        · refine ⟨c, ?_, z.keeps up⟩
          show (cellsFrom _ _ _).lookup x' = some c
          rw [cf_out _ _ _ q3]
          obtain ⟨b, eb⟩ := Option.isSome_iff_exists.mp (clos_has (env := X.env) scope.names [] (.inl q2))
          rw [eb, ← cl1 _ _ eb, e]
  · exact fun x c e => (cc x c e).1
  · exact I.hok.fresh (Nat.le_succ _)
  · intro x c e
    rcases (cc x c e).2 with ⟨q, _⟩ | q
    · exact I.freeC x c q
    · exact I.hok.fresh (Nat.le_trans (Nat.le_add_right _ 2) q)
  · intro p hp
    exact absurd (show p ∈ ([] : List (Addr × Obj)) from hp) (by simp)
end
end DL
set_option Elab.async false
set_option linter.all false
set_option maxRecDepth 100000
namespace DL
open PySem PySem.Spec PyProof.Rows L2
theorem newEnv_comp {M : Model} {A : Around} {E : Value → Shared → Prop} {s : Shared} {scope : Scope} {g : Addr} {cl : List (Str × Addr)} {q : Str} {env : Env} {Q : Env → Shared → Prop}
    (h : ∀ b, b = env.builtins → Q { scope := scope, locals := s.heap.objs.size, globals := g, cells := cellsFrom (s.heap.objs.size + 1) scope.names cl, qual := q, func := none, code := env.code, frame := env.frame, builtins := b }
      { s with heap := pushCells (s.heap.push { cls := .type "dict", data := .dict #[] }) scope.names }) : wpAny M A (newFunctionEnv scope g cl [] q none .none (some env)) Q E s := by
  simp only [newFunctionEnv, Option.isSome_some, if_true]
  refine wpAny_bind (wpAny_alloc ?_)
  refine wpAny_bind (wpAny_layCells _ (fun n k cells => by cases hkc : k == NameKind.cell <;> simp [hkc]) _ _ _ _ ?_)
  rw [show ({ s with heap := s.heap.push { cls := .type "dict", data := .dict #[] } } : Shared).heap.objs.size = s.heap.objs.size + 1 from Heap.size_push ..]
  rw [List.forIn_nil]
  exact wpAny_bind (wpAny_pure (wpAny_pure (h _ rfl)))
theorem Un_more {fs ex : List Addr} {H H' : Hp} {h h' : Heap} {D : Addr} {o : HO} (u : Un fs ex H H' h h') (hn : H D = none) (hh : h.get? D = none) : Un fs ex H (upd H' D o) h h' where
  keep := u.keep
  slot := u.slot
  free := fun b ob q n hx => by
    rw [upd_ne (fun z => by rw [z, hh] at q; cases q)]; exact u.free b ob q n hx
  there := u.there
  tups := fun b xs q => by rw [upd_ne (ne_of_none q hn)]; exact u.tups b xs q
  frzs := fun b ob xs q => by rw [upd_ne (ne_of_none q hn)]; exact u.frzs b ob xs q
  tbls := fun b ps q => by rw [upd_ne (ne_of_none q hn)]; exact u.tbls b ps q
theorem HOk_more {P : Program} {w : World} {H : Hp} {h : Heap} {D : Addr} {o : HO} (x : HOk P w H h) (hn : H D = none) (new : ObjOk P w (upd H D o) h D o) : HOk P w (upd H D o) h := fun b u e => by
  by_cases hb : b = D
  · subst hb
    rw [upd_same] at e
    cases e
    exact new
  · rw [upd_ne hb] at e
    refine (x b u e).stay (fun c v _ q => q) (fun c q => ?_) fun c xs q => ?_
    · rw [upd_ne (ne_of_none q hn)]; exact q
    · rw [upd_ne (ne_of_none q hn)]; exact q
theorem compLoop_any {prog : Program} {w : World} {A : Around} {R : Result → Shared → Prop} {elt tg iter : Expr} {ifs : List Expr} {scope : Scope} {pos : Pos} {it acc : Value} {env : Env} (V : Nat → Shared → Prop)
    (turn : ∀ (n : Nat) (s : Shared) (F : Value → Shared → Prop), V n s → wpAny (model prog w) A (pyNext it) (fun r s1 => match r with
      | none => R (.ok .next) s1
      | some v => wpAny (model prog w) A (letOwnedTupleGo tg it v) (fun _ s2 => wpAny (model prog w) A (assign tg env v) (fun _ s3 =>
          wpAny (model prog w) A (compTests ifs env) (fun ok s4 => if ok = true then wpAny (model prog w) A (eval elt env) (fun x s5 => wpAny (model prog w) A (call (.builtin "list.append") [acc, x]) (fun _ s6 => ∃ m, m < n ∧ V m s6) F s5) F s4
            else ∃ m, m < n ∧ V m s4) F s3) F s2) F s1) F s) :
    ∀ (n : Nat) (s : Shared), V n s → codeAny (model prog w) A (.compLoop (.ListComp elt [⟨tg, iter, ifs, 0⟩] scope pos) 0 it acc env) R s := fun n s h => by
  refine codeAny_loop rfl V (fun n s hV => ?_) n h
  refine wpAny_noted ?_
  rw [compTurn_list]
  refine wpAny_bind (wpAny_standAt (wpAny_bind (thn (turn n s _ hV) fun r s1 h1 => ?_)))
  cases r with
  | none => exact wpAny_pure h1
  | some v =>
    refine wpAny_bind (thn h1 fun _ s2 h2 => wpAny_bind (thn h2 fun _ s3 h3 => ?_))
    have h3 : wpAny (model prog w) A (compTests ifs env) _ _ s3 := h3
    unfold compTests at h3
    rw [show ∀ x : Sem Bool, (x >>= fun q => pure q) = x from fun x => bind_pure x] at h3
    refine wpAny_bind (thn h3 fun ok s4 h4 => ?_)
    cases ok with
    | false => exact wpAny_pure ⟨rfl, h4⟩
    | true => exact wpAny_bind (wpAny_bind (thn h4 fun x s5 h5 => wpAny_bind (thn h5 fun _ s6 h6 => wpAny_pure (wpAny_pure ⟨rfl, h6⟩))))
abbrev lstO (ys : List Value) : Obj := { cls := .type "list", data := .seq ys.toArray ys.length }
def Kept (X : Cx) (ρ : Rho) (O : Sto) (elt : Expr) : List Expr → Option D → Prop
  | [], z => ∃ y, z = some y ∧ EvP X ρ O elt y
  | [c], z => ∃ k, EvT X ρ O c k ∧ (k = true → ∃ y, z = some y ∧ EvP X ρ O elt y) ∧ (k = false → z = none)
  | _, _ => False
theorem EnvR.weak {K : PySem.W.Frag} {G : Wd} {σ : L2.St} {ρ ρ' : Rho} (h : EnvR K G σ ρ) (hl : ρ'.length = ρ.length) (hs : ∀ (i : Nat) (d : D), ρ'[i]? = some (some d) → ρ[i]? = some (some d)) : EnvR K G σ ρ' :=
  ⟨h.len.trans hl.symm, fun i d e => h.get i d (hs i d e)⟩
theorem ex_list {α : Type} (P : Nat → α → Prop) : ∀ n : Nat, (∀ i, i < n → ∃ a, P i a) → ∃ l : List α, l.length = n ∧ ∀ i a, l[i]? = some a → P i a
  | 0, _ => ⟨[], rfl, fun i a h => by simp at h⟩
  | n + 1, h => by
    obtain ⟨l, h1, h2⟩ := ex_list P n fun i hi => h i (Nat.lt_succ_of_lt hi)
    obtain ⟨a, ha⟩ := h n (Nat.lt_succ_self _)
    refine ⟨l ++ [a], by simp [h1], fun i b hb => ?_⟩
    by_cases hi : i < n
    · rw [List.getElem?_append_left (by omega)] at hb; exact h2 i b hb
    · have hin : i = n := by
        have := (List.getElem?_eq_some_iff.mp hb).1
        simp [h1] at this; omega
      subst hin
      rw [List.getElem?_append_right (by omega), h1, Nat.sub_self] at hb
      cases hb; exact ha
section
variable {X : Cx} {ρ : Rho} {O : Sto} {elt tg iter : Expr} {ifs : List Expr} {scope : Scope} {pos : Pos} {xs : List D} {zs : List (Option D)}
theorem fm_take {α : Type} : ∀ (zs : List (Option α)) (i : Nat) (z : Option α), zs[i]? = some z → (zs.take (i + 1)).filterMap id = (zs.take i).filterMap id ++ z.toList := by
  intro zs i z h
  rw [List.take_add_one, h, List.filterMap_append]
  cases z <;> rfl
theorem comp_core (N : List Str) (js : List Nat) (ρ0 : Rho) (hi : EvI X ρ O tg iter xs) (hc : X.calm = true) (hk : scope.kind = .function) (hfr : FreeOk X scope) (hnm : ∀ x ∈ scope.names, x.2 = .local → scope.names.lookup x.1 = some .local)
    (hl0 : ρ0.length = N.length)
    (h0 : ∀ (i : Nat) (d : D), ρ0[i]? = some (some d) → ∃ (x : Str) (j : Nat), N[i]? = some x ∧ scope.names.lookup x = some .free ∧ (∀ y ∈ scope.names, y.1 = x → y.2 ≠ .cell) ∧ X.N[j]? = some x ∧ ρ[j]? = some (some d) ∧ Vis X.env.scope x)
    (hzl : zs.length = xs.length) (hsz : xs.length ≤ sizeLine)
    (turn : ∀ (s : Shared) (H : Hp) (fp : List Addr) (i : Nat) (x : D) (z : Option D), xs[i]? = some x → zs[i]? = some z → ∃ ρ1, Tg (cxC X N scope s H fp) tg x ρ0 ρ1 ∧ ρ1.length = ρ0.length ∧ (∀ (j : Nat) (d : D), ρ0[j]? = some (some d) → ρ1[j]? = some (some d)) ∧ Kept (cxC X N scope s H fp) ρ1 O elt ifs z)
    {use : Option (Value → Sem Unit)} {pins : List (Addr × Obj)} {s : Shared} {σ : L2.St} {H : Hp} {G : Wd} {Q : Value → Shared → Prop} (I : L2.Inv X pins σ H s) (sa : SA X.K G H O) (en : EnvR X.K G σ ρ)
    (fin : ∀ (D C : Addr) (s' : Shared) (H' : Hp) (G' : Wd), L2.Inv X pins σ H' s' → Ext G G' → SA X.K G' H' O → Is X.K G' (.lst (zs.filterMap id)) (.ref D) → FpOk X pins H' C → (∃ m, s'.heap.Ns C m) → compPost (model X.prog X.w) X.A X.xe use Q (.ref D) C (.ok .next) s')
    (hs : ∀ x, foldedSetIterable iter X.env x = pure x := by intro _; rfl) :
    wpAny (model X.prog X.w) X.A (comprehension (.ListComp elt [⟨tg, iter, ifs, 0⟩] scope pos) scope X.env (firstIterPos [⟨tg, iter, ifs, 0⟩] pos) (newList []) false (eval iter X.env) use) Q X.xe s := by
  refine wpAny_comprehension_free rfl hs (clos_eq fun y hy e => I.ok.has _ (hfr y hy e)) hk hnm (thn (hi G pins s σ H (fun J H1 => ∃ G1, Ext G G1 ∧ SA X.K G1 H1 O ∧ Yields X.K G1 J xs) I ⟨sa, en, fun J G1 H1 e1 s1 y1 => ⟨G1, e1, s1, y1⟩⟩) fun v s1 h1 => thn h1 fun itv s2 h2 => ?_)
  obtain ⟨it, fp, tn, J, H2, e, I2, T, st2, f2, G2, e2, sa2, Yi⟩ := h2
  subst e
  have ho2 : ∀ b ∈ fp, ∃ o, s2.heap.get? b = some o := fun b hb => let ⟨o, q, _⟩ := T.obj 0 _ st2 b hb; ⟨o, q⟩
  have hlt : ∀ b ∈ fp, b < s2.heap.objs.size := fun b hb => let ⟨o, q⟩ := ho2 b hb; Heap.lt_size q
  unfold newList
  refine wpAny_newObj_type (newEnv_comp fun bb hbb => ?_)
  have hbb' : bb = X.env.builtins := hbb
  subst hbb'
  have hz1 : (s2.heap.push { cls := .type "list", dict := none, data := .seq ([] : List Value).toArray }).objs.size = s2.heap.objs.size + 1 := Heap.size_push ..
  dsimp only
  rw [hz1]
  generalize hD : s2.heap.objs.size = dd at hz1 ⊢
  -- the block's own context
  have en2 : EnvR X.K G2 σ ρ := en.ext e2
  obtain ⟨σ0, hσl, hσ0⟩ := ex_list (fun i (o : Option V) => (∀ d, ρ0[i]? = some (some d) → ∃ v, o = some v ∧ Is X.K G2 d v) ∧ ∀ v, o = some v → ∃ (x : Str) (j : Nat), N[i]? = some x ∧ scope.names.lookup x = some .free ∧ (∀ y ∈ scope.names, y.1 = x → y.2 ≠ .cell) ∧ X.N[j]? = some x ∧ σ[j]? = some (some v) ∧ Vis X.env.scope x) N.length (fun i hi => by
    cases q : ρ0[i]? with
    | none => exact ⟨none, And.intro (fun d z => nomatch z) (fun v z => nomatch z)⟩
    | some o =>
      cases o with
      | none => exact ⟨none, And.intro (fun d z => nomatch z) (fun v z => nomatch z)⟩
      | some d =>
        obtain ⟨x, j, q1, q2, q3, q4, q5, q6⟩ := h0 i d q
        obtain ⟨v, q7, q8⟩ := en2.get j d q5
        exact ⟨some v, And.intro (fun d' z => by cases z; exact ⟨v, rfl, q8⟩) (fun v' z => by cases z; exact ⟨x, j, q1, q2, q3, q4, q7, q6⟩)⟩)
  have en0 : EnvR X.K G2 σ0 ρ0 := ⟨hσl.trans hl0.symm, fun i d e => by
    have hi : i < σ0.length := by rw [hσl, ← hl0]; exact (List.getElem?_eq_some_iff.mp e).1
    obtain ⟨v, e1, e2⟩ := (hσ0 i σ0[i] (List.getElem?_eq_getElem hi)).1 d e
    exact ⟨v, by rw [List.getElem?_eq_getElem hi, e1], e2⟩⟩
  have I3 := inv_comp (N := N) (scope := scope) (fp := fp) (σ0 := σ0) I2 f2 ho2 hk hfr hσl (fun i v e => (hσ0 i _ e).2 v rfl) s2.toks { cls := .type "list", dict := none, data := .seq ([] : List Value).toArray }
  generalize hY : cxC X N scope s2 H2 fp = Y at I3
  have hD1 : (pushCells ((s2.heap.push { cls := .type "list", dict := none, data := .seq ([] : List Value).toArray }).push { cls := .type "dict", data := .dict #[] }) scope.names).get? dd = some (lstO []) := by
    refine pushCells_keeps _ _ _ _ (Heap.get?_push_of_some _ ?_)
    rw [← hD]
    exact Heap.get?_push_size _ rfl
  have hHD : H2 dd = none := I2.hok.fresh (by rw [hD]; exact Nat.le_refl _)
  have hsD : s2.heap.get? dd = none := Heap.get?_none_of_le (by rw [hD]; exact Nat.le_refl _)
  have hDC : dd ≠ Y.env.locals := by
    rw [← hY]; show dd ≠ s2.heap.objs.size + 1; rw [hD]; exact Nat.ne_of_lt (Nat.lt_succ_self _)
  have hfs : ∀ b ∈ frs X.stack, b < s2.heap.objs.size := fun b hb => by
    rcases List.mem_cons.mp (I2.stkSub b hb) with q | q
    · rw [q]; exact I2.lt
    · exact Nat.lt_of_not_le fun z => I2.nofs z q
  have hYfs : Y.fs = frs X.stack := by rw [← hY]; rfl
  have hDfs : dd ∉ Y.fs := fun z => by rw [hYfs] at z; have := hfs dd z; rw [hD] at this; exact Nat.lt_irrefl _ this
  have hYex : Y.ex = fp := by rw [← hY]; rfl
  have hYpn : Y.pn = [] := by rw [← hY]; rfl
  have hYxe : Y.xe = fun _ _ => False := by rw [← hY]; rfl
  have hYs : Y.s₀.heap.objs.size = dd := by rw [← hY]; exact hD
  have hYc : ∀ x c, Y.env.cells.lookup x = some c → c ≠ dd ∧ ∀ b ∈ fp, c ≠ b := fun x c e => by
    refine ⟨?_, fun b hb => ?_⟩
    · intro z
      subst z
      obtain ⟨v, o, q1, q2⟩ := I3.cell x c e
      rw [hD1] at q1; cases q1; cases q2
    · have := I3.ok.exf b (by rw [hYex]; exact hb)
      exact this.2 x c e
  have fpY : ∀ {H' : Hp} {pl : List (Addr × Obj)}, (∀ b ∈ fp, H' b = none) → (∀ p ∈ pl, p.1 = dd) → ∀ b ∈ fp, FpOk Y pl H' b := fun hn hp b hb => ⟨hn b hb, (I3.ok.exf b (by rw [hYex]; exact hb)).1, I3.ok.exfs b (by rw [hYex]; exact hb), .inl (by rw [hYex]; exact hb), fun x c e => (hYc x c e).2 b hb, fun p hq => by
    rw [hYpn, List.nil_append] at hq
    rw [hp p hq]
    exact Nat.ne_of_gt (by rw [← hD]; exact hlt b hb)⟩
  have I4 : L2.Inv Y [(dd, lstO [])] σ0 H2 { s2 with heap := pushCells ((s2.heap.push { cls := .type "list", dict := none, data := .seq ([] : List Value).toArray }).push { cls := .type "dict", data := .dict #[] }) scope.names, toks := s2.toks } := I3.pins_of fun p hp => by
    rw [List.mem_singleton.mp hp]
    exact ⟨hD1, hHD, hDC, hDfs, fun v z => by cases z⟩
  have st4 : tn 0 (pushCells ((s2.heap.push { cls := .type "list", dict := none, data := .seq ([] : List Value).toArray }).push { cls := .type "dict", data := .dict #[] }) scope.names) := T.keep 0 _ _ st2 fun b hb o e => pushCells_keeps _ _ b o (Heap.get?_push_of_some _ (Heap.get?_push_of_some _ e))
  have hYp : Y.prog = X.prog := by rw [← hY]; rfl
  have hYw : Y.w = X.w := by rw [← hY]; rfl
  have hYK : Y.K = X.K := by rw [← hY]; rfl
  have hYA : Y.A = X.A := by rw [← hY]; rfl
  have hYcm : Y.calm = true := by rw [← hY]; exact hc
  have loop : ∀ s3 : Shared, s3 = { s2 with heap := pushCells ((s2.heap.push { cls := .type "list", dict := none, data := .seq ([] : List Value).toArray }).push { cls := .type "dict", data := .dict #[] }) scope.names } →
      codeAny (model X.prog X.w) X.A (.compLoop (.ListComp elt [⟨tg, iter, ifs, 0⟩] scope pos) 0 (.ref it) (.ref dd) Y.env) (compPost (model X.prog X.w) X.A X.xe use Q (.ref dd) (dd + 1)) s3 := by
    rintro s3 rfl
    refine compLoop_any (fun n s' => ∃ (i : Nat) (G' : Wd) (σ' : L2.St) (H' : Hp) (vs : List V) (its : List Value), n = xs.length - i ∧ i ≤ xs.length ∧ L2.Inv Y [(dd, lstO its)] σ' H' s' ∧ tn i s'.heap ∧ (∀ b ∈ fp, H' b = none) ∧ Ext G2 G' ∧ SA X.K G' H' O ∧ EnvR X.K G' σ' ρ0 ∧
      Iss X.K G' ((zs.take i).filterMap id) vs ∧ Vals vs its ∧ its.length ≤ i) ?_ xs.length _ ⟨0, G2, σ0, H2, [], [], rfl, Nat.zero_le _, I4, st4, fun b hb => (f2 b hb).1, Ext.refl _, sa2, en0, .nil, .nil, Nat.le_refl _⟩
    rintro n s5 F ⟨i, G5, σ5, H5, vs, its, rfl, hil, I5, st5, fr5, e5, sa5, en5, is5, va5, hl5⟩
    by_cases hlt5 : i < xs.length
    · have hx : xs[i]? = some xs[i] := List.getElem?_eq_getElem hlt5
      have hzi : i < zs.length := by omega
      have hz : zs[i]? = some zs[i] := List.getElem?_eq_getElem hzi
      generalize xs[i] = x at hx
      generalize zs[i] = z at hz
      have it5 := T.item Y hYp hYw hYK hYcm i [(dd, lstO its)] s5 σ5 H5 F I5 (fpY fr5 (fun p hp => by rw [List.mem_singleton.mp hp])) st5 (Yi.go i H5 (e5.g.trans sa5.sub) hlt5)
      rw [hYA] at it5
      refine thn it5 fun r s6 ⟨u, hr, h6⟩ => ?_
      subst hr
      refine thn h6 fun _ s7 ⟨xv, H7, I7, r7, y7, st7, fr7⟩ => ?_
      obtain ⟨x', G7, hx', e7, sa7, ix⟩ := Yi.yld i xv H5 H7 G5 O e5 sa5 y7 hlt5
      have : x' = x := Option.some.inj (hx'.symm.trans hx)
      subst this
      have I7' := I7.pinned (fpY fr7 (fun p hp => by rw [List.mem_singleton.mp hp])) (T.obj _ _ st7)
      obtain ⟨ρ1, tg1, hl1, hs1, kp1⟩ := turn s2 H2 fp i x' z hx hz
      rw [hY] at tg1 kp1
      have xeF : ∀ {α : Type} {t : Sem α} {P : α → Shared → Prop} {q : Shared}, wpAny (model Y.prog Y.w) Y.A t P Y.xe q → wpAny (model X.prog X.w) X.A t P F q := fun h => by
        rw [hYp, hYw, hYA, hYxe] at h
        exact wpAny_mono h (fun _ _ q => q) fun _ _ q => q.elim
      refine thn (xeF (tg1 G7 _ s7 σ5 H7 xv u (fun σ' H' => EnvR X.K G7 σ' ρ1 ∧ H' = H7) I7' r7 (by
        rw [hYK]
        exact ⟨ix, sa7.sub, en5.ext e7, fun σ' q => ⟨q, rfl⟩⟩))) fun _ s8 ⟨σ8, H8, I8, en8, hH8⟩ => ?_
      subst hH8
      -- back to the invariant, with or without one more
      have again : ∀ {s9 : Shared} {H9 : Hp} {G9 : Wd} {its' : List Value} {vs' : List V}, L2.Inv Y ((dd, lstO its') :: pinsAt fp s7.heap) σ8 H9 s9 → Ext G7 G9 → SA X.K G9 H9 O → Iss X.K G9 ((zs.take (i + 1)).filterMap id) vs' → Vals vs' its' → its'.length ≤ i + 1 →
          ∃ m, m < xs.length - i ∧ ∃ (i : Nat) (G' : Wd) (σ' : L2.St) (H' : Hp) (vs : List V) (its : List Value), m = xs.length - i ∧ i ≤ xs.length ∧ L2.Inv Y [(dd, lstO its)] σ' H' s9 ∧ tn i s9.heap ∧ (∀ b ∈ fp, H' b = none) ∧ Ext G2 G' ∧ SA X.K G' H' O ∧ EnvR X.K G' σ' ρ0 ∧
            Iss X.K G' ((zs.take i).filterMap id) vs ∧ Vals vs its ∧ its.length ≤ i := fun {s9 H9 G9 its' vs'} I9 e9 sa9 is9 va9 hl9 => by
        refine ⟨xs.length - (i + 1), by omega, i + 1, G9, σ8, H9, vs', its', rfl, hlt5, I9.pins_of (fun p hp => I9.pin p (by rw [hYpn, List.nil_append]; rw [List.mem_singleton.mp hp]; exact List.mem_cons_self)), T.keep _ _ _ st7 fun b hb o e => (I9.pin (b, o) (by rw [hYpn, List.nil_append]; exact List.mem_cons_of_mem _ (mem_pinsAt hb e))).1, fun b hb => ?_, (e5.trans e7).trans e9, sa9, (en8.weak hl1.symm hs1).ext e9, is9, va9, hl9⟩
        obtain ⟨o, e, _⟩ := T.obj _ _ st7 b hb
        exact (I9.pin (b, o) (by rw [hYpn, List.nil_append]; exact List.mem_cons_of_mem _ (mem_pinsAt hb e))).2.1
      have more : ∀ {y : D} {s9 : Shared} {G9 : Wd} {H9 : Hp}, z = some y → L2.Inv Y ([(dd, lstO its)] ++ pinsAt fp s7.heap) σ8 H9 s9 → Ext G7 G9 → SA X.K G9 H9 O → EvP Y ρ1 O elt y → wpAny (model X.prog X.w) X.A (eval elt Y.env) (fun x s5 => wpAny (model X.prog X.w) X.A (call (.builtin "list.append") [.ref dd, x]) (fun _ s6 => ∃ m, m < xs.length - i ∧ ∃ (i : Nat) (G' : Wd) (σ' : L2.St) (H' : Hp) (vs : List V) (its : List Value), m = xs.length - i ∧ i ≤ xs.length ∧ L2.Inv Y [(dd, lstO its)] σ' H' s6 ∧ tn i s6.heap ∧ (∀ b ∈ fp, H' b = none) ∧ Ext G2 G' ∧ SA X.K G' H' O ∧ EnvR X.K G' σ' ρ0 ∧
            Iss X.K G' ((zs.take i).filterMap id) vs ∧ Vals vs its ∧ its.length ≤ i) F s5) F s9 := fun {y s9 G9 H9} hzy I9 e9 sa9 ev => by
        refine thn (xeF (ev G9 _ s9 σ8 H9 (fun v H' => ∃ G', Ext G9 G' ∧ SA X.K G' H' O ∧ Is X.K G' y v) I9 (by
          rw [hYK]
          exact ⟨sa9, en8.ext e9, fun v G' H' q1 q2 q3 => ⟨G', q1, q2, q3⟩⟩))) fun uy s10 ⟨vy, H10, I10, r10, G10, e10, sa10, iy⟩ => ?_
        have p10 := I10.pin (dd, lstO its) (by rw [hYpn, List.nil_append]; exact List.mem_append_left _ List.mem_cons_self)
        refine append_at (hsz := by show its.toArray.size ≤ sizeLine; rw [List.size_toArray]; omega) p10.1 fun h' hs' hD' => ?_
        have Ia : L2.Inv Y (pinsAt fp s7.heap) σ8 H10 s10 := I10.pins_of fun p hp => I10.pin p (by rw [hYpn, List.nil_append]; exact List.mem_append_right _ hp)
        have Ib : L2.Inv Y (pinsAt fp s7.heap) σ8 H10 { s10 with heap := h' } := Ia.turned (t' := s10.toks) (fun b o hb e => (hs'.2 b hb).trans e) p10.2.1 hDC (.inr (by rw [hYs]; exact Nat.le_refl _)) (fun x c e => (hYc x c e).1) (fun p hp => by
          rw [hYpn, List.nil_append] at hp
          obtain ⟨hb, _⟩ := of_pinsAt hp
          exact Nat.ne_of_lt (by rw [← hD]; exact hlt p.1 hb))
        have Ic : L2.Inv Y ((dd, lstO (its ++ [uy])) :: pinsAt fp s7.heap) σ8 H10 { s10 with heap := h' } := Ib.pins_of fun p hp => by
          rcases List.mem_cons.mp hp with q | q
          · rw [q]
            refine ⟨hD'.trans ?_, p10.2.1, hDC, hDfs, fun v z => by cases z⟩
            congr 1
            simp [lstO]
          · exact Ib.pin p (by rw [hYpn, List.nil_append]; exact q)
        refine again Ic (e9.trans e10) sa10 (vs' := vs ++ [vy]) ?_ (va5.append (.cons r10 .nil)) (by rw [List.length_append, List.length_singleton]; omega)
        rw [fm_take zs i z hz, hzy]
        exact (is5.ext ((e7.trans e9).trans e10)).append (.cons iy .nil)
      match ifs, kp1 with
      | [], kp1 =>
        obtain ⟨y, hzy, ev⟩ := kp1
        unfold compTests
        refine wpAny_bind (wpAny_tests_nil (wpAny_pure ?_))
        simp only [if_true]
        exact more hzy I8 (Ext.refl _) sa7 ev
      | [c], kp1 =>
        obtain ⟨k, tc, ht, hff⟩ := kp1
        unfold compTests
        refine wpAny_bind (wpAny_tests_one (thn (xeF (tc G7 _ s8 σ8 H8 (fun b H' => b = k ∧ ∃ G', Ext G7 G' ∧ SA X.K G' H' O) I8 (by
          rw [hYK]
          exact ⟨sa7, en8, fun G' H' q1 q2 => ⟨rfl, G', q1, q2⟩⟩))) fun b s9 ⟨H9, I9, hb, G9, e9, sa9⟩ => wpAny_pure ?_))
        subst hb
        cases b with
        | true =>
          obtain ⟨y, hzy, ev⟩ := ht rfl
          simp only [if_true]
          exact more hzy I9 e9 sa9 ev
        | false =>
          simp only [Bool.false_eq_true, if_false]
          refine again I9 e9 sa9 (vs' := vs) ?_ va5 (Nat.le_succ_of_le hl5)
          rw [fm_take zs i z hz, hff rfl]
          simpa using is5.ext (e7.trans e9)
      | _ :: _ :: _, kp1 => exact kp1.elim
    · have hie : i = xs.length := by omega
      subst hie
      have dn := T.done Y hYp hYw hYK hYcm xs.length [(dd, lstO its)] s5 σ5 H5 F I5 (fpY fr5 (fun p hp => by rw [List.mem_singleton.mp hp])) st5 (Yi.stop _ H5 (e5.g.trans sa5.sub) (Nat.le_refl _))
      rw [hYA] at dn
      refine thn dn fun r s6 ⟨hr, I6⟩ => ?_
      subst hr
      have p6 := I6.pin (dd, lstO its) (by rw [hYpn, List.nil_append]; exact List.mem_cons_self)
      rw [← hzl, List.take_length] at is5
      have vl : vs.length ≤ sizeLine := by rw [va5.length]; omega
      have Ix : L2.Inv X pins σ (upd H5 dd (.lst vs)) s6 := by
        have un := I6.base
        rw [hYfs, hYex, ← hY] at un
        have un : Un (frs X.stack) fp H2 H5 s2.heap s6.heap := un
        refine I2.call' (ch := fp) (I6.os.trans (by rw [← hY]; rfl)) (Un_more un hHD hsD) ?_ I6.bare fun b hb => ?_
        · have hk6 := I6.hok
          rw [hYp, hYw] at hk6
          exact HOk_more hk6 p6.2.1 ⟨vl, its, its.length, va5, p6.1⟩
        · obtain ⟨_, f1, _, f3, f4, f5⟩ := f2 b hb
          exact ⟨f3, f1, f4, f5⟩
      obtain ⟨ed, sd⟩ := sa5.laid (p := dd) (o := .lst vs) p6.2.1
      refine fin dd (dd + 1) s6 _ _ Ix ((e2.trans e5).trans ed) sd (.lst upd_same (is5.ext ed)) ?_ ?_
      · have hC : dd + 1 = Y.env.locals := by rw [← hY]; show dd + 1 = s2.heap.objs.size + 1; rw [hD]
        have ge : s2.heap.objs.size ≤ dd + 1 := by rw [hD]; exact Nat.le_succ _
        have := I2.fpOk (H' := upd H5 dd (.lst vs)) ge (by
          have q := I6.free
          rw [← hC] at q
          rw [upd_ne (show dd + 1 ≠ dd from Nat.succ_ne_self _)]
          exact q)
        exact this
      · obtain ⟨m, hn, _⟩ := I6.loc
        rw [← hY] at hn
        have hn : s6.heap.Ns (s2.heap.objs.size + 1) m := hn
        rw [hD] at hn
        exact ⟨m, hn⟩
  have eY : Y.env = { scope := relabel scope X.env, locals := dd + 1, globals := X.env.globals, cells := cellsFrom (dd + 1 + 1) scope.names (closOf X.env scope.names []), qual := X.env.qual, func := none, code := X.env.code, frame := X.env.frame, builtins := X.env.builtins } := by
    rw [← hY]
    show compEnvC _ _ _ _ = _
    rw [hD]
    rfl
  rw [← eY]
  exact codeAny_compStart_list (loop _ rfl) (T.self X.A 0 _ _ _ st4 (loop _ rfl))
def freeB (XN : List Str) (xs cs : List (Str × NameKind)) (F : List Str) (js : List Nat) : Bool :=
  (js.map fun j => XN[j]?) == F.map some && (F.all fun x => cs.lookup x == some .free && (cs.all fun y => y.1 != x || y.2 != .cell) && (xs.lookup x == some .cell || xs.lookup x == some .free)) &&
  (cs.all fun y => (y.2 != .free || xs.lookup y.1 == some .cell || xs.lookup y.1 == some .free) && (y.2 != .local || cs.lookup y.1 == some .local))
def frOf (ρ : Rho) (js : List Nat) : Rho := js.map fun j => (ρ[j]?).getD none
theorem freeB_free {F : List Str} {js : List Nat} (h : freeB X.N X.env.scope.names scope.names F js = true) : FreeOk X scope := fun y hy e => by
  unfold freeB at h
  simp only [Bool.and_eq_true, List.all_eq_true] at h
  have q := (h.2 y hy).1
  rw [e] at q
  have q : (X.env.scope.names.lookup y.1 == some .cell || X.env.scope.names.lookup y.1 == some .free) = true := by simpa using q
  rcases (Bool.or_eq_true _ _).mp q with q | q
  · exact .inl (show X.env.scope.names.lookup y.1 = _ by simpa using q)
  · exact .inr (show X.env.scope.names.lookup y.1 = _ by simpa using q)
theorem freeB_loc {F : List Str} {js : List Nat} (h : freeB X.N X.env.scope.names scope.names F js = true) : ∀ x ∈ scope.names, x.2 = .local → scope.names.lookup x.1 = some .local := fun y hy e => by
  unfold freeB at h
  simp only [Bool.and_eq_true, List.all_eq_true] at h
  have q := (h.2 y hy).2
  rw [e] at q
  simpa using q
theorem freeB_at {T F : List Str} {js : List Nat} (h : freeB X.N X.env.scope.names scope.names F js = true) (i : Nat) (d : D) (e : (T.map (fun _ => (none : Option D)) ++ frOf ρ js)[i]? = some (some d)) :
    ∃ (x : Str) (j : Nat), (T ++ F)[i]? = some x ∧ scope.names.lookup x = some .free ∧ (∀ y ∈ scope.names, y.1 = x → y.2 ≠ .cell) ∧ X.N[j]? = some x ∧ ρ[j]? = some (some d) ∧ Vis X.env.scope x := by
  unfold freeB at h
  simp only [Bool.and_eq_true, List.all_eq_true, beq_iff_eq] at h
  obtain ⟨⟨h1, h2⟩, h3⟩ := h
  by_cases hi : i < T.length
  · rw [List.getElem?_append_left (by simpa using hi), List.getElem?_map] at e
    cases q : T[i]? with
    | none => rw [q] at e; cases e
    | some _ => rw [q] at e; cases e
  · rw [List.getElem?_append_right (by simpa using hi), List.length_map] at e
    unfold frOf at e
    rw [List.getElem?_map] at e
    cases q : js[i - T.length]? with
    | none => rw [q] at e; cases e
    | some j =>
      rw [q] at e
      have e : (ρ[j]?).getD none = some d := Option.some.inj e
      have hρ : ρ[j]? = some (some d) := by
        cases q2 : ρ[j]? with
        | none => rw [q2] at e; cases e
        | some o => rw [q2] at e; rw [show o = some d from e]
      have hF := congrArg (fun l => l[i - T.length]?) h1
      simp only [List.getElem?_map, q, Option.map_some] at hF
      cases qF : F[i - T.length]? with
      | none => rw [qF] at hF; cases hF
      | some x =>
        rw [qF] at hF
        have hF : X.N[j]? = some x := Option.some.inj hF
        obtain ⟨⟨g1, g2⟩, g3⟩ := h2 x (List.mem_of_getElem? qF)
        refine ⟨x, j, by rw [List.getElem?_append_right (by omega)]; exact qF, g1, fun y hy ey => ?_, hF, hρ, ?_⟩
        · have := g2 y hy
          rw [ey] at this
          simpa using this
        · rcases (Bool.or_eq_true _ _).mp g3 with g | g
          · exact .inr (.inl (by simpa using g))
          · exact .inr (.inr (by simpa using g))
theorem sub_fr {ts fr : Rho} {T : List Str} (h : ts.length = T.length) : (ts ++ fr).length = (T.map (fun _ => (none : Option D)) ++ fr).length ∧ ∀ (j : Nat) (d : D), (T.map (fun _ => (none : Option D)) ++ fr)[j]? = some (some d) → (ts ++ fr)[j]? = some (some d) := by
  refine ⟨by simp [h], fun j d e => ?_⟩
  by_cases hj : j < T.length
  · rw [List.getElem?_append_left (by simpa using hj), List.getElem?_map] at e
    cases q : T[j]? with
    | none => rw [q] at e; cases e
    | some _ => rw [q] at e; cases e
  · rw [List.getElem?_append_right (by simpa using hj), List.length_map] at e
    rw [List.getElem?_append_right (by omega), h]
    exact e
def CTurn (X : Cx) (T F : List Str) (js : List Nat) (ρ : Rho) (O : Sto) (scope : Scope) (tg elt : Expr) (ifs : List Expr) (x : D) (z : Option D) : Prop :=
  ∀ (s : Shared) (H : Hp) (fp : List Addr), ∃ ts : Rho, ts.length = T.length ∧ Tg (cxC X (T ++ F) scope s H fp) tg x (T.map (fun _ => (none : Option D)) ++ frOf ρ js) (ts ++ frOf ρ js) ∧ Kept (cxC X (T ++ F) scope s H fp) (ts ++ frOf ρ js) O elt ifs z
theorem ev_compZ (T F : List Str) (js : List Nat) (hi : EvI X ρ O tg iter xs) (hzl : zs.length = xs.length) (hsz : xs.length ≤ sizeLine) (turn : ∀ (i : Nat) (x : D) (z : Option D), xs[i]? = some x → zs[i]? = some z → CTurn X T F js ρ O scope tg elt ifs x z)
    (hfl : F.length = js.length) (hB : freeB X.N X.env.scope.names scope.names F js = true) (hc : X.calm = true) (hk : scope.kind = .function) (hs : ∀ x, foldedSetIterable iter X.env x = pure x) :
    EvP X ρ O (.ListComp elt [⟨tg, iter, ifs, 0⟩] scope pos) (.lst (zs.filterMap id)) := fun G pins s σ H Q I ⟨h1, h2, h3⟩ => by
  rw [eval_ListComp]
  refine comp_core (T ++ F) js (T.map (fun _ => (none : Option D)) ++ frOf ρ js) hi hc hk (freeB_free hB) (freeB_loc hB) (by simp [frOf, hfl]) (freeB_at hB) hzl hsz (fun s H fp i x z q1 q2 => ?_) I h1 h2 (fun dd C s' H' G' I' e' sa' is' fo ns => ?_) hs
  · obtain ⟨ts, t1, t2, t3⟩ := turn i x z q1 q2 s H fp
    obtain ⟨u1, u2⟩ := sub_fr (fr := frOf ρ js) t1
    exact ⟨_, t2, u1, u2, t3⟩
  · obtain ⟨m, hn⟩ := ns
    refine ⟨m, hn, fun h' hs' => ?_⟩
    obtain ⟨f0, f1, f2, f3, f4, f5⟩ := fo
    exact ⟨.ref dd, H', I'.turned (t' := s'.toks) (fun b o hb e => (hs'.2 b hb).trans e) f0 f1 f3 f4 f5, rfl, h3 _ G' H' e' sa' is'⟩
theorem x_setC {x : Str} {p spos : Pos} {P : Post} (k : Nat) (T F : List Str) (js : List Nat) (hi : EvI X ρ O tg iter xs) (hzl : zs.length = xs.length) (hsz : xs.length ≤ sizeLine) (turn : ∀ (i : Nat) (x : D) (z : Option D), xs[i]? = some x → zs[i]? = some z → CTurn X T F js ρ O scope tg elt ifs x z)
    (h : P.nx (ρ.set k (some (.lst (zs.filterMap id)))) O) (hN : X.N.Nodup) (hx : X.N[k]? = some x) (hlc : Loc X.env.scope x) (hf : X.fn x = true ∨ X.env.scope.names.lookup x = some .local)
    (hfl : F.length = js.length) (hB : freeB X.N X.env.scope.names scope.names F js = true) (hc : X.calm = true) (hk : scope.kind = .function) (hs : ∀ x, foldedSetIterable iter X.env x = pure x)
    (hsw : swapsWith (.ListComp elt [⟨tg, iter, ifs, 0⟩] scope pos) (some (.Name x p)) spos.line X.env = pure true) : Ex X ρ O (.Assign [.Name x p] (.ListComp elt [⟨tg, iter, ifs, 0⟩] scope pos) spos) P := fun G pins s σ H E I ⟨h1, h2, h3⟩ => by
  rw [PySem.exec_Assign_Name_used _ _ _ _ hsw]
  refine wpAny_bind (wpAny_standAt (wpAny_bind ?_))
  show wpAny _ _ (do let _ ← comprehension (.ListComp elt [⟨tg, iter, ifs, 0⟩] scope pos) scope X.env _ (newList []) false (eval iter X.env) (some (assign (.Name x p) X.env))) _ _ s
  refine wpAny_bind (thn (comp_core (use := some (assign (.Name x p) X.env)) (Q := fun _ s' => SP X pins E .next s') (T ++ F) js (T.map (fun _ => (none : Option D)) ++ frOf ρ js) hi hc hk (freeB_free hB) (freeB_loc hB) (by simp [frOf, hfl]) (freeB_at hB) hzl hsz (fun s H fp i x z q1 q2 => ?_) I h1 h2 (fun dd C s' H' G' I' e' sa' is' fo ns => ?_) hs) fun _ s' hq => wpAny_pure (wpAny_pure hq))
  · obtain ⟨ts, t1, t2, t3⟩ := turn i x z q1 q2 s H fp
    obtain ⟨u1, u2⟩ := sub_fr (fr := frOf ρ js) t1
    exact ⟨_, t2, u1, u2, t3⟩
  · obtain ⟨m, hn⟩ := ns
    obtain ⟨f0, f1, f2, f3, f4, f5⟩ := fo
    refine wpAny_assign_Name (store_ok2 I' hN hx hlc (v := .ref dd) rfl (fun s2 I2 ⟨a, sb, ha⟩ => ?_) hf)
    have hCa : C ≠ a := by
      rcases ha with q | q
      · rw [q]; exact f1
      · exact Ne.symm (f4 _ _ q)
    refine ⟨m, hn.sameBut sb hCa, fun h' hs' => ?_⟩
    exact ⟨_, H', I2.turned (t' := s2.toks) (fun b o hb e => (hs'.2 b hb).trans e) f0 f1 f3 f4 f5, h3.nx _ _ O G' H' e' sa' ((h2.ext e').set k is') h⟩
end
end DL
set_option Elab.async false
set_option linter.all false
set_option maxRecDepth 100000
namespace DL
open PySem PySem.Spec PyProof.Rows L2 PySem.W
def kRun {α : Type} (lt : Nat → Nat → Bool) : KasT α → α
  | .ret a => a
  | .ask i j k => kRun lt (k (lt i j))
section
variable (key : Nat → Int)
abbrev ltK (i j : Nat) : Bool := decide (key i < key j)
def KQ (p : Array Nat) (i : Nat) : Int := key (p.getD i 0)
def Srt (p : Array Nat) (m : Nat) : Prop := ∀ i j, i ≤ j → j < m → KQ key p i ≤ KQ key p j
end
end DL
set_option Elab.async false
set_option linter.all false
set_option maxRecDepth 100000
set_option maxHeartbeats 2000000
namespace DL
open PySem PySem.Spec PyProof.Rows L2 PySem.W
def SIt (k : Bool) (h : Heap) (it l : Addr) (i : Nat) : Prop := if k then h.IsListIter it l i else h.IsTupleIter it l i
def SSq (k : Bool) (h : Heap) (l : Addr) (xs : Array Value) : Prop := if k then h.IsList l xs else h.IsTuple l xs
section
variable {k : Bool} {h h' : Heap} {it l b : Addr} {i : Nat} {xs : Array Value}
theorem SIt.at (q : SIt k h it l i) (e : ∀ o, h.get? it = some o → h'.get? it = some o) : SIt k h' it l i := by
  cases k with
  | true => obtain ⟨o, g, r⟩ := (q : h.IsListIter it l i); exact ⟨o, e o g, r⟩
  | false => obtain ⟨o, g, r⟩ := (q : h.IsTupleIter it l i); exact ⟨o, e o g, r⟩
theorem SSq.at (q : SSq k h l xs) (e : ∀ o, h.get? l = some o → h'.get? l = some o) : SSq k h' l xs := by
  cases k with
  | true => obtain ⟨o, g, r⟩ := (q : h.IsList l xs); exact ⟨o, e o g, r⟩
  | false => obtain ⟨o, g, r⟩ := (q : h.IsTuple l xs); exact ⟨o, e o g, r⟩
theorem SIt.obj (q : SIt k h it l i) : ∃ o, h.get? it = some o ∧ ∀ v, o.data ≠ .cell v := by
  cases k with
  | true => obtain ⟨o, g, c, d⟩ := (q : h.IsListIter it l i); exact ⟨o, g, fun v z => by rw [d] at z; cases z⟩
  | false => obtain ⟨o, g, c, d⟩ := (q : h.IsTupleIter it l i); exact ⟨o, g, fun v z => by rw [d] at z; cases z⟩
end
theorem drawn_by {prog : Program} {w : World} {A : Around} {E : Value → Shared → Prop} {s : Shared} {T id : String} {b : Builtin} {v : Value} {Q : Value → Shared → Prop} (hT : s.TypeIs v T) (sl : Slot T (Str.ofString "__next__") id) (en : entryFor table id = some b) (ok : argsOk id ⟨[v], []⟩)
    (h : wpAny (model prog w) A.in1 (b ⟨[v], []⟩) (fun fin s' => ∃ x, fin = .done (.ret x) ∧ Q x s') E s) : wpAny (model prog w) A (Builtin.SmallTypes.nextOf v) Q E s :=
  wpAny_bind (wpAny_callSpecial?_slot hT sl (wpAny_call_entry sl hT en (wpAny_mono h (fun fin s' ⟨x, e, q⟩ => ⟨x, e, wpAny_pure q⟩) fun _ _ e => e) ok))
section
variable {prog : Program} {w : World} {A : Around} {E : Value → Shared → Prop} {s : Shared} {it l : Addr} {i : Nat} {xs : Array Value} {Q : Value → Shared → Prop}
theorem tup_item {x : Value} (q : s.heap.IsTupleIter it l i) (t : s.heap.IsTuple l xs) (hx : xs[i]? = some x) (hQ : ∀ h', h'.IsTupleIter it l (i + 1) → Heap.SameBut it s.heap h' → Q x { s with heap := h' }) : wpAny (model prog w) A (Builtin.SmallTypes.nextOf (.ref it)) Q E s := by
  refine drawn_by q.typeIs F.slot_tuple_iterator_next F.entry_tuple_iterator_next (F.args_tuple_iterator_next_1 _) ?_
  obtain ⟨h, g, d, tk, os⟩ := s
  obtain ⟨⟨c, dc, da, sl⟩, gi, rfl, rfl⟩ := q
  obtain ⟨⟨c, dc, da, sl⟩, gt, rfl, n, rfl⟩ := t
  dsimp only at gi gt hQ
  wp_walk
  rw [Int.toNat_natCast, hx]
  wp_walk
  exact ⟨x, rfl, hQ _ ⟨_, Heap.get?_update_self _ gi rfl, rfl, by simp [Obj.mapFields, rawInt]⟩ (Heap.SameBut.update ..)⟩
theorem tup_end (hh : A.handled = none) (q : s.heap.IsTupleIter it l i) (t : s.heap.IsTuple l xs) (hx : xs[i]? = none) (hE : ∀ h' e, Heap.ExtBut it s.heap h' → (∃ o, h'.get? e = some o ∧ o.cls = .type "StopIteration") → E (.ref e) { s with heap := h' }) : wpAny (model prog w) A (Builtin.SmallTypes.nextOf (.ref it)) Q E s := by
  refine drawn_by q.typeIs F.slot_tuple_iterator_next F.entry_tuple_iterator_next (F.args_tuple_iterator_next_1 _) ?_
  obtain ⟨h, g, d, tk, os⟩ := s
  obtain ⟨⟨c, dc, da, sl⟩, gi, rfl, rfl⟩ := q
  obtain ⟨⟨c, dc, da, sl⟩, gt, rfl, n, rfl⟩ := t
  dsimp only at gi gt hE
  have hh1 : A.in1.handled = none := hh
  wp_walk
  rw [Int.toNat_natCast, hx]
  wp_walk
  unfold raiseNew
  wp_walk
  exact hE _ _ (fun b u hb e => Heap.get?_push_of_some _ (Heap.get?_push_of_some _ ((Heap.get?_update_ne _ _ _ _ hb).trans e))) ⟨_, Heap.get?_push_size _ rfl, rfl⟩
theorem sq_item {k : Bool} {x : Value} (q : SIt k s.heap it l i) (t : SSq k s.heap l xs) (hx : xs[i]? = some x) (hQ : ∀ h', SIt k h' it l (i + 1) → Heap.SameBut it s.heap h' → Q x { s with heap := h' }) : wpAny (model prog w) A (Builtin.SmallTypes.nextOf (.ref it)) Q E s :=
  match k with
  | true => wpAny_nextOf_list_item q t hx hQ
  | false => tup_item q t hx hQ
theorem sq_end {k : Bool} (hh : A.handled = none) (q : SIt k s.heap it l i) (t : SSq k s.heap l xs) (hx : xs[i]? = none) (hE : ∀ h' e, Heap.ExtBut it s.heap h' → (∃ o, h'.get? e = some o ∧ o.cls = .type "StopIteration") → E (.ref e) { s with heap := h' }) : wpAny (model prog w) A (Builtin.SmallTypes.nextOf (.ref it)) Q E s :=
  match k with
  | true => wpAny_nextOf_list_end hh q t hx hE
  | false => tup_end hh q t hx hE
end
def zObj (n : Nat) (f0 f1 : Value) : Obj := { cls := .type "zip", dict := none, data := .fields #[f0, f1, .bool false, .ref (n + 2), .ref (n + 3)], slots := #[] }
structure ZW (n : Nat) (k1 k2 : Bool) (l1 l2 i1 i2 : Nat) (xs ys : Array Value) (f0 f1 a b : Value) (h : Heap) : Prop where
  z : h.get? (n + 4) = some { cls := .type "zip", dict := none, data := .fields #[f0, f1, .bool false, .ref (n + 2), .ref (n + 3)], slots := #[] }
  ti : h.get? (n + 2) = some { cls := .type "tuple", data := .seq #[.ref n, .ref (n + 1)] }
  to : h.get? (n + 3) = some { cls := .type "tuple", data := .seq #[a, b] }
  w1 : SIt k1 h n l1 i1
  w2 : SIt k2 h (n + 1) l2 i2
  s1 : SSq k1 h l1 xs
  s2 : SSq k2 h l2 ys
  b1 : l1 < n
  b2 : l2 < n
theorem ap {x y : Nat} (h : x ≠ y) : @Ne Addr x y := h
def Oth (n : Nat) (h h' : Heap) : Prop := ∀ c o, c ≠ n + 4 → c ≠ n + 3 → c ≠ n → c ≠ n + 1 → h.get? c = some o → h'.get? c = some o
theorem Oth.refl (n : Nat) (h : Heap) : Oth n h h := fun _ _ _ _ _ _ e => e
theorem Oth.on {n : Nat} {h h1 h2 : Heap} (p : Oth n h h1) (q : Oth n h1 h2) : Oth n h h2 := fun c o c1 c2 c3 c4 e => q c o c1 c2 c3 c4 (p c o c1 c2 c3 c4 e)
theorem Oth.of {n c : Nat} {h h' : Heap} (e : Heap.SameBut c h h') (m : c = n + 4 ∨ c = n + 3 ∨ c = n ∨ c = n + 1) : Oth n h h' :=
  fun d o d1 d2 d3 d4 q => e.extBut _ _ (by rcases m with rfl | rfl | rfl | rfl <;> assumption) q
section
variable {prog : Program} {w : World} {A : Around} {E : Value → Shared → Prop} {s : Shared} {n l1 l2 i1 i2 : Nat} {k1 k2 : Bool} {xs ys : Array Value} {f0 f1 a b v : Value}
theorem ZW.mark0 {Q : Unit → Shared → Prop} (W : ZW n k1 k2 l1 l2 i1 i2 xs ys f0 f1 a b s.heap) (hQ : ∀ h', ZW n k1 k2 l1 l2 i1 i2 xs ys v f1 a b h' → Oth n s.heap h' → h'.objs.size = s.heap.objs.size → Q () { s with heap := h' }) : wpAny (model prog w) A (setField (.ref (n + 4)) 0 v) Q E s :=
  wpAny_setField_rec W.z (by simp) fun h' g e => hQ h' ⟨g, e.extBut _ _ (ap (by omega)) W.ti, e.extBut _ _ (ap (by omega)) W.to, W.w1.at fun o => e.extBut _ _ (ap (by omega)), W.w2.at fun o => e.extBut _ _ (ap (by omega)), W.s1.at fun o => e.extBut _ _ (ap (by have := W.b1; omega)), W.s2.at fun o => e.extBut _ _ (ap (by have := W.b2; omega)), W.b1, W.b2⟩ (.of e (.inl rfl)) e.1
theorem ZW.mark1 {Q : Unit → Shared → Prop} (W : ZW n k1 k2 l1 l2 i1 i2 xs ys f0 f1 a b s.heap) (hQ : ∀ h', ZW n k1 k2 l1 l2 i1 i2 xs ys f0 v a b h' → Oth n s.heap h' → h'.objs.size = s.heap.objs.size → Q () { s with heap := h' }) : wpAny (model prog w) A (setField (.ref (n + 4)) 1 v) Q E s :=
  wpAny_setField_rec W.z (by simp) fun h' g e => hQ h' ⟨g, e.extBut _ _ (ap (by omega)) W.ti, e.extBut _ _ (ap (by omega)) W.to, W.w1.at fun o => e.extBut _ _ (ap (by omega)), W.w2.at fun o => e.extBut _ _ (ap (by omega)), W.s1.at fun o => e.extBut _ _ (ap (by have := W.b1; omega)), W.s2.at fun o => e.extBut _ _ (ap (by have := W.b2; omega)), W.b1, W.b2⟩ (.of e (.inl rfl)) e.1
theorem ZW.put {j : Nat} {Q : Unit → Shared → Prop} (W : ZW n k1 k2 l1 l2 i1 i2 xs ys f0 f1 a b s.heap) (hQ : ∀ h', ZW n k1 k2 l1 l2 i1 i2 xs ys f0 f1 (if j = 0 then v else a) (if j = 1 then v else b) h' → Oth n s.heap h' → h'.objs.size = s.heap.objs.size → Q () { s with heap := h' }) : wpAny (model prog w) A (updateSeq (n + 3) (·.setIfInBounds j v)) Q E s :=
  wpAny_updateSeq_pair W.to fun h' g e => hQ h' ⟨e.extBut _ _ (ap (by omega)) W.z, e.extBut _ _ (ap (by omega)) W.ti, by rw [g]; match j with | 0 => rfl | 1 => rfl | _ + 2 => rfl, W.w1.at fun o => e.extBut _ _ (ap (by omega)), W.w2.at fun o => e.extBut _ _ (ap (by omega)), W.s1.at fun o => e.extBut _ _ (ap (by have := W.b1; omega)), W.s2.at fun o => e.extBut _ _ (ap (by have := W.b2; omega)), W.b1, W.b2⟩ (.of e (.inr (.inl rfl))) e.1
theorem ZW.draw1 {x : Value} {Q : Value → Shared → Prop} (W : ZW n k1 k2 l1 l2 i1 i2 xs ys f0 f1 a b s.heap) (hx : xs[i1]? = some x) (hQ : ∀ h', ZW n k1 k2 l1 l2 (i1 + 1) i2 xs ys f0 f1 a b h' → Oth n s.heap h' → h'.objs.size = s.heap.objs.size → Q x { s with heap := h' }) : wpAny (model prog w) A (Builtin.SmallTypes.nextOf (.ref n)) Q E s :=
  sq_item W.w1 W.s1 hx fun h' g e => hQ h' ⟨e.extBut _ _ (ap (by omega)) W.z, e.extBut _ _ (ap (by omega)) W.ti, e.extBut _ _ (ap (by omega)) W.to, g, W.w2.at fun o => e.extBut _ _ (ap (by omega)), W.s1.at fun o => e.extBut _ _ (ap (by have := W.b1; omega)), W.s2.at fun o => e.extBut _ _ (ap (by have := W.b2; omega)), W.b1, W.b2⟩ (.of e (.inr (.inr (.inl rfl)))) e.1
theorem ZW.draw2 {y : Value} {Q : Value → Shared → Prop} (W : ZW n k1 k2 l1 l2 i1 i2 xs ys f0 f1 a b s.heap) (hy : ys[i2]? = some y) (hQ : ∀ h', ZW n k1 k2 l1 l2 i1 (i2 + 1) xs ys f0 f1 a b h' → Oth n s.heap h' → h'.objs.size = s.heap.objs.size → Q y { s with heap := h' }) : wpAny (model prog w) A (Builtin.SmallTypes.nextOf (.ref (n + 1))) Q E s :=
  sq_item W.w2 W.s2 hy fun h' g e => hQ h' ⟨e.extBut _ _ (ap (by omega)) W.z, e.extBut _ _ (ap (by omega)) W.ti, e.extBut _ _ (ap (by omega)) W.to, W.w1.at fun o => e.extBut _ _ (ap (by omega)), g, W.s1.at fun o => e.extBut _ _ (ap (by have := W.b1; omega)), W.s2.at fun o => e.extBut _ _ (ap (by have := W.b2; omega)), W.b1, W.b2⟩ (.of e (.inr (.inr (.inr rfl)))) e.1
def ZF (f0 : Value) : Prop := f0 = .none ∨ ∃ c : Nat, f0 = rawInt (c : Int)
theorem alive_as {M : Model} {c : Addr} {Q : Option Obj → Shared → Prop} (h : Q (s.heap.get? c) s) : wpAny M A (loadIfAlive c) Q E s := fun _ _ _ => h
theorem ZW.free {Q : Bool → Shared → Prop} (W : ZW n k1 k2 l1 l2 i1 i2 xs ys f0 f1 a b s.heap) (hf : ZF f0) (y : Q true s) (z : ∀ h' f, ZW n k1 k2 l1 l2 i1 i2 xs ys f0 f a b h' → Oth n s.heap h' → h'.objs.size = s.heap.objs.size → Q false { s with heap := h' }) : wpAny (model prog w) A (Builtin.SmallTypes.ownedTupleIsFree (.ref (n + 4))) Q E s := by
  obtain ⟨h, g, d, tk, os⟩ := s
  have hz := W.z
  dsimp only at hz
  rcases hf with rfl | ⟨c, rfl⟩
  · wp_walk
    exact y
  · wp_walk using alive_as
    cases h.get? (Int.toNat (c : Int)) with
    | none => wp_walk; exact y
    | some o =>
      by_cases m : f1 = .bool true
      · subst m
        wp_walk
        exact z _ _ W (Oth.refl _ _) rfl
      · wp_walk using W.mark1
        exact fun h' V o1 o2 => wpAny_pure (z h' _ V o1 o2)
theorem for_two {M : Model} {β : Type} {x y : Value} {b : β} {f : Value → β → Sem (ForInStep β)} {Q : β → Shared → Prop} (h : wpAny M A (forIn [x, y] b f) Q E s) : wpAny M A (forIn #[x, y] b f) Q E s := by
  rw [← Array.forIn_toList]; exact h
theorem ZW.more {h : Heap} {o : Obj} (W : ZW n k1 k2 l1 l2 i1 i2 xs ys f0 f1 a b h) : ZW n k1 k2 l1 l2 i1 i2 xs ys f0 f1 a b (h.push o) :=
  have e : ∀ c u, h.get? c = some u → (h.push o).get? c = some u := fun c u q => Heap.get?_push_of_some _ q
  ⟨e _ _ W.z, e _ _ W.ti, e _ _ W.to, W.w1.at (e _), W.w2.at (e _), W.s1.at (e _), W.s2.at (e _), W.b1, W.b2⟩
theorem Oth.more {h h' : Heap} {o : Obj} (p : Oth n h h') : Oth n h (h'.push o) := p.on fun c u _ _ _ _ q => Heap.get?_push_of_some _ q
theorem zip_item {i : Nat} {x y : Value} {Q : Value → Shared → Prop} (W : ZW n k1 k2 l1 l2 i i xs ys f0 f1 a b s.heap) (hf : ZF f0) (hx : xs[i]? = some x) (hy : ys[i]? = some y)
    (hQ : ∀ h' f0' f1' a' b', ZW n k1 k2 l1 l2 (i + 1) (i + 1) xs ys f0' f1' a' b' h' → ZF f0' → IsPair h' s.heap.objs.size x y → Oth n s.heap h' → Q (.ref s.heap.objs.size) { s with heap := h' }) :
    wpAny (model prog w) A (Builtin.«zip.__next__» ⟨[.ref (n + 4)], []⟩) (fun fin s' => ∃ v, fin = .done (.ret v) ∧ Q v s') E s := by
  obtain ⟨h, g, d, tk, os⟩ := s
  dsimp only at W hQ
  have z := W.z
  have t := W.ti
  have ok : ∀ h4 : Heap, h4.objs.size = h.objs.size → ∀ v, (h4.push v).objs.size = h.objs.size + 1 := fun h4 e v => by rw [Heap.size_push, e]
  have lt : n + 4 < h.objs.size := Heap.lt_size z
  wp_walk using W.free hf, W.mark0
  · -- the pair is used again
    intro h1 W1 o1 z1
    have t1 := W1.to
    wp_walk using wpAny_onRaise, W1.draw1 hx
    intro h2 W2 o2 z2
    have t2 := W2.to
    wp_walk using W2.put
    intro h3 W3 o3 z3
    wp_walk using wpAny_onRaise, W3.draw2 hy
    intro h4 W4 o4 z4
    have t4 := W4.to
    wp_walk using W4.put
    intro h5 W5 o5 z5
    have t5 := W5.to
    wp_walk using W5.more.mark0
    intro h6 W6 o6 z6
    wp_walk using W6.mark1
    intro h7 W7 o7 z7
    wp_walk
    have ol : Oth n h h5 := o1.on (o2.on (o3.on (o4.on o5)))
    have zl : h5.objs.size = h.objs.size := z5.trans (z4.trans (z3.trans (z2.trans z1)))
    have pr : IsPair (h5.push { cls := .type "tuple", data := .seq #[x, y] }) h5.objs.size x y := Heap.get?_push_size _ rfl
    have fin := hQ h7 _ _ _ _ W7 (.inr ⟨_, rfl⟩)
    rw [← zl] at fin
    have far : ∀ j, j ≤ 4 → h5.objs.size ≠ n + j := fun j hj => by omega
    exact ⟨_, rfl, fin (o7 _ _ (far 4 (by decide)) (far 3 (by decide)) (far 0 (by decide)) (far 1 (by decide)) (o6 _ _ (far 4 (by decide)) (far 3 (by decide)) (far 0 (by decide)) (far 1 (by decide)) pr)) (ol.more.on (o6.on o7))⟩
  · intro h1 f W1 o1 z1
    wp_walk using for_two, W1.draw1 hx
    intro h2 W2 o2 z2
    wp_walk using W2.draw2 hy
    intro h3 W3 o3 z3
    wp_walk
    have zl : h3.objs.size = h.objs.size := z3.trans (z2.trans z1)
    have fin := hQ (h3.push { cls := .type "tuple", data := .seq #[x, y] }) _ _ _ _ W3.more hf
    rw [← zl] at fin
    exact ⟨_, rfl, fin (Heap.get?_push_size _ rfl) (o1.on (o2.on o3)).more⟩
def ZE (n : Nat) (h : Heap) (f0 f1 : Value) (h' : Heap) (e : Addr) : Prop := h'.get? (n + 4) = some (zObj n f0 f1) ∧ Oth n h h' ∧ ∃ o, h'.get? e = some o ∧ o.cls = .type "StopIteration"
theorem ZW.end1 {Q : Value → Shared → Prop} (hh : A.handled = none) (W : ZW n k1 k2 l1 l2 i1 i2 xs ys f0 f1 a b s.heap) (hx : xs[i1]? = none) (hE : ∀ h' e, ZE n s.heap f0 f1 h' e → E (.ref e) { s with heap := h' }) : wpAny (model prog w) A (Builtin.SmallTypes.nextOf (.ref n)) Q E s :=
  sq_end hh W.w1 W.s1 hx fun h' e x y => hE h' e ⟨x _ _ (ap (by omega)) W.z, fun c o _ _ c3 _ q => x c o c3 q, y⟩
theorem ZW.end2 {Q : Value → Shared → Prop} (hh : A.handled = none) (W : ZW n k1 k2 l1 l2 i1 i2 xs ys f0 f1 a b s.heap) (hy : ys[i2]? = none) (hE : ∀ h' e, ZE n s.heap f0 f1 h' e → E (.ref e) { s with heap := h' }) : wpAny (model prog w) A (Builtin.SmallTypes.nextOf (.ref (n + 1))) Q E s :=
  sq_end hh W.w2 W.s2 hy fun h' e x y => hE h' e ⟨x _ _ (ap (by omega)) W.z, fun c o _ _ _ c4 q => x c o c4 q, y⟩
theorem zip_end {i : Nat} {Q : PySem.Fin → Shared → Prop} (hh : A.handled = none) (W : ZW n k1 k2 l1 l2 i i xs ys f0 f1 a b s.heap) (hf : ZF f0) (he : xs[i]? = none ∨ ys[i]? = none)
    (hE : ∀ h' e, Oth n s.heap h' → (∃ o, h'.get? e = some o ∧ o.cls = .type "StopIteration") → E (.ref e) { s with heap := h' }) :
    wpAny (model prog w) A (Builtin.«zip.__next__» ⟨[.ref (n + 4)], []⟩) Q E s := by
  obtain ⟨h, g, d, tk, os⟩ := s
  dsimp only at W hE
  have z := W.z
  have t := W.ti
  have hb : ∀ h1 h2 e f, Oth n h h1 → ZE n h1 f f1 h2 e → wpAny (model prog w) A (setField (.ref (n + 4)) 0 .none) (fun _ s' => E (.ref e) s') E ⟨h2, g, d, tk, os⟩ := fun h1 h2 e f p ⟨g2, p2, o, q, c⟩ =>
    wpAny_setField_rec g2 (by simp [zObj]) fun h3 g3 e3 => hE h3 e (p.on (p2.on (.of e3 (.inl rfl)))) ⟨o, e3.extBut _ _ (fun x => by subst x; rw [g2] at q; cases q; simp [zObj] at c) q, c⟩
  wp_walk using W.free hf, W.mark0
  · intro h1 W1 o1 z1
    have t1 := W1.to
    cases hx : xs[i]? with
    | none =>
      wp_walk using wpAny_onRaise, W1.end1 hh hx
      exact fun h2 e q => hb h1 h2 e _ o1 q
    | some x =>
      have hy : ys[i]? = none := he.resolve_left (by rw [hx]; simp)
      wp_walk using wpAny_onRaise, W1.draw1 hx
      intro h2 W2 o2 z2
      have t2 := W2.to
      wp_walk using W2.put
      intro h3 W3 o3 z3
      wp_walk using wpAny_onRaise, W3.end2 hh hy
      exact fun h4 e q => hb h3 h4 e _ (o1.on (o2.on o3)) q
  · intro h1 f W1 o1 z1
    cases hx : xs[i]? with
    | none =>
      wp_walk using for_two, W1.end1 hh hx
      exact fun h2 e q => hE h2 e (o1.on q.2.1) q.2.2
    | some x =>
      have hy : ys[i]? = none := he.resolve_left (by rw [hx]; simp)
      wp_walk using for_two, W1.draw1 hx
      intro h2 W2 o2 z2
      wp_walk using W2.end2 hh hy
      exact fun h3 e q => hE h3 e (o1.on (o2.on q.2.1)) q.2.2
end
end DL
set_option Elab.async false
set_option linter.all false
set_option maxRecDepth 100000
set_option maxHeartbeats 2000000
namespace DL
open PySem PySem.Spec PyProof.Rows L2 PySem.W
section
variable {prog : Program} {w : World} {A : Around} {E : Value → Shared → Prop} {s : Shared} {n l1 l2 i1 i2 i : Nat} {k1 k2 : Bool} {xs ys : Array Value} {f0 f1 a b v : Value}
theorem next_by {T id : String} {bi : Builtin} {Q : Option Value → Shared → Prop} (hT : s.TypeIs v T) (sl : Slot T (Str.ofString "__next__") id) (en : entryFor table id = some bi) (ok : argsOk id ⟨[v], []⟩)
    (h : wpAny (model prog w) A.in1 (bi ⟨[v], []⟩) (fun fin s' => ∃ x, fin = .done (.ret x) ∧ Q (some x) s') (fun e s' => s'.TypeIs e "StopIteration" ∧ Q none s') s) : wpAny (model prog w) A (pyNext v) Q E s :=
  wpAny_bind (wpAny_attempt (wpAny_callSpecial?_slot hT sl (wpAny_call_entry sl hT en (wpAny_mono h (fun fin s' ⟨x, e, q⟩ => ⟨x, e, wpAny_pure q⟩) fun e s' ⟨t, q⟩ => wpAny_bind (wpAny_isInstance (T := "StopIteration") (b := true) t isSubtype_stop (wpAny_pure q))) ok)))
def ztn (k1 k2 : Bool) (n l1 l2 i : Nat) (h : Heap) : Prop := ∃ f0 f1 a b, ZF f0 ∧ h.get? (n + 4) = some (zObj n f0 f1) ∧ IsPair h (n + 2) (.ref n) (.ref (n + 1)) ∧ IsPair h (n + 3) a b ∧ SIt k1 h n l1 i ∧ SIt k2 h (n + 1) l2 i
theorem ZW.tn {h : Heap} (W : ZW n k1 k2 l1 l2 i i xs ys f0 f1 a b h) (hf : ZF f0) : ztn k1 k2 n l1 l2 i h := ⟨f0, f1, a, b, hf, W.z, W.ti, W.to, W.w1, W.w2⟩
theorem next_zip {x y : Value} {Q : Option Value → Shared → Prop} (W : ZW n k1 k2 l1 l2 i i xs ys f0 f1 a b s.heap) (hf : ZF f0) (hx : xs[i]? = some x) (hy : ys[i]? = some y)
    (hQ : ∀ h' f0' f1' a' b', ZW n k1 k2 l1 l2 (i + 1) (i + 1) xs ys f0' f1' a' b' h' → ZF f0' → IsPair h' s.heap.objs.size x y → Oth n s.heap h' → Q (some (.ref s.heap.objs.size)) { s with heap := h' }) : wpAny (model prog w) A (pyNext (.ref (n + 4))) Q E s :=
  next_by ⟨_, W.z, rfl⟩ F.slot_zip_next F.entry_zip_next (F.args_zip_next_1 _) (zip_item (Q := fun v s' => Q (some v) s') W hf hx hy hQ)
theorem next_zip_end {Q : Option Value → Shared → Prop} (hh : A.handled = none) (W : ZW n k1 k2 l1 l2 i i xs ys f0 f1 a b s.heap) (hf : ZF f0) (he : xs[i]? = none ∨ ys[i]? = none) (hQ : ∀ h', Oth n s.heap h' → Q none { s with heap := h' }) : wpAny (model prog w) A (pyNext (.ref (n + 4))) Q E s :=
  next_by ⟨_, W.z, rfl⟩ F.slot_zip_next F.entry_zip_next (F.args_zip_next_1 _) (zip_end hh W hf he fun h' e p q => ⟨q, hQ h' p⟩)
theorem go_zip {tg : Expr} {u : Value} {Q : Unit → Shared → Prop} (W : ZW n k1 k2 l1 l2 i1 i2 xs ys f0 f1 a b s.heap) (hf : ZF f0) (hQ : ∀ h' f, ZW n k1 k2 l1 l2 i1 i2 xs ys f f1 a b h' → ZF f → Oth n s.heap h' → Q () { s with heap := h' }) : wpAny (model prog w) A (letOwnedTupleGo tg (.ref (n + 4)) u) Q E s := by
  have same : Q () s := hQ s.heap _ W hf (Oth.refl _ _)
  obtain ⟨h, g, d, tk, os⟩ := s
  have z := W.z
  dsimp only at z
  unfold letOwnedTupleGo
  cases tg <;> try exact wpAny_pure same
  all_goals cases u <;> try exact wpAny_pure same
  all_goals
    wp_walk
    split
    · exact wpAny_bind (wpAny_rule (W.mark0 (s := ⟨h, g, d, tk, os⟩) (v := .none) fun h' V o z => hQ h' _ V (.inl rfl) o))
    · exact wpAny_pure same
theorem own_iter {T id nid : String} {bi : Builtin} {Q : Value → Shared → Prop} (hT : s.TypeIs v T) (sl : Slot T (Str.ofString "__iter__") id) (en : entryFor table id = some bi) (ok : argsOk id ⟨[v], []⟩) (nx : Slot T (Str.ofString "__next__") nid)
    (h : wpAny (model prog w) A.in1 (bi ⟨[v], []⟩) (fun fin s' => fin = .done (.ret v) ∧ s' = s) E s) (q : Q v s) : wpAny (model prog w) A (pyIter v) Q E s :=
  wpAny_pyIter_slot hT sl (wpAny_call_entry sl hT en (wpAny_mono h (fun fin s' ⟨e1, e2⟩ => ⟨v, e1, T, _, by rw [e2]; exact hT, nx.lookup, by rw [e2]; exact q⟩) fun _ _ e => e) ok)
theorem iter_sq {k : Bool} {l : Addr} {Q : Value → Shared → Prop} (t : SSq k s.heap l xs) (hQ : ∀ o, o.isFreed = false → (∀ h : Heap, ∀ c, h.get? c = some o → SIt k h c l 0) → Q (.ref s.heap.objs.size) { s with heap := s.heap.push o }) : wpAny (model prog w) A (pyIter (.ref l)) Q E s :=
  match k with
  | true => wpAny_pyIter_list t (hQ _ rfl fun h c e => ⟨_, e, rfl, rfl⟩)
  | false => wpAny_pyIter_tuple t (hQ _ rfl fun h c e => ⟨_, e, rfl, rfl⟩)
end
theorem laid5 (h : Heap) (a b c d e : Obj) (fa : a.isFreed = false) (fb : b.isFreed = false) (fc : c.isFreed = false) (fd : d.isFreed = false) (fe : e.isFreed = false) :
    let m := ((((h.push a).push b).push c).push d).push e
    m.get? h.objs.size = some a ∧ m.get? (h.objs.size + 1) = some b ∧ m.get? (h.objs.size + 2) = some c ∧ m.get? (h.objs.size + 3) = some d ∧ m.get? (h.objs.size + 4) = some e ∧ ∀ x o, h.get? x = some o → m.get? x = some o := by
  have up : ∀ (k : Heap) (o : Obj) x u, k.get? x = some u → (k.push o).get? x = some u := fun k o x u q => Heap.get?_push_of_some _ q
  have at_ : ∀ (k : Heap) (o : Obj) x, o.isFreed = false → x = k.objs.size → (k.push o).get? x = some o := fun k o x f q => by rw [q]; exact Heap.get?_push_size _ f
  exact ⟨up _ _ _ _ (up _ _ _ _ (up _ _ _ _ (up _ _ _ _ (at_ _ _ _ fa rfl)))), up _ _ _ _ (up _ _ _ _ (up _ _ _ _ (at_ _ _ _ fb (by simp [Heap.size_push])))), up _ _ _ _ (up _ _ _ _ (at_ _ _ _ fc (by simp [Heap.size_push]))), up _ _ _ _ (at_ _ _ _ fd (by simp [Heap.size_push])), at_ _ _ _ fe (by simp [Heap.size_push]), fun x o q => up _ _ _ _ (up _ _ _ _ (up _ _ _ _ (up _ _ _ _ (up _ _ _ _ q))))⟩
theorem zip_made (k1 k2 : Bool) (l1 l2 : Addr) (xs ys : Array Value) :
    Meets (Builtin.«zip.__new__» ⟨[.type "zip", .ref l1, .ref l2], []⟩) (fun _ R s => SSq k1 s.heap l1 xs ∧ SSq k2 s.heap l2 ys ∧
      ∀ h', ZW s.heap.objs.size k1 k2 l1 l2 0 0 xs ys .none (.bool false) .none .none h' → (∀ c o, s.heap.get? c = some o → h'.get? c = some o) → R (.ok (.ret (.ref (s.heap.objs.size + 4)))) { s with heap := h' }) :=
  .of_wp fun prog w A R s q => by
    obtain ⟨h, g, d, tk, os⟩ := s
    obtain ⟨t1, t2, q⟩ := q
    have hsub := sub_zip
    have lt : ∀ {k : Bool} {l : Addr} {zs : Array Value}, SSq k h l zs → l < h.objs.size := fun {k l zs} q => by
      cases k with
      | true => obtain ⟨o, g, _⟩ := (q : h.IsList l zs); exact Heap.lt_size g
      | false => obtain ⟨o, g, _⟩ := (q : h.IsTuple l zs); exact Heap.lt_size g
    have p1 := lt t1
    have p2 := lt t2
    wp_walk using iter_sq t1
    intro a1 f1 i1
    wp_walk using iter_sq (s := ⟨h.push a1, g, d, tk, os⟩) (t2.at fun o e => Heap.get?_push_of_some _ e)
    intro a2 f2 i2
    wp_walk
    simp only [Heap.size_push, Nat.add_assoc, Nat.reduceAdd]
    obtain ⟨e0, e1, e2, e3, e4, up⟩ := laid5 h a1 a2 { cls := .type "tuple", data := .seq #[.ref h.objs.size, .ref (h.objs.size + 1)] } { cls := .type "tuple", data := .seq #[.none, .none] } { cls := .type "zip", data := .fields #[.none, .bool false, .bool false, .ref (h.objs.size + 2), .ref (h.objs.size + 3)] } f1 f2 rfl rfl rfl
    exact ⟨_, rfl, q _ ⟨e4, e2, e3, i1 _ _ e0, i2 _ _ e1, t1.at (up _), t2.at (up _), p1, p2⟩ up⟩
theorem call_zip {prog : Program} {w : World} {A : Around} {E : Value → Shared → Prop} {s : Shared} {k1 k2 : Bool} {l1 l2 : Addr} {xs ys : Array Value} {Q : Value → Shared → Prop} (t1 : SSq k1 s.heap l1 xs) (t2 : SSq k2 s.heap l2 ys)
    (hQ : ∀ h', ztn k1 k2 s.heap.objs.size l1 l2 0 h' → (∀ c o, s.heap.get? c = some o → h'.get? c = some o) → Q (.ref (s.heap.objs.size + 4)) { s with heap := h' }) :
    wpAny (model prog w) A (call (.type "zip") [.ref l1, .ref l2]) Q E s :=
  callType_new F.called_zip (by decide) (F.typeCall_zip_2 _ _) (F.newCall_zip_2 _ _) (fun obj => F.args_object_init_3 obj _ _) F.entry_zip_new (zip_made k1 k2 l1 l2 xs ys) ⟨t1, t2, fun h' W up => ⟨⟨_, W.z, rfl⟩, hQ h' (W.tn (.inl rfl)) up⟩⟩
def Sq (k : Bool) (K : PySem.W.Frag) (H : Hp) (a : Addr) (xs : List V) : Prop := if k then SqL K H a xs else SqT K H a xs
def Itz (k1 k2 : Bool) (K : PySem.W.Frag) (l1 l2 : Addr) : It :=
  ⟨fun i H => ∃ as bs a b, Sq k1 K H l1 as ∧ Sq k2 K H l2 bs ∧ as[i]? = some a ∧ bs[i]? = some b,
   fun i H x H' => ∃ T a b, H T = none ∧ H' = upd H T (.tup [a, b]) ∧ x = .ref T ∧ (∀ as, Sq k1 K H l1 as → as[i]? = some a) ∧ ∀ bs, Sq k2 K H l2 bs → bs[i]? = some b,
   fun i H => ∃ as bs, Sq k1 K H l1 as ∧ Sq k2 K H l2 bs ∧ (as.length ≤ i ∨ bs.length ≤ i)⟩
section
variable {X : Cx} {pins : List (Addr × Obj)} {σ : L2.St} {H : Hp} {s : Shared} {k : Bool} {a : Addr} {xs ys : List V}
theorem Inv_sq (I : L2.Inv X pins σ H s) (h : Sq k X.K H a xs) : ∃ its : List Value, Vals xs its ∧ SSq k s.heap a its.toArray ∧ xs.length ≤ sizeLine := by
  cases k with
  | true => obtain ⟨its, v, p, z⟩ := I.list h; exact ⟨its, v, p.isList, z⟩
  | false => obtain ⟨its, v, p, z⟩ := I.tuple h; exact ⟨its, v, (p : IsTup _ _ _), z⟩
theorem Inv_sq_inj (I : L2.Inv X pins σ H s) (h : Sq k X.K H a xs) (h' : Sq k X.K H a ys) : xs = ys := by
  cases k with
  | true => exact I.list_inj h h'
  | false => exact I.tuple_inj h h'
end
theorem Inv_tur5 {X : Cx} {pins : List (Addr × Obj)} {σ : L2.St} {H : Hp} {s : Shared} {h' : Heap} {t' : Nat} {fp : List Addr} (I : L2.Inv X pins σ H s) (hf : ∀ b ∈ fp, FpOk X pins H b) (k : ∀ b o, b ∉ fp → s.heap.get? b = some o → h'.get? b = some o) : L2.Inv X pins σ H { s with heap := h', toks := t' } := by
  have nit : ∀ b u, H b = some u → b ∉ fp := fun b u e z => by rw [(hf b z).1] at e; cases e
  refine I.step (g' := s.gens) (d' := s.drawn) (ch := fp) (fun b hb => ?_) (fun b o _ _ hc e _ => k b o hc e) (fun b o _ _ hc e _ => ⟨o.slots, k b o hc e⟩) (fun _ _ _ _ n => n) (fun b o hc e => ⟨o, k b o hc e⟩) (fun _ _ e => e) (fun _ _ _ e => e) (fun b ps e => ⟨#[], by rw [e]; simp⟩) (fun m hm => ?_) (fun b u e => ?_) I.bare
  · obtain ⟨f0, f1, f2, f3, f4, f5⟩ := hf b hb
    exact ⟨f3, f1, f4, f5⟩
  · obtain ⟨o, es, ep, ho, r⟩ := hm
    exact ⟨o, es, ep, k _ o (fun z => (hf _ z).2.1 rfl) ho, r⟩
  · refine (I.hok b u e).stay (fun c v hc q => k c v ?_ q) (fun _ q => q) fun _ _ q => q
    rcases hc with z | z
    · rw [z]; exact nit b u e
    · exact nit c _ z
theorem Inv_track {X : Cx} {pins : List (Addr × Obj)} {σ : L2.St} {H : Hp} {s : Shared} {T : Addr} {o : HO} (I : L2.Inv X pins σ H s) (hT : FpOk X pins H T) (hs : X.s₀.heap.objs.size ≤ T) (new : ObjOk X.prog X.w (upd H T o) s.heap T o) : L2.Inv X pins σ (upd H T o) s := by
  obtain ⟨f0, f1, f2, f3, f4, f5⟩ := hT
  have ne : ∀ b u, H b = some u → b ≠ T := fun b u e z => by rw [z, f0] at e; cases e
  have sn : ∀ b o, X.s₀.heap.get? b = some o → b ≠ T := fun b o e => Nat.ne_of_lt (Nat.lt_of_lt_of_le (Heap.lt_size e) hs)
  exact ⟨I.ok, I.os, I.bare, ⟨I.base.keep, I.base.slot, fun b ob q n hx => by rw [upd_ne (sn b ob q)]; exact I.base.free b ob q n hx, I.base.there, fun b xs q => by have e := I.base.tups b xs q; rw [upd_ne (ne b _ e)]; exact e, fun b ob u q => by have e := I.base.frzs b ob u q; rw [upd_ne (ne b _ e)]; exact e, fun b ps q => by obtain ⟨m, e⟩ := I.base.tbls b ps q; exact ⟨m, by rw [upd_ne (ne b _ e)]; exact e⟩⟩,
    I.loc, I.cell, by rw [upd_ne (Ne.symm f1)]; exact I.free, fun x c e => by rw [upd_ne (f4 x c e)]; exact I.freeC x c e, fun p hp => by obtain ⟨a, b, c⟩ := I.pin p hp; exact ⟨a, by rw [upd_ne (f5 p hp)]; exact b, c⟩, HOk_more I.hok f0 new, I.len⟩
def zfp (n : Nat) : List Addr := [n, n + 1, n + 2, n + 3, n + 4]
theorem ztn_keep {k1 k2 : Bool} {n l1 l2 i : Nat} {h h' : Heap} (st : ztn k1 k2 n l1 l2 i h) (k : ∀ b ∈ zfp n, ∀ o, h.get? b = some o → h'.get? b = some o) : ztn k1 k2 n l1 l2 i h' := by
  obtain ⟨f0, f1, a, b, hf, z, ti, to, w1, w2⟩ := st
  exact ⟨f0, f1, a, b, hf, k _ (by simp [zfp]) _ z, k _ (by simp [zfp]) _ ti, k _ (by simp [zfp]) _ to, w1.at (k _ (by simp [zfp])), w2.at (k _ (by simp [zfp]))⟩
theorem ztn_obj {k1 k2 : Bool} {n l1 l2 i : Nat} {h : Heap} (st : ztn k1 k2 n l1 l2 i h) : ∀ b ∈ zfp n, ∃ o, h.get? b = some o ∧ ∀ v, o.data ≠ .cell v := by
  obtain ⟨f0, f1, a, b, hf, z, ti, to, w1, w2⟩ := st
  have all : ∀ P : Addr → Prop, P n → P (n + 1) → P (n + 2) → P (n + 3) → P (n + 4) → ∀ b ∈ zfp n, P b := fun P p0 p1 p2 p3 p4 b hb => by
    simp only [zfp, List.mem_cons, List.not_mem_nil, or_false] at hb
    rcases hb with rfl | rfl | rfl | rfl | rfl <;> assumption
  exact all _ w1.obj w2.obj ⟨_, ti, fun v e => by cases e⟩ ⟨_, to, fun v e => by cases e⟩ ⟨_, z, fun v e => by cases e⟩
theorem zfp_out {n : Nat} {c : Addr} (h : c ∉ zfp n) : c ≠ n + 4 ∧ c ≠ n + 3 ∧ c ≠ n ∧ c ≠ n + 1 :=
  ⟨fun e => h (by simp [zfp, e]), fun e => h (by simp [zfp, e]), fun e => h (by simp [zfp, e]), fun e => h (by simp [zfp, e])⟩
theorem Oth.fp {n : Nat} {h h' : Heap} (p : Oth n h h') : ∀ c o, c ∉ zfp n → h.get? c = some o → h'.get? c = some o := fun c o hc => p c o (zfp_out hc).1 (zfp_out hc).2.1 (zfp_out hc).2.2.1 (zfp_out hc).2.2.2
theorem turn_zip {P : Program} {w : World} {K : PySem.W.Frag} {tg : Expr} (k1 k2 : Bool) (n l1 l2 : Nat) (hl1 : l1 < n) (hl2 : l2 < n) : Turn P w K tg (Itz k1 k2 K l1 l2) (zfp n) (n + 4) (ztn k1 k2 n l1 l2) where
  mem := by simp [zfp]
  obj := fun i h st => ztn_obj st
  keep := fun i h h' st k => ztn_keep st k
  item := by
    intro X hP hw hK hc i pins s σ H E I hf st hg
    subst hP hw hK
    obtain ⟨as, bs, a, b, q1, q2, ga, gb⟩ := hg
    obtain ⟨ia, va, sa, _⟩ := Inv_sq I q1
    obtain ⟨ib, vb, sb, _⟩ := Inv_sq I q2
    obtain ⟨ua, hua, rua⟩ := va.get ga
    obtain ⟨ub, hub, rub⟩ := vb.get gb
    have hTn : s.heap.objs.size ∉ zfp n := fun m => let ⟨o, e, _⟩ := ztn_obj st _ m; Nat.lt_irrefl _ (Heap.lt_size e)
    obtain ⟨f0, f1, a0, b0, zf, z, ti, to, w1, w2⟩ := st
    refine next_zip (x := ua) (y := ub) ⟨z, ti, to, w1, w2, sa, sb, hl1, hl2⟩ zf (by simpa using hua) (by simpa using hub) fun h1 f0' f1' a' b' W1 zf1 pr o1 => ⟨_, rfl, go_zip (s := { s with heap := h1 }) W1 zf1 fun h2 f W2 zf2 o2 => ?_⟩
    have Iz : L2.Inv X pins σ H { s with heap := h2, toks := s.toks } := Inv_tur5 I hf (o1.on o2).fp
    have fr : H s.heap.objs.size = none := I.hok.fresh (Nat.le_refl _)
    refine ⟨.ref s.heap.objs.size, upd H s.heap.objs.size (.tup [a, b]), ?_, rfl, ⟨_, a, b, fr, rfl, rfl, fun cs q => ?_, fun cs q => ?_⟩, W2.tn zf2, fun c hb => ?_⟩
    · refine Inv_track Iz (I.fpOk (Nat.le_refl _) fr) I.sz ⟨show 2 ≤ sizeLine by decide, [ua, ub], .cons rua (.cons rub .nil), ?_⟩
      exact ⟨_, o2.fp _ _ hTn pr, rfl, rfl, _, rfl⟩
    · rw [Inv_sq_inj I q q1]; exact ga
    · rw [Inv_sq_inj I q q2]; exact gb
    · rw [upd_ne (fun e => hTn (by rw [← e]; exact hb))]; exact (hf c hb).1
  done := by
    intro X hP hw hK hc i pins s σ H E I hf st hg
    subst hP hw hK
    obtain ⟨as, bs, q1, q2, hend⟩ := hg
    obtain ⟨ia, va, sa, _⟩ := Inv_sq I q1
    obtain ⟨ib, vb, sb, _⟩ := Inv_sq I q2
    obtain ⟨f0, f1, a0, b0, zf, z, ti, to, w1, w2⟩ := st
    have e1 := va.length
    have e2 := vb.length
    exact next_zip_end (I.ok.hd hc) ⟨z, ti, to, w1, w2, sa, sb, hl1, hl2⟩ zf (hend.imp (fun e => by simp; omega) fun e => by simp; omega) fun h' p => ⟨rfl, Inv_tur5 (t' := s.toks) I hf p.fp⟩
  self := fun A i s Q E st h => by
    obtain ⟨f0, f1, a0, b0, zf, z, _⟩ := st
    exact own_iter ⟨_, z, rfl⟩ F.slot_zip_iter F.entry_zip_iter (F.args_zip_iter_1 _) F.slot_zip_next (wpAny_pure ⟨rfl, rfl⟩) h
end DL
set_option Elab.async false
set_option linter.all false
set_option maxRecDepth 100000
set_option maxHeartbeats 1000000
namespace DL
open PySem PySem.Spec PyProof.Rows L2 PySem.W
def LF (d : D) (xs : List D) : Prop := d = .lst xs ∨ d = .scr xs ∨ d = .tup xs
theorem LF.lt {O : Sto} {d : D} {xs : List D} (h : LF d xs) : LT O d xs := by
  rcases h with h | h | h
  · exact .inl (.inl h)
  · exact .inl (.inr (.inl h))
  · exact .inr h
theorem Sq.same {k : Bool} {K : PySem.W.Frag} {H H' : Hp} {a : Addr} {xs : List V} (e : Same H H') (h : Sq k K H a xs) : Sq k K H' a xs := by
  cases k with
  | true => exact e.seq h
  | false => exact sqT_same e h
theorem LF.sq {K : PySem.W.Frag} {G : Wd} {d : D} {xs : List D} {v : V} (h : LF d xs) (i : Is K G d v) : ∃ k a vs, v = .ref a ∧ Sq k K G.g a vs ∧ Iss K G xs vs := by
  rcases h with rfl | rfl | rfl
  · cases i with | lst h r => exact ⟨true, _, _, rfl, SqL.of h, r⟩
  · cases i with | scr h r => exact ⟨true, _, _, rfl, h, r⟩
  · cases i with | tup h r => exact ⟨false, _, _, rfl, h, r⟩
def EvZ (X : Cx) (ρ : Rho) (O : Sto) (e : Expr) (xs : List D) (T : String) : Prop :=
  ∀ (G : Wd) (tg : Expr) (pins : List (Addr × Obj)) (s : Shared) (σ : L2.St) (H : Hp) (R : It → Hp → Prop), L2.Inv X pins σ H s → SA X.K G H O → EnvR X.K G σ ρ → (∀ J G' H', Ext G G' → SA X.K G' H' O → Yields X.K G' J xs → R J H') →
    wpAny (model X.prog X.w) X.A (eval e X.env) (fun v s1 => PIE X pins σ tg R v s1 ∧ s1.TypeIs v T) X.xe s
def zipD (xs ys : List D) : List D := List.zipWith (fun a b => .tup [a, b]) xs ys
theorem itz_yields {K : PySem.W.Frag} {G : Wd} {k1 k2 : Bool} {l1 l2 : Addr} {vs us : List V} {xs ys : List D} (h1 : Sq k1 K G.g l1 vs) (h2 : Sq k2 K G.g l2 us) (r1 : Iss K G xs vs) (r2 : Iss K G ys us) : Yields K G (Itz k1 k2 K l1 l2) (zipD xs ys) where
  go := fun i H e hi => by
    have hi : i < min xs.length ys.length := by simpa [zipD] using hi
    obtain ⟨a, ha, _⟩ := r1.get (i := i) (d := xs[i]'(by omega)) (by simp)
    obtain ⟨b, hb, _⟩ := r2.get (i := i) (d := ys[i]'(by omega)) (by simp)
    exact ⟨vs, us, a, b, h1.same e, h2.same e, ha, hb⟩
  stop := fun i H e hi => by
    have hi : min xs.length ys.length ≤ i := by simpa [zipD] using hi
    have e1 := r1.length
    have e2 := r2.length
    exact ⟨vs, us, h1.same e, h2.same e, by omega⟩
  yld := fun i v H H' G2 O2 e s y hi => by
    obtain ⟨T, a, b, hT, rfl, rfl, y1, y2⟩ := y
    obtain ⟨x, hx, ix⟩ := r1.getV (y1 vs (h1.same (e.g.trans s.sub)))
    obtain ⟨y, hy, iy⟩ := r2.getV (y2 us (h2.same (e.g.trans s.sub)))
    obtain ⟨e3, s3⟩ := s.laid (o := .tup [a, b]) hT
    refine ⟨.tup [x, y], _, ?_, e3, s3, .tup (SqT.of upd_same) (.cons (ix.ext (e.trans e3)) (.cons (iy.ext (e.trans e3)) .nil))⟩
    unfold zipD
    rw [List.getElem?_zipWith, hx, hy]
section
variable {X : Cx} {ρ : Rho} {O : Sto} {e a b c : Expr} {es : List Expr} {d da db : D} {ds : List D} {R : D → Sto → Prop} {pos p : Pos} {x : Str} {xs ys : List D}
theorem ez_zip (ha : EvP X ρ O a da) (hb : EvP X ρ O b db) (fa : LF da xs) (fb : LF db ys) (hm : X.mg "zip" = none) (hg : Gl X "zip" := by rfl) (hs : starEach [a, b] X.env = [(false, eval a X.env), (false, eval b X.env)] := by rfl) (hs2 : starEach [b] X.env = [(false, eval b X.env)] := by rfl) :
    EvZ X ρ O (.Call (.Name "zip" p) [a, b] [] pos) (zipD xs ys) "zip" := fun G tg pins s σ H R I sa en k => by
  refine Call_ (ld_blt I hg hm boot_zip (PyProof.Rows.callWith_type1 (thn (es_cons ha (es_cons hb es_nil hs2) (by rw [hs, hs2]) G pos pins s σ H (fun vs H' => ∃ G', Ext G G' ∧ SA X.K G' H' O ∧ Iss X.K G' [da, db] vs) I ⟨sa, en, fun vs G' H' e1 s1 i1 => ⟨G', e1, s1, i1⟩⟩) fun us s1 ⟨vs, H1, I1, r1, G1, e1, sa1, is1⟩ => ?_) (by rw [hs, hs2]) (by rw [hs2]; rfl)))
  cases is1 with | cons i1 is1 => cases is1 with | cons i2 is1 =>
  cases is1
  obtain ⟨k1, l1, v1, rfl, q1, j1⟩ := fa.sq i1
  obtain ⟨k2, l2, v2, rfl, q2, j2⟩ := fb.sq i2
  obtain ⟨u, u', rfl, ru, ru'⟩ := vals2 r1
  cases ru
  cases ru'
  obtain ⟨t1, w1, g1, z1⟩ := Inv_sq I1 (q1.same sa1.sub)
  obtain ⟨t2, w2, g2, z2⟩ := Inv_sq I1 (q2.same sa1.sub)
  have lt : ∀ {k : Bool} {l : Addr} {ys : Array Value}, SSq k s1.heap l ys → l < s1.heap.objs.size := fun {k l ys} q => by
    cases k with
    | true => obtain ⟨o, g, _⟩ := (q : s1.heap.IsList l ys); exact Heap.lt_size g
    | false => obtain ⟨o, g, _⟩ := (q : s1.heap.IsTuple l ys); exact Heap.lt_size g
  refine call_zip g1 g2 fun h' Z kp => ?_
  have Ik : L2.Inv X pins σ H1 { s1 with heap := h', toks := s1.toks } := I1.kept kp
  refine ⟨⟨s1.heap.objs.size + 4, zfp s1.heap.objs.size, ztn k1 k2 s1.heap.objs.size l1 l2, Itz k1 k2 X.K l1 l2, H1, rfl, Ik, turn_zip k1 k2 _ l1 l2 (lt g1) (lt g2), Z, fun b hb => ?_, k _ G1 H1 e1 sa1 (itz_yields q1 q2 j1 j2)⟩, ?_⟩
  · have hb' : s1.heap.objs.size ≤ b := by
      simp only [zfp, List.mem_cons, List.not_mem_nil, or_false] at hb
      rcases hb with rfl | rfl | rfl | rfl | rfl
      · exact Nat.le_refl _
      · exact Nat.le_add_right _ 1
      · exact Nat.le_add_right _ 2
      · exact Nat.le_add_right _ 3
      · exact Nat.le_add_right _ 4
    exact I1.fpOk hb' (I1.hok.fresh hb')
  · obtain ⟨f0, f1, a0, b0, _, hz, _⟩ := Z
    exact ⟨_, hz, rfl⟩
theorem ei_Z {tg : Expr} {T : String} (h : EvZ X ρ O e xs T) : EvI X ρ O tg e xs := fun G pins s σ H R I ⟨h1, h2, h3⟩ =>
  thn (h G tg pins s σ H R I h1 h2 h3) fun v s1 ⟨q, _⟩ => by
    obtain ⟨it, fp, tn, J, H', rfl, I', T, st, f, r⟩ := id q
    exact T.self X.A 0 s1 _ _ st q
end
def Cx.wA (X : Cx) (A : Around) : Cx := { X with A := A }
theorem Inv_A {X : Cx} {pins : List (Addr × Obj)} {σ : L2.St} {H : Hp} {s : Shared} {A : Around} (I : L2.Inv X pins σ H s) (h1 : A.frames = X.A.frames) (h2 : A.handled = X.A.handled) : L2.Inv (Cx.wA X A) pins σ H s :=
  ⟨⟨I.ok.mod, I.ok.kind, I.ok.glob, I.ok.blt, I.ok.above, I.ok.inj, I.ok.has, I.ok.cab, fun hc => h2.trans (I.ok.hd hc), h1.trans I.ok.frames, I.ok.stk, I.ok.exf, I.ok.bs, I.ok.bsz, I.ok.noex, I.ok.exfs, I.ok.funs, I.ok.frf⟩, I.os, I.bare, I.base, I.loc, I.cell, I.free, I.freeC, I.pin, I.hok, I.len⟩
theorem Inv_unA {X : Cx} {pins : List (Addr × Obj)} {σ : L2.St} {H : Hp} {s : Shared} {A : Around} (I : L2.Inv (Cx.wA X A) pins σ H s) (ok : X.Ok) : L2.Inv X pins σ H s := ⟨ok, I.os, I.bare, I.base, I.loc, I.cell, I.free, I.freeC, I.pin, I.hok, I.len⟩
end DL
set_option Elab.async false
set_option linter.all false
set_option maxRecDepth 100000
set_option maxHeartbeats 1000000
namespace DL
open PySem PySem.Spec PyProof.Rows L2 PySem.W
def kBd {α : Type} (n : Nat) (P : α → Prop) : KasT α → Prop
  | .ret a => P a
  | .ask i j k => i < n ∧ j < n ∧ ∀ b, kBd n P (k b)
def In (n : Nat) (p : Array Nat) : Prop := ∀ k, p.getD k 0 < n
section
variable (key : Nat → Int)
end
def rankOf {α : Type} (lt : α → α → Bool) (l : List α) (x : α) : Int := ((l.filter fun z => lt z x).length : Nat)
end DL
set_option Elab.async false
set_option linter.all false
set_option maxRecDepth 100000
set_option maxHeartbeats 1000000
namespace DL
open PySem PySem.Spec PyProof.Rows L2 PySem.W
abbrev inSort (h : Heap) (a : Addr) (vs : List Value) : Heap := ((h.update a (Obj.mapSeq fun _ => (#[] : Array Value))).push (seqObj "tuple" vs.toArray 0)).push (seqObj "list" #[] 0)
section
variable {prog : Program} {w : World} {A : Around} {E : Value → Shared → Prop} {s : Shared}
def outOf (p : Array Nat) (vs : List Value) : List Value := p.toList.map fun i => vs.getD i Value.none
def Runs (prog : Program) (w : World) (A : Around) (vs : List Value) (s : Shared) (G : SortSt → Prop) : Prop :=
  ∀ E : Value → Shared → Prop, wpAny (model prog w) A (if vs.toArray.size < 2 then pure general' else keyKind' vs.toArray)
    (fun κ s1 => wpAny (model prog w) A ((if vs.toArray.size < 2 then pure () else sortRuns').run (SortSt.mk' κ (vs.toArray.zip vs.toArray) #[] 7 none)) (fun r s2 => s2 = s ∧ failedOf r.2 = none ∧ G r.2) E s1) E s
def Cmp (prog : Program) (w : World) (A : Around) (vs : List Value) (key : Nat → Int) (s : Shared) : Prop :=
  ∃ κ, (∀ (E : Value → Shared → Prop) (Q : SortKind → Shared → Prop), Q κ s → wpAny (model prog w) A (keyKind' vs.toArray) Q E s) ∧ ∀ i j (C : Bool → Shared → Prop), i < vs.length → j < vs.length → C (decide (key i < key j)) s → wpAny (model prog w) A (keyLt' κ (vs.getD i Value.none) (vs.getD j Value.none)) C (fun _ _ => False) s
def Sortd (vs : List Value) (key : Nat → Int) (st : SortSt) : Prop := ∃ p : Array Nat, p.Perm (List.toArray (List.range vs.length)) ∧ p.size = vs.length ∧ Srt key p vs.length ∧ (arrOf st).map (·.2) = List.toArray (outOf p vs)
end
end DL
set_option Elab.async false
set_option linter.all false
set_option maxRecDepth 100000
set_option maxHeartbeats 1000000
namespace DL
open PySem PySem.Spec PyProof.Rows L2 PySem.W
theorem code_by {prog : Program} {w : World} {A : Around} {s : Shared} {id : String} {b : Builtin} {args : Args} {R : Result → Shared → Prop} (pl : plainId id = true) (en : entryFor table id = some b)
    (h : wpAny (model prog w) A.in1 (b args) (fun fin s' => match fin with | .done f => R (.ok f) s' | .again c => c.quiet = true ∧ codeAny (model prog w) A c R s') (fun e s' => R (.error e) s') s) : codeAny (model prog w) A (.builtin id args) R s :=
  codeAny_builtin en (by rw [Around.under_plainId pl]; exact h)
abbrev lsC (its : List Value) (c : Nat) : Obj := { cls := .type "list", dict := none, data := .seq its.toArray c, slots := #[] }
theorem after_pure {M : Model} {A : Around} {E : Value → Shared → Prop} {s : Shared} {α : Type} {t : Sem α} {Q : α → Shared → Prop} {F : Shared → Prop} {u : Sem Unit} (hu : u = pure ()) (h : wpAny M A u (fun _ s2 => F s2) E s) (k : ∀ s2, F s2 → wpAny M A t Q E s2) : wpAny M A t Q E s := by
  subst hu
  have := wpAny_bind (f := fun _ => t) (wpAny_mono h (fun _ s2 q => k s2 q) fun _ _ e => e)
  simpa using this
theorem fp_pin {X : Cx} {pins : List (Addr × Obj)} {H : Hp} {b S : Addr} {o : Obj} (h : FpOk X pins H b) (hb : S ≠ b) : FpOk X ((S, o) :: pins) H b := by
  obtain ⟨f0, f1, f2, f3, f4, f5⟩ := h
  refine ⟨f0, f1, f2, f3, f4, fun p hp => ?_⟩
  simp only [List.mem_append, List.mem_cons] at hp
  rcases hp with q | rfl | q
  · exact f5 p (List.mem_append_left _ q)
  · exact hb
  · exact f5 p (List.mem_append_right _ q)
theorem Inv_unpin {X : Cx} {pins : List (Addr × Obj)} {σ : L2.St} {H : Hp} {s : Shared} {q : Addr × Obj} (I : L2.Inv X (q :: pins) σ H s) : L2.Inv X pins σ H s := I.pins_of fun p hp => I.pin p (List.mem_append_right _ (List.mem_cons_of_mem _ hp))
structure Got (X : Cx) (pins : List (Addr × Obj)) (σ : L2.St) (O : Sto) (G1 : Wd) (xs : List D) (S : Addr) (i : Nat) (s : Shared) (H : Hp) (G : Wd) (vs : List V) (its : List Value) (c : Nat) : Prop where
  inv : L2.Inv X ((S, lsC its c) :: pins) σ H s
  ext : Ext G1 G
  sa : SA X.K G H O
  iss : Iss X.K G (xs.take i) vs
  vals : Vals vs its
section
variable {X : Cx} {A : Around} {tg : Expr} {J : It} {fp : List Addr} {it : Addr} {tn : Nat → Heap → Prop} {pins : List (Addr × Obj)} {σ : L2.St} {O : Sto} {G1 : Wd} {xs : List D} {S : Addr} {res : Value} {R : Result → Shared → Prop}
theorem Got.more {i : Nat} {s s2 : Shared} {H H2 : Hp} {G G2 : Wd} {vs : List V} {its : List Value} {c : Nat} {x : D} {xv : V} {u : Value} (g : Got X pins σ O G1 xs S i s H G vs its c) (I2 : L2.Inv X ((S, lsC its c) :: pins) σ H2 s2) (hSs : X.s₀.heap.objs.size ≤ S) (hSC : ∀ x c, X.env.cells.lookup x = some c → c ≠ S) (hSp : ∀ p ∈ X.pn ++ pins, p.1 ≠ S) (hx : xs[i]? = some x) (e2 : Ext G G2) (sa2 : SA X.K G2 H2 O) (ix : Is X.K G2 x xv) (r : RelV xv u) :
    Got X pins σ O G1 xs S (i + 1) { s2 with heap := s2.heap.update S (Obj.mapSeq (·.push u)) } H2 G2 (vs ++ [xv]) (its ++ [u]) (c + 1) := by
  have p := I2.pin (S, lsC its c) (List.mem_append_right _ List.mem_cons_self)
  have Iq : L2.Inv X pins σ H2 { s2 with heap := s2.heap.update S (Obj.mapSeq (·.push u)) } := (Inv_unpin I2).turned (t' := s2.toks) (fun b o hb q => (Heap.get?_update_other _ _ (Ne.symm hb)).trans q) p.2.1 p.2.2.1 (.inr hSs) hSC hSp
  refine ⟨Iq.pins_of fun q hq => ?_, g.ext.trans e2, sa2, ?_, g.vals.append (.cons r .nil)⟩
  · rcases List.mem_cons.mp hq with rfl | hq
    · refine ⟨?_, p.2.1, p.2.2.1, p.2.2.2.1, fun v z => by cases z⟩
      rw [Heap.get?_update_self _ p.1 rfl]
      simp [Obj.mapSeq, lsC]
    · exact Iq.pin q (List.mem_append_right _ hq)
  · rw [List.take_add_one, hx]
    exact (g.iss.ext e2).append (.cons ix .nil)
theorem got_loop (hA : X.A = A.in1) (hc : X.calm = true) (T : Turn X.prog X.w X.K tg J fp it tn) (hgo : ∀ v, letOwnedTupleGo tg (.ref it) v = pure ()) (Yi : Yields X.K G1 J xs) (hsz : xs.length ≤ sizeLine) (hSs : X.s₀.heap.objs.size ≤ S) (hSC : ∀ x c, X.env.cells.lookup x = some c → c ≠ S) (hSp : ∀ p ∈ X.pn ++ pins, p.1 ≠ S)
    (fpS : ∀ (H : Hp), (∀ b ∈ fp, H b = none) → ∀ b ∈ fp, FpOk X pins H b) (hSf : S ∉ fp)
    (fin : ∀ s H G vs its c, Got X pins σ O G1 xs S xs.length s H G vs its c → R (.ok (.ret res)) s) :
    ∀ (k i : Nat) (s : Shared) (H : Hp) (G : Wd) (vs : List V) (its : List Value) (c : Nat), i + k = xs.length → Got X pins σ O G1 xs S i s H G vs its c → tn i s.heap → (∀ b ∈ fp, H b = none) →
      codeAny (model X.prog X.w) A (.builtin "list.extend.loop" ⟨[.ref S, .ref it, res], []⟩) R s
  | 0, i, s, H, G, vs, its, c, hk, g, st, fr => by
    have hi : i = xs.length := by omega
    subst hi
    have fps : ∀ b ∈ fp, FpOk X ((S, lsC its c) :: pins) H b := fun b hb => fp_pin (fpS H fr b hb) fun z => hSf (z ▸ hb)
    refine code_by F.plain_extend_loop F.entry_extend_loop (hA ▸ wpAny_bind (thn (T.done X rfl rfl rfl hc xs.length _ s σ H _ g.inv fps st (Yi.stop _ H (g.ext.g.trans g.sa.sub) (Nat.le_refl _))) fun r s' ⟨hr, I'⟩ => ?_))
    subst hr
    exact wpAny_pure (fin s' H G vs its c ⟨I', g.ext, g.sa, g.iss, g.vals⟩)
  | k + 1, i, s, H, G, vs, its, c, hk, g, st, fr => by
    have hi : i < xs.length := by omega
    have fps : ∀ b ∈ fp, FpOk X ((S, lsC its c) :: pins) H b := fun b hb => fp_pin (fpS H fr b hb) fun z => hSf (z ▸ hb)
    have hl : its.length = i := by
      rw [← g.vals.length, ← g.iss.length, List.length_take]; omega
    refine code_by F.plain_extend_loop F.entry_extend_loop (hA ▸ wpAny_bind (thn (T.item X rfl rfl rfl hc i _ s σ H _ g.inv fps st (Yi.go i H (g.ext.g.trans g.sa.sub) hi)) fun r s1 ⟨u, hr, h1⟩ => ?_))
    subst hr
    refine after_pure (hgo u) h1 fun s2 ⟨xv, H2, I2, r2, y2, st2, fr2⟩ => ?_
    obtain ⟨x, G2, hx, e2, sa2, ix⟩ := Yi.yld i xv H H2 G O g.ext g.sa y2 hi
    have p2 := I2.pin (S, lsC its c) (List.mem_append_right _ List.mem_cons_self)
    refine wpAny_bind (listUpdate_at p2.1 rfl (wpAny_pure ⟨plainId_quiet F.plain_extend_loop _, got_loop hA hc T hgo Yi hsz hSs hSC hSp fpS hSf fin k (i + 1) _ H2 G2 _ _ (c + 1) (by omega) (g.more I2 hSs hSC hSp hx e2 sa2 ix r2) ?_ fr2⟩) (by simp; omega) (by simp; omega))
    exact T.keep _ _ _ st2 fun b hb o q => (Heap.get?_update_other _ _ (fun z => hSf (by rw [z]; exact hb))).trans q
end
structure NoLen (T : String) : Prop where
  len : typeLookup (.type T) "__len__" = pure none
  hint : typeLookup (.type T) "__length_hint__" = pure none
  nl : (Value.type T == Value.type "list") = false
  nt : (Value.type T == Value.type "tuple") = false
end DL
set_option Elab.async false
set_option linter.all false
set_option maxRecDepth 100000
set_option maxHeartbeats 1000000
namespace DL
open PySem PySem.Spec PyProof.Rows L2 PySem.W
structure Ord {α : Type} (lt : α → α → Bool) : Prop where
  irr : ∀ a, lt a a = false
  tr : ∀ a b c, lt a b = true → lt b c = true → lt a c = true
  tot : ∀ a b, lt a b = false → lt b a = false → a = b
def srt {α : Type} (lt : α → α → Bool) (l : List α) : List α := l.mergeSort fun a b => !lt b a
def ltI (a b : Int) : Bool := decide (a < b)
def ltP (a b : Int × Int) : Bool := decide (a.1 < b.1 ∨ (a.1 = b.1 ∧ a.2 < b.2))
abbrev pD (p : Int × Int) : D := .tup [.int p.1, .int p.2]
def CmpD {α : Type} [Inhabited α] (X : Cx) (lt : α → α → Bool) (f : α → D) : Prop :=
  ∀ (A : Around) (G : Wd) (H : Hp) (pins : List (Addr × Obj)) (σ : L2.St) (s : Shared) (s' : Shared) (O : Sto) (ps : List α) (vs : List V) (its : List Value), L2.Inv X pins σ H s → SA X.K G H O → Iss X.K G (ps.map f) vs → Vals vs its → 2 ≤ ps.length → (∀ b o, s.heap.get? b = some o → s'.heap.get? b = some o) →
    Cmp X.prog X.w A its (fun i => rankOf lt ps (ps.getD i default)) s'
end DL
set_option Elab.async false
set_option linter.all false
set_option maxRecDepth 100000
set_option maxHeartbeats 1000000
namespace DL
open PySem PySem.Spec PyProof.Rows L2 PySem.W
section
variable {X : Cx} {ρ : Rho} {O : Sto} {e a b c : Expr} {es : List Expr} {d da db : D} {ds : List D} {R : D → Sto → Prop} {pos p : Pos} {x : Str} {xs ys : List D} {α : Type} [Inhabited α] {lt : α → α → Bool} {f : α → D} {ps : List α}
end
end DL
set_option Elab.async false
set_option linter.all false
set_option maxRecDepth 100000
set_option maxHeartbeats 1000000
namespace DL
open PySem PySem.Spec PyProof.Rows L2 PySem.W
mutual
def toPy : D → PyData
  | .non => .none | .bl b => .bool b | .int i => .int i | .str x => .str x | .tup xs => .tuple (toPys xs) | .lst xs => .list (toPys xs) | .scr xs => .list (toPys xs) | .ptr _ => .none | .ty _ => .none | .fn _ => .none | .dct _ _ => .none
def toPys : List D → List PyData
  | [] => []
  | x :: xs => toPy x :: toPys xs
end
mutual
def plD : D → Bool
  | .non => true | .bl _ => true | .int _ => true | .str x => PyData.strOk x | .tup xs => plDs xs | .lst xs => plDs xs | .scr xs => plDs xs | .ptr _ => false | .ty _ => false | .fn _ => false | .dct _ _ => false
def plDs : List D → Bool
  | [] => true
  | x :: xs => plD x && plDs xs
end
mutual
def dpD : D → Nat
  | .tup xs => dpDs xs + 1 | .lst xs => dpDs xs + 1 | .scr xs => dpDs xs + 1 | .non => 0 | .bl _ => 0 | .int _ => 0 | .str _ => 0 | .ptr _ => 0 | .ty _ => 0 | .fn _ => 0 | .dct _ _ => 0
def dpDs : List D → Nat
  | [] => 0
  | x :: xs => max (dpD x) (dpDs xs)
end
def eqD (a b : D) : Bool := PyData.eqv (toPy a) (toPy b)
def eqDs (a b : List D) : Bool := PyData.eqvAll (toPys a) (toPys b)
mutual
theorem dp_py : ∀ d : D, (toPy d).depth = dpD d
  | .non => rfl | .bl _ => rfl | .int _ => rfl | .str _ => rfl | .ptr _ => rfl | .ty _ => rfl | .fn _ => rfl | .dct _ _ => rfl
  | .tup xs => by simp only [toPy, PyData.depth, dpD]; rw [dp_pys xs]
  | .lst xs => by simp only [toPy, PyData.depth, dpD]; rw [dp_pys xs]
  | .scr xs => by simp only [toPy, PyData.depth, dpD]; rw [dp_pys xs]
theorem dp_pys : ∀ xs : List D, PyData.depthAll (toPys xs) = dpDs xs
  | [] => rfl
  | x :: xs => by simp only [toPys, PyData.depthAll, dpDs]; rw [dp_py x, dp_pys xs]
end
mutual
theorem pl_lay : ∀ d : D, plD d = true → (toPy d).canLay0 = true
  | .non, _ => rfl | .bl _, _ => rfl | .int _, _ => rfl | .str x, h => by simp only [plD] at h; simp only [toPy, PyData.canLay0]; exact h | .ptr _, h => nomatch h | .ty _, h => nomatch h | .fn _, h => nomatch h | .dct _ _, h => nomatch h
  | .tup xs, h => pl_lays xs h
  | .lst xs, h => pl_lays xs h
  | .scr xs, h => pl_lays xs h
theorem pl_lays : ∀ xs : List D, plDs xs = true → PyData.canLayAll0 (toPys xs) = true
  | [], _ => rfl
  | x :: xs, h => by
    have h : (plD x && plDs xs) = true := h
    rw [Bool.and_eq_true] at h
    show (PyData.canLay0 (toPy x) && PyData.canLayAll0 (toPys xs)) = true
    rw [pl_lay x h.1, pl_lays xs h.2]; rfl
end
section
variable {X : Cx} {pins : List (Addr × Obj)} {σ : L2.St} {H : Hp} {s : Shared} {G : Wd}
mutual
theorem rd_of (I : L2.Inv X pins σ H s) (sub : Same G.g H) : ∀ {d : D} {v : V} {u : Value}, Is X.K G d v → RelV v u → plD d = true → ∃ as, Reads s.heap u (toPy d) as
  | _, _, _, .non, r, _ => by cases r; exact ⟨[], .none⟩
  | _, _, _, .bl b, r, _ => by cases r; exact ⟨[], .bool b⟩
  | _, _, _, .int i, r, _ => by obtain ⟨t, rfl⟩ := r; exact ⟨[], .int i t⟩
  | _, _, _, .str x, r, _ => by obtain ⟨t, rfl⟩ := r; exact ⟨[], .str x t⟩
  | _, _, _, .tup h q, r, p => by
    cases r
    obtain ⟨its, va, ⟨o, g1, g2, n, g3⟩, _⟩ := I.tuple (sqT_same sub h)
    obtain ⟨as, ra⟩ := rds_of I sub q va p
    exact ⟨as, .tuple g1 g2 g3 (by simpa using ra)⟩
  | _, _, _, .lst h q, r, p => by
    cases r
    obtain ⟨its, va, pl, _⟩ := I.list (SqL.of (sub _ _ h))
    obtain ⟨o, g1, g2, n, g3⟩ := pl.isList
    obtain ⟨as, ra⟩ := rds_of I sub q va p
    exact ⟨_, .list g1 g2 g3 (by simpa using ra)⟩
  | _, _, _, .scr h q, r, p => by
    cases r
    obtain ⟨its, va, pl, _⟩ := I.list (sub.seq h)
    obtain ⟨o, g1, g2, n, g3⟩ := pl.isList
    obtain ⟨as, ra⟩ := rds_of I sub q va p
    exact ⟨_, .list g1 g2 g3 (by simpa using ra)⟩
  | _, _, _, .ptr _ _, _, p => by simp [plD] at p
  | _, _, _, .ty _, _, p => by simp [plD] at p
  | _, _, _, .fn _, _, p => by simp [plD] at p
  | _, _, _, .dct _ _ _, _, p => by simp [plD] at p
theorem rds_of (I : L2.Inv X pins σ H s) (sub : Same G.g H) : ∀ {ds : List D} {vs : List V} {us : List Value}, Iss X.K G ds vs → Vals vs us → plDs ds = true → ∃ as, ReadsAll s.heap us (toPys ds) as
  | _, _, _, .nil, .nil, _ => ⟨[], .nil⟩
  | d :: ds, _, _, .cons i is, .cons r rs, p => by
    have p : (plD d && plDs ds) = true := p
    rw [Bool.and_eq_true] at p
    obtain ⟨as, ra⟩ := rd_of I sub i r p.1
    obtain ⟨bs, rb⟩ := rds_of I sub is rs p.2
    exact ⟨_, .cons ra rb⟩
end
end
def RD (O : Sto) (d e : D) : Prop := e = d ∨ ∃ n xs, d = .ptr n ∧ O[n]? = some (some (.lst xs)) ∧ e = .lst xs
theorem RD.reads {X : Cx} {pins : List (Addr × Obj)} {σ : L2.St} {H : Hp} {s : Shared} {G : Wd} {O : Sto} {d e : D} {v : V} {u : Value} (h : RD O d e) (I : L2.Inv X pins σ H s) (sa : SA X.K G H O) (i : Is X.K G d v) (r : RelV v u) (p : plD e = true) : ∃ as, Reads s.heap u (toPy e) as := by
  rcases h with rfl | ⟨n, xs, rfl, h, rfl⟩
  · exact rd_of I sa.sub i r p
  · cases i with | ptr _ ha =>
    cases r
    obtain ⟨a, g0, _, vs, g1, g2⟩ := sa.mt n _ h
    have := Option.some.inj (ha.symm.trans g0)
    subst this
    obtain ⟨its, va, pl, _⟩ := I.list (SqL.of g1)
    obtain ⟨o, q1, q2, k, q3⟩ := pl.isList
    obtain ⟨as, ra⟩ := rds_of I sa.sub g2 va p
    exact ⟨_, .list q1 q2 q3 (by simpa using ra)⟩
section
variable {X : Cx} {ρ : Rho} {O : Sto} {e a b c : Expr} {es : List Expr} {d da db ea eb : D} {ds xs ys : List D} {R : D → Sto → Prop} {pos p : Pos} {x : Str} {k : Nat}
end
theorem plDs_all {l : List D} (h : ∀ d ∈ l, plD d = true) : plDs l = true := by
  induction l with
  | nil => rfl
  | cons x xs ih =>
    show (plD x && plDs xs) = true
    rw [h x List.mem_cons_self, ih fun d hd => h d (List.mem_cons_of_mem _ hd)]; rfl
theorem plDs_map {α : Type} {f : α → D} {l : List α} (h : ∀ a ∈ l, plD (f a) = true) : plDs (l.map f) = true := plDs_all fun d hd => by obtain ⟨a, ha, rfl⟩ := List.mem_map.mp hd; exact h a ha
theorem eqDs_map {α : Type} {f : α → D} [DecidableEq α] (h : ∀ a b, eqD (f a) (f b) = decide (a = b)) : ∀ l m : List α, eqDs (l.map f) (m.map f) = decide (l = m)
  | [], [] => rfl
  | [], _ :: _ => rfl
  | _ :: _, [] => rfl
  | a :: l, b :: m => by
    show (eqD (f a) (f b) && eqDs (l.map f) (m.map f)) = _
    rw [h a b, eqDs_map h l m]
    by_cases h1 : a = b
    · by_cases h2 : l = m
      · simp [h1, h2]
      · simp [h1, h2]
    · simp [h1]
theorem eqD_int (a b : Int) : eqD (.int a) (.int b) = decide (a = b) := by
  show (a == b) = _
  by_cases h : a = b
  · simp [h]
  · simp [h]
theorem eqD_ints (a b : List Int) : eqD (.lst (a.map D.int)) (.lst (b.map D.int)) = decide (a = b) := eqDs_map eqD_int a b
end DL
set_option Elab.async false
set_option linter.all false
set_option maxRecDepth 100000
set_option maxHeartbeats 1000000
namespace DL
open PySem PySem.Spec PyProof.Rows L2 PySem.W
theorem getD_in {α : Type} {l : List α} {i : Nat} (h : i < l.length) (d : α) : l.getD i d = l[i] := by simp [h]
section
variable {X : Cx} {ρ : Rho} {O : Sto} {e a b c : Expr} {es : List Expr} {d da db ea eb : D} {ds xs ys : List D} {R : D → Sto → Prop} {pos p : Pos} {x : Str} {k : Nat}
theorem LT.sq {K : PySem.W.Frag} {G : Wd} {H : Hp} {O : Sto} {d : D} {xs : List D} {v : V} (h : LT O d xs) (s : SA K G H O) (i : Is K G d v) : ∃ k a vs, v = .ref a ∧ Sq k K H a vs ∧ Iss K G xs vs := by
  rcases h with h | rfl
  · obtain ⟨a, vs, rfl, q, r⟩ := h.sq s i; exact ⟨true, a, vs, rfl, q, r⟩
  · obtain ⟨a, vs, rfl, q, r⟩ := tup_sq s i; exact ⟨false, a, vs, rfl, q, r⟩
theorem ssq_lt {k : Bool} {h : Heap} {l : Addr} {ys : Array Value} (q : SSq k h l ys) : l < h.objs.size := by
  cases k with
  | true => obtain ⟨o, g, _⟩ := (q : h.IsList l ys); exact Heap.lt_size g
  | false => obtain ⟨o, g, _⟩ := (q : h.IsTuple l ys); exact Heap.lt_size g
theorem tup_whole {prog : Program} {w : World} {A : Around} {E : Value → Shared → Prop} {s : Shared} {t sl : Addr} {its : Array Value} {vl vu : Value} {lo hi : Option Int} {Q : Value → Shared → Prop} (ht : IsTup s.heap t its) (hs : s.heap.IsSliceOf sl vl vu .none) (pl : IsPart vl lo) (pu : IsPart vu hi)
    (hw : HT.sIx its.size 0 lo = 0 ∧ HT.sIx its.size its.size hi = its.size) (h : Q (.ref t) s) : wpAny (model prog w) A (getItem (.ref t) (.ref sl)) Q E s := by
  obtain ⟨osl, hos, hcs, hds⟩ := id hs
  have hTs : s.TypeIs (.ref sl) "slice" := ⟨osl, hos, hcs⟩
  unfold getItem
  try with_reducible refine wpAny_holding ?_
  first | refine wpAny_bind (wpAny_pure ?_) | skip
  refine wpAny_bind (wpAny_sequenceKey ht.typeIs (by decide) (wpAny_bind (wpAny_callSpecial?_slot (name := Str.ofString "__getitem__") ht.typeIs PyProof.Rows.slot_tuple_getitem (wpAny_call_entry PyProof.Rows.slot_tuple_getitem ht.typeIs entry_tuple_getitem ?_ (args_tuple_getitem _ _)))))
  show wpAny (model prog w) _ (Builtin.Tuple.tupleItemsOf (.ref t) >>= _) _ _ s
  refine wpAny_bind (tupleItemsOf_ ht (wpAny_bind (wpAny_typeOf hTs ?_)))
  rw [if_pos (by decide)]
  refine wpAny_bind (HT.sliceApplied_gen hs pl pu ?_)
  have hyes : ((((HT.sIx its.size 0 lo : Nat) : Int) == 0 && (1 : Int) == 1 && (HT.sIx its.size its.size hi - HT.sIx its.size 0 lo) == its.size) = true) := by
    rw [hw.1, hw.2]; simp
  show wpAny (model prog w) _ (if (((HT.sIx its.size 0 lo : Nat) : Int) == 0 && (1 : Int) == 1 && (HT.sIx its.size its.size hi - HT.sIx its.size 0 lo) == its.size) = true then _ else _) _ _ s
  rw [if_pos hyes]
  first
    | exact wpAny_pure ⟨_, rfl, wpAny_pure h⟩
    | exact wpAny_bind (wpAny_rule (wpAny_pure ⟨_, rfl, wpAny_pure h⟩))
    | (refine wpAny_bind (wpAny_typeOf ht.typeIs ?_); rw [if_pos (by decide)]; exact wpAny_pure ⟨_, rfl, wpAny_pure h⟩)
    | (refine wpAny_bind (wpAny_bind (wpAny_typeOf ht.typeIs (wpAny_pure ?_))); rw [if_pos (by decide)]; exact wpAny_bind (wpAny_rule (wpAny_pure ⟨_, rfl, wpAny_pure h⟩)))
def rSlW (K : PySem.W.Frag) : V → Option Int → Option Int → Hp → VK → Prop := fun x lo hi H Q => ∃ a xs, x = .ref a ∧ SqT K H a xs ∧ (HT.sIx xs.length 0 lo = 0 ∧ HT.sIx xs.length xs.length hi = xs.length) ∧ Q (.ref a) H
theorem sl_whole : SlR X (rSlW X.K) := fun pins s σ H x v vl vu lo hi sl Q I rx hs pl pu h => by
  obtain ⟨a, xs, rfl, hx, hw, q⟩ := h
  cases rx
  obtain ⟨its, r, ht, hz⟩ := I.tuple hx
  have hlen : its.toArray.size = xs.length := by rw [List.size_toArray]; exact r.length.symm
  exact ⟨"tuple", _, PyProof.Rows.slot_tuple_getitem.lookup, ht.typeIs, tup_whole ht hs pl pu (by rw [hlen]; exact hw) ⟨.ref a, H, I, rfl, q⟩⟩
theorem sliceD_whole {xs : List D} {l u : Option Int} (h : HT.sIx xs.length 0 l = 0 ∧ HT.sIx xs.length xs.length u = xs.length) : sliceD xs l u = xs := by
  unfold sliceD
  rw [h.1, h.2]
  simp
theorem ev_slT {xs : List D} {lo hi : Option Expr} {l u : Option Int} {p2 : Pos} (ha : EvP X ρ O a (.tup xs)) (hl : EvO X ρ O lo l) (hh : EvO X ρ O hi u) : EvP X ρ O (.Subscript a (.Slice lo hi none p2) pos) (.tup (sliceD xs l u)) := fun G =>
  PE.imp (pe_slice (sl_tup.or sl_whole) (ha G) (tl := fun σ H Q => ∃ G1, SA X.K G1 H O ∧ EnvR X.K G1 σ ρ ∧ ∀ G' H', Ext G1 G' → SA X.K G' H' O → Q l H') (fun pins s σ H Q I ⟨G1, q⟩ => hl G1 pins s σ H Q I q)
    (th := fun σ H Q => ∃ G1, SA X.K G1 H O ∧ EnvR X.K G1 σ ρ ∧ ∀ G' H', Ext G1 G' → SA X.K G' H' O → Q u H') (fun pins s σ H Q I ⟨G1, q⟩ => hh G1 pins s σ H Q I q)) fun σ H Q ⟨h1, h2, h3⟩ =>
    ⟨h1, h2, fun v G1 H1 e1 s1 i1 => ⟨G1, s1, h2.ext e1, fun G2 H2 e2 s2 => ⟨G2, s2, (h2.ext e1).ext e2, fun G3 H3 e3 s3 => by
      have i3 := i1.ext (e2.trans e3)
      obtain ⟨q, vs, rfl, q1, r⟩ := tup_sq s3 i3
      by_cases hw : HT.sIx vs.length 0 l = 0 ∧ HT.sIx vs.length vs.length u = vs.length
      · refine .inr ⟨q, vs, rfl, q1, hw, h3 _ _ _ ((e1.trans e2).trans e3) s3 ?_⟩
        rw [sliceD_whole (by rw [r.length]; exact hw)]
        exact i3
      · refine .inl ⟨q, vs, rfl, q1, hw, fun z hz => ?_⟩
        obtain ⟨e4, s4⟩ := s3.laid (o := .tup (cutV vs l u)) hz
        exact h3 _ _ _ (((e1.trans e2).trans e3).trans e4) s4 (.tup (SqT.of upd_same) ((cut_is r).ext e4))⟩⟩⟩
end
end DL
set_option Elab.async false
set_option linter.all false
set_option maxRecDepth 100000
namespace DL
open PySem PySem.Spec PyProof.Rows L2
mutual
def npD : D → Bool
  | .ptr _ => false
  | .tup xs => npDs xs
  | .lst xs => npDs xs
  | .scr xs => npDs xs
  | .dct _ xs => npDs xs
  | _ => true
def npDs : List D → Bool
  | [] => true
  | d :: ds => npD d && npDs ds
end
theorem npDs_map {α : Type} {f : α → D} (h : ∀ a, npD (f a) = true) (l : List α) : npDs (l.map f) = true := by
  induction l with
  | nil => rfl
  | cons a l ih => rw [List.map_cons]; unfold npDs; rw [h, ih]; rfl
theorem npDs_ints (l : List Int) : npDs (l.map D.int) = true := npDs_map (fun _ => rfl) l
section
variable {K : PySem.W.Frag} {G G' : Wd} {t : List Addr}
mutual
theorem Is.cut : ∀ {d : D} {v : V}, Is K G' d v → npD d = true → ∀ l, Is K ⟨G'.g, l⟩ d v
  | _, _, .non, _, l => .non
  | _, _, .bl b, _, l => .bl b
  | _, _, .int i, _, l => .int i
  | _, _, .str x, _, l => .str x
  | _, _, .tup h r, e, l => .tup h (Iss.cut r e l)
  | _, _, .lst h r, e, l => .lst h (Iss.cut r e l)
  | _, _, .scr h r, e, l => .scr h (Iss.cut r e l)
  | _, _, .ptr n h, e, l => by cases e
  | _, _, .ty n, _, l => .ty n
  | _, _, .fn n, _, l => .fn n
  | _, _, .dct h hl r, e, l => .dct h hl (Iss.cut r e l)
theorem Iss.cut : ∀ {ds : List D} {vs : List V}, Iss K G' ds vs → npDs ds = true → ∀ l, Iss K ⟨G'.g, l⟩ ds vs
  | _, _, .nil, _, l => .nil
  | _, _, .cons h r, e, l => by
    have e := (Bool.and_eq_true _ _).mp e
    exact .cons (Is.cut h e.1 l) (Iss.cut r e.2 l)
end
mutual
theorem Is.back (e : G'.l = G.l ++ t) : ∀ {d : D} {v v0 : V}, Is K G d v0 → Is K G' d v → Is K ⟨G'.g, G.l⟩ d v
  | _, _, _, .non, h => by cases h; exact .non
  | _, _, _, .bl b, h => by cases h; exact .bl b
  | _, _, _, .int i, h => by cases h; exact .int i
  | _, _, _, .str x, h => by cases h; exact .str x
  | _, _, _, .tup _ r0, h => by cases h with | tup h r => exact .tup h (Iss.back e r0 r)
  | _, _, _, .lst _ r0, h => by cases h with | lst h r => exact .lst h (Iss.back e r0 r)
  | _, _, _, .scr _ r0, h => by cases h with | scr h r => exact .scr h (Iss.back e r0 r)
  | _, _, _, .ptr n q, h => by
    cases h with
    | ptr _ h =>
      refine .ptr n ?_
      rw [e, List.getElem?_append_left (List.getElem?_eq_some_iff.mp q).1] at h
      exact h
  | _, _, _, .ty n, h => by cases h; exact .ty n
  | _, _, _, .fn n, h => by cases h; exact .fn n
  | _, _, _, .dct _ _ r0, h => by cases h with | dct h hl r => exact .dct h hl (Iss.back e r0 r)
theorem Iss.back (e : G'.l = G.l ++ t) : ∀ {ds : List D} {vs v0 : List V}, Iss K G ds v0 → Iss K G' ds vs → Iss K ⟨G'.g, G.l⟩ ds vs
  | _, _, _, .nil, h => by cases h; exact .nil
  | _, _, _, .cons q r, h => by cases h with | cons h1 h2 => exact .cons (Is.back e q h1) (Iss.back e r h2)
end
theorem FsIs.back (e : G'.l = G.l ++ t) : ∀ {fs : List (Str × D)} {vs v0 : List (Str × V)}, FsIs K G fs v0 → FsIs K G' fs vs → FsIs K ⟨G'.g, G.l⟩ fs vs
  | _, _, _, .nil, h => by cases h; exact .nil
  | _, _, _, .cons q r, h => by cases h with | cons h1 h2 => exact .cons (Is.back e q h1) (FsIs.back e r h2)
theorem SA.cut {H H' : Hp} {O O2 : Sto} (s : SA K G H O) (e : Ext G G') (s' : SA K G' H' (O ++ O2)) : Ext G ⟨G'.g, G.l⟩ ∧ SA K ⟨G'.g, G.l⟩ H' O := by
  obtain ⟨t, et⟩ := e.l
  refine ⟨⟨e.g, [], (List.append_nil _).symm⟩, ⟨s'.sub, s.len, s.nd, fun a ha => s'.liv a (by rw [et]; exact List.mem_append_left _ ha), fun n m h => ?_⟩⟩
  have hn := (List.getElem?_eq_some_iff.mp h).1
  obtain ⟨a, q1, q2, q3⟩ := s'.mt n m (by rw [List.getElem?_append_left hn]; exact h)
  obtain ⟨a0, p1, p2, p3⟩ := s.mt n m h
  rw [et, List.getElem?_append_left (by rw [s.len]; exact hn)] at q1
  refine ⟨a, q1, q2, ?_⟩
  cases m with
  | lst xs =>
    obtain ⟨vs, g1, g2⟩ := q3
    obtain ⟨v0, h1, h2⟩ := p3
    exact ⟨vs, g1, Iss.back et h2 g2⟩
  | ins C fs =>
    obtain ⟨dx, vs, g1, g2⟩ := q3
    obtain ⟨dx0, v0, h1, h2⟩ := p3
    exact ⟨dx, vs, g1, FsIs.back et h2 g2⟩
  | exc C fs =>
    obtain ⟨ob, g1, g2, g3⟩ := q3
    obtain ⟨ob0, h1, h2, h3⟩ := p3
    refine ⟨ob, g1, g2, ?_⟩
    rcases h3 with h3 | ⟨dx0, v0, b1, b2, b3⟩
    · exact .inl h3
    · refine g3.imp id ?_
      rintro ⟨dx, vs, a1, a2, a3⟩
      exact ⟨dx, vs, a1, a2, FsIs.back et b3 a3⟩
  | dct ks xs =>
    obtain ⟨vs, g1, g2, g3⟩ := q3
    obtain ⟨v0, h1, h2, h3⟩ := p3
    exact ⟨vs, g1, g2, Iss.back et h3 g3⟩
end
section
variable {X : Cx} {ρ : Rho} {O : Sto} {e a b c : Expr} {es : List Expr} {d da db : D} {ds : List D} {R : D → Sto → Prop} {pos p : Pos} {x : Str} {rest : List Stmt} {P : Post}
theorem xs_keep (h : Exs X ρ O rest { nx := fun _ _ => False, rt := fun d O' => (∃ O2, O' = O ++ O2) ∧ npD d = true ∧ P.rt d O }) : Exs X ρ O rest P := fun G pins s σ H E I ⟨q1, q2, q3⟩ => by
  refine h G pins s σ H E I ⟨q1, q2, ⟨fun σ' ρ' O' G3 H3 e3 s3 n3 q => q.elim, fun v d O' G3 H3 e3 s3 i3 r => ?_, fun σ' ρ' O' G3 H3 e3 s3 n3 q => q.elim, fun σ' ρ' O' G3 H3 e3 s3 n3 q => q.elim⟩⟩
  obtain ⟨⟨O2, rfl⟩, r2, r3⟩ := r
  obtain ⟨e4, s4⟩ := q1.cut e3 s3
  exact q3.rt v d O _ H3 e4 s4 (i3.cut r2 _) r3
def relSp (pre : List D → Prop) (f : List D → D → Prop) : SpD := fun ds O R => pre ds ∧ ∀ d, f ds d → R d O
theorem st0 {m : Option MO} {O2 : Sto} : (O ++ m :: O2)[O.length]? = some m := by
  rw [List.getElem?_append_right (Nat.le_refl _), Nat.sub_self]; rfl
theorem ss0 {m z : Option MO} {O2 : Sto} : (O ++ m :: O2).set O.length z = O ++ z :: O2 := by
  rw [List.set_append_right (h := Nat.le_refl _), Nat.sub_self]; rfl
section
variable {α : Type} {ps : List α} {f g : α → D} {h : α → Option D} {tg iter elt : Expr} {ifs : List Expr} {scope : Scope}
theorem fm_some (ps : List α) (g : α → D) : (ps.map fun q => some (g q)).filterMap id = ps.map g := by
  induction ps with
  | nil => rfl
  | cons a l ih => rw [List.map_cons, List.filterMap_cons, ih]; rfl
theorem fm_map (ps : List α) (h : α → Option D) : (ps.map h).filterMap id = ps.filterMap h := by
  rw [List.filterMap_map]; rfl
theorem ev_compF (h : α → Option D) (T F : List Str) (js : List Nat) (hi : EvI X ρ O tg iter (ps.map f)) (hsz : ps.length ≤ sizeLine) (turn : ∀ q, q ∈ ps → CTurn X T F js ρ O scope tg elt ifs (f q) (h q))
    (hfl : F.length = js.length := by rfl) (hB : freeB X.N X.env.scope.names scope.names F js = true := by rfl) (hc : X.calm = true := by rfl) (hk : scope.kind = .function := by rfl) (hs : ∀ x, foldedSetIterable iter X.env x = pure x := by intro _; rfl) :
    EvP X ρ O (.ListComp elt [⟨tg, iter, ifs, 0⟩] scope pos) (.lst (ps.filterMap h)) := by
  rw [← fm_map]
  refine ev_compZ T F js hi (by rw [List.length_map, List.length_map]) (by rw [List.length_map]; exact hsz) (fun i x z h1 h2 => ?_) hfl hB hc hk hs
  rw [List.getElem?_map] at h1 h2
  cases e : ps[i]? with
  | none => rw [e] at h1; cases h1
  | some q => rw [e] at h1 h2; cases h1; cases h2; exact turn q (List.mem_of_getElem? e)
theorem ev_compM (g : α → D) (T F : List Str) (js : List Nat) (hi : EvI X ρ O tg iter (ps.map f)) (hsz : ps.length ≤ sizeLine) (turn : ∀ q, q ∈ ps → CTurn X T F js ρ O scope tg elt ifs (f q) (some (g q)))
    (hfl : F.length = js.length := by rfl) (hB : freeB X.N X.env.scope.names scope.names F js = true := by rfl) (hc : X.calm = true := by rfl) (hk : scope.kind = .function := by rfl) (hs : ∀ x, foldedSetIterable iter X.env x = pure x := by intro _; rfl) :
    EvP X ρ O (.ListComp elt [⟨tg, iter, ifs, 0⟩] scope pos) (.lst (ps.map g)) := by
  rw [← fm_some, fm_map]
  exact ev_compF (fun q => some (g q)) T F js hi hsz turn hfl hB hc hk hs
theorem x_setF {x : Str} {p spos : Pos} (k : Nat) (h : α → Option D) (T F : List Str) (js : List Nat) (hi : EvI X ρ O tg iter (ps.map f)) (hsz : ps.length ≤ sizeLine) (turn : ∀ q, q ∈ ps → CTurn X T F js ρ O scope tg elt ifs (f q) (h q))
    (hP : P.nx (ρ.set k (some (.lst (ps.filterMap h)))) O) (hN : X.N.Nodup) (hx : X.N[k]? = some x := by rfl) (hlc : Loc X.env.scope x := by first | exact Or.inl rfl | exact Or.inr rfl) (hf : X.fn x = true ∨ X.env.scope.names.lookup x = some .local := by first | exact .inl rfl | exact .inr rfl | assumption)
    (hfl : F.length = js.length := by rfl) (hB : freeB X.N X.env.scope.names scope.names F js = true := by rfl) (hc : X.calm = true := by rfl) (hk : scope.kind = .function := by rfl) (hs : ∀ x, foldedSetIterable iter X.env x = pure x := by intro _; rfl)
    (hsw : swapsWith (.ListComp elt [⟨tg, iter, ifs, 0⟩] scope pos) (some (.Name x p)) spos.line X.env = pure true := by rfl) : Ex X ρ O (.Assign [.Name x p] (.ListComp elt [⟨tg, iter, ifs, 0⟩] scope pos) spos) P := by
  rw [← fm_map] at hP
  refine x_setC k T F js hi (by rw [List.length_map, List.length_map]) (by rw [List.length_map]; exact hsz) (fun i x z h1 h2 => ?_) hP hN hx hlc hf hfl hB hc hk hs hsw
  rw [List.getElem?_map] at h1 h2
  cases e : ps[i]? with
  | none => rw [e] at h1; cases h1
  | some q => rw [e] at h1 h2; cases h1; cases h2; exact turn q (List.mem_of_getElem? e)
theorem ei_LF {xs : List D} (he : EvP X ρ O e d) (fa : LF d xs) : EvI X ρ O tg e xs := by
  rcases fa with rfl | rfl | rfl
  · exact ei_lst he
  · exact ei_scr he
  · exact ei_tup he
end
end
end DL
set_option Elab.async false
set_option linter.all false
set_option maxRecDepth 100000
namespace DL
open PySem PySem.Spec PyProof.Rows L2
def cutA {α : Type} (a : List α) (lo hi : Option Int) : List α := (a.drop (HT.sIx a.length 0 lo)).take (HT.sIx a.length a.length hi - HT.sIx a.length 0 lo)
theorem slice_map {α : Type} {f : α → D} (a : List α) (lo hi : Option Int) : sliceD (a.map f) lo hi = (cutA a lo hi).map f := by
  unfold sliceD cutA
  rw [List.length_map, List.map_take, List.map_drop]
theorem zipD_map {α β : Type} {f : α → D} {g : β → D} : ∀ (a : List α) (b : List β), zipD (a.map f) (b.map g) = (a.zip b).map fun q => .tup [f q.1, g q.2]
  | [], _ => rfl
  | _ :: _, [] => rfl
  | x :: a, y :: b => by
    have ih := zipD_map (f := f) (g := g) a b
    unfold zipD at ih ⊢
    rw [List.map_cons, List.map_cons, List.zipWith_cons_cons, ih]
    rfl
section
variable {X : Cx} {ρ : Rho} {O : Sto} {e a b c : Expr} {es : List Expr} {d da db : D} {ds : List D} {R : D → Sto → Prop} {pos p : Pos} {x : Str} {rest : List Stmt} {P : Post}
theorem ev_slTA {α : Type} {f : α → D} {as : List α} {lo hi : Option Expr} {l u : Option Int} {p2 : Pos} (ha : EvP X ρ O a (.tup (as.map f))) (hl : EvO X ρ O lo l) (hh : EvO X ρ O hi u) : EvP X ρ O (.Subscript a (.Slice lo hi none p2) pos) (.tup ((cutA as l u).map f)) := by
  rw [← slice_map]
  exact ev_slT ha hl hh
theorem ez_zipM {α β : Type} {f : α → D} {g : β → D} {as : List α} {bs : List β} (ha : EvP X ρ O a da) (hb : EvP X ρ O b db) (fa : LF da (as.map f)) (fb : LF db (bs.map g)) (hm : X.mg "zip" = none) (hg : Gl X "zip" := by rfl) (hs : starEach [a, b] X.env = [(false, eval a X.env), (false, eval b X.env)] := by rfl) (hs2 : starEach [b] X.env = [(false, eval b X.env)] := by rfl) :
    EvZ X ρ O (.Call (.Name "zip" p) [a, b] [] pos) ((as.zip bs).map fun q => .tup [f q.1, g q.2]) "zip" := by
  rw [← zipD_map]
  exact ez_zip ha hb fa fb hm hg hs hs2
end
theorem atI_map {α : Type} {f : α → D} {a : List α} {i : Int} {v : α} (h0 : 0 ≤ i) (h : a[i.toNat]? = some v) : atI (a.map f) i = some (f v) := by
  obtain ⟨k, rfl⟩ := Int.eq_ofNat_of_zero_le h0
  rw [Int.toNat_natCast] at h
  exact atI_nat (by rw [List.getElem?_map, h]; rfl)
def sm {α : Type} (g : α → Int) : List α → Int
  | [] => 0
  | a :: l => g a + sm g l
section
variable {α β : Type} {g h : α → Int} {l m : List α}
theorem sm_app : sm g (l ++ m) = sm g l + sm g m := by
  induction l with
  | nil => exact (Int.zero_add _).symm
  | cons a l ih => show g a + sm g (l ++ m) = (g a + sm g l) + sm g m; rw [ih]; omega
theorem sm_perm (p : l.Perm m) : sm g l = sm g m := by
  induction p with
  | nil => rfl
  | cons a _ ih => unfold sm; rw [ih]
  | swap a b l => unfold sm; unfold sm; omega
  | trans _ _ h1 h2 => rw [h1, h2]
theorem sm_take {i : Nat} {a : α} (e : l[i]? = some a) : sm g (l.take (i + 1)) = sm g (l.take i) + g a := by
  rw [List.take_add_one, e, sm_app]
  show _ + (g a + 0) = _
  omega
end
theorem bitsP {b : Int} {n : Nat} (h0 : 0 ≤ b) (h1 : b < 2 ^ n) : PySem.Builtin.Int.intBits b ≤ n := by
  unfold PySem.Builtin.Int.intBits
  split
  · exact Nat.zero_le _
  · rename_i hz
    have hn : b.natAbs < 2 ^ n := by
      have e : ((2 ^ n : Nat) : Int) = 2 ^ n := by rw [Int.natCast_pow]; rfl
      omega
    have hp : b.natAbs ≠ 0 := by
      intro z; apply hz; rw [Int.natAbs_eq_zero.mp z]; rfl
    have := (Nat.log2_lt hp).mpr hn
    omega
theorem mulP {a b : Int} {m n : Nat} (a0 : 0 ≤ a) (a1 : a < 2 ^ m) (b0 : 0 ≤ b) (b1 : b < 2 ^ n) (h : m + n ≤ 134217728 := by decide) : IntMulOk a b := IntMulOk.of_le (bitsP a0 a1) (bitsP b0 b1) h
end DL
set_option Elab.async false
set_option linter.all false
set_option maxRecDepth 100000
namespace DL
open PySem PySem.Spec PyProof.Rows L2
section
variable {prog : Program} {w : World} {A : Around} {E : Value → Shared → Prop} {s : Shared}
end
section
variable {X : Cx} {ρ : Rho} {O : Sto} {e a b c st : Expr} {es : List Expr} {d da db : D} {ds xs : List D} {R : D → Sto → Prop} {pos p p2 : Pos} {x : Str} {rest : List Stmt} {P : Post}
theorem reps {K : PySem.W.Frag} {G : Wd} {vs : List V} (r : Iss K G xs vs) (k : Nat) : Iss K G (List.replicate k xs).flatten (List.replicate k vs).flatten := by
  induction k with
  | zero => exact .nil
  | succ k ih => rw [List.replicate_succ, List.replicate_succ, List.flatten_cons, List.flatten_cons]; exact r.append ih
theorem rep1 {d : D} (n : Nat) : (List.replicate n [d]).flatten = List.replicate n d := by
  induction n with
  | zero => rfl
  | succ n ih => rw [List.replicate_succ, List.flatten_cons, ih]; rfl
end
end DL
set_option Elab.async false
set_option linter.all false
set_option maxRecDepth 100000
namespace DL
open PySem PySem.Spec PyProof.Rows L2
section
variable {prog : Program} {w : World} {A : Around} {E : Value → Shared → Prop} {s : Shared}
theorem noFill_tup_mul : fillsNumberSlot (.type "tuple") "mul" = pure false :=
  PySem.fillsNumberSlot_seq (id := "tuple.__mul__") (r := some (.builtin "tuple.__rmul__")) F.slot_tuple_mul.lookup (by decide +kernel) F.slot_tuple_rmul.lookup (by decide +kernel)
theorem rep_tup : seqRepeat? (.type "tuple") = pure (some (.builtin "tuple.__mul__")) := by
  unfold seqRepeat?
  rw [PySem.seqSlot_of (T := "tuple") (name := "__mul__") F.slot_tuple_mul.lookup (by decide +kernel), PySem.seqSlot_of (T := "tuple") (name := "__rmul__") F.slot_tuple_rmul.lookup (by decide +kernel)]
  rfl
theorem rmul_int_tup {a : Int} {t : Tok} {l : Addr} {its : List Value} {Q : Value → Shared → Prop} (ht : IsTup s.heap l its.toArray) (h : Q .notImplemented s) : wpAny (model prog w) A (call (.builtin "int.__rmul__") [.int a t, .ref l]) Q E s := by
  refine wpAny_call_entry F.slot_int_rmul (typeIs_int s a t) F.entry_int_rmul ?_ (F.args_int_rmul_2 _ _)
  obtain ⟨o, ho, hc, n, hd⟩ := ht
  show wpAny (model prog w) _ (asInt? (.ref l) >>= _) _ _ s
  refine wpAny_bind ?_
  unfold asInt?
  refine wpAny_bind (wpAny_load ho ?_)
  rw [hd]
  refine wpAny_pure ?_
  exact wpAny_bind (wpAny_rule (wpAny_pure ⟨_, rfl, h⟩))
theorem mul_tup {k : Int} {t : Tok} {l : Addr} {its : List Value} {Q : Value → Shared → Prop} (ht : IsTup s.heap l its.toArray) (h1 : 1 ≤ k) (h2 : k < 2 ^ 62) (hn : its ≠ []) (hz : its.length * k.toNat ≤ sizeLine)
    (hq1 : k = 1 → Q (.ref l) s) (hq2 : k ≠ 1 → Q (.ref s.heap.objs.size) { s with heap := s.heap.push { cls := .type "tuple", data := .seq (List.replicate k.toNat its).flatten.toArray } }) : wpAny (model prog w) A (call (.builtin "tuple.__mul__") [.ref l, .int k t]) Q E s := by
  refine wpAny_call_entry F.slot_tuple_mul ht.typeIs F.entry_tuple_mul ?_ (F.args_tuple_mul_2 _ _)
  show wpAny (model prog w) _ (asIndex (.int k t) >>= _) _ _ s
  refine wpAny_bind ?_
  show wpAny (model prog w) _ (pure k) _ _ s
  refine wpAny_pure ?_
  rw [if_neg (by rw [Bool.or_eq_true, decide_eq_true_eq, decide_eq_true_eq]; omega)]
  refine wpAny_bind (tupleItemsOf_ ht ?_)
  have he : its.toArray.isEmpty = false := by cases its with | nil => exact absurd rfl hn | cons a l => rfl
  by_cases hk : k = 1
  · rw [if_pos (by rw [hk, Bool.or_eq_true]; exact Or.inr rfl)]
    unfold Builtin.Tuple.tupleIsExact
    refine wpAny_bind (wpAny_bind (wpAny_typeOf ht.typeIs (wpAny_pure ?_)))
    rw [if_pos (by decide)]
    exact wpAny_bind (wpAny_rule (wpAny_pure ⟨_, rfl, hq1 hk⟩))
  · have hk2 : (k == 1) = false := by simpa using hk
    rw [if_neg (by rw [he, hk2]; exact Bool.false_ne_true)]
    rw [if_neg (by rw [he, Bool.or_false, decide_eq_true_eq]; omega)]
    have hs : ((its.toArray.size : Nat) : Int) * k ≤ (sizeLine : Nat) := by
      rw [List.size_toArray]
      have e : k = ((k.toNat : Nat) : Int) := by omega
      rw [e]
      exact_mod_cast hz
    have hl := sizeLine_eq
    rw [hl] at hs
    rw [if_neg (by omega)]
    have ht2 : Builtin.Tuple.tupleTooMany (((its.toArray.size : Nat) : Int) * k) = false := by
      unfold Builtin.Tuple.tupleTooMany
      rw [hl]
      exact decide_eq_false (by omega)
    rw [if_neg (by rw [ht2]; exact Bool.false_ne_true)]
    have e : List.foldl (fun x1 x2 => x1 ++ x2) #[] (List.replicate k.toNat its.toArray) = (List.replicate k.toNat its).flatten.toArray := by
      have := foldl_rep its k.toNat []
      rw [List.nil_append] at this
      exact this
    rw [e]
    exact wpAny_bind (m := Builtin.Tuple.tupleExact _) (wpAny_newObj_type (wpAny_pure ⟨_, rfl, hq2 hk⟩) (by
      show (List.replicate k.toNat its).flatten.toArray.size ≤ sizeLine
      rw [List.size_toArray, len_rep, Nat.mul_comm]
      exact hz))
end
section
variable {X : Cx} {O : Sto} {xs : List D}
theorem o_repT {i : Int} (h1 : 1 ≤ i) (h2 : i < 2 ^ 62) (hn : xs ≠ []) (hz : xs.length * i.toNat ≤ sizeLine) : Op2 X O (binaryOp .Mult) (.tup xs) (.int i) (.tup (List.replicate i.toNat xs).flatten) := fun G pins s σ H x y v u Q I rx ry ⟨sa, j1, j2, k⟩ => by
  cases j2
  have j := j1
  obtain ⟨q, vs, rfl, g, r⟩ := tup_sq sa j1
  cases rx
  obtain ⟨t, rfl⟩ := ry
  obtain ⟨its, rr, ht, hzz⟩ := I.tuple g
  have hlen := rr.length
  have hn2 : its ≠ [] := by
    rintro rfl
    have := r.length
    rw [hlen] at this
    exact hn (List.eq_nil_of_length_eq_zero this)
  refine wpAny_binaryOp_repeat_ref (T := "tuple") (U := "int") (by decide) ht.typeIs (fun s' => typeIs_int s' i t) noFill_tup_mul F.fills_int_mul F.slot_int_rmul rep_tup F.slot_int_index.lookup
    (rmul_int_tup ht ⟨rfl, ht.typeIs, mul_tup ht h1 h2 hn2 (by rw [← hlen, ← r.length]; exact hz) (fun e => ?_) (fun e => ?_)⟩)
  · subst e
    refine ⟨.ref q, H, I, rfl, k _ G H (Ext.refl _) sa ?_⟩
    have : (List.replicate (1 : Int).toNat xs).flatten = xs := by show (xs ++ []) = xs; rw [List.append_nil]
    rw [this]
    exact j
  · obtain ⟨e4, s4⟩ := sa.laid (o := .tup (List.replicate i.toNat vs).flatten) (p := s.heap.objs.size) (I.hok.fresh (Nat.le_refl _))
    refine ⟨.ref _, _, I.laid (t' := s.toks) (o := .tup (List.replicate i.toNat vs).flatten) (fun b ob q => Heap.get?_push_of_some _ q) (Nat.le_refl _) ?_, rfl, k _ _ _ e4 s4 (.tup (SqT.of upd_same) ((reps r _).ext e4))⟩
    exact ⟨by rw [len_rep, Nat.mul_comm, ← r.length]; exact hz, _, rr.rep i.toNat, TupN.new _ _⟩
end
end DL
set_option Elab.async false
set_option linter.all false
set_option maxRecDepth 100000
namespace DL
open PySem PySem.Spec PyProof.Rows L2
def putD (f : Str) (d : D) : List (Str × D) → List (Str × D)
  | [] => [(f, d)]
  | (g, x) :: r => if g = f then (g, d) :: r else (g, x) :: putD f d r
section
variable {K : PySem.W.Frag} {G : Wd}
end
section
variable {X : Cx} {ρ : Rho} {O : Sto} {e a b c o value : Expr} {es : List Expr} {d da db : D} {ds : List D} {R : D → Sto → Prop} {pos p apos pos' : Pos} {x f m : Str} {rest : List Stmt} {P : Post} {q : Nat} {C : Addr} {fs : List (Str × D)}
structure MethOk (P : Program) (w : World) (K : PySem.W.Frag) (mg : Str → Option Value) (base : Heap) (C : Addr) (k : Nat) (m : Str) (sp : SpD) : Prop where
  ex : ∃ f fd ps, FnOk P w K mg base CX0 k f fd ps (toSp K sp) ∧ Meth K C m f ∧ Binds K fd ps []
  cls : Cls K C
structure MakeOk (P : Program) (w : World) (K : PySem.W.Frag) (mg : Str → Option Value) (base : Heap) (C : Addr) (k : Nat) (x : Str) (sp : SpD) : Prop where
  ex : ∃ f fd ps, FnOk P w K mg base CX0 k f fd ps (toSp K sp) ∧ Mk K C f ∧ Binds K fd ps []
  at_ : mg x = some (.ref C)
end
end DL
set_option Elab.async false
set_option linter.all false
set_option maxRecDepth 100000
namespace DL
open PySem PySem.Spec PyProof.Rows L2
section
variable {X : Cx} {ρ : Rho} {O : Sto} {e a b c o ix value : Expr} {es : List Expr} {d da db : D} {ds xs : List D} {R : D → Sto → Prop} {pos p apos tpos : Pos} {x f m : Str} {rest : List Stmt} {P : Post} {q j : Nat} {i : Int}
end
end DL
set_option Elab.async false
set_option linter.all false
set_option maxRecDepth 100000
set_option maxHeartbeats 1000000
namespace DL
open PySem PySem.Spec PyProof.Rows L2 PySem.W
structure EW (n : Nat) (k : Bool) (l i : Nat) (j : Int) (xs : Array Value) (f0 f1 old : Value) (h : Heap) : Prop where
  z : h.get? (n + 1) = some { cls := .type "enumerate", dict := none, data := .fields #[f0, f1, .ref n, .int j 0, .none, old], slots := #[] }
  w : SIt k h n l i
  s : SSq k h l xs
  b : l < n
def Oth2 (n : Nat) (h h' : Heap) : Prop := ∀ c o, c ≠ n → c ≠ n + 1 → h.get? c = some o → h'.get? c = some o
theorem Oth2.refl (n : Nat) (h : Heap) : Oth2 n h h := fun _ _ _ _ e => e
theorem Oth2.on {n : Nat} {h h1 h2 : Heap} (p : Oth2 n h h1) (q : Oth2 n h1 h2) : Oth2 n h h2 := fun c o c1 c2 e => q c o c1 c2 (p c o c1 c2 e)
theorem Oth2.more {n : Nat} {h h' : Heap} {o : Obj} (p : Oth2 n h h') : Oth2 n h (h'.push o) := p.on fun c u _ _ q => Heap.get?_push_of_some _ q
section
variable {prog : Program} {w : World} {A : Around} {E : Value → Shared → Prop} {s : Shared} {n l i : Nat} {j : Int} {k : Bool} {xs : Array Value} {f0 f1 old v : Value}
theorem EW.set {m : Nat} {vs : Array Value} {Q : Unit → Shared → Prop} (W : EW n k l i j xs f0 f1 old s.heap) (hm : m < 6)
    (hQ : ∀ h', h'.get? (n + 1) = some { cls := .type "enumerate", dict := none, data := .fields ((#[f0, f1, .ref n, .int j 0, .none, old] : Array Value).setIfInBounds m v), slots := #[] } → SIt k h' n l i → SSq k h' l xs → Oth2 n s.heap h' → h'.objs.size = s.heap.objs.size → Q () { s with heap := h' }) : wpAny (model prog w) A (setField (.ref (n + 1)) m v) Q E s :=
  wpAny_setField_rec W.z hm fun h' g e => hQ h' g (W.w.at fun o => e.extBut _ _ (ap (by omega))) (W.s.at fun o => e.extBut _ _ (ap (by have := W.b; omega))) (fun c o _ c2 q => e.extBut _ _ c2 q) e.1
theorem EW.set0 {Q : Unit → Shared → Prop} (W : EW n k l i j xs f0 f1 old s.heap) (hQ : ∀ h', EW n k l i j xs v f1 old h' → Oth2 n s.heap h' → h'.objs.size = s.heap.objs.size → Q () { s with heap := h' }) : wpAny (model prog w) A (setField (.ref (n + 1)) 0 v) Q E s := W.set (vs := #[]) (by decide) fun h' a b c d e => hQ h' ⟨a, b, c, W.b⟩ d e
theorem EW.set1 {Q : Unit → Shared → Prop} (W : EW n k l i j xs f0 f1 old s.heap) (hQ : ∀ h', EW n k l i j xs f0 v old h' → Oth2 n s.heap h' → h'.objs.size = s.heap.objs.size → Q () { s with heap := h' }) : wpAny (model prog w) A (setField (.ref (n + 1)) 1 v) Q E s := W.set (vs := #[]) (by decide) fun h' a b c d e => hQ h' ⟨a, b, c, W.b⟩ d e
theorem EW.set3 {j' : Int} {Q : Unit → Shared → Prop} (W : EW n k l i j xs f0 f1 old s.heap) (hQ : ∀ h', EW n k l i j' xs f0 f1 old h' → Oth2 n s.heap h' → h'.objs.size = s.heap.objs.size → Q () { s with heap := h' }) : wpAny (model prog w) A (setField (.ref (n + 1)) 3 (rawInt j')) Q E s := W.set (vs := #[]) (by decide) fun h' a b c d e => hQ h' ⟨a, b, c, W.b⟩ d e
theorem EW.set4 {Q : Unit → Shared → Prop} (W : EW n k l i j xs f0 f1 old s.heap) (hQ : ∀ h', EW n k l i j xs f0 f1 old h' → Oth2 n s.heap h' → h'.objs.size = s.heap.objs.size → Q () { s with heap := h' }) : wpAny (model prog w) A (setField (.ref (n + 1)) 4 .none) Q E s := W.set (vs := #[]) (by decide) fun h' a b c d e => hQ h' ⟨a, b, c, W.b⟩ d e
theorem EW.set5 {Q : Unit → Shared → Prop} (W : EW n k l i j xs f0 f1 old s.heap) (hQ : ∀ h', EW n k l i j xs f0 f1 v h' → Oth2 n s.heap h' → h'.objs.size = s.heap.objs.size → Q () { s with heap := h' }) : wpAny (model prog w) A (setField (.ref (n + 1)) 5 v) Q E s := W.set (vs := #[]) (by decide) fun h' a b c d e => hQ h' ⟨a, b, c, W.b⟩ d e
theorem EW.inner {Q : Value → Shared → Prop} (W : EW n k l i j xs f0 f1 old s.heap) (h : Q (.ref n) s) : wpAny (model prog w) A (field (.ref (n + 1)) 2) Q E s := wpAny_field W.z rfl (x := .ref n) rfl h
theorem EW.draw {x : Value} {Q : Value → Shared → Prop} (W : EW n k l i j xs f0 f1 old s.heap) (hx : xs[i]? = some x) (hQ : ∀ h', EW n k l (i + 1) j xs f0 f1 old h' → Oth2 n s.heap h' → h'.objs.size = s.heap.objs.size → Q x { s with heap := h' }) : wpAny (model prog w) A (Builtin.SmallTypes.nextOf (.ref n)) Q E s :=
  sq_item W.w W.s hx fun h' g e => hQ h' ⟨e.extBut _ _ (ap (by omega)) W.z, g, W.s.at fun o => e.extBut _ _ (ap (by have := W.b; omega)), W.b⟩ (fun c o c1 _ q => e.extBut _ _ c1 q) e.1
theorem EW.free {Q : Bool → Shared → Prop} (W : EW n k l i j xs f0 f1 old s.heap) (hf : ZF f0) (y : Q true s) (z : ∀ h' f, EW n k l i j xs f0 f old h' → Oth2 n s.heap h' → h'.objs.size = s.heap.objs.size → Q false { s with heap := h' }) : wpAny (model prog w) A (Builtin.SmallTypes.ownedTupleIsFree (.ref (n + 1))) Q E s := by
  obtain ⟨h, g, d, tk, os⟩ := s
  have hz := W.z
  dsimp only at hz
  rcases hf with rfl | ⟨c, rfl⟩
  · wp_walk
    exact y
  · wp_walk using alive_as
    cases h.get? (Int.toNat (c : Int)) with
    | none => wp_walk; exact y
    | some o =>
      by_cases m : f1 = .bool true
      · subst m
        wp_walk
        exact z _ _ W (Oth2.refl _ _) rfl
      · wp_walk using W.set1
        exact fun h' V o1 o2 => wpAny_pure (z h' _ V o1 o2)
theorem EW.more {h : Heap} {o : Obj} (W : EW n k l i j xs f0 f1 old h) : EW n k l i j xs f0 f1 old (h.push o) :=
  have e : ∀ c u, h.get? c = some u → (h.push o).get? c = some u := fun c u q => Heap.get?_push_of_some _ q
  ⟨e _ _ W.z, W.w.at (e _), W.s.at (e _), W.b⟩
theorem enum_item {x : Value} {Q : Value → Shared → Prop} (W : EW n k l i j xs f0 f1 old s.heap) (hf : ZF f0) (hx : xs[i]? = some x)
    (hQ : ∀ h' t f0' f1' old' tk', EW n k l (i + 1) (j + 1) xs f0' f1' old' h' → ZF f0' → IsPair h' s.heap.objs.size (.int j t) x → Oth2 n s.heap h' → Q (.ref s.heap.objs.size) { s with heap := h', toks := tk' }) :
    wpAny (model prog w) A (Builtin.«enumerate.__next__» ⟨[.ref (n + 1)], []⟩) (fun fin s' => ∃ v, fin = .done (.ret v) ∧ Q v s') E s := by
  obtain ⟨h, g, d, tk, os⟩ := s
  dsimp only at W hQ
  have z := W.z
  have lt : n + 1 < h.objs.size := Heap.lt_size z
  wp_walk using W.inner, W.draw hx
  intro h1 W1 o1 z1
  have t1 := W1.z
  wp_walk using EW.set3 (s := ⟨h1, g, d, tk + 1, os⟩) W1
  intro h2 W2 o2 z2
  wp_walk using EW.set4 (s := ⟨h2, g, d, tk + 1, os⟩) W2
  intro h3 W3 o3 z3
  have zl : h3.objs.size = h.objs.size := z3.trans (z2.trans z1)
  have ol : Oth2 n h h3 := o1.on (o2.on o3)
  have W4 : EW n k l (i + 1) (j + 1) xs f0 f1 old (h3.push { cls := .type "tuple", data := .seq #[.int j tk, x] }) := W3.more
  have t4 := W4.z
  have pr : IsPair (h3.push { cls := .type "tuple", data := .seq #[.int j tk, x] }) h3.objs.size (.int j tk) x := Heap.get?_push_size _ rfl
  have far : ∀ m, m ≤ 1 → h3.objs.size ≠ n + m := fun m hm => by omega
  have far0 : h3.objs.size ≠ n := far 0 (by decide)
  have far1 : h3.objs.size ≠ n + 1 := far 1 (by decide)
  rw [← zl] at hQ
  wp_walk using EW.free (s := ⟨h3.push _, g, d, tk + 1, os⟩) W4 hf, EW.set5 (s := ⟨h3.push _, g, d, tk + 1, os⟩) W4
  · intro h5 W5 o5 z5
    wp_walk using EW.set0 (s := ⟨h5, g, d, tk + 1, os⟩) W5
    intro h6 W6 o6 z6
    wp_walk using EW.set1 (s := ⟨h6, g, d, tk + 1, os⟩) W6
    intro h7 W7 o7 z7
    wp_walk
    exact ⟨_, rfl, hQ h7 tk _ _ _ _ W7 (.inr ⟨_, rfl⟩) (o7 _ _ far0 far1 (o6 _ _ far0 far1 (o5 _ _ far0 far1 pr))) (ol.more.on (o5.on (o6.on o7)))⟩
  · intro h5 f W5 o5 z5
    wp_walk
    exact ⟨_, rfl, hQ h5 tk _ _ _ _ W5 hf (o5 _ _ far0 far1 pr) (ol.more.on o5)⟩
theorem enum_end {Q : PySem.Fin → Shared → Prop} (hh : A.handled = none) (W : EW n k l i j xs f0 f1 old s.heap) (he : xs[i]? = none) (hE : ∀ h' e, Oth2 n s.heap h' → (∃ o, h'.get? e = some o ∧ o.cls = .type "StopIteration") → E (.ref e) { s with heap := h' }) :
    wpAny (model prog w) A (Builtin.«enumerate.__next__» ⟨[.ref (n + 1)], []⟩) Q E s := by
  obtain ⟨h, g, d, tk, os⟩ := s
  dsimp only at W hE
  wp_walk using W.inner, sq_end hh W.w W.s he
  exact fun h' e x y => hE h' e (fun c o c1 _ q => x c o c1 q) y
def etn (k : Bool) (n l i : Nat) (h : Heap) : Prop := ∃ f0 f1 old, ZF f0 ∧ h.get? (n + 1) = some { cls := .type "enumerate", dict := none, data := .fields #[f0, f1, .ref n, .int i 0, .none, old], slots := #[] } ∧ SIt k h n l i
theorem EW.tn {h : Heap} (W : EW n k l i i xs f0 f1 old h) (hf : ZF f0) : etn k n l i h := ⟨f0, f1, old, hf, W.z, W.w⟩
theorem go_enum {tg : Expr} {u : Value} {Q : Unit → Shared → Prop} (W : EW n k l i j xs f0 f1 old s.heap) (hf : ZF f0) (hQ : ∀ h' f, EW n k l i j xs f f1 old h' → ZF f → Oth2 n s.heap h' → Q () { s with heap := h' }) : wpAny (model prog w) A (letOwnedTupleGo tg (.ref (n + 1)) u) Q E s := by
  have same : Q () s := hQ s.heap _ W hf (Oth2.refl _ _)
  obtain ⟨h, g, d, tk, os⟩ := s
  have z := W.z
  dsimp only at z
  unfold letOwnedTupleGo
  cases tg <;> try exact wpAny_pure same
  all_goals cases u <;> try exact wpAny_pure same
  all_goals
    wp_walk
    split
    · exact wpAny_bind (wpAny_rule (W.set0 (s := ⟨h, g, d, tk, os⟩) (v := .none) fun h' V o z => hQ h' _ V (.inl rfl) o))
    · exact wpAny_pure same
theorem through_any {M : Model} {c : Value} {Q : Bool → Shared → Prop} (h : ∀ b, Q b s) : wpAny M A (Builtin.SmallTypes.calledThroughType c) Q E s := wpAny_bind (wpAny_stack_any fun _ => wpAny_pure (h _))
end
theorem enum_made (k : Bool) (l : Addr) (xs : Array Value) :
    Meets (Builtin.«enumerate.__new__» ⟨[.type "enumerate", .ref l], []⟩) (fun _ R s => SSq k s.heap l xs ∧
      ∀ h', EW s.heap.objs.size k l 0 0 xs .none (.bool false) .none h' → (∀ c o, s.heap.get? c = some o → h'.get? c = some o) → R (.ok (.ret (.ref (s.heap.objs.size + 1)))) { s with heap := h' }) :=
  .of_wp fun prog w A R s q => by
    obtain ⟨h, g, d, tk, os⟩ := s
    obtain ⟨t, q⟩ := q
    have hsub := sub_enumerate
    have lt : l < h.objs.size := by
      cases k with
      | true => obtain ⟨o, g, _⟩ := (t : h.IsList l xs); exact Heap.lt_size g
      | false => obtain ⟨o, g, _⟩ := (t : h.IsTuple l xs); exact Heap.lt_size g
    wp_walk using through_any
    intro b
    have fin : ∀ a, a.isFreed = false → (∀ (h : Heap) c, h.get? c = some a → SIt k h c l 0) → R (.ok (.ret (.ref (h.push a).objs.size))) ⟨(h.push a).push { cls := .type "enumerate", data := .fields #[.none, .bool false, .ref h.objs.size, .int 0 0, .none, .none] }, g, d, tk, os⟩ := fun a fa ia => by
      have up : ∀ c u, h.get? c = some u → ((h.push a).push { cls := .type "enumerate", data := .fields #[.none, .bool false, .ref h.objs.size, .int 0 0, .none, .none] }).get? c = some u := fun c u e => Heap.get?_push_of_some _ (Heap.get?_push_of_some _ e)
      rw [Heap.size_push]
      refine q _ ⟨?_, ia _ _ (Heap.get?_push_of_some _ (Heap.get?_push_size _ fa)), t.at (up _), lt⟩ up
      rw [← Heap.size_push h a]
      exact Heap.get?_push_size _ rfl
    cases b
    all_goals
      wp_walk using iter_sq t
      intro a fa ia
      wp_walk
      exact ⟨_, rfl, fin a fa ia⟩
theorem call_enum {prog : Program} {w : World} {A : Around} {E : Value → Shared → Prop} {s : Shared} {k : Bool} {l : Addr} {xs : Array Value} {Q : Value → Shared → Prop} (t : SSq k s.heap l xs)
    (hQ : ∀ h', etn k s.heap.objs.size l 0 h' → (∀ c o, s.heap.get? c = some o → h'.get? c = some o) → Q (.ref (s.heap.objs.size + 1)) { s with heap := h' }) : wpAny (model prog w) A (call (.type "enumerate") [.ref l]) Q E s :=
  callType_new F.called_enumerate (by decide) (F.typeCall_enumerate_1 _) (F.newCall_enumerate_1 _) (fun obj => F.args_object_init_2 obj _) F.entry_enumerate_new (enum_made k l xs) ⟨t, fun h' W up => ⟨⟨_, W.z, rfl⟩, hQ h' (W.tn (.inl rfl)) up⟩⟩
end DL
set_option Elab.async false
set_option linter.all false
set_option maxRecDepth 100000
set_option maxHeartbeats 1000000
namespace DL
open PySem PySem.Spec PyProof.Rows L2 PySem.W
def Ite (k : Bool) (K : PySem.W.Frag) (l : Addr) : It :=
  ⟨fun i H => ∃ as a, Sq k K H l as ∧ as[i]? = some a,
   fun i H x H' => ∃ T a, H T = none ∧ H' = upd H T (.tup [.int (i : Nat), a]) ∧ x = .ref T ∧ ∀ as, Sq k K H l as → as[i]? = some a,
   fun i H => ∃ as, Sq k K H l as ∧ as.length ≤ i⟩
def efp (n : Nat) : List Addr := [n, n + 1]
theorem etn_keep {k : Bool} {n l i : Nat} {h h' : Heap} (st : etn k n l i h) (q : ∀ b ∈ efp n, ∀ o, h.get? b = some o → h'.get? b = some o) : etn k n l i h' := by
  obtain ⟨f0, f1, old, hf, z, w⟩ := st
  exact ⟨f0, f1, old, hf, q _ (by simp [efp]) _ z, w.at (q _ (by simp [efp]))⟩
theorem etn_obj {k : Bool} {n l i : Nat} {h : Heap} (st : etn k n l i h) : ∀ b ∈ efp n, ∃ o, h.get? b = some o ∧ ∀ v, o.data ≠ .cell v := by
  obtain ⟨f0, f1, old, hf, z, w⟩ := st
  intro b hb
  rcases List.mem_cons.mp hb with rfl | hb
  · exact w.obj
  · cases List.mem_singleton.mp hb
    exact ⟨_, z, fun v e => by cases e⟩
theorem Oth2.fp {n : Nat} {h h' : Heap} (p : Oth2 n h h') : ∀ c o, c ∉ efp n → h.get? c = some o → h'.get? c = some o := fun c o hc => p c o (fun e => hc (by simp [efp, e])) (fun e => hc (by simp [efp, e]))
theorem turn_enum {P : Program} {w : World} {K : PySem.W.Frag} {tg : Expr} (k : Bool) (n l : Nat) (hl : l < n) : Turn P w K tg (Ite k K l) (efp n) (n + 1) (etn k n l) where
  mem := by simp [efp]
  obj := fun i h st => etn_obj st
  keep := fun i h h' st q => etn_keep st q
  item := by
    intro X hP hw hK hc i pins s σ H E I hf st hg
    subst hP hw hK
    obtain ⟨as, a, q1, ga⟩ := hg
    obtain ⟨ia, va, sa, _⟩ := Inv_sq I q1
    obtain ⟨ua, hua, rua⟩ := va.get ga
    have hTn : s.heap.objs.size ∉ efp n := fun m => let ⟨o, e, _⟩ := etn_obj st _ m; Nat.lt_irrefl _ (Heap.lt_size e)
    obtain ⟨f0, f1, old, zf, z, w1⟩ := st
    refine next_by ⟨_, z, rfl⟩ F.slot_enumerate_next F.entry_enumerate_next (F.args_enumerate_next_1 _) (enum_item (x := ua) ⟨z, w1, sa, hl⟩ zf (by simpa using hua) fun h1 t f0' f1' old' tk' W1 zf1 pr o1 => ⟨_, rfl, go_enum (s := { s with heap := h1, toks := tk' }) W1 zf1 fun h2 f W2 zf2 o2 => ?_⟩)
    have Iz : L2.Inv X pins σ H { s with heap := h2, toks := tk' } := Inv_tur5 I hf (o1.on o2).fp
    have fr : H s.heap.objs.size = none := I.hok.fresh (Nat.le_refl _)
    refine ⟨.ref s.heap.objs.size, upd H s.heap.objs.size (.tup [.int (i : Nat), a]), ?_, rfl, ⟨_, a, fr, rfl, rfl, fun cs q => ?_⟩, ?_, fun c hb => ?_⟩
    · refine Inv_track Iz (I.fpOk (Nat.le_refl _) fr) I.sz ⟨show 2 ≤ sizeLine by decide, [.int i t, ua], .cons ⟨t, rfl⟩ (.cons rua .nil), ?_⟩
      exact ⟨_, o2.fp _ _ hTn pr, rfl, rfl, _, rfl⟩
    · rw [Inv_sq_inj I q q1]; exact ga
    · exact EW.tn (i := i + 1) W2 zf2
    · rw [upd_ne (fun e => hTn (by rw [← e]; exact hb))]; exact (hf c hb).1
  done := by
    intro X hP hw hK hc i pins s σ H E I hf st hg
    subst hP hw hK
    obtain ⟨as, q1, hend⟩ := hg
    obtain ⟨ia, va, sa, _⟩ := Inv_sq I q1
    obtain ⟨f0, f1, old, zf, z, w1⟩ := st
    have e1 := va.length
    exact next_by ⟨_, z, rfl⟩ F.slot_enumerate_next F.entry_enumerate_next (F.args_enumerate_next_1 _) (enum_end (I.ok.hd hc) ⟨z, w1, sa, hl⟩ (by simp; omega) fun h' e p q => ⟨q, rfl, Inv_tur5 (t' := s.toks) I hf p.fp⟩)
  self := fun A i s Q E st h => by
    obtain ⟨f0, f1, old, zf, z, _⟩ := st
    exact own_iter ⟨_, z, rfl⟩ F.slot_enumerate_iter F.entry_enumerate_iter (F.args_enumerate_iter_1 _) F.slot_enumerate_next (wpAny_pure ⟨rfl, rfl⟩) h
theorem ite_yields {K : PySem.W.Frag} {G : Wd} {k : Bool} {l : Addr} {vs : List V} {xs : List D} (h1 : Sq k K G.g l vs) (r1 : Iss K G xs vs) : Yields K G (Ite k K l) (xs.zipIdx.map fun p => .tup [.int (p.2 : Nat), p.1]) where
  go := fun i H e hi => by
    have hi : i < xs.length := by simpa using hi
    obtain ⟨a, ha, _⟩ := r1.get (i := i) (d := xs[i]) (by simp)
    exact ⟨vs, a, h1.same e, ha⟩
  stop := fun i H e hi => by
    have hi : xs.length ≤ i := by simpa using hi
    exact ⟨vs, h1.same e, by rw [← r1.length]; exact hi⟩
  yld := fun i v H H' G2 O2 e s y hi => by
    obtain ⟨T, a, hT, rfl, rfl, y1⟩ := y
    obtain ⟨x, hx, ix⟩ := r1.getV (y1 vs (h1.same (e.g.trans s.sub)))
    obtain ⟨e3, s3⟩ := s.laid (o := .tup [.int (i : Nat), a]) hT
    refine ⟨.tup [.int (i : Nat), x], _, ?_, e3, s3, .tup (SqT.of upd_same) (.cons (.int _) (.cons (ix.ext (e.trans e3)) .nil))⟩
    rw [List.getElem?_map, List.getElem?_zipIdx, hx]
    simp
section
variable {X : Cx} {ρ : Rho} {O : Sto} {e a b c : Expr} {es : List Expr} {d da db : D} {ds : List D} {R : D → Sto → Prop} {pos p : Pos} {x : Str} {xs ys : List D}
theorem ez_enum (ha : EvP X ρ O a da) (fa : LF da xs) (hm : X.mg "enumerate" = none) (hg : Gl X "enumerate" := by rfl) (hs : starEach [a] X.env = [(false, eval a X.env)] := by rfl) :
    EvZ X ρ O (.Call (.Name "enumerate" p) [a] [] pos) (xs.zipIdx.map fun p => .tup [.int (p.2 : Nat), p.1]) "enumerate" := fun G tg pins s σ H R I sa en k => by
  refine Call_ (ld_blt I hg hm boot_enumerate (PyProof.Rows.callWith_type1 (thn (es_cons ha es_nil hs G pos pins s σ H (fun vs H' => ∃ G', Ext G G' ∧ SA X.K G' H' O ∧ Iss X.K G' [da] vs) I ⟨sa, en, fun vs G' H' e1 s1 i1 => ⟨G', e1, s1, i1⟩⟩) fun us s1 ⟨vs, H1, I1, r1, G1, e1, sa1, is1⟩ => ?_) (by rw [hs]; rfl) rfl))
  cases is1 with | cons i1 is1 =>
  cases is1
  obtain ⟨k1, l1, v1, rfl, q1, j1⟩ := fa.sq i1
  obtain ⟨u, rfl, ru⟩ := vals1 r1
  cases ru
  obtain ⟨t1, w1, g1, z1⟩ := Inv_sq I1 (q1.same sa1.sub)
  have lt : l1 < s1.heap.objs.size := by
    cases k1 with
    | true => obtain ⟨o, g, _⟩ := (g1 : s1.heap.IsList l1 _); exact Heap.lt_size g
    | false => obtain ⟨o, g, _⟩ := (g1 : s1.heap.IsTuple l1 _); exact Heap.lt_size g
  refine call_enum g1 fun h' Z kp => ?_
  have Ik : L2.Inv X pins σ H1 { s1 with heap := h', toks := s1.toks } := I1.kept kp
  refine ⟨⟨s1.heap.objs.size + 1, efp s1.heap.objs.size, etn k1 s1.heap.objs.size l1, Ite k1 X.K l1, H1, rfl, Ik, turn_enum k1 _ l1 lt, Z, fun b hb => ?_, k _ G1 H1 e1 sa1 (ite_yields q1 j1)⟩, ?_⟩
  · have hb' : s1.heap.objs.size ≤ b := by
      rcases List.mem_cons.mp hb with rfl | hb
      · exact Nat.le_refl _
      · cases List.mem_singleton.mp hb; exact Nat.le_succ _
    exact I1.fpOk hb' (I1.hok.fresh hb')
  · obtain ⟨f0, f1, old, _, hz, _⟩ := Z
    exact ⟨_, hz, rfl⟩
theorem ez_enumM {α : Type} {f : α → D} {as : List α} (ha : EvP X ρ O a da) (fa : LF da (as.map f)) (hm : X.mg "enumerate" = none) (hg : Gl X "enumerate" := by rfl) (hs : starEach [a] X.env = [(false, eval a X.env)] := by rfl) :
    EvZ X ρ O (.Call (.Name "enumerate" p) [a] [] pos) (as.zipIdx.map fun p => .tup [.int (p.2 : Nat), f p.1]) "enumerate" := by
  have e : (as.zipIdx.map fun p => D.tup [.int (p.2 : Nat), f p.1]) = ((as.map f).zipIdx.map fun p => D.tup [.int (p.2 : Nat), p.1]) := by
    rw [List.zipIdx_map, List.map_map]
    rfl
  rw [e]
  exact ez_enum ha fa hm hg hs
end
end DL
set_option Elab.async false
set_option linter.all false
set_option maxRecDepth 100000
set_option maxHeartbeats 1000000
namespace DL
open PySem PySem.Spec PyProof.Rows L2
section
variable {X : Cx} {ρ : Rho} {O : Sto} {e a b c o value : Expr} {es : List Expr} {d da db : D} {ds : List D} {R : D → Sto → Prop} {pos p p2 apos pos' : Pos} {x y f m : Str} {rest : List Stmt} {P : Post} {q : Nat} {C C2 : Addr} {fs : List (Str × D)}
structure ClsTy (K : PySem.W.Frag) (C : Addr) : Prop where
  cls : Cls K C
  ha : PySem.W.findIn K (.ref C) "__class__" = some (some (.builtin "object.__class__"))
  hn : PySem.W.specialIn K (.builtin "object.__class__") "__get__" = some (some (.builtin "getset_descriptor.__get__"))
  htk : PySem.W.takesIn K (.builtin "object.__class__") = some true
  hm : PySem.W.mroIn K C (.type "object") = some true
structure OfCls (P : Program) (w : World) (K : PySem.W.Frag) (mg : Str → Option Value) (base : Heap) (x : Str) (k : Nat) (m : Str) (sp : SpD) : Prop where
  ex : ∃ C mc f fd ps, mg x = some (.ref C) ∧ PySem.W.specialIn K (.ref C) "__getattribute__" = some (some (.builtin "type.__getattribute__")) ∧ PySem.W.readsIn K C mc = true ∧ PySem.W.findCls K (.ref C) mc m = some (.val (.ref f)) ∧ PySem.W.handedIn (.ref f) = true ∧
    FnOk P w K mg base CX0 k f fd ps (toSp K sp) ∧ PySem.W.keepIn K (.ref f) = true ∧ Binds K fd ps []
end
end DL
set_option Elab.async false
set_option linter.all false
set_option maxRecDepth 100000
set_option maxHeartbeats 1000000
namespace DL
open PySem PySem.Spec PyProof.Rows L2
def EvTE (X : Cx) (ρ : Rho) (O : Sto) (e : Expr) (R : Bool → Sto → Prop) : Prop :=
  ∀ G, PT X e (fun σ H Q => SA X.K G H O ∧ EnvR X.K G σ ρ ∧ ∀ k O' G' H', Ext G G' → SA X.K G' H' O' → R k O' → Q k H')
section
variable {X : Cx} {ρ : Rho} {O : Sto} {e a b c : Expr} {body orelse : List Stmt} {d da db : D} {pos : Pos} {P : Post}
theorem ev_ixF {xs : List D} {i : Int} (ha : EvP X ρ O a da) (hl : LF da xs) (hb : EvP X ρ O b (.int i)) (hi : atI xs i = some d) (hs : PlainIx b := by intro _ _; rfl) : EvP X ρ O (.Subscript a b pos) d := by
  rcases hl with rfl | rfl | rfl
  · exact ev_ixL ha (Or.inl rfl) hb hi hs
  · exact ev_ixL ha (Or.inr (Or.inl rfl)) hb hi hs
  · exact ev_ixT ha hb hi hs
end
end DL
set_option Elab.async false
set_option linter.all false
set_option maxRecDepth 100000
set_option maxHeartbeats 1000000
namespace DL
open PySem PySem.Spec PyProof.Rows L2
section
variable {X : Cx} {ρ : Rho} {O : Sto} {a b : Expr} {pos : Pos} {R : D → Sto → Prop} {xs : List D}
end
end DL
set_option Elab.async false
set_option linter.all false
set_option maxRecDepth 100000
set_option maxHeartbeats 1000000
namespace DL
open PySem PySem.Spec PyProof.Rows L2 PySem.W
section
variable {X : Cx} {ρ : Rho} {O : Sto} {d : D} {xs ys : List D}
def lstI (ns : List Int) : Int := ns.getD (argBest (fun i j => decide (ns.getD i 0 < ns.getD j 0)) (ns.length - 1)) 0
def grtI (ns : List Int) : Int := ns.getD (argBest (fun i j => decide (ns.getD i 0 > ns.getD j 0)) (ns.length - 1)) 0
theorem best_le (bt : Nat → Nat → Bool) : ∀ k, argBest bt k ≤ k
  | 0 => Nat.le_refl _
  | k + 1 => by
    have := best_le bt k
    unfold argBest
    split <;> omega
theorem lst_all (g : Nat → Int) : ∀ k i, i ≤ k → g (argBest (fun i j => decide (g i < g j)) k) ≤ g i
  | 0, i, h => by
    have : i = 0 := by omega
    subst this
    exact Int.le_refl _
  | k + 1, i, h => by
    have ih := lst_all g k
    unfold argBest
    by_cases hd : g (k + 1) < g (argBest (fun i j => decide (g i < g j)) k)
    · rw [if_pos (decide_eq_true hd)]
      by_cases he : i = k + 1
      · subst he; exact Int.le_refl _
      · have := ih i (by omega); omega
    · rw [if_neg (by simpa using hd)]
      by_cases he : i = k + 1
      · subst he; omega
      · exact ih i (by omega)
theorem lstI_mem {ns : List Int} (h : ns ≠ []) : lstI ns ∈ ns := by
  have h0 := List.length_pos_iff.mpr h
  unfold lstI
  rw [getD_in (by have := best_le (fun i j => decide (ns.getD i 0 < ns.getD j 0)) (ns.length - 1); omega)]
  exact List.getElem_mem _
theorem lstI_le {ns : List Int} {x : Int} (h : x ∈ ns) : lstI ns ≤ x := by
  obtain ⟨i, hi, rfl⟩ := List.getElem_of_mem h
  have := lst_all (fun i => ns.getD i 0) (ns.length - 1) i (by omega)
  rw [getD_in hi] at this
  exact this
theorem call_best {prog : Program} {w : World} {A : Around} {E : Value → Shared → Prop} {s : Shared} {k : Bool} {l : Addr} {its : List Value} {ns : List Int} {Q : Value → Shared → Prop} (mx : Bool) (hh : A.handled = none) (q : SSq k s.heap l its.toArray) (hv : ∀ (i : Nat) (v : Value), its[i]? = some v → ∃ t, v = .int (ns.getD i 0) t) (hn : ns.length = its.length) (h0 : 0 < ns.length)
    (h : ∀ h' tk t, (∀ b o, s.heap.get? b = some o → h'.get? b = some o) → Q (.int (if mx then grtI ns else lstI ns) t) { s with heap := h', toks := tk }) : wpAny (model prog w) A (call (.builtin (if mx then "max" else "min")) [.ref l]) Q E s := by
  have hl := ssq_lt q
  have hz : its.toArray.size = ns.length := by simp [hn]
  have hv' : ∀ (i : Nat) (v : Value), its.toArray[i]? = some v → ∃ t, v = .int (ns.getD i 0) t := fun i v e => hv i v (by simpa using e)
  have far : ∀ (h2 : Heap), (∀ b o, s.heap.get? b = some o → h2.get? b = some o) → ∀ h' : Heap, (∀ b o, b ∉ [s.heap.objs.size] → h2.get? b = some o → h'.get? b = some o) → ∀ b o, s.heap.get? b = some o → h'.get? b = some o := fun h2 up h' kp b o e => kp b o (by simpa using Nat.ne_of_lt (Heap.lt_size e)) (up b o e)
  have fpl : ∀ b ∈ [s.heap.objs.size, l], b < s.heap.objs.size + 1 := fun b hb => by
    rcases List.mem_cons.mp hb with rfl | hb
    · exact Nat.lt_succ_self _
    · rw [List.mem_singleton.mp hb]; exact Nat.lt_succ_of_lt hl
  cases k with
  | true =>
    have W := Walks.list (prog := prog) (w := w) (A := A.in1) hh s.heap.objs.size l (Nat.ne_of_lt hl) its.toArray
    have st : (s.heap.push { cls := .type "list_iterator", data := .fields #[.ref l, .int 0 0] }).IsListIter s.heap.objs.size l 0 ∧ (s.heap.push { cls := .type "list_iterator", data := .fields #[.ref l, .int 0 0] }).IsList l its.toArray := ⟨⟨_, Heap.get?_push_size _ rfl, rfl, rfl⟩, Heap.IsList.push q _⟩
    cases mx with
    | true =>
      refine call_max_walk (wpAny_pyIter_list q ⟨_, _, _, _, _, _, _, rfl, W, st, by rw [Heap.size_push]; exact fpl, by rw [hz]; exact h0, CmpOf.ints_gt (fun i => ns.getD i 0) hv', fun v h' tk hP kp => ?_⟩)
      obtain ⟨t, rfl⟩ := hv' _ _ hP
      rw [hz]
      exact h h' tk t (far _ (fun b o e => Heap.get?_push_of_some _ e) h' kp)
    | false =>
      refine call_min_walk (wpAny_pyIter_list q ⟨_, _, _, _, _, _, _, rfl, W, st, by rw [Heap.size_push]; exact fpl, by rw [hz]; exact h0, CmpOf.ints_lt (fun i => ns.getD i 0) hv', fun v h' tk hP kp => ?_⟩)
      obtain ⟨t, rfl⟩ := hv' _ _ hP
      rw [hz]
      exact h h' tk t (far _ (fun b o e => Heap.get?_push_of_some _ e) h' kp)
  | false =>
    have W := Walks.tuple (prog := prog) (w := w) (A := A.in1) hh s.heap.objs.size l (Nat.ne_of_lt hl) its.toArray
    have st : (s.heap.push { cls := .type "tuple_iterator", data := .fields #[.ref l, .int 0 0] }).IsTupleIter s.heap.objs.size l 0 ∧ (s.heap.push { cls := .type "tuple_iterator", data := .fields #[.ref l, .int 0 0] }).IsTuple l its.toArray := ⟨⟨_, Heap.get?_push_size _ rfl, rfl, rfl⟩, (SSq.at (k := false) q fun o e => Heap.get?_push_of_some _ e : SSq false _ l _)⟩
    cases mx with
    | true =>
      refine call_max_walk (wpAny_pyIter_tuple q ⟨_, _, _, _, _, _, _, rfl, W, st, by rw [Heap.size_push]; exact fpl, by rw [hz]; exact h0, CmpOf.ints_gt (fun i => ns.getD i 0) hv', fun v h' tk hP kp => ?_⟩)
      obtain ⟨t, rfl⟩ := hv' _ _ hP
      rw [hz]
      exact h h' tk t (far _ (fun b o e => Heap.get?_push_of_some _ e) h' kp)
    | false =>
      refine call_min_walk (wpAny_pyIter_tuple q ⟨_, _, _, _, _, _, _, rfl, W, st, by rw [Heap.size_push]; exact fpl, by rw [hz]; exact h0, CmpOf.ints_lt (fun i => ns.getD i 0) hv', fun v h' tk hP kp => ?_⟩)
      obtain ⟨t, rfl⟩ := hv' _ _ hP
      rw [hz]
      exact h h' tk t (far _ (fun b o e => Heap.get?_push_of_some _ e) h' kp)
theorem c_best {ns : List Int} (mx : Bool) (h : LT O d (ns.map D.int)) (h0 : ns ≠ []) (hc : X.calm = true) : CallD X O (.builtin (if mx then "max" else "min")) [d] (.int (if mx then grtI ns else lstI ns)) := fun G pins s σ H vs us Q I r ⟨h1, h2, h3⟩ => by
  cases h2 with | cons i r2 =>
  cases r2
  obtain ⟨kk, ad, ws, rfl, q, is⟩ := h.sq h1 i
  obtain ⟨u, rfl, ru⟩ := vals1 r
  cases ru
  obtain ⟨its, va, sq, _⟩ := Inv_sq I q
  have e := is.toInts
  subst e
  have el := va.length
  rw [List.length_map] at el
  refine call_best (ns := ns) mx (I.ok.hd hc) sq (fun i v hv => ?_) el (List.length_pos_iff.mpr h0) fun h' tk t kp => ⟨.int _, H, I.kept kp, ⟨t, rfl⟩, h3 _ G H (Ext.refl _) h1 (.int _)⟩
  have hi : i < ns.length := by rw [el]; exact (List.getElem?_eq_some_iff.mp hv).1
  obtain ⟨w, hw, rw'⟩ := va.get (i := i) (x := .int ns[i]) (by simp [hi])
  rw [hv] at hw
  cases hw
  obtain ⟨t, e⟩ := rw'
  exact ⟨t, by rw [e, getD_in hi]⟩
theorem c_minL {ns : List Int} (h : LT O d (ns.map D.int)) (h0 : ns ≠ []) (hc : X.calm = true := by rfl) : CallD X O (.builtin "min") [d] (.int (lstI ns)) := c_best false h h0 hc
end
end DL
set_option Elab.async false
set_option linter.all false
set_option maxRecDepth 100000
set_option maxHeartbeats 1000000
namespace DL
open PySem PySem.Spec PyProof.Rows L2 PySem.W
structure FunD (K : PySem.W.Frag) (x qual : Str) (st : Stmt) (f : Addr) (fd : FuncData) (dv : List Value) : Prop where
  ex : ∃ (T : Addr) (cT : Value) (dT : Option Addr) (nT : Nat) (sT : Array (Option Value)) (oc : Value) (od : Option Addr) (kV doc pm : Value) (an : Option Addr) (cdv ct : Value) (osl : Array (Option Value)),
    fd = PySem.W.fnOf x qual (defArgs st) (defBody st) (defScope st) (.ref T) kV doc pm an cdv ct ∧ K.lookup f = some ⟨oc, od, .func fd, osl⟩ ∧ PySem.W.codeIn K cdv qual = true ∧ K.lookup T = some ⟨cT, dT, .seq dv.toArray nT, sT⟩
  kp : PySem.W.keepIn K (.ref f) = true
section
variable {P : Program} {w : World} {K : PySem.W.Frag} {mg : Str → Option Value} {base : Heap}
end
section
variable {X : Cx} {ρ : Rho} {O : Sto} {a : Expr} {pos p : Pos} {R : D → Sto → Prop} {xs : List D} {d : D}
end
end DL
set_option Elab.async false
set_option linter.all false
set_option maxRecDepth 100000
set_option maxHeartbeats 1000000
namespace DL
open PySem PySem.Spec PyProof.Rows L2 PySem.W
def minP (ps : List (Int × Int)) : Int × Int := ps.getD (argBest (fun i j => ltP (ps.getD i (0, 0)) (ps.getD j (0, 0))) (ps.length - 1)) (0, 0)
def PairAt (h : Heap) (v : Value) (p : Int × Int) : Prop := ∃ a o n t u, v = .ref a ∧ h.get? a = some o ∧ o.cls = .type "tuple" ∧ o.data = .seq #[.int p.1 t, .int p.2 u] n
section
variable {prog : Program} {w : World} {A : Around} {E : Value → Shared → Prop} {s : Shared}
end
section
variable {X : Cx} {O : Sto} {d : D} {k : Nat}
end
end DL
set_option Elab.async false
set_option linter.all false
set_option maxRecDepth 100000
set_option maxHeartbeats 1000000
namespace DL
open PySem PySem.Spec PyProof.Rows L2 PySem.W
section
variable {X : Cx} {ρ : Rho} {O : Sto} {e : Expr} {p p2 pos pos2 : Pos}
end
end DL
set_option Elab.async false
set_option linter.all false
set_option maxRecDepth 100000
set_option maxHeartbeats 1000000
namespace DL
open PySem PySem.Spec PyProof.Rows L2 PySem.W
structure MakeOkN (P : Program) (w : World) (K : PySem.W.Frag) (mg : Str → Option Value) (base : Heap) (C : Addr) (k : Nat) (x : Str) (sp : SpD) : Prop where
  ex : ∃ f fd ps, FnOk P w K mg base CX0 k f fd ps (toSp K sp) ∧ Mk K C f ∧ Binds K fd ps [.none]
  at_ : mg x = some (.ref C)
section
variable {X : Cx} {ρ : Rho} {O : Sto} {e : Expr} {es : List Expr} {ds : List D} {R : D → Sto → Prop} {pos p : Pos} {x : Str} {C : Addr}
end
end DL
set_option Elab.async false
set_option linter.all false
set_option maxRecDepth 100000
set_option maxHeartbeats 1000000
namespace DL
open PySem PySem.Spec PyProof.Rows L2
end DL
set_option Elab.async false
set_option linter.all false
set_option maxRecDepth 100000
set_option maxHeartbeats 1000000
namespace DL
open PySem PySem.Spec PyProof.Rows L2
section
variable {X : Cx} {ρ : Rho} {O : Sto} {a b : Expr} {pos : Pos}
end
end DL
set_option Elab.async false
set_option linter.all false
set_option maxRecDepth 100000
set_option maxHeartbeats 1000000
namespace DL
open PySem PySem.Spec PyProof.Rows L2
theorem ints_are {K : PySem.W.Frag} : ∀ {ns : List Int} {us : List Value}, Vals (ns.map V.int) us → IntsAre us ns
  | [], _, .nil => .nil
  | n :: ns, _, .cons r t => by
    obtain ⟨k, rfl⟩ := r
    exact .cons n k (ints_are (K := K) t)
section
variable {X : Cx} {ρ : Rho} {O : Sto} {a e : Expr} {d : D}
def rCnt (K : PySem.W.Frag) : V → List V → Hp → VK → Prop := fun x vs H Q => ∃ (p : Addr) (ns : List Int) (k : Int), x = .ref p ∧ vs = [.int k] ∧ SqL K H p (ns.map V.int) ∧ Q (.int ((ns.count k : Nat) : Int)) H
end
section
variable {prog : Program} {w : World} {A : Around} {E : Value → Shared → Prop} {s : Shared}
theorem mul_tup0 {t : Tok} {l : Addr} {its : List Value} {Q : Value → Shared → Prop} (ht : IsTup s.heap l its.toArray) (hn : its ≠ [])
    (hq : Q (.ref s.heap.objs.size) { s with heap := s.heap.push { cls := .type "tuple", data := .seq #[] } }) : wpAny (model prog w) A (call (.builtin "tuple.__mul__") [.ref l, .int 0 t]) Q E s := by
  refine wpAny_call_entry F.slot_tuple_mul ht.typeIs F.entry_tuple_mul ?_ (F.args_tuple_mul_2 _ _)
  show wpAny (model prog w) _ (asIndex (.int 0 t) >>= _) _ _ s
  refine wpAny_bind ?_
  show wpAny (model prog w) _ (pure 0) _ _ s
  refine wpAny_pure ?_
  rw [if_neg (by decide)]
  refine wpAny_bind (tupleItemsOf_ ht ?_)
  have he : its.toArray.isEmpty = false := by cases its with | nil => exact absurd rfl hn | cons a l => rfl
  rw [if_neg (by rw [he]; decide), if_pos (by rfl)]
  exact wpAny_bind (m := Builtin.Tuple.tupleExact _) (wpAny_newObj_type (wpAny_pure ⟨_, rfl, hq⟩) (by show (#[] : Array Value).size ≤ sizeLine; rw [sizeLine_eq]; decide))
end
section
variable {X : Cx} {O : Sto} {xs : List D}
theorem o_repT0 (hn : xs ≠ []) : Op2 X O (binaryOp .Mult) (.tup xs) (.int 0) (.tup []) := fun G pins s σ H x y v u Q I rx ry ⟨sa, j1, j2, k⟩ => by
  cases j2
  obtain ⟨q, vs, rfl, g, r⟩ := tup_sq sa j1
  cases rx
  obtain ⟨t, rfl⟩ := ry
  obtain ⟨its, rr, ht, hzz⟩ := I.tuple g
  have hn2 : its ≠ [] := by
    rintro rfl
    have := r.length
    rw [rr.length] at this
    exact hn (List.eq_nil_of_length_eq_zero this)
  refine wpAny_binaryOp_repeat_ref (T := "tuple") (U := "int") (by decide) ht.typeIs (fun s' => typeIs_int s' 0 t) noFill_tup_mul F.fills_int_mul F.slot_int_rmul rep_tup F.slot_int_index.lookup
    (rmul_int_tup ht ⟨rfl, ht.typeIs, mul_tup0 ht hn2 ?_⟩)
  obtain ⟨e4, s4⟩ := sa.laid (o := .tup []) (p := s.heap.objs.size) (I.hok.fresh (Nat.le_refl _))
  refine ⟨.ref _, _, I.laid (t' := s.toks) (o := .tup []) (fun b ob q => Heap.get?_push_of_some _ q) (Nat.le_refl _) ?_, rfl, k _ _ _ e4 s4 (.tup (SqT.of upd_same) .nil)⟩
  exact ⟨by rw [sizeLine_eq]; decide, [], .nil, TupN.new _ _⟩
theorem o_rep1 {α : Type} {f : α → D} {a : α} {i : Int} (h1 : 0 ≤ i) (h2 : i ≤ 1000) : Op2 X O (binaryOp .Mult) (.tup [f a]) (.int i) (.tup ((List.replicate i.toNat a).map f)) := by
  by_cases h : i = 0
  · subst h
    exact o_repT0 (by simp)
  · have := o_repT (X := X) (O := O) (xs := [f a]) (i := i) (by omega) (by omega) (by simp) (by rw [sizeLine_eq]; show 1 * i.toNat ≤ _; omega)
    rw [rep1] at this
    rw [List.map_replicate]
    exact this
end
end DL
set_option Elab.async false
set_option linter.all false
set_option maxRecDepth 100000
set_option maxHeartbeats 1000000
namespace DL
open PySem PySem.Spec PyProof.Rows L2
section
variable {X : Cx} {ρ : Rho} {O : Sto} {a b : Expr} {d : D} {pos : Pos}
end
end DL
set_option Elab.async false
set_option linter.all false
set_option maxRecDepth 100000
set_option maxHeartbeats 1000000
namespace DL
open PySem PySem.Spec PyProof.Rows L2
def stepL {α : Type} (l : List α) (lo : Nat) : List α := (List.range ((l.length - lo + 1) / 2)).filterMap fun k => l[lo + 2 * k]?
def LoIs (o : Option Int) (lo : Nat) : Prop := (o = none ∧ lo = 0) ∨ (o = some 1 ∧ lo = 1)
section
variable {X : Cx} {ρ : Rho} {O : Sto} {e a b c st : Expr} {d da db : D} {xs ys : List D} {R : D → Sto → Prop} {pos p p2 : Pos} {P : Post} {q : Nat}
end
end DL
set_option Elab.async false
set_option linter.all false
set_option maxRecDepth 100000
set_option maxHeartbeats 1000000
namespace DL
open PySem PySem.Spec PyProof.Rows L2
section
variable {prog : Program} {w : World} {A : Around} {E : Value → Shared → Prop} {s : Shared}
end
section
variable {X : Cx} {ρ : Rho} {O : Sto} {a st lo : Expr} {xs : List D} {pos p2 : Pos}
end
end DL
set_option Elab.async false
set_option linter.all false
set_option maxRecDepth 100000
set_option maxHeartbeats 1000000
namespace DL
open PySem PySem.Spec PyProof.Rows L2
section
variable {X : Cx} {ρ : Rho} {O : Sto} {e : Expr} {C C2 : Addr} {x : Str} {p p2 pos : Pos} {R : D → Sto → Prop}
end
end DL
set_option Elab.async false
set_option linter.all false
set_option maxRecDepth 100000
set_option maxHeartbeats 1000000
namespace DL
open PySem PySem.Spec PyProof.Rows L2
section
variable {X : Cx} {ρ : Rho} {O : Sto} {o ix e : Expr} {pos tpos : Pos} {P : Post} {q : Nat}
def rGetL : V → V → Hp → VK → Prop := fun x y H Q => ∃ (p : Addr) (xs : List V) (i : Nat) (v : V), x = .ref p ∧ y = .int (i : Int) ∧ i < 1000000 ∧ H p = some (.lst xs) ∧ xs[i]? = some v ∧ Q v H
end
end DL
set_option Elab.async false
set_option linter.all false
set_option maxRecDepth 100000
set_option maxHeartbeats 1000000
namespace DL
open PySem PySem.Spec PyProof.Rows L2 PySem.W
theorem slot_rev_next : Slot "reversed" (Str.ofString "__next__") "reversed.__next__" :=
  Slot.of (owner := "reversed") (n := "__next__") (by rw [typeLookup_type, builtinLookup_eq_fast]; rfl) (by decide +kernel) (by decide +kernel) (by decide +kernel) (.inl (by decide +kernel)) (by rw [isSubtype_type]; rfl)
theorem slot_rev_iter : Slot "reversed" (Str.ofString "__iter__") "reversed.__iter__" :=
  Slot.of (owner := "reversed") (n := "__iter__") (by rw [typeLookup_type, builtinLookup_eq_fast]; rfl) (by decide +kernel) (by decide +kernel) (by decide +kernel) (.inl (by decide +kernel)) (by rw [isSubtype_type]; rfl)
theorem entry_rev_new : entryFor table "reversed.__new__" = some Builtin.«reversed.__new__» := entryFor_of_tree rfl
theorem entry_rev_iter : entryFor table "reversed.__iter__" = some Builtin.«dict_keyiterator.__iter__» := entryFor_alias rfl rfl (show _ = "dict_keyiterator.__iter__" by decide +kernel) rfl
theorem entry_rev_next : entryFor table "reversed.__next__" = some Builtin.«reversed.__next__» := entryFor_of_tree rfl
theorem owner_rev : List.lookup (String.ofList ['d', 'e', 's', 'r', 'e', 'v', 'e', 'r'].reverse) Manifest.owners = some Manifest.sig_reversed := rfl
theorem args_rev_next (a : Value) : argsOk "reversed.__next__" { pos := [a] } := by
  show _ = _
  rw [signature?_of (id := "reversed.__next__") rfl owner_rev]
  rfl
theorem args_rev_iter (a : Value) : argsOk "reversed.__iter__" { pos := [a] } := by
  show _ = _
  rw [signature?_of (id := "reversed.__iter__") rfl owner_rev]
  rfl
theorem slot_rev_init : Slot "reversed" (Str.ofString "__init__") "object.__init__" :=
  Slot.of (owner := "object") (n := "__init__") (by rw [typeLookup_type, builtinLookup_eq_fast]; rfl) (by decide +kernel) (by decide +kernel) (by decide +kernel) (.inl (by decide +kernel)) (by rw [isSubtype_type]; rfl)
theorem called_rev : TypeCalled "reversed" "reversed.__new__" "object.__init__" :=
  ⟨by decide +kernel, by decide +kernel, ⟨_, _, F.mro_reversed⟩, F.made_reversed, by decide +kernel, F.sub_reversed_self, slot_rev_init⟩
section
variable {prog : Program} {w : World} {A : Around} {E : Value → Shared → Prop} {s : Shared} {n l : Nat} {j : Int} {xs : Array Value} {v : Value}
theorem any_attempt {α : Type} {m : Sem α} {Q : Except Value α → Shared → Prop} (h : wpAny (model prog w) A m (fun a => Q (.ok a)) (fun e => Q (.error e)) s) : wpAny (model prog w) A m.attempt Q E s := by
  intro Γ p hΓ
  rw [Sem.wp_attempt]
  exact h Γ p hΓ
theorem item_tup_int {t : Addr} {k : Tok} {x : Value} {Q : Value → Shared → Prop} (ht : IsTup s.heap t xs) (h0 : 0 ≤ j) (h1 : j < 2 ^ 62) (hx : xs[j.toNat]? = some x) (h : Q x s) : wpAny (model prog w) A (getItem (.ref t) (.int j k)) Q E s := by
  unfold getItem
  try with_reducible refine wpAny_holding ?_
  first | refine wpAny_bind (wpAny_pure ?_) | skip
  refine wpAny_bind (wpAny_sequenceKey ht.typeIs (by decide) (wpAny_bind (wpAny_callSpecial?_slot (name := Str.ofString "__getitem__") ht.typeIs PyProof.Rows.slot_tuple_getitem (wpAny_call_entry PyProof.Rows.slot_tuple_getitem ht.typeIs entry_tuple_getitem ?_ (args_tuple_getitem _ _)))))
  show wpAny (model prog w) _ (Builtin.Tuple.tupleItemsOf (.ref t) >>= _) _ _ s
  refine wpAny_bind (tupleItemsOf_ ht ?_)
  have e1 : seqIndex? j xs.size = some j.toNat := by
    have hlt : j.toNat < xs.size := (Array.getElem?_eq_some_iff.mp hx).1
    exact seqIndex_of h0 (by omega)
  obtain ⟨hp, g, d, tk, os⟩ := s
  wp_walk
  rw [F.slot_int_index.lookup]
  wp_walk
  rw [if_neg (by rw [Bool.or_eq_true, decide_eq_true_eq, decide_eq_true_eq]; omega)]
  show wpAny _ _ (match (seqIndex? j xs.size).bind fun x => xs[x]? with | some x => ret x | none => _) _ _ _
  rw [e1, show ((some j.toNat).bind fun x => xs[x]?) = some x from hx]
  wp_walk
  exact ⟨x, rfl, wpAny_pure h⟩
def RV (n l : Nat) (j : Int) (h : Heap) : Prop := h.get? n = some { cls := .type "reversed", dict := none, data := .fields #[.ref l, rawInt j], slots := #[] }
theorem RV.seq {Q : Value → Shared → Prop} (W : RV n l j s.heap) (h : Q (.ref l) s) : wpAny (model prog w) A (field (.ref n) 0) Q E s := wpAny_field W rfl (x := .ref l) rfl h
theorem RV.idx {Q : Value → Shared → Prop} (W : RV n l j s.heap) (h : Q (.int j 0) s) : wpAny (model prog w) A (field (.ref n) 1) Q E s := wpAny_field W rfl (x := .int j 0) rfl h
theorem RV.put {j' : Int} {Q : Unit → Shared → Prop} (W : RV n l j s.heap) (hQ : ∀ h', RV n l j' h' → (∀ c o, c ≠ n → s.heap.get? c = some o → h'.get? c = some o) → Q () { s with heap := h' }) : wpAny (model prog w) A (setField (.ref n) 1 (rawInt j')) Q E s :=
  wpAny_setField_rec W (by show 1 < 2; decide) fun h' g e => hQ h' g (fun c o hc q => e.extBut _ _ hc q)
theorem at_item {k : Tok} {x : Value} {Q : Except Value Value → Shared → Prop} (ht : IsTup s.heap l xs) (h0 : 0 ≤ j) (h1 : j < 2 ^ 62) (hx : xs[j.toNat]? = some x) (h : Q (.ok x) s) : wpAny (model prog w) A (getItem (.ref l) (.int j k)).attempt Q E s := any_attempt (item_tup_int ht h0 h1 hx h)
theorem look_tup {Q : Option Value → Shared → Prop} (ht : IsTup s.heap l xs) (h : Q (some (.builtin "tuple.__getitem__")) s) : wpAny (model prog w) A (specialOf (.ref l) (Str.ofString "__getitem__")) Q E s := by
  obtain ⟨hp, g, d, tk, os⟩ := s
  obtain ⟨⟨c1, d1, x1, l1⟩, g1, e1, n1, f1⟩ := ht
  simp only at e1 f1 g1
  subst e1 f1
  wp_walk
  rw [show typeLookup _ (Str.ofString "__getitem__") = _ from PyProof.Rows.slot_tuple_getitem.lookup]
  exact wpAny_pure h
theorem rev_item {x : Value} {Q : Value → Shared → Prop} (W : RV n l j s.heap) (ht : IsTup s.heap l xs) (h0 : 0 ≤ j) (h1 : j < 2 ^ 62) (hx : xs[j.toNat]? = some x)
    (hQ : ∀ h' tk', RV n l (j - 1) h' → (∀ c o, c ≠ n → s.heap.get? c = some o → h'.get? c = some o) → Q x { s with heap := h', toks := tk' }) :
    wpAny (model prog w) A (Builtin.«reversed.__next__» ⟨[.ref n], []⟩) (fun fin s' => ∃ v, fin = .done (.ret v) ∧ Q v s') E s := by
  obtain ⟨h, g, d, tk, os⟩ := s
  dsimp only at ht hQ
  wp_walk using W.seq, W.idx, look_tup (s := ⟨h, g, d, tk, os⟩) ht, at_item (s := ⟨h, g, d, tk + 1, os⟩) ht h0 h1 hx, RV.idx (s := ⟨h, g, d, tk + 1, os⟩) W, RV.put (s := ⟨h, g, d, tk + 1, os⟩) W
  intro h' V o
  wp_walk
  exact ⟨x, rfl, hQ h' _ V o⟩
theorem rev_end {Q : PySem.Fin → Shared → Prop} (hh : A.handled = none) (W : RV n l j s.heap) (h0 : j < 0) (hE : ∀ h' e, (∀ c o, c ≠ n → s.heap.get? c = some o → h'.get? c = some o) → (∃ o, h'.get? e = some o ∧ o.cls = .type "StopIteration") → E (.ref e) { s with heap := h' }) :
    wpAny (model prog w) A (Builtin.«reversed.__next__» ⟨[.ref n], []⟩) Q E s := by
  obtain ⟨h, g, d, tk, os⟩ := s
  dsimp only at hE
  wp_walk using W.seq, W.idx
  refine wpAny_raiseNew_none hh (hE _ _ (fun c o hc e => ?_) ⟨_, Heap.get?_push_size _ rfl, rfl⟩)
  exact Heap.get?_push_of_some _ (Heap.get?_push_of_some _ ((Heap.get?_update_other _ _ (Ne.symm hc)).trans ((Heap.get?_update_other _ _ (Ne.symm hc)).trans e)))
theorem tup_dict : isSubtype (Value.type "tuple") (Value.type "dict") = pure false := by rw [isSubtype_type]; rfl
theorem no_rev : typeLookup (Value.type "tuple") (Str.ofString "__reversed__") = pure none := by rw [typeLookup_type, builtinLookup_eq_fast]; rfl
theorem look_rev {Q : Option Value → Shared → Prop} (ht : IsTup s.heap l xs) (h : Q none s) : wpAny (model prog w) A (specialOf (.ref l) (Str.ofString "__reversed__")) Q E s := by
  obtain ⟨hp, g, d, tk, os⟩ := s
  obtain ⟨⟨c1, d1, x1, l1⟩, g1, e1, n1, f1⟩ := ht
  simp only at e1 f1 g1
  subst e1 f1
  wp_walk
  rw [show typeLookup _ (Str.ofString "__reversed__") = _ from no_rev]
  exact wpAny_pure h
theorem rev_made (l : Addr) (xs : Array Value) :
    Meets (Builtin.«reversed.__new__» ⟨[.type "reversed", .ref l], []⟩) (fun _ R s => IsTup s.heap l xs ∧ xs.size < 2 ^ 62 ∧
      ∀ h' tk', RV s.heap.objs.size l ((xs.size : Int) - 1) h' → (∀ c o, s.heap.get? c = some o → h'.get? c = some o) → R (.ok (.ret (.ref s.heap.objs.size))) { s with heap := h', toks := tk' }) :=
  .of_wp fun prog w A R s q => by
    obtain ⟨h, g, d, tk, os⟩ := s
    obtain ⟨t, hz, q⟩ := q
    dsimp only at t q
    have hsub := F.sub_reversed_self
    have t0 := t
    obtain ⟨⟨c1, d1, x1, l1⟩, g1, e1, n1, f1⟩ := t
    simp only at e1 f1 g1
    subst e1 f1
    wp_walk using look_rev (s := ⟨h, g, d, tk, os⟩) t0, look_tup (s := ⟨h, g, d, tk, os⟩) t0, len_tuple (s := ⟨h, g, d, tk, os⟩) t0
    rw [show isSubtype _ (Value.type "dict") = _ from tup_dict]
    wp_walk using look_tup (s := ⟨h, g, d, tk, os⟩) t0, len_tuple (s := ⟨h, g, d, tk, os⟩) t0
    · omega
    · dsimp only
      wp_walk
      exact ⟨_, rfl, q _ _ (Heap.get?_push_size _ rfl) fun c o e => Heap.get?_push_of_some _ e⟩
theorem call_rev {Q : Value → Shared → Prop} (t : IsTup s.heap l xs) (hz : xs.size < 2 ^ 62)
    (hQ : ∀ h' tk', RV s.heap.objs.size l ((xs.size : Int) - 1) h' → (∀ c o, s.heap.get? c = some o → h'.get? c = some o) → Q (.ref s.heap.objs.size) { s with heap := h', toks := tk' }) : wpAny (model prog w) A (call (.type "reversed") [.ref l]) Q E s :=
  callType_new called_rev (by decide) (F.typeCall_reversed_1 _) (F.newCall_reversed_1 _) (fun obj => F.args_object_init_2 obj _) entry_rev_new (rev_made l xs) ⟨t, hz, fun h' tk' W up => ⟨⟨_, W, rfl⟩, hQ h' tk' W up⟩⟩
end
def Itv (K : PySem.W.Frag) (l : Addr) : It :=
  ⟨fun i H => ∃ xs x, SqT K H l xs ∧ xs.reverse[i]? = some x, fun i H x H' => H' = H ∧ ∀ xs, SqT K H l xs → xs.reverse[i]? = some x, fun i H => ∃ xs, SqT K H l xs ∧ xs.length ≤ i⟩
theorem rev_get {α : Type} {xs : List α} {i : Nat} {x : α} (h : xs.reverse[i]? = some x) : xs[xs.length - 1 - i]? = some x ∧ i < xs.length := by
  have hi : i < xs.length := by have := (List.getElem?_eq_some_iff.mp h).1; rw [List.length_reverse] at this; exact this
  rw [List.getElem?_reverse hi] at h
  exact ⟨h, hi⟩
theorem turn_rev {P : Program} {w : World} {K : PySem.W.Frag} {tg : Expr} (l it m : Nat) : Turn P w K tg ⟨fun i H => ∃ xs x, SqT K H l xs ∧ xs.length = m ∧ xs.reverse[i]? = some x, (Itv K l).yld, fun i H => ∃ xs, SqT K H l xs ∧ xs.length = m ∧ m ≤ i⟩ [it] it (fun i h => RV it l ((m : Int) - 1 - (i : Nat)) h) where
  mem := by simp
  obj := fun i h st b hb => by
    have e : b = it := by simpa using hb
    subst e
    exact ⟨_, st, fun v z => by cases z⟩
  keep := fun i h h' st k => k it (by simp) _ st
  item := by
    intro X hP hw hK hc i pins s σ H E I hf st hg
    subst hP hw hK
    obtain ⟨xs, x, hq, hm, hx⟩ := hg
    obtain ⟨its, rv, p, hz⟩ := I.tuple hq
    have hx2 := rev_get hx
    obtain ⟨u, hu, ru⟩ := rv.get hx2.1
    have hl := rv.length
    have hn := sizeLine_eq
    refine next_by ⟨_, st, rfl⟩ slot_rev_next entry_rev_next (args_rev_next _) (rev_item (x := u) st p (by omega) (by omega) ?_ fun h' tk' V oth => ⟨u, rfl, ?_⟩)
    · rw [show ((m : Int) - 1 - (i : Nat)).toNat = xs.length - 1 - i by omega]
      simpa using hu
    · have I1 : Inv X pins σ H { s with heap := h', toks := tk' } := Inv_tur5 I hf fun c o hc e => oth c _ (fun z => hc (by simp [z])) e
      have V' : RV it l ((m : Int) - 1 - ((i + 1 : Nat) : Int)) h' := by
        have e : (m : Int) - 1 - ((i + 1 : Nat) : Int) = (m : Int) - 1 - (i : Nat) - 1 := by omega
        rw [e]; exact V
      exact go_of (s := { s with heap := h', toks := tk' }) V rfl rfl (by decide) ⟨x, H, I1, ru, ⟨rfl, fun ys hy => by rw [I.tuple_inj hy hq]; exact hx⟩, V', fun b hb => (hf b hb).1⟩
  done := by
    intro X hP hw hK hc i pins s σ H E I hf st hg
    subst hP hw hK
    obtain ⟨xs, hq, hm, hx⟩ := hg
    exact next_by ⟨_, st, rfl⟩ slot_rev_next entry_rev_next (args_rev_next _) (rev_end (I.ok.hd hc) st (by omega) fun h' e oth ty => ⟨ty, rfl, Inv_tur5 (t' := s.toks) I hf fun c o' hc e => oth c _ (fun z => hc (by simp [z])) e⟩)
  self := fun A i s Q E st h => own_iter ⟨_, st, rfl⟩ slot_rev_iter entry_rev_iter (args_rev_iter _) slot_rev_next (wpAny_pure ⟨rfl, rfl⟩) h
theorem itv_yields {K : PySem.W.Frag} {G : Wd} {l : Addr} {vs : List V} {xs : List D} (h1 : SqT K G.g l vs) (r1 : Iss K G xs vs) (hs : ∀ H, Same G.g H → SqT K H l vs) :
    Yields K G ⟨fun i H => ∃ ys x, SqT K H l ys ∧ ys.length = vs.length ∧ ys.reverse[i]? = some x, (Itv K l).yld, fun i H => ∃ ys, SqT K H l ys ∧ ys.length = vs.length ∧ vs.length ≤ i⟩ xs.reverse where
  go := fun i H e hi => by
    have hi : i < xs.length := by simpa using hi
    obtain ⟨a, ha, _⟩ := r1.reverse.get (i := i) (d := xs.reverse[i]'(by simpa using hi)) (List.getElem?_eq_getElem _)
    exact ⟨vs, a, hs H e, rfl, ha⟩
  stop := fun i H e hi => by
    have hi : xs.length ≤ i := by simpa using hi
    exact ⟨vs, hs H e, rfl, by rw [← r1.length]; exact hi⟩
  yld := fun i v H H' G2 O2 e s y hi => by
    obtain ⟨rfl, y1⟩ := y
    obtain ⟨x, hx, ix⟩ := r1.reverse.getV (y1 vs (hs _ (e.g.trans s.sub)))
    exact ⟨x, G2, hx, Ext.refl _, s, ix.ext e⟩
section
variable {X : Cx} {ρ : Rho} {O : Sto} {a : Expr} {pos p : Pos} {xs : List D}
theorem ez_rev (ha : EvP X ρ O a (.tup xs)) (hm : X.mg "reversed" = none) (hg : Gl X "reversed" := by rfl) (hs : starEach [a] X.env = [(false, eval a X.env)] := by rfl) :
    EvZ X ρ O (.Call (.Name "reversed" p) [a] [] pos) xs.reverse "reversed" := fun G tg pins s σ H R I sa en k => by
  refine Call_ (ld_blt I hg hm boot_reversed (PyProof.Rows.callWith_type1 (thn (es_cons ha es_nil hs G pos pins s σ H (fun vs H' => ∃ G', Ext G G' ∧ SA X.K G' H' O ∧ Iss X.K G' [.tup xs] vs) I ⟨sa, en, fun vs G' H' e1 s1 i1 => ⟨G', e1, s1, i1⟩⟩) fun us s1 ⟨vs, H1, I1, r1, G1, e1, sa1, is1⟩ => ?_) (by rw [hs]; rfl) rfl))
  cases is1 with | cons i1 is1 =>
  cases is1
  cases i1 with | tup q0 j1 =>
  have q1 := sqT_same sa1.sub q0
  obtain ⟨u, rfl, ru⟩ := vals1 r1
  cases ru
  obtain ⟨its, rv, t1, hz⟩ := I1.tuple q1
  have hn := sizeLine_eq
  have hl := rv.length
  refine call_rev t1 (by rw [List.size_toArray]; omega) fun h' tk' W kp => ?_
  rename_i l1 v1 _x
  have Ik : L2.Inv X pins σ H1 { s1 with heap := h', toks := tk' } := I1.kept kp
  have W' : RV s1.heap.objs.size l1 ((its.length : Int) - 1 - ((0 : Nat) : Int)) h' := by
    have e : (its.length : Int) - 1 - ((0 : Nat) : Int) = ((its.toArray.size : Nat) : Int) - 1 := by rw [List.size_toArray]; omega
    rw [e]; exact W
  rw [← hl] at W'
  refine ⟨⟨s1.heap.objs.size, [s1.heap.objs.size], _, _, H1, rfl, Ik, turn_rev _ _ _, W', fun b hb => ?_, k _ G1 H1 e1 sa1 (itv_yields q0 j1 (fun H e => sqT_same e q0))⟩, ⟨_, W, rfl⟩⟩
  have hb' : s1.heap.objs.size ≤ b := by cases List.mem_singleton.mp hb; exact Nat.le_refl _
  exact I1.fpOk hb' (I1.hok.fresh hb')
theorem ei_rev {tg : Expr} (ha : EvP X ρ O a (.tup xs)) (hm : X.mg "reversed" = none) (hg : Gl X "reversed" := by rfl) (hs : starEach [a] X.env = [(false, eval a X.env)] := by rfl) : EvI X ρ O tg (.Call (.Name "reversed" p) [a] [] pos) xs.reverse := ei_Z (ez_rev ha hm hg hs)
end
end DL
set_option Elab.async false
set_option linter.all false
set_option maxRecDepth 100000
set_option maxHeartbeats 1000000
namespace DL
open PySem PySem.Spec PyProof.Rows L2 PySem.W
section
variable {prog : Program} {w : World} {A : Around} {E : Value → Shared → Prop} {s : Shared} {l : Nat} {k : Int} {t : Tok} {vs : List Value} {ns : List Int}
theorem rng_for {β : Type} {n : Nat} {b : β} {f : Nat → β → Sem (ForInStep β)} {Q : β → Shared → Prop} (h : wpAny (model prog w) A (forIn (List.range' 0 n 1) b f) Q E s) : wpAny (model prog w) A (forIn [0:n] b f) Q E s := by
  rw [Std.Legacy.Range.forIn_eq_forIn_range']
  have e : (Std.Legacy.Range.mk 0 n 1 (by decide)).size = n := by simp [Std.Legacy.Range.size]
  show wpAny (model prog w) A (forIn (List.range' 0 (Std.Legacy.Range.mk 0 n 1 (by decide)).size 1) b f) Q E s
  rw [e]
  exact h
theorem are_get : ∀ {vs : List Value} {ns : List Int} {i : Nat} {n : Int}, IntsAre vs ns → ns[i]? = some n → ∃ t, vs[i]? = some (.int n t)
  | _, _, 0, _, .cons n t _, h => by cases h; exact ⟨t, rfl⟩
  | _, _, i + 1, _, .cons n t r, h => are_get (i := i) r h
  | _, _, _, _, .nil, h => by cases h
theorem idx_loop {f : Nat → Option PySem.Fin × Unit → Sem (ForInStep (Option PySem.Fin × Unit))} {Q : Option PySem.Fin × Unit → Shared → Prop} (hi : IntsAre vs ns)
    (step : ∀ (i : Nat) (n : Int), ns[i]? = some n → ∀ R : ForInStep (Option PySem.Fin × Unit) → Shared → Prop, (n = k → ∀ x, x = (Fin.done (.ret (.int ((i : Nat) : Int) s.toks)) : PySem.Fin) → R (.done (some x, ())) { s with toks := s.toks + 1 }) → (n ≠ k → R (.yield (none, ())) s) → wpAny (model prog w) A (f i (none, ())) R E s)
    (hQ : ∀ j : Nat, ns[j]? = some k → (∀ m : Nat, m < j → ns[m]? ≠ some k) → Q (some (.done (.ret (.int ((j : Nat) : Int) s.toks))), ()) { s with toks := s.toks + 1 }) : ∀ (m i : Nat), i + m = ns.length → (∀ j : Nat, j < i → ns[j]? ≠ some k) → (∃ j : Nat, ns[j]? = some k) → wpAny (model prog w) A (forIn (List.range' i m 1) ((none, ()) : Option PySem.Fin × Unit) f) Q E s
  | 0, i, h, hb, ⟨j, hj⟩ => by
    have : j < ns.length := (List.getElem?_eq_some_iff.mp hj).1
    exact absurd hj (hb j (by omega))
  | m + 1, i, h, hb, hex => by
    have hlt : i < ns.length := by omega
    show wpAny (model prog w) A (forIn (i :: List.range' (i + 1) m 1) _ f) Q E s
    rw [List.forIn_cons]
    refine wpAny_bind (step i _ (List.getElem?_eq_getElem hlt) _ (fun e x hx => ?_) fun e => ?_)
    · subst hx
      exact wpAny_pure (hQ i (by rw [List.getElem?_eq_getElem hlt, e]) hb)
    · exact idx_loop hi step hQ m (i + 1) (by omega) (fun j hj => by
        by_cases hji : j = i
        · subst hji
          rw [List.getElem?_eq_getElem hlt]
          intro z
          exact e (Option.some.inj z)
        · exact hb j (by omega)) hex
theorem idx_for {n : Nat} {f : Nat → Option PySem.Fin × Unit → Sem (ForInStep (Option PySem.Fin × Unit))} {Q : Option PySem.Fin × Unit → Shared → Prop} (hi : IntsAre vs ns) (hk : k ∈ ns) (hn : n = ns.length)
    (hQ : ∀ j : Nat, ns[j]? = some k → (∀ m : Nat, m < j → ns[m]? ≠ some k) → Q (some (.done (.ret (.int ((j : Nat) : Int) s.toks))), ()) { s with toks := s.toks + 1 })
    (step : ∀ (i : Nat) (n : Int), ns[i]? = some n → ∀ R : ForInStep (Option PySem.Fin × Unit) → Shared → Prop, (n = k → ∀ x, x = (Fin.done (.ret (.int ((i : Nat) : Int) s.toks)) : PySem.Fin) → R (.done (some x, ())) { s with toks := s.toks + 1 }) → (n ≠ k → R (.yield (none, ())) s) → wpAny (model prog w) A (f i (none, ())) R E s) :
    wpAny (model prog w) A (forIn [0:n] ((none, ()) : Option PySem.Fin × Unit) f) Q E s := by
  subst hn
  obtain ⟨j, hj, e⟩ := List.getElem_of_mem hk
  exact rng_for (idx_loop hi step hQ ns.length 0 (by omega) (fun j h => by omega) ⟨j, by rw [List.getElem?_eq_getElem hj, e]⟩)
theorem idx_tup {Q : Value → Shared → Prop} (ht : IsTup s.heap l vs.toArray) (hi : IntsAre vs ns) (hk : k ∈ ns) (hQ : ∀ j : Nat, ns[j]? = some k → (∀ m : Nat, m < j → ns[m]? ≠ some k) → Q (.int ((j : Nat) : Int) s.toks) { s with toks := s.toks + 1 }) :
    wpAny (model prog w) A (Builtin.«tuple.index» ⟨[.ref l, .int k t], []⟩) (fun fin s' => ∃ v, fin = .done (.ret v) ∧ Q v s') E s := by
  obtain ⟨h, g, d, tk, os⟩ := s
  dsimp only at ht hQ
  obtain ⟨⟨c1, d1, x1, l1⟩, g1, e1, n1, f1⟩ := ht
  simp only at e1 f1 g1
  subst e1 f1
  have hl : vs.toArray.size = ns.length := by rw [List.size_toArray]; exact hi.length
  wp_walk using idx_for (s := ⟨h, g, d, tk, os⟩) hi hk (show min vs.toArray.size vs.toArray.size = ns.length by omega)
  · intro j h1 h2
    exact wpAny_pure ⟨_, rfl, hQ j h1 h2⟩
  · intro i n hn R h1 h2
    obtain ⟨t', ht'⟩ := are_get hi hn
    have ht2 : vs.toArray[i]? = some (.int n t') := by rw [List.getElem?_toArray]; exact ht'
    rw [ht2]
    refine wpAny_bind (wpAny_eqBool_int ?_)
    by_cases e : n = k
    · subst e
      rw [if_pos (by simp)]
      refine wpAny_bind ?_
      wp_walk
      exact h1 rfl _ rfl
    · rw [if_neg (by simpa using e)]
      exact wpAny_pure (h2 e)
theorem first_at : ∀ {ns : List Int} {k : Int} {j : Nat}, ns[j]? = some k → (∀ m : Nat, m < j → ns[m]? ≠ some k) → ns.idxOf k = j
  | [], _, _, h, _ => by cases h
  | n :: ns, k, 0, h, _ => by
    cases h
    exact List.idxOf_cons_self
  | n :: ns, k, j + 1, h, hb => by
    have hn : n ≠ k := fun e => hb 0 (by omega) (by rw [e]; rfl)
    have ih := first_at (ns := ns) (j := j) h fun m hm => hb (m + 1) (by omega)
    rw [List.idxOf_cons, show (n == k) = false by simpa using hn, cond_false, ih]
end
section
variable {X : Cx} {ρ : Rho} {O : Sto} {a e : Expr}
def rIdx (K : PySem.W.Frag) : V → List V → Hp → VK → Prop := fun x vs H Q => ∃ (p : Addr) (ns : List Int) (k : Int), x = .ref p ∧ vs = [.int k] ∧ SqT K H p (ns.map V.int) ∧ k ∈ ns ∧ Q (.int ((ns.idxOf k : Nat) : Int)) H
theorem mt_idx : MtR X "tuple.index" (rIdx X.K) := by
  intro pins s σ H x vs v us Q I rx rv h
  obtain ⟨p, ns, k, rfl, rfl, hq, hk, q⟩ := h
  cases rx
  obtain ⟨u, rfl, ru⟩ := rv.one
  obtain ⟨t, rfl⟩ := ru
  obtain ⟨its, r, pl, hz⟩ := I.tuple hq
  refine wpAny_call_entry F.slot_tuple_index pl.typeIs F.entry_tuple_index (wpAny_mono (idx_tup pl (ints_are (K := X.K) r) hk fun j h1 h2 => ?_) (fun fin s' ⟨v, e, z⟩ => ⟨v, e, z⟩) fun _ _ z => z) (F.args_tuple_index_2 _ _)
  exact ⟨.int _, H, I.tok _, ⟨_, by rw [first_at h1 h2]⟩, q⟩
end
end DL
set_option Elab.async false
set_option linter.all false
set_option maxRecDepth 100000
set_option maxHeartbeats 1000000
namespace L2
open PySem PySem.Spec PyProof.Rows
def Mild {α : Type} : Sem α → Prop
  | .pure _ => True
  | .raise _ => True
  | .unsupported _ => True
  | .finish _ => True
  | .rule _ k => Mild (k ())
  | .at _ k => Mild (k ())
  | .load _ _ k => ∀ o, Mild (k o)
  | .update _ _ f k => (∀ o : Obj, (f o).dict = o.dict ∧ (o.data ≠ .freed → (f o).data ≠ .freed)) ∧ Mild (k ())
  | .alloc _ k => ∀ a, Mild (k a)
  | .loadIfAlive _ k => ∀ o, Mild (k o)
  | .point _ k => Mild (k ())
  | .fresh k => ∀ t, Mild (k t)
  | .ask k => ∀ t, Mild (k t)
  | .handled _ k => ∀ t, Mild (k t)
  | .stack k => ∀ t, Mild (k t)
  | .thread k => ∀ t, Mild (k t)
  | _ => False
def DK (h h' : Heap) : Prop := ∀ b o, h.get? b = some o → ∃ o', h'.get? b = some o' ∧ o'.dict = o.dict
def Flies (B : Heap) (l : List Env) (a C : Addr) (od : Option Addr) (h : Heap) : Prop :=
  (∃ t, Heap.FlyingW B l a (.ref C) (.ref t) h) ∧ ∃ oe, h.get? a = some oe ∧ oe.dict = od
structure Gone (P : Program) (w : World) (outer : List Env) (H H' : Hp) (s s' : Shared) (a C : Addr) (od : Option Addr) (B : Heap) : Prop where
  os : s'.os = s.os
  bare : AllBare s'.gens
  fly : Flies B outer a C od s'.heap
  un : Un (frs outer) [] H H' s.heap s'.heap
  hok : HOk P w H' s'.heap
  old : ∀ b o, s.heap.get? b = some o → b ∉ frs outer → ∃ o', B.get? b = some o'
  trk : ∀ b u, H' b = some u → ∃ o', B.get? b = some o'
def CX1 (P : Program) (w : World) : CXT := fun outer H s E e s' => ∃ a C od B H', e = .ref a ∧ Gone P w outer H H' s s' a C od B ∧ E (.ref C) od H'
section
variable {P : Program} {w : World}
end
section
variable {CX : CXT} {P : Program} {w : World} {K : PySem.W.Frag} {mg : Str → Option Value} {base : Heap} {N : List Str} {qual : Str} {scope : Scope} {f : Addr} {cd : Value} {A : Around} {outer : List Env} {s : Shared} {H : Hp} {E : XK}
end
end L2
set_option Elab.async false
set_option linter.all false
set_option maxRecDepth 100000
set_option maxHeartbeats 1000000
namespace DL
open PySem PySem.Spec PyProof.Rows L2
def Fds (K : PySem.W.Frag) (G : Wd) (od : Option Addr) (fs : List (Str × D)) : Prop := fs = [] ∨ ∃ dx vs, od = some dx ∧ G.g dx = some (.xd vs) ∧ FsIs K G fs vs
abbrev XR := Addr → List (Str × D) → Sto → Prop
abbrev SpX := List D → Sto → (D → Sto → Prop) → XR → Prop
def toSpX (K : PySem.W.Frag) (sp : SpX) : Sp := fun vs H Q E => ∃ G O ds R RX, SA K G H O ∧ Iss K G ds vs ∧ sp ds O R RX ∧ (∀ v d O' G' H', Ext G G' → SA K G' H' O' → Is K G' d v → R d O' → Q v H') ∧
  ∀ C fs od O' G' H', Ext G G' → SA K G' H' O' → Fds K G' od fs → RX C fs O' → E (.ref C) od H'
def Thr (X : Cx) (C : Addr) (od : Option Addr) (σ : L2.St) (H' : Hp) : Prop := ∀ pins H1 s1 a B s2, L2.Inv X pins σ H1 s1 → Gone X.prog X.w X.stack H1 H' s1 s2 a C od B → X.xe (.ref a) s2
def ThrM (X : Cx) (C : Addr) (od : Option Addr) (σ : L2.St) (H' : Hp) : Prop := ∀ pins s1 a t oe vs, L2.Inv X pins σ H' s1 → H' a = none → X.s₀.heap.get? a = none → s1.heap.get? a = some oe → oe.cls = .ref C → oe.data = .fields vs → vs[1]? = some .none → vs[0]? = some (.ref t) → oe.dict = od → X.xe (.ref a) s1
abbrev XC := Addr → List (Str × D) → Rho → Sto → Prop
def ContX (X : Cx) (mk : Prop) (G : Wd) (RX : XC) : Prop := ∀ C fs od σ ρ O' G' H', Ext G G' → SA X.K G' H' O' → EnvR X.K G' σ ρ → Fds X.K G' od fs → RX C fs ρ O' → Thr X C od σ H' ∧ (mk → ThrM X C od σ H')
def EvX (X : Cx) (mk : Prop) (ρ : Rho) (O : Sto) (e : Expr) (R : D → Sto → Prop) (RX : XC) : Prop :=
  ∀ G, PE X e (fun σ H Q => SA X.K G H O ∧ EnvR X.K G σ ρ ∧ (∀ v d O' G' H', Ext G G' → SA X.K G' H' O' → Is X.K G' d v → R d O' → Q v H') ∧ ContX X mk G RX)
def ExX (X : Cx) (mk : Prop) (ρ : Rho) (O : Sto) (st : Stmt) (P : Post) (RX : XC) : Prop := ∀ G, PS X st (fun E σ H => SA X.K G H O ∧ EnvR X.K G σ ρ ∧ Conts X.K G P E ∧ ContX X mk G RX)
def ExsX (X : Cx) (mk : Prop) (ρ : Rho) (O : Sto) (st : List Stmt) (P : Post) (RX : XC) : Prop := ∀ G, PSs X st (fun E σ H => SA X.K G H O ∧ EnvR X.K G σ ρ ∧ Conts X.K G P E ∧ ContX X mk G RX)
section
variable {X : Cx} {mk : Prop} {ρ : Rho} {O : Sto} {e a b c o : Expr} {es : List Expr} {d da db : D} {ds : List D} {R : D → Sto → Prop} {RX : XC} {pos p apos : Pos} {x m : Str} {st : Stmt} {rest body orelse : List Stmt} {P : Post} {C : Addr} {q : Nat} {fs : List (Str × D)}
def EOf (X : Cx) (σ : L2.St) : XK := fun c od H' => ∀ C, c = .ref C → Thr X C od σ H'
structure DefX (P : Program) (w : World) (K : PySem.W.Frag) (mg : Str → Option Value) (base : Heap) (k : Nat) (x : Str) (sp : SpX) : Prop where
  ex : ∃ f fd ps, FnOk P w K mg base (CX1 P w) k f fd ps (toSpX K sp) ∧ mg x = some (.ref f) ∧ PySem.W.keepIn K (.ref f) = true ∧ Binds K fd ps []
structure MethX (P : Program) (w : World) (K : PySem.W.Frag) (mg : Str → Option Value) (base : Heap) (C : Addr) (k : Nat) (m : Str) (sp : SpX) : Prop where
  ex : ∃ f fd ps, FnOk P w K mg base (CX1 P w) k f fd ps (toSpX K sp) ∧ Meth K C m f ∧ Binds K fd ps []
  cls : Cls K C
structure OfClsX (P : Program) (w : World) (K : PySem.W.Frag) (mg : Str → Option Value) (base : Heap) (x : Str) (k : Nat) (m : Str) (sp : SpX) : Prop where
  ex : ∃ C mc f fd ps, mg x = some (.ref C) ∧ PySem.W.specialIn K (.ref C) "__getattribute__" = some (some (.builtin "type.__getattribute__")) ∧ PySem.W.readsIn K C mc = true ∧ PySem.W.findCls K (.ref C) mc m = some (.val (.ref f)) ∧ PySem.W.handedIn (.ref f) = true ∧
    FnOk P w K mg base (CX1 P w) k f fd ps (toSpX K sp) ∧ PySem.W.keepIn K (.ref f) = true ∧ Binds K fd ps []
structure MakeX (P : Program) (w : World) (K : PySem.W.Frag) (mg : Str → Option Value) (base : Heap) (C : Addr) (k : Nat) (x : Str) (sp : SpX) : Prop where
  ex : ∃ f fd ps, FnOk P w K mg base (CX1 P w) k f fd ps (toSpX K sp) ∧ Mk K C f ∧ Binds K fd ps []
  at_ : mg x = some (.ref C)
end
section
variable {P : Program} {w : World} {K : PySem.W.Frag} {mg : Str → Option Value} {base : Heap}
end
end DL
set_option Elab.async false
set_option linter.all false
set_option maxRecDepth 100000
set_option maxHeartbeats 1000000
namespace L2
open PySem PySem.Spec PyProof.Rows
section
variable {X : Cx} {pins : List (Addr × Obj)} {σ : St} {H : Hp} {s : Shared}
abbrev Cx.as (X : Cx) (A : Around) (calm : Bool) (pn : List (Addr × Obj)) (E : Value → Shared → Prop) : Cx := { X with A := A, calm := calm, pn := pn, xe := E }
end
end L2
namespace DL
open PySem PySem.Spec PyProof.Rows L2
abbrev bmV : List Value := [.type "ValueError", .type "Exception", .type "BaseException", .type "object"]
section
variable {X : Cx} {mk : Prop} {ρ : Rho} {O : Sto} {e a b c o : Expr} {es : List Expr} {d da db : D} {ds : List D} {R : D → Sto → Prop} {RX : XC} {pos p np cpos hpos : Pos} {x y n : Str} {st b₀ : Stmt} {rest body suite : List Stmt} {P : Post} {C CB : Addr} {fs : List (Str × D)}
abbrev _root_.L2.Cx.tried (X : Cx) (pn : List (Addr × Obj)) (E : Value → Shared → Prop) : Cx := X.as X.A X.calm pn E
abbrev _root_.L2.Cx.held (X : Cx) (v : Value) : Cx := X.as (X.A.mark (some v)) false X.pn fun _ _ => False
abbrev catchW (X : Cx) (pins : List (Addr × Obj)) (E : Ends) (x n : Str) (np hpos : Pos) (b₀ : Stmt) (suite : List Stmt) : Value → Shared → Prop := fun e s₁ => wpAny (model X.prog X.w) X.A (noteFrame e X.env) (fun _ s₂ => wpAny (model X.prog X.w) X.A (setFlight e none) (fun _ s₃ => wpAny (model X.prog X.w) X.A (handleBy e X.env [.ExceptHandler (some (.Name x np)) (some n) (b₀ :: suite) hpos]) (SP X pins E) X.xe s₃) X.xe s₂) X.xe s₁
end
end DL
set_option Elab.async false
set_option linter.all false
set_option maxRecDepth 100000
set_option maxHeartbeats 1000000
namespace L2
open PySem PySem.Spec PyProof.Rows Builtin.ObjectAttr Builtin.Getset_descriptor
structure ExcTy (K : PySem.W.Frag) (C : Addr) : Prop where
  ga : PySem.W.findIn K (.ref C) "__getattribute__" = some (some (.builtin "BaseException.__getattribute__"))
  hk : PySem.W.findIn K (.ref C) "__getattr__" = some none
  mb : PySem.W.mroIn K C (.type "BaseException") = some true
  mo : PySem.W.mroIn K C (.type "object") = some true
  ca : PySem.W.findIn K (.ref C) "__class__" = some (some (.builtin "object.__class__"))
  gn : PySem.W.specialIn K (.builtin "object.__class__") "__get__" = some (some (.builtin "getset_descriptor.__get__"))
  gt : PySem.W.takesIn K (.builtin "object.__class__") = some true
  hd : PySem.W.hasDictIn K C = true
section
variable {prog : Program} {w : World} {A : Around} {E : Value → Shared → Prop} {s : Shared} {K : PySem.W.Frag} {x C : Addr} {n : Str}
end
end L2
namespace DL
open PySem PySem.Spec PyProof.Rows L2
section
variable {X : Cx} {ρ : Rho} {O : Sto} {e : Expr} {es : List Expr} {p p2 pos : Pos} {x : Str} {C C2 : Addr} {q : Nat} {fs : List (Str × D)} {k : Bool} {x1 : Nat}
def ExcAt (C : Addr) (v : V) (H : Hp) : Prop := ∃ a ob, v = .ref a ∧ H a = some (.ext fun h => h.get? a = some ob) ∧ ob.cls = .ref C
abbrev EvCs (X : Cx) (es : List Expr) (cs : List Addr) : Prop := PA X es fun σ H Q => Q (cs.map V.ref) H
end
end DL
set_option Elab.async false
set_option linter.all false
set_option maxRecDepth 100000
set_option maxHeartbeats 1000000
namespace L2
open PySem PySem.Spec PyProof.Rows
def ItrS (lo : Int) (n : Nat) : It := ⟨fun i _ => i < n, fun i H x H' => H' = H ∧ x = .int (lo + (i : Nat) * 2), fun i _ => n ≤ i⟩
def halfUp (d : Int) : Int := if 0 < d then (d - 1) / 2 + 1 else 0
section
variable {X : Cx} {tg a b c : Expr} {p pos : Pos}
end
end L2
namespace DL
open PySem PySem.Spec PyProof.Rows L2
section
variable {X : Cx} {ρ : Rho} {O : Sto} {a b c : Expr} {p pos : Pos} {P : Post} {st : Stmt} {rest : List Stmt}
def rangeS (lo : Int) (n : Nat) : List D := (List.range n).map fun i => .int (lo + (i : Nat) * 2)
end
end DL
set_option Elab.async false
set_option linter.all false
set_option maxRecDepth 100000
set_option maxHeartbeats 1000000
namespace L2
open PySem PySem.Spec PyProof.Rows Builtin.ObjectAttr
open DL (bmV)
abbrev excArgs (vs : List Value) : Obj := { cls := .type "tuple", data := .seq vs.toArray }
abbrev excBare (C t : Addr) : Obj := { cls := .ref C, data := .fields #[.ref t, .none, .none, .none, .bool false, .none] }
abbrev excHeap (h : Heap) (C : Addr) (vs : List Value) : Heap := (h.push (excArgs vs)).push (excBare C h.objs.size)
section
variable {prog : Program} {w : World} {A : Around} {s : Shared} {K : PySem.W.Frag} {C f N : Addr} {nm q : Str} {bs bm : List Value} {hdct : Bool} {sn : List Str} {sub : List Value} {ab : Bool} {col : Option Bool} {dd : Option Addr} {k0 k1 k2 k3 k5 : Option Value}
end
end L2
namespace L2
open PySem PySem.Spec PyProof.Rows Builtin.ObjectAttr DL
structure ExcI (K : PySem.W.Frag) (C f : Addr) (name : Str) : Prop where
  cls : ∃ (nm q : Str) (N : Addr) (bs bm : List Value) (sn : List Str) (sub : List Value) (ab : Bool) (col : Option Bool) (dd : Option Addr) (k0 k1 k2 k3 k5 : Option Value),
    K.lookup C = some (excClassObj nm q C N bs bm true sn sub ab col dd k0 k1 k2 k3 k5 "ValueError.__new__") ∧ ∀ h, K.In h → OwnTail h bmV bm
  init : PySem.W.findIn K (.ref C) "__init__" = some (some (.ref f))
  fn : PySem.W.typeIn K (.ref f) = some (.type "function")
  sa : PySem.W.findIn K (.ref C) "__setattr__" = some (some (.builtin "object.__setattr__"))
  na : PySem.W.findIn K (.ref C) name = some none
  kp : PySem.W.keepIn K (.ref C) = true
section
variable {X : Cx} {pins : List (Addr × Obj)} {σ : St} {H : Hp} {s : Shared} {C f a t : Addr} {name : Str}
abbrev bareO (C a t : Addr) : HO := .ext fun h => h.get? a = some (excBare C t)
abbrev withO (C a t dx : Addr) : HO := .ext fun h => h.get? a = some { excBare C t with dict := some dx }
end
end L2
set_option Elab.async false
set_option linter.all false
set_option maxRecDepth 100000
set_option maxHeartbeats 1000000
namespace L2
open PySem PySem.Spec PyProof.Rows Builtin.ObjectAttr DL
def spI (C : Addr) (name : Str) : Sp := fun vs H Q _ => ∃ a t v, vs = [.ref a, v] ∧ H a = some (bareO C a t) ∧ ∀ dx, H dx = none → Q .non (upd (upd H a (withO C a t dx)) dx (.xd [(name, v)]))
section
variable {P : Program} {w : World} {K : PySem.W.Frag} {mg : Str → Option Value} {base : Heap} {C f : Addr} {name sn nn qual : Str} {st : Stmt} {fd : FuncData} {p1 p2 p3 p4 : Pos}
end
end L2
namespace DL
open PySem PySem.Spec PyProof.Rows L2
structure InitI (P : Program) (w : World) (K : PySem.W.Frag) (mg : Str → Option Value) (base : Heap) (C : Addr) (k : Nat) (x name : Str) : Prop where
  ex : ∃ f fd ps, FnOk P w K mg base CX0 k f fd ps (spI C name) ∧ ExcI K C f name ∧ Binds K fd ps []
  ty : ExcTy K C
  at_ : mg x = some (.ref C)
section
variable {X : Cx} {mk : Prop} {ρ : Rho} {O : Sto} {e : Expr} {d : D} {RX : XC} {pos np cpos : Pos} {x name : Str} {P : Post} {C : Addr} {k : Nat}
end
end DL
set_option Elab.async false
set_option linter.all false
set_option maxRecDepth 100000
set_option maxHeartbeats 1000000
namespace L2
open PySem PySem.Spec PyProof.Rows Builtin.ObjectAttr
section
variable {prog : Program} {w : World} {A : Around} {E : Value → Shared → Prop} {s : Shared} {K : PySem.W.Frag} {x C : Addr} {n : Str} {ox od : Obj} {u : Value}
end
end L2
namespace DL
open PySem PySem.Spec PyProof.Rows L2
section
variable {X : Cx} {ρ : Rho} {O : Sto} {e : Expr} {d : D} {pos : Pos} {f : Str} {C : Addr} {q : Nat} {fs : List (Str × D)}
end
end DL
set_option Elab.async false
set_option linter.all false
set_option maxRecDepth 100000
set_option maxHeartbeats 1000000
namespace DL
open PySem PySem.Spec PyProof.Rows L2
abbrev SpX.good (sp : SpX) : SpD := fun ds O R => sp ds O R fun _ _ _ => False
section
variable {P : Program} {w : World} {K : PySem.W.Frag} {mg : Str → Option Value} {base : Heap} {C : Addr} {k : Nat} {x m : Str} {sp : SpX}
end
end DL
set_option Elab.async false
set_option linter.all false
set_option maxRecDepth 100000
set_option maxHeartbeats 1000000
namespace L2
open PySem PySem.Spec PyProof.Rows
end L2
namespace DL
open PySem PySem.Spec PyProof.Rows L2
section
variable {X : Cx} {O : Sto}
end
end DL
set_option Elab.async false
set_option linter.all false
set_option maxRecDepth 100000
set_option maxHeartbeats 1000000
namespace DL
open PySem PySem.Spec PyProof.Rows L2
section
variable {X : Cx} {mk : Prop} {ρ : Rho} {O : Sto} {P : Post} {RX : XC} {pos : Pos}
end
end DL
set_option Elab.async false
set_option linter.all false
set_option maxRecDepth 100000
set_option maxHeartbeats 1000000
namespace DL
open PySem PySem.Spec PyProof.Rows L2
section
variable {X : Cx} {O : Sto} {da db ea eb : D} {k : Nat} {v : Value}
end
section
variable {X : Cx} {ρ : Rho} {O : Sto} {value o ix : Expr} {P : Post} {pos tpos : Pos} {q j : Nat} {i : Int} {xs : List D}
end
end DL
set_option Elab.async false
set_option linter.all false
set_option maxRecDepth 100000
set_option maxHeartbeats 1000000
namespace L2
open PySem PySem.Spec PyProof.Rows
def zeros (n : Int) : Str := if n = 1 then "0" else ⟨(List.replicate n.toNat (("0" : Str).cps)).foldl (· ++ ·) #[]⟩
end L2
namespace DL
open PySem PySem.Spec PyProof.Rows L2
end DL
set_option Elab.async false
set_option linter.all false
set_option maxRecDepth 100000
set_option maxHeartbeats 1000000
namespace DL
open PySem PySem.Spec PyProof.Rows L2
section
variable {X : Cx} {ρ : Rho} {O : Sto} {a e : Expr} {d : D}
def rCntB (K : PySem.W.Frag) : V → List V → Hp → VK → Prop := fun x vs H Q => ∃ (p : Addr) (bs : List Bool) (k : Bool), x = .ref p ∧ vs = [.bl k] ∧ SqL K H p (bs.map V.bl) ∧ Q (.int ((bs.count k : Nat) : Int)) H
end
end DL
set_option Elab.async false
set_option linter.all false
set_option maxRecDepth 100000
set_option maxHeartbeats 1000000
namespace DL
open PySem PySem.Spec PyProof.Rows L2
section
variable {X : Cx} {ρ : Rho} {O : Sto} {elt tg iter : Expr} {ifs : List Expr} {scope : Scope} {pos : Pos} {xs : List D} {zs : List (Option D)}
end
section
variable {X : Cx} {ρ : Rho} {O : Sto} {P : Post} {pos : Pos}
variable {α : Type} {ps : List α} {f g : α → D} {h : α → Option D} {tg iter elt : Expr} {ifs : List Expr} {scope : Scope}
end
end DL
set_option Elab.async false
set_option linter.all false
set_option maxRecDepth 100000
set_option maxHeartbeats 1000000
namespace DL
open PySem PySem.Spec PyProof.Rows L2
section
variable {P : Program} {w : World} {K : PySem.W.Frag} {mg : Str → Option Value} {base : Heap}
end
end DL
namespace DL
open PySem PySem.Spec PyProof.Rows L2
section
variable {prog : Program} {w : World} {A : Around} {E : Value → Shared → Prop} {s : Shared}
end
section
variable {X : Cx} {O : Sto}
end
end DL
namespace DL
open PySem PySem.Spec PyProof.Rows L2
section
variable {X : Cx} {mk : Prop} {ρ : Rho} {O : Sto} {value o : Expr} {RX : XC} {pos pos' : Pos} {f : Str} {P : Post} {C : Addr} {q : Nat} {fs : List (Str × D)}
end
end DL
set_option Elab.async false
set_option linter.all false
set_option maxRecDepth 100000
set_option maxHeartbeats 1000000
namespace DL
open PySem PySem.Spec PyProof.Rows L2 PySem.SeqAt PySem.MeetsSeq
section
variable {X : Cx} {ρ : Rho} {O : Sto} {a e : Expr} {d : D}
theorem ev_idxT {k : Int} {ns : List Int} {apos cpos : Pos} (ho : EvP X ρ O a (.tup (ns.map D.int))) (he : EvP X ρ O e (.int k)) (hk : k ∈ ns)
    (hbase : attributeBase a ("index" : Str) X.env (eval a X.env) = eval a X.env := by rfl) (hline : (apos.endLine == cpos.line) = true := by rfl) (hst : starEach [e] X.env = [(false, eval e X.env)] := by rfl) :
    EvP X ρ O (.Call (.Attribute a ("index" : Str) apos) [e] [] cpos) (.int ((ns.idxOf k : Nat) : Int)) := fun G =>
  PE.imp (pe_bm PySem.F.plainAttrs_tuple PySem.F.slot_tuple_index PySem.F.type_tuple_index mt_idx (ho G)
    (pa_cons (te := fun σ H Q => ∃ G1, SA X.K G1 H O ∧ EnvR X.K G1 σ ρ ∧ ∀ v G' H', Ext G1 G' → SA X.K G' H' O → Is X.K G' (.int k) v → Q v H') (fun pins s σ H Q I ⟨G1, q⟩ => he G1 pins s σ H Q I q) pa_nil hst) hbase
    (by rw [hst]; rfl) hline hst (by rfl)) fun σ H Q ⟨q1, q2, q3⟩ => ⟨q1, q2, fun v G1 H1 e1 s1 i1 => by
      obtain ⟨p, vs, rfl, g1, g2⟩ := tup_sq s1 i1
      have := g2.toInts
      subst this
      refine ⟨.inr (.inl ⟨rfl, _, g1⟩), G1, s1, q2.ext e1, fun w G2 H2 e2 s2 i2 => ?_⟩
      cases i2
      obtain ⟨p2, vs2, h2, g3, g4⟩ := tup_sq s2 (i1.ext e2)
      cases h2
      have := g4.toInts
      subst this
      exact ⟨p, ns, k, rfl, rfl, g3, hk, q3 _ G2 H2 (e1.trans e2) s2 (.int _)⟩⟩
def rIdxI (K : PySem.W.Frag) : V → List V → Hp → VK → Prop := fun x vs H Q => ∃ (p : Addr) (ns : List Int) (k : Int), x = .ref p ∧ vs = [.int k] ∧ SqL K H p (ns.map V.int) ∧ k ∈ ns ∧ Q (.int ((ns.idxOf k : Nat) : Int)) H
def rIdxB (K : PySem.W.Frag) : V → List V → Hp → VK → Prop := fun x vs H Q => ∃ (p : Addr) (bs : List Bool) (k : Bool), x = .ref p ∧ vs = [.bl k] ∧ SqL K H p (bs.map V.bl) ∧ k ∈ bs ∧ Q (.int ((bs.idxOf k : Nat) : Int)) H
end
end DL
set_option Elab.async false
set_option linter.all false
set_option maxRecDepth 100000
set_option maxHeartbeats 1000000
namespace DL
open PySem PySem.Spec PyProof.Rows L2 PySem.W
section
variable {prog : Program} {w : World} {A : Around} {s : Shared} {E : Value → Shared → Prop} {it : Addr} {Ty : String}
theorem wp_no {α : Type} {c : Bool} {t e : Sem α} {Q : α → Shared → Prop} (h : c = false) (q : wpAny (model prog w) A e Q E s) : wpAny (model prog w) A (if c = true then t else e) Q E s := by
  rw [if_neg (by rw [h]; exact Bool.false_ne_true)]; exact q
theorem wp_yes {α : Type} {c : Bool} {t e : Sem α} {Q : α → Shared → Prop} (h : c = true) (q : wpAny (model prog w) A t Q E s) : wpAny (model prog w) A (if c = true then t else e) Q E s := by
  rw [if_pos h]; exact q
theorem collect_quiet {Q : List Value → Shared → Prop} (hT : s.TypeIs (.ref it) Ty) (nl : (Value.type Ty == Value.type "list") = false) (nt : (Value.type Ty == Value.type "tuple") = false)
    (nr : ["set", "frozenset", "dict", "dict_keys", "dict_values", "dict_items"].any (fun x => Value.type Ty == Value.type x) = false)
    (hi : ∀ (h : Heap) (F : Value → Shared → Prop) (E' : Value → Shared → Prop), (∀ c o, s.heap.get? c = some o → h.get? c = some o) → F (.ref it) { s with heap := h } → wpAny (model prog w) A.in1 (pyIter (.ref it)) F E' { s with heap := h })
    (hh : ∀ (h : Heap) (F : Bool → Shared → Prop) (E' : Value → Shared → Prop), (∀ c o, s.heap.get? c = some o → h.get? c = some o) → F false { s with heap := h } → wpAny (model prog w) A.in1 (Builtin.List.listLengthHint (.ref it)) F E' { s with heap := h })
    (k : ∀ (h : Heap) (c : Nat) (R : Result → Shared → Prop), (∀ b o, s.heap.get? b = some o → h.get? b = some o) → h.get? s.heap.objs.size = some (lsC [] c) → (∀ s' its c', s'.heap.get? s.heap.objs.size = some (lsC its c') → Q its s' → R (.ok (.ret (.ref s.heap.objs.size))) s') →
      codeAny (model prog w) A (.builtin "list.extend.loop" ⟨[.ref s.heap.objs.size, .ref it, .ref s.heap.objs.size], []⟩) R { s with heap := h }) :
    wpAny (model prog w) A (collect (.ref it)) Q E s := by
  obtain ⟨h, g, d, tk, os⟩ := s
  obtain ⟨o, ho, hc⟩ := hT
  have lt : it < h.objs.size := Heap.lt_size ho
  have ne : h.objs.size ≠ it := Nat.ne_of_gt lt
  dsimp only at hi k hh
  wp_walk
  refine code_by F.plain_proto_collect F.entry_proto_collect ?_
  wp_walk
  have up : ∀ b u, h.get? b = some u → (h.push { cls := .type "list", data := .seq #[] }).get? b = some u := fun b u e => Heap.get?_push_of_some _ e
  have own : (h.push { cls := .type "list", data := .seq #[] }).get? h.objs.size = some { cls := .type "list", data := .seq #[] } := Heap.get?_push_size _ rfl
  have ty : Shared.TypeIs ⟨h.push { cls := .type "list", data := .seq #[] }, g, d, tk, os⟩ (.ref it) Ty := ⟨o, up _ _ ho, hc⟩
  refine ⟨plainId_quiet F.plain_list_iadd _, code_by F.plain_list_iadd F.entry_list_iadd ?_⟩
  have sr : Builtin.List.listSameRef (.ref h.objs.size) (.ref it) = false := beq_eq_false_iff_ne.mpr ne
  wp_walk using hi _ _ _ up, hh _ _ _ up
  refine wp_no nr ?_
  wp_walk
  exact ⟨plainId_quiet F.plain_extend_loop _, k _ _ _ up own fun s' its c' e q => wpAny_bind (wpAny_load e (wpAny_pure q))⟩
theorem call_tuple_it {Q : Value → Shared → Prop} (hT : s.TypeIs (.ref it) Ty) (nt : (Value.type Ty == Value.type "tuple") = false)
    (hc : wpAny (model prog w) A.in1.in1 (collect (.ref it)) (fun its s1 => its.length ≤ sizeLine ∧ Q (.ref s1.heap.objs.size) { s1 with heap := s1.heap.push { cls := .type "tuple", data := .seq its.toArray } }) E s) :
    wpAny (model prog w) A (call (.type "tuple") [.ref it]) Q E s := by
  refine callType_codes (Q₁ := fun obj s₁ => s₁.TypeIs obj "tuple" ∧ Q obj s₁) F.called_tuple (F.typeCall_tuple_1 _) F.entry_object_init ?_ fun obj s₁ h₁ => ⟨h₁.1, F.args_object_init_2 obj _, object_init_meets F.called_tuple.init.lookup F.called_tuple.made (by decide) prog w A.in1 _ s₁ ⟨h₁.1, rfl, h₁.2⟩⟩
  refine codeAny_of_tree ?_
  show wpAny _ A.in1.in1 (do checkBuiltinCall "tuple.__new__" ⟨[.type "tuple", .ref it], []⟩; again (.builtin "tuple.__new__" ⟨[.type "tuple", .ref it], []⟩)) _ _ s
  refine wpAny_bind (wpAny_of_eq (F.newCall_tuple_1 _) (wpAny_pure ⟨plainId_quiet F.plain_tuple_new _, code_by F.plain_tuple_new F.entry_tuple_new ?_⟩))
  have h1 := sub_tuple_self
  have h2 := init_tuple_lookup
  have h3 := madeHere_tuple
  have cr : ∀ (Q' : List Value → Shared → Prop) (E' : Value → Shared → Prop), (∀ e s', E e s' → E' e s') → (∀ its s1, its.length ≤ sizeLine ∧ Q (.ref s1.heap.objs.size) { s1 with heap := s1.heap.push { cls := .type "tuple", data := .seq its.toArray } } → Q' its s1) → wpAny (model prog w) A.in1.in1 (collect (.ref it)) Q' E' s := fun Q' E' b a => wpAny_mono hc a b
  wp_walk using wpAny_typeOf hT, cr _ _ (fun e s' z => z)
  intro its s1 ⟨hz, q⟩
  refine wpAny_bind (wpAny_pure ?_)
  refine wpAny_bind (wpAny_newObj_type (wpAny_pure ⟨⟨_, Heap.get?_push_size _ rfl, rfl⟩, q⟩) (by show its.toArray.size ≤ sizeLine; rw [List.size_toArray]; exact hz))
end
section
variable {prog : Program} {w : World} {A : Around} {s : Shared} {E : Value → Shared → Prop} {it l : Addr} {i : Int}
theorem lri_len : typeLookup (.type "list_reverseiterator") "__len__" = pure none := by rw [typeLookup_type, builtinLookup_eq_fast]; kernel_rfl
theorem lri_hint : typeLookup (.type "list_reverseiterator") "__length_hint__" = pure (some (.builtin "list_reverseiterator.__length_hint__")) := by rw [typeLookup_type, builtinLookup_eq_fast]; kernel_rfl
theorem lri_quiet {Q : Bool → Shared → Prop} (hT : s.TypeIs (.ref it) "list_reverseiterator") (h : Q false s) : wpAny (model prog w) A (Builtin.List.listLengthHint (.ref it)) Q E s := by
  have sp : splitId "list_reverseiterator.__length_hint__" = some ("list_reverseiterator", "__length_hint__") := by decide +kernel
  unfold Builtin.List.listLengthHint
  refine wpAny_bind (wpAny_specialOf hT lri_len ?_)
  dsimp only
  refine wp_no (c := false) rfl (wp_no (c := false) rfl ?_)
  refine wpAny_bind (wpAny_specialOf hT lri_hint ?_)
  dsimp only
  rw [sp]
  dsimp only
  refine wpAny_bind (wpAny_isInstance hT (show isSubtype (.type "list_reverseiterator") (.type "list_reverseiterator") = pure true by rw [isSubtype_type]; kernel_rfl) ?_)
  refine wp_no (c := false) rfl ?_
  refine wp_yes (by decide +kernel) ?_
  refine wp_no (by decide +kernel) ?_
  exact wpAny_pure h
end
def Itw (K : PySem.W.Frag) (l m : Nat) : It :=
  ⟨fun i H => ∃ xs x, SqL K H l xs ∧ xs.length = m ∧ xs.reverse[i]? = some x, fun i H x H' => H' = H ∧ ∀ xs, SqL K H l xs → xs.reverse[i]? = some x, fun i H => ∃ xs, SqL K H l xs ∧ xs.length = m ∧ m ≤ i⟩
theorem turn_revL {P : Program} {w : World} {K : PySem.W.Frag} {tg : Expr} (l it m : Nat) : Turn P w K tg (Itw K l m) [it] it (fun i h => i ≤ m ∧ h.IsRevIter it l ((m : Int) - 1 - (i : Nat))) where
  mem := by simp
  obj := fun i h st b hb => by
    have e : b = it := by simpa using hb
    subst e
    obtain ⟨_, o, ho, _, hd⟩ := st
    exact ⟨o, ho, fun v z => by rw [hd] at z; cases z⟩
  keep := fun i h h' st k => ⟨st.1, st.2.at fun o e => k it (by simp) o e⟩
  item := by
    intro X hP hw hK hc i pins s σ H E I hf st0 hg
    have st := st0.2
    subst hP hw hK
    obtain ⟨xs, x, hq, hm, hx⟩ := hg
    obtain ⟨its, rv, p, hz⟩ := I.list hq
    have hx2 := rev_get hx
    obtain ⟨u, hu, ru⟩ := rv.get hx2.1
    have hl := rv.length
    have e : (m : Int) - 1 - (i : Nat) = ((xs.length - 1 - i : Nat) : Int) := by omega
    rw [e] at st
    refine wpAny_pyNext_rev_item st p.isList (x := u) (by simpa using hu) fun h' st' sb => ⟨u, rfl, ?_⟩
    have I1 : Inv X pins σ H { s with heap := h' } := Inv_tur5 (t' := s.toks) I hf fun c o hc e => (sb.2 c (fun z => hc (by simp [z]))).trans e
    obtain ⟨o, e1, c1, d1⟩ := id st'
    have e2 : ((xs.length - 1 - i : Nat) : Int) - 1 = (m : Int) - 1 - ((i + 1 : Nat) : Int) := by omega
    rw [e2] at st'
    exact go_of (s := { s with heap := h' }) e1 c1 d1 (by decide) ⟨x, H, I1, ru, ⟨rfl, fun ys hy => by rw [I.list_inj hy hq]; exact hx⟩, ⟨by omega, st'⟩, fun b hb => (hf b hb).1⟩
  done := by
    intro X hP hw hK hc i pins s σ H E I hf st hg
    subst hP hw hK
    obtain ⟨xs, hq, hm, hx⟩ := hg
    obtain ⟨h1, st⟩ := st
    have ei : i = m := by omega
    subst ei
    have e : (i : Int) - 1 - (i : Nat) = -1 := by omega
    rw [e] at st
    exact wpAny_pyNext_rev_end (I.ok.hd hc) st fun h' eb => ⟨rfl, Inv_tur5 (t' := s.toks) I hf fun c o hc e => eb c o (fun z => hc (by simp [z])) e⟩
  self := fun A i s Q E st h => wpAny_pyIter_revIter st.2 h
theorem itw_yields {K : PySem.W.Frag} {G : Wd} {l : Addr} {vs : List V} {xs : List D} (h1 : G.g l = some (.lst vs)) (r1 : Iss K G xs vs) : Yields K G (Itw K l vs.length) xs.reverse where
  go := fun i H e hi => by
    have hi : i < xs.length := by simpa using hi
    obtain ⟨a, ha, _⟩ := r1.reverse.get (i := i) (d := xs.reverse[i]'(by simpa using hi)) (List.getElem?_eq_getElem _)
    exact ⟨vs, a, SqL.of (e _ _ h1), rfl, ha⟩
  stop := fun i H e hi => by
    have hi : xs.length ≤ i := by simpa using hi
    exact ⟨vs, SqL.of (e _ _ h1), rfl, by rw [← r1.length]; exact hi⟩
  yld := fun i v H H' G2 O2 e s y hi => by
    obtain ⟨rfl, y1⟩ := y
    obtain ⟨x, hx, ix⟩ := r1.reverse.getV (y1 vs (SqL.of ((e.g.trans s.sub) _ _ h1)))
    exact ⟨x, G2, hx, Ext.refl _, s, ix.ext e⟩
section
variable {X : Cx} {ρ : Rho} {O : Sto} {a : Expr} {pos p pos2 p2 : Pos} {xs : List D}
theorem ez_revL (ha : EvP X ρ O a (.lst xs)) (hm : X.mg "reversed" = none) (hg : Gl X "reversed" := by rfl) (hs : starEach [a] X.env = [(false, eval a X.env)] := by rfl) :
    EvZ X ρ O (.Call (.Name "reversed" p) [a] [] pos) xs.reverse "list_reverseiterator" := fun G tg pins s σ H R I sa en k => by
  refine Call_ (ld_blt I hg hm boot_reversed (PyProof.Rows.callWith_type1 (thn (es_cons ha es_nil hs G pos pins s σ H (fun vs H' => ∃ G', Ext G G' ∧ SA X.K G' H' O ∧ Iss X.K G' [.lst xs] vs) I ⟨sa, en, fun vs G' H' e1 s1 i1 => ⟨G', e1, s1, i1⟩⟩) fun us s1 ⟨vs, H1, I1, r1, G1, e1, sa1, is1⟩ => ?_) (by rw [hs]; rfl) rfl))
  cases is1 with | cons i1 is1 =>
  cases is1
  cases i1 with | lst q0 j1 =>
  obtain ⟨u, rfl, ru⟩ := vals1 r1
  cases ru
  obtain ⟨its, rv, t1, hz⟩ := I1.list (SqL.of (sa1.sub _ _ q0))
  have hl := rv.length
  refine call_reversed_list t1.isList ?_
  rename_i l1 v1 _x
  have up : ∀ b o, s1.heap.get? b = some o → (s1.heap.push (revObj l1 ((its.toArray.size : Int) - 1))).get? b = some o := fun b o e => Heap.get?_push_of_some _ e
  have Ik : L2.Inv X pins σ H1 { s1 with heap := s1.heap.push (revObj l1 ((its.toArray.size : Int) - 1)) } := I1.kept (t' := s1.toks) up
  have W : (s1.heap.push (revObj l1 ((its.toArray.size : Int) - 1))).IsRevIter s1.heap.objs.size l1 ((its.toArray.size : Int) - 1) := ⟨_, Heap.get?_push_size _ rfl, rfl, rfl⟩
  have e : ((its.toArray.size : Nat) : Int) - 1 = ((v1.length : Nat) : Int) - 1 - ((0 : Nat) : Int) := by rw [List.size_toArray]; omega
  have W' : (s1.heap.push (revObj l1 ((its.toArray.size : Int) - 1))).IsRevIter s1.heap.objs.size l1 (((v1.length : Nat) : Int) - 1 - ((0 : Nat) : Int)) := e ▸ W
  refine ⟨⟨s1.heap.objs.size, [s1.heap.objs.size], _, _, H1, rfl, Ik, turn_revL l1 _ v1.length, ⟨Nat.zero_le _, W'⟩, fun b hb => ?_, k _ G1 H1 e1 sa1 (itw_yields q0 j1)⟩, ⟨_, Heap.get?_push_size _ rfl, rfl⟩⟩
  have hb' : s1.heap.objs.size ≤ b := by cases List.mem_singleton.mp hb; exact Nat.le_refl _
  exact I1.fpOk hb' (I1.hok.fresh hb')
theorem ev_tupRev (ha : EvP X ρ O a (.lst xs)) (hz : xs.length ≤ 1000) (hmt : X.mg "tuple" = none) (hm : X.mg "reversed" = none) (hgt : Gl X "tuple" := by rfl) (hg : Gl X "reversed" := by rfl) (hc : X.calm = true := by rfl) (hs : starEach [a] X.env = [(false, eval a X.env)] := by rfl)
    (hs2 : starEach [.Call (.Name "reversed" p2) [a] [] pos2] X.env = [(false, eval (.Call (.Name "reversed" p2) [a] [] pos2) X.env)] := by rfl) :
    EvP X ρ O (.Call (.Name "tuple" p) [.Call (.Name "reversed" p2) [a] [] pos2] [] pos) (.tup xs.reverse) := fun G pins s σ H Q I ⟨h1, h2, h3⟩ => by
  refine Call_ (ld_blt I hgt hmt boot_tuple (PyProof.Rows.callWith_type1 ?_ (by rw [hs2]; rfl) rfl))
  rw [hs2]
  show wpAny _ _ (spliced ((false, eval (.Call (.Name "reversed" p2) [a] [] pos2) X.env) :: backTo pos [])) _ _ s
  refine Calls.spliced_cons (thn (ez_revL ha hm hg hs G (.Name "" pos) pins s σ H (fun J H1 => ∃ G1, Ext G G1 ∧ SA X.K G1 H1 O ∧ Yields X.K G1 J xs.reverse) I h1 h2 fun J G' H' q1 q2 q3 => ⟨G', q1, q2, q3⟩) fun v s1 ⟨⟨it, fp, tn, J, H1, hv, I1, T, st, fo, G1, e1, sa1, Yi⟩, hT⟩ => Calls.spliced_nil ?_)
  subst hv
  have hn := sizeLine_eq
  refine call_tuple_it hT (by decide) ?_
  have out : s1.heap.objs.size ∉ fp := fun m => let ⟨o, e, _⟩ := T.obj 0 _ st _ m; Nat.lt_irrefl _ (Heap.lt_size e)
  obtain ⟨g0, g1, g2, g3, g4, g5⟩ : FpOk X pins H1 s1.heap.objs.size := I1.fpOk (Nat.le_refl _) (I1.hok.fresh (Nat.le_refl _))
  refine collect_quiet hT (by decide) (by decide) (by decide) (fun h F E' up q => T.self _ 0 _ _ _ (T.keep 0 _ _ st fun b _ o e => up b o e) q) (fun h F E' up q => lri_quiet (let ⟨o, ho, hc⟩ := hT; ⟨o, up _ _ ho, hc⟩) q) fun h c R up own kr => ?_
  have I3 : L2.Inv (Cx.wA X X.A.in1.in1.in1) pins σ H1 { s1 with heap := h } := Inv_A (I1.kept (t' := s1.toks) up) rfl rfl
  refine got_loop (X := Cx.wA X X.A.in1.in1.in1) (A := X.A.in1.in1) rfl hc T (fun v => rfl) Yi (by rw [List.length_reverse]; omega) I1.sz g4 g5 (fun H' fr b hb => ⟨fr b hb, (fo b hb).2⟩) out (fun s' H' G' vs its c' g => ?_) xs.reverse.length 0 _ H1 G1 [] [] c (by omega) ⟨I3.pins_of fun p hp => ?_, Ext.refl _, sa1, .nil, .nil⟩ (T.keep 0 _ _ st fun b _ o e => up b o e) fun b hb => (fo b hb).1
  · have Iq : L2.Inv X pins σ H' s' := Inv_unA (Inv_unpin g.inv) I1.ok
    have hiss : Iss X.K G' xs.reverse vs := by have := g.iss; rwa [List.take_length] at this
    have hlen : its.length ≤ sizeLine := by rw [← g.vals.length, ← hiss.length, List.length_reverse]; omega
    refine kr s' its c' (g.inv.pin (_, lsC its c') (List.mem_append_right _ List.mem_cons_self)).1 ⟨hlen, ?_⟩
    have fr : H' s'.heap.objs.size = none := Iq.hok.fresh (Nat.le_refl _)
    obtain ⟨e3, s3⟩ := g.sa.laid (o := .tup vs) fr
    exact ⟨.ref s'.heap.objs.size, upd H' s'.heap.objs.size (.tup vs), Iq.laid (t' := s'.toks) (fun b u q => Heap.get?_push_of_some _ q) (Nat.le_refl _) ⟨by rw [g.vals.length]; exact hlen, its, g.vals, TupN.new _ _⟩, rfl, h3 _ _ _ (e1.trans (g.ext.trans e3)) s3 (.tup (SqT.of upd_same) (hiss.ext e3))⟩
  · rcases List.mem_cons.mp hp with rfl | q
    · exact ⟨own, g0, g1, g2, fun v z => by cases z⟩
    · exact I3.pin p (List.mem_append_right _ q)
end
end DL
set_option Elab.async false
set_option linter.all false
set_option maxRecDepth 100000
set_option maxHeartbeats 1000000
namespace L2
open PySem PySem.Spec PyProof.Rows
def ItrV (lo : Int) (n : Nat) : It := ⟨fun i _ => i < n, fun i H x H' => H' = H ∧ x = .int (lo + (i : Nat) * 7), fun i _ => n ≤ i⟩
theorem turn_rangeV {P : Program} {w : World} {K : PySem.W.Frag} {tg : Expr} (it : Addr) (lo : Int) (n : Nat) : Turn P w K tg (ItrV lo n) [it] it (fun i h => IsRangeIter h it (lo + (i : Nat) * 7) ((n : Int) - (i : Nat)) 7) where
  mem := by simp
  obj := fun i h st b hb => by
    obtain rfl : b = it := by simpa using hb
    exact ⟨_, st, fun v z => by
      have z' : Data.fields _ = Data.cell v := z
      cases z'⟩
  keep := fun i h h' st k => k it (by simp) _ st
  item := by
    intro X hP hw hK hc i pins s σ H E I hf st hg
    subst hP hw hK
    obtain ⟨f0, f1, f2, f3, f4, f5⟩ := hf it (by simp)
    refine (Walks.range (prog := X.prog) (w := X.w) (I.ok.hd hc) it lo 7 n).item i s _ _ hg st fun v h' tk hv st' kk => ?_
    obtain ⟨t, rfl⟩ := hv
    have I1 : Inv X pins σ H { s with heap := h', toks := tk } := I.turned (fun b o hb e => kk b o (by simpa using hb) e) f0 f1 f3 f4 f5
    exact ⟨_, rfl, go_of (s := { s with heap := h', toks := tk }) (n := "range_iterator") st' rfl rfl (by decide) ⟨.int (lo + (i : Nat) * 7), H, I1, ⟨t, rfl⟩, ⟨rfl, rfl⟩, st', fun b hb => (hf b hb).1⟩⟩
  done := by
    intro X hP hw hK hc i pins s σ H E I hf st hg
    subst hP hw hK
    obtain ⟨f0, f1, f2, f3, f4, f5⟩ := hf it (by simp)
    exact wpAny_pyNext_range_end (I.ok.hd hc) st (by have : n ≤ i := hg; omega) fun h' eb => ⟨rfl, I.turned (t' := s.toks) (fun b o hb e => eb b o hb e) f0 f1 f3 f4 f5⟩
  self := fun _ _ _ _ _ st h => wpAny_pyIter_rangeiter st h
def sevUp (d : Int) : Int := if 0 < d then (d - 1) / 7 + 1 else 0
theorem rangeSize_sev (a b : Int) : Builtin.Range.rangeSize a b 7 = sevUp (b - a) := by
  unfold Builtin.Range.rangeSize sevUp
  simp only [show (7 : Int) > 0 by decide, if_true]
  split <;> split <;> omega
theorem small_sev {a b : Int} (h : (-(2 ^ 60) ≤ a ∧ a < 2 ^ 60) ∧ -(2 ^ 60) ≤ b ∧ b < 2 ^ 60) : Builtin.Range.small a b 7 = true := by
  have hz : 0 ≤ sevUp (b - a) ∧ sevUp (b - a) < 2 ^ 62 := by unfold sevUp; split <;> omega
  unfold Builtin.Range.small
  rw [rangeSize_sev]
  generalize sevUp (b - a) = z at hz
  simp only [Builtin.Range.rangeFitsLong, Bool.and_eq_true, Bool.or_eq_true, decide_eq_true_eq, beq_iff_eq, show (7 : Int) > 0 by decide, if_true]
  omega
section
variable {X : Cx} {tg a b c : Expr} {p pos : Pos}
theorem pi_rangeV {ta : TA} (hg : Gl X "range") (hm : X.mg "range" = none) (ha : PA X [a, b, c] ta) (hs : starEach [a, b, c] X.env = (false, eval a X.env) :: starEach [b, c] X.env) (hs2 : (backTo pos (starEach [b, c] X.env)).any (·.1) = false) :
    PI X tg (.Call (.Name "range" p) [a, b, c] [] pos) (fun σ H R => ta σ H fun vs H1 => ∃ i j : Int, vs = [.int i, .int j, .int 7] ∧ ((-(2 ^ 60) ≤ i ∧ i < 2 ^ 60) ∧ -(2 ^ 60) ≤ j ∧ j < 2 ^ 60) ∧ R (ItrV i (sevUp (j - i)).toNat) H1) := by
  intro pins s σ H R I h
  refine Call_ (ld_blt I hg hm boot_range (PyProof.Rows.callWith_type1 (thn (ha pos pins s σ H _ I h) fun us s1 ⟨vs, H1, I1, r1, q1⟩ => ?_) hs hs2))
  obtain ⟨i, j, rfl, hij, q⟩ := q1
  cases r1 with
  | cons r rr => cases rr with
    | cons r' rr => cases rr with
      | cons r'' rr =>
        cases rr
        obtain ⟨t, rfl⟩ := r
        obtain ⟨t', rfl⟩ := r'
        obtain ⟨t'', rfl⟩ := r''
        refine call_range_3 (by decide) (wpAny_pyIter_range (IsRange.new ..) (small_sev hij) ?_) (Or.inl (PyProof.noPylong_small (by decide)))
        have I2 : Inv X pins σ H1 { s1 with heap := s1.heap.push { cls := .type "range", data := .fields #[.int i t, .int j t', .int 7 t''] } } := I1.kept (t' := s1.toks) fun _ _ e => Heap.get?_push_of_some _ e
        refine ⟨_, [_], _, _, H1, rfl, I2.kept (t' := s1.toks) fun _ _ e => Heap.get?_push_of_some _ e, turn_rangeV _ i (sevUp (j - i)).toNat, ?_, fun b hb => ?_, q⟩
        · show IsRangeIter _ _ (i + ((0 : Nat) : Int) * 7) ((((sevUp (j - i)).toNat : Nat) : Int) - ((0 : Nat) : Int)) 7
          have e1 : i + ((0 : Nat) : Int) * 7 = i := by simp
          have e2 : (((sevUp (j - i)).toNat : Nat) : Int) - ((0 : Nat) : Int) = Builtin.Range.rangeSize i j 7 := by rw [rangeSize_sev]; unfold sevUp; split <;> omega
          rw [e1, e2]
          exact Heap.get?_push_size _ rfl
        · obtain rfl := List.mem_singleton.mp hb
          exact I2.fpOk (Nat.le_refl _) (I2.hok.fresh (Nat.le_refl _))
end
end L2
namespace DL
open PySem PySem.Spec PyProof.Rows L2
section
variable {X : Cx} {ρ : Rho} {O : Sto} {a b c : Expr} {p pos : Pos} {P : Post} {st : Stmt} {rest : List Stmt}
def rangeV (lo : Int) (n : Nat) : List D := (List.range n).map fun i => .int (lo + (i : Nat) * 7)
theorem rangeV_at {lo : Int} {n i : Nat} {x : D} (h : (rangeV lo n)[i]? = some x) : i < n ∧ x = .int (lo + (i : Nat) * 7) := by
  unfold rangeV at h
  rw [List.getElem?_map] at h
  by_cases hi : i < n
  · rw [List.getElem?_range hi] at h
    exact ⟨hi, (Option.some.inj h).symm⟩
  · rw [List.getElem?_eq_none (by rw [List.length_range]; omega)] at h
    cases h
theorem itrV_yields {K : PySem.W.Frag} {G : Wd} {lo : Int} {n : Nat} : Yields K G (ItrV lo n) (rangeV lo n) where
  go := fun i H _ hi => show i < n by simpa [rangeV] using hi
  stop := fun i H _ hi => show n ≤ i by simpa [rangeV] using hi
  yld := fun i v H H' G2 O2 e s y hi => by
    obtain ⟨rfl, rfl⟩ := y
    have hn : i < n := by simpa [rangeV] using hi
    exact ⟨_, G2, by unfold rangeV; rw [List.getElem?_map, List.getElem?_range hn]; rfl, Ext.refl _, s, .int _⟩
theorem ei_rangeV {tg : Expr} {m n : Int} (ha : EvP X ρ O a (.int m)) (hb : EvP X ρ O b (.int n)) (hc : EvP X ρ O c (.int 7)) (hm : X.mg "range" = none) (hmn : (-(2 ^ 60) ≤ m ∧ m < 2 ^ 60) ∧ -(2 ^ 60) ≤ n ∧ n < 2 ^ 60) (hg : Gl X "range" := by rfl)
    (hs : starEach [a, b, c] X.env = (false, eval a X.env) :: starEach [b, c] X.env := by rfl) (hs2 : starEach [b, c] X.env = (false, eval b X.env) :: starEach [c] X.env := by rfl) (hs3 : starEach [c] X.env = (false, eval c X.env) :: starEach [] X.env := by rfl)
    (hpl : (backTo pos (starEach [b, c] X.env)).any (·.1) = false := by rfl) : EvI X ρ O tg (.Call (.Name "range" p) [a, b, c] [] pos) (rangeV m (sevUp (n - m)).toNat) := fun G =>
  PI.imp (pi_rangeV hg hm (es_cons ha (es_cons hb (es_cons hc es_nil hs3) hs2) hs G) hs hpl) fun σ H R ⟨q1, q2, q3⟩ => ⟨q1, q2, fun vs G1 H1 e1 s1 i1 => by
    cases i1 with | cons i r => cases r with | cons i' r => cases r with | cons i'' r => cases r; cases i; cases i'; cases i''; exact ⟨m, n, rfl, hmn, q3 _ G1 H1 e1 s1 itrV_yields⟩⟩
end
section
variable {X : Cx} {ρ : Rho} {O : Sto} {a b e : Expr} {pos : Pos} {P : Post} {d da db ea eb : D} {k : Nat} {xs : List D}
theorem x_extend {q : Nat} {ys : List D} {apos cpos : Pos} (ho : EvP X ρ O a (.ptr q)) (hq : O[q]? = some (some (.lst xs))) (he : EvP X ρ O e (.lst ys)) (hz : xs.length + ys.length ≤ sizeLine) (h : P.nx ρ (O.set q (some (.lst (xs ++ ys)))))
    (hbase : attributeBase a ("extend" : Str) X.env (eval a X.env) = eval a X.env := by rfl) (hline : (apos.endLine == cpos.line) = true := by rfl) (hst : starEach [e] X.env = [(false, eval e X.env)] := by rfl)
    (hsw : swapsWith (.Call (.Attribute a ("extend" : Str) apos) [e] [] cpos) none pos.line X.env = pure false := by rfl) : Ex X ρ O (.Expr (.Call (.Attribute a ("extend" : Str) apos) [e] [] cpos) pos) P := fun G =>
  PS.imp (ps_expr (pe_bm PySem.F.plainAttrs_list PySem.F.slot_list_extend PySem.F.type_list_extend mt_extend (ho G)
    (pa_cons (te := fun σ H Q => ∃ G1, SA X.K G1 H O ∧ EnvR X.K G1 σ ρ ∧ ∀ v G' H', Ext G1 G' → SA X.K G' H' O → Is X.K G' (.lst ys) v → Q v H') (fun pins s σ H Q I ⟨G1, q⟩ => he G1 pins s σ H Q I q) pa_nil hst) hbase
    (by rw [hst]; rfl) hline hst (by rfl)) hsw) fun E σ H ⟨q1, q2, q3⟩ => ⟨q1, q2, fun v G1 H1 e1 s1 i1 => by
      cases i1 with
      | ptr _ ha =>
      obtain ⟨a1, g0, g1, vs, g2, g3⟩ := s1.mt q _ hq
      obtain rfl := Option.some.inj (ha.symm.trans g0)
      refine ⟨.inl ⟨rfl, vs, SqL.of g2⟩, G1, s1, q2.ext e1, fun w G2 H2 e2 s2 i2 => ?_⟩
      obtain ⟨a2, g7, g4, us, g5, g6⟩ := s2.mt q _ hq
      obtain rfl := Option.some.inj ((e2.at g0).symm.trans g7)
      cases i2 with
      | lst hy ry =>
      refine ⟨_, _, us, _, rfl, rfl, g5, s2.sub _ _ hy, by rw [← g6.length, ← ry.length]; exact hz, ?_⟩
      exact q3.nx σ ρ _ G2 _ (e1.trans e2) (s2.put (m' := .lst (xs ++ ys)) hq g7 ⟨_, upd_same, g6.append ry⟩) (q2.ext (e1.trans e2)) h⟩
theorem any_py (e : D) : ∀ xs : List D, (toPys xs).any (fun z => PyData.eqv z (toPy e)) = xs.any fun z => eqD z e
  | [] => rfl
  | z :: zs => by show (PyData.eqv (toPy z) (toPy e) || (toPys zs).any _) = (eqD z e || zs.any _); rw [any_py e zs]; rfl
theorem cmp_niD (hr : Room k X.A) (ha : RD O da ea) (pa : plD ea = true) (px : plDs xs = true) (hd : min (dpDs xs) (dpD ea) ≤ 60) (hb : RD O db (.lst xs)) : Op2 X O (compareOp .NotIn) da db (.bl (!xs.any fun y => eqD y ea)) := fun G pins s σ H x y v u Q I rx ry ⟨h1, h2, h3, h4⟩ => by
  obtain ⟨as, ra⟩ := ha.reads I h1 h2 rx pa
  obtain ⟨bs, rb⟩ := hb.reads I h1 h3 ry px
  have hu := hr.units
  refine PySem.SeqAt.notIn_list_reads (xs := toPys xs) rb ra (pl_lays _ px) (pl_lay _ pa) (by rw [dp_py, dp_pys]; omega) ?_
  rw [any_py]
  exact ⟨.bl _, H, I, rfl, h4 _ G H (Ext.refl _) h1 (.bl _)⟩
end
end DL
set_option Elab.async false
set_option linter.all false
set_option maxRecDepth 100000
set_option maxHeartbeats 4000000
namespace My
open PySem PySem.Spec PyProof.Rows L2 DL
def top (i : Nat) : Stmt := PySem.Challenge.pw_heedwise_k66_all_rows_gone_through.main.body.getD i (.Pass ⟨0, 0, 0, 0⟩)
abbrev s_charge : Stmt := top 1
abbrev N_charge : List Str := ["what", "so"]
theorem sc_charge : FnScope N_charge ["what", "so"] (defScope s_charge) := ⟨rfl, rfl, rfl, by decide +kernel, rfl, by decide +kernel, by decide +kernel⟩
abbrev s_least_ahead : Stmt := top 3
abbrev N_least_ahead : List Str := ["left", "ahead", "adviser", "stays"]
theorem sc_least_ahead : FnScope N_least_ahead ["left", "ahead", "adviser"] (defScope s_least_ahead) := ⟨rfl, rfl, rfl, by decide +kernel, rfl, by decide +kernel, by decide +kernel⟩
abbrev s_sums_with : Stmt := top 4
abbrev N_sums_with : List Str := ["left", "ahead", "said", "so"]
theorem sc_sums_with : FnScope N_sums_with ["left", "ahead", "said", "so"] (defScope s_sums_with) := ⟨rfl, rfl, rfl, by decide +kernel, rfl, by decide +kernel, by decide +kernel⟩
abbrev s_sums_behind : Stmt := top 5
abbrev N_sums_behind : List Str := ["ahead", "said", "so"]
theorem sc_sums_behind : FnScope N_sums_behind ["ahead", "said", "so"] (defScope s_sums_behind) := ⟨rfl, rfl, rfl, by decide +kernel, rfl, by decide +kernel, by decide +kernel⟩
abbrev s_row_table : Stmt := top 6
abbrev N_row_table : List Str := ["many", "turns", "changes", "table", "sums", "said", "so"]
theorem sc_row_table : FnScope N_row_table ["many", "turns", "changes"] (defScope s_row_table) := ⟨rfl, rfl, rfl, by decide +kernel, rfl, by decide +kernel, by decide +kernel⟩
abbrev s_place_of_least : Stmt := top 7
abbrev N_place_of_least : List Str := ["sums"]
theorem sc_place_of_least : FnScope N_place_of_least ["sums"] (defScope s_place_of_least) := ⟨rfl, rfl, rfl, by decide +kernel, rfl, by decide +kernel, by decide +kernel⟩
abbrev s_row_back : Stmt := top 8
abbrev N_row_back : List Str := ["table", "changes", "left", "adviser", "back", "sums"]
theorem sc_row_back : FnScope N_row_back ["table", "changes"] (defScope s_row_back) := ⟨rfl, rfl, rfl, by decide +kernel, rfl, by decide +kernel, by decide +kernel⟩
abbrev s_best_row : Stmt := top 9
abbrev N_best_row : List Str := ["many", "turns", "changes", "table"]
theorem sc_best_row : FnScope N_best_row ["many", "turns", "changes"] (defScope s_best_row) := ⟨rfl, rfl, rfl, by decide +kernel, rfl, by decide +kernel, by decide +kernel⟩
abbrev s_l_cell_at : Stmt := top 11
abbrev N_l_cell_at : List Str := ["_law_script", "_law_k"]
theorem sc_l_cell_at : FnScope N_l_cell_at ["_law_script", "_law_k"] (defScope s_l_cell_at) := ⟨rfl, rfl, rfl, by decide +kernel, rfl, by decide +kernel, by decide +kernel⟩
abbrev s_l_next : Stmt := top 12
abbrev N_l_next : List Str := ["_law_x"]
theorem sc_l_next : FnScope N_l_next ["_law_x"] (defScope s_l_next) := ⟨rfl, rfl, rfl, by decide +kernel, rfl, by decide +kernel, by decide +kernel⟩
abbrev s_l_seed : Stmt := top 13
abbrev N_l_seed : List Str := ["_law_script", "_law_k", "_law_x"]
theorem sc_l_seed : FnScope N_l_seed ["_law_script", "_law_k"] (defScope s_l_seed) := ⟨rfl, rfl, rfl, by decide +kernel, rfl, by decide +kernel, by decide +kernel⟩
abbrev s_l_turn : Stmt := top 14
abbrev N_l_turn : List Str := ["_law_x", "_law_many", "_law_scale", "_law_sleeps", "_law_so", "_law_said", "_law_k", "_law_what"]
theorem sc_l_turn : FnScope N_l_turn ["_law_x", "_law_many", "_law_scale", "_law_sleeps"] (defScope s_l_turn) := ⟨rfl, rfl, rfl, by decide +kernel, rfl, by decide +kernel, by decide +kernel⟩
abbrev s_l_rows : Stmt := top 15
abbrev N_l_rows : List Str := ["_law_many", "_law_length", "_law_rows_here", "_law_turn_here", "_law_longer", "_law_row"]
theorem sc_l_rows : FnScope N_l_rows ["_law_many", "_law_length"] (defScope s_l_rows) := ⟨rfl, rfl, rfl, by decide +kernel, rfl, by decide +kernel, by decide +kernel⟩
abbrev s_l_paid : Stmt := top 16
abbrev N_l_paid : List Str := ["_law_turns", "_law_row", "_law_paid_here", "_law_turn_here", "_law_here"]
theorem sc_l_paid : FnScope N_l_paid ["_law_turns", "_law_row"] (defScope s_l_paid) := ⟨rfl, rfl, rfl, by decide +kernel, rfl, by decide +kernel, by decide +kernel⟩
abbrev s_l_changes : Stmt := top 17
abbrev N_l_changes : List Str := ["_law_row"]
theorem sc_l_changes : FnScope N_l_changes ["_law_row"] (defScope s_l_changes) := ⟨rfl, rfl, rfl, by decide +kernel, rfl, by decide +kernel, by decide +kernel⟩
abbrev s_l_best : Stmt := top 18
abbrev N_l_best : List Str := ["_law_many", "_law_turns", "_law_changes_here", "_law_rows_here", "_law_found"]
theorem sc_l_best : FnScope N_l_best ["_law_many", "_law_turns", "_law_changes_here"] (defScope s_l_best) := ⟨rfl, rfl, rfl, by decide +kernel, rfl, by decide +kernel, by decide +kernel⟩
abbrev s_law : Stmt := top 19
abbrev N_law : List Str := ["_law_script", "_law_start", "_law_x", "_law_many", "_law_scale", "_law_length", "_law_turns", "_law_k"]
theorem sc_law : FnScope N_law ["_law_script"] (defScope s_law) := ⟨rfl, rfl, rfl, by decide +kernel, rfl, by decide +kernel, by decide +kernel⟩
structure Txt (mg : Str → Option Value) : Prop where
  b_len : mg "len" = none
  b_tuple : mg "tuple" = none
  b_list : mg "list" = none
  b_zip : mg "zip" = none
  b_range : mg "range" = none
  b_isinstance : mg "isinstance" = none
  b_int : mg "int" = none
  b_bool : mg "bool" = none
  b_abs : mg "abs" = none
  b_min : mg "min" = none
  b_max : mg "max" = none
  b_enumerate : mg "enumerate" = none
  b_reversed : mg "reversed" = none
def cnt (ws : List Int) : List Int := if ws.sum = 0 then ws.map (fun _ => 1) else ws
def Wok (ws : List Int) : Prop := ∀ w ∈ ws, 0 ≤ w
def go (W : Int) : Int → List (Int × Int) → Int
  | _, [] => 0
  | r, p :: l => if W ≤ 2 * (r + p.2) then p.1 else go W (r + p.2) l
def mid (ns ws : List Int) : Int := go (cnt ws).sum 0 (srt ltP (ns.zip (cnt ws)))
def Two (ns ws : List Int) : Prop := ns.length = ws.length ∧ ws.length ≤ 63 ∧ Wok ws
def spCounted : List D → D → Prop := fun ds d => ∃ ws : List Int, ds = [.tup (ws.map D.int)] ∧ ws.length ≤ 63 ∧ d = .lst ((cnt ws).map D.int)
def spMiddle : List D → D → Prop := fun ds d => ∃ ns ws : List Int, ds = [.tup (ns.map D.int), .tup (ws.map D.int)] ∧ Two ns ws ∧ d = .int (mid ns ws)
def cellAt (ns : List Int) (k : Int) : Int := (ns[k.toNat]?).getD 0
def spCell : List D → D → Prop := fun ds d => ∃ (ns : List Int) (k : Int), ds = [.scr (ns.map D.int), .int k] ∧ 0 ≤ k ∧ d = .int (cellAt ns k)
def below (f : Int) (ns ws : List Int) : Int := sm (fun q => if q.1 < f then q.2 else 0) (ns.zip ws)
def there (f : Int) (ns ws : List Int) : Int := sm (fun q => if q.1 = f then q.2 else 0) (ns.zip ws)
def rightB (f : Int) (ns ws : List Int) : Bool := if ns = [] then decide (f = 0) else (decide (f ∈ ns) && (decide (2 * below f ns (cnt ws) < (cnt ws).sum) && decide ((cnt ws).sum ≤ 2 * (below f ns (cnt ws) + there f ns (cnt ws)))))
def od : Option Int → D
  | none => .non
  | some i => .int i
abbrev Tn := List (Option Int) × Int
def tD (t : Tn) : D := .tup [.tup (t.1.map od), .int t.2]
def ab (i : Int) : Int := if i < 0 then -i else i
def chg : Option Int → Int → Int
  | none, _ => 0
  | some w, z => ab (w - z)
def sat (t : Tn) (k : Nat) : Option Int := (t.1[k]?).getD none
def chgAt (k : Nat) (t : Tn) : Int := chg (sat t k) t.2
theorem od_np (o : Option Int) : npD (od o) = true := by cases o <;> rfl
theorem tD_np (t : Tn) : npD (tD t) = true := by
  show (npDs (t.1.map od) && (true && true)) = true
  rw [npDs_map od_np]
  rfl
def sat2 (said : List (Option Int)) (k : Nat) : Option Int := (said[k]?).getD none
def ax (said : List (Option Int)) : List Nat := (List.range said.length).filter fun k => (sat2 said k).isSome
def nsA (said : List (Option Int)) : List Int := (ax said).map fun k => (sat2 said k).getD 0
def wsA (said : List (Option Int)) (ws : List Int) : List Int := (ax said).map fun k => ws.getD k 0
def midA (said : List (Option Int)) (ws : List Int) : Int := mid (nsA said) (wsA said ws)
theorem zipIdx_range (said : List (Option Int)) : said.zipIdx = (List.range said.length).map fun k => (sat2 said k, k) := by
  refine List.ext_getElem? fun i => ?_
  rw [List.getElem?_zipIdx, List.getElem?_map]
  by_cases h : i < said.length
  · rw [List.getElem?_range h, List.getElem?_eq_getElem h]
    simp [sat2, h]
  · rw [List.getElem?_eq_none (by omega), List.getElem?_eq_none (by simp; omega)]
    rfl
theorem at_ws {ws : List Int} {k : Nat} (h : k < ws.length) : atI (ws.map D.int) (k : Int) = some (.int (ws.getD k 0)) := by
  refine atI_nat ?_
  rw [List.getElem?_map, List.getElem?_eq_getElem h]
  simp [List.getD, h]
def onS (s : Int) : Option Int → Bool
  | none => false
  | some i => decide (0 ≤ i) && decide (i ≤ s)
def SaidOk (m s : Int) (said : List (Option Int)) : Prop := (said.length : Int) = m ∧ m ≤ 24 ∧ ∀ w ∈ said, w = none ∨ onS s w = true
def spIsWhole : List D → D → Prop := fun ds d => ∃ w : Option Int, ds = [od w] ∧ d = .bl w.isSome
def spOnS : List D → D → Prop := fun ds d => ∃ (s : Int) (w : Option Int), ds = [.int s, od w] ∧ d = .bl (onS s w)
def spIsSaid : List D → D → Prop := fun ds d => ∃ (m s : Int) (said : List (Option Int)), ds = [.int m, .int s, .tup (said.map od)] ∧ SaidOk m s said ∧ d = .bl true
def spCheckSaid : List D → D → Prop := fun ds d => ∃ (m s : Int) (said : List (Option Int)), ds = [.int m, .int s, .tup (said.map od)] ∧ SaidOk m s said ∧ d = .non
def spWithin : List D → D → Prop := fun ds d => ∃ (x : Str) (v l h : Int), ds = [.str x, .int v, .int l, .int h] ∧ (l ≤ v ∧ v ≤ h) ∧ d = .non
def spMaking : List D → D → Prop := fun ds d => ∃ m s : Int, ds = [.int m, .int s] ∧ (1 ≤ m ∧ m ≤ 24) ∧ (1 ≤ s ∧ s ≤ 10) ∧ d = .non
def spScale : List D → D → Prop := fun ds d => ∃ s : Int, ds = [.int s] ∧ (1 ≤ s ∧ s ≤ 10) ∧ d = .non
def spFraction : List D → D → Prop := fun ds d => ∃ t b : Int, ds = [.int t, .int b] ∧ (0 ≤ t ∧ t < b ∧ b ≤ 100) ∧ d = .non
def spAwake : List D → D → Prop := fun ds d => ∃ said : List (Option Int), ds = [.tup (said.map od)] ∧ said.length ≤ 24 ∧ d = .lst ((ax said).map fun k => D.int (k : Nat))
def spMA : List D → D → Prop := fun ds d => ∃ (said : List (Option Int)) (ws : List Int), ds = [.tup (said.map od), .tup (ws.map D.int)] ∧ said.length ≤ 24 ∧ ws.length = said.length ∧ Wok ws ∧ d = .int (midA said ws)
def TnOk (m : Nat) (s : Int) (t : Tn) : Prop := t.1.length = m ∧ (∀ w ∈ t.1, w = none ∨ onS s w = true) ∧ 0 ≤ t.2 ∧ t.2 ≤ s
def spCharge : List D → D → Prop := fun ds d => ∃ (w : Option Int) (z : Int), ds = [od w, .int z] ∧ d = .int (chg w z)
def nxt (x : Int) : Int := (x * x + 48271 * x + 11) % 2147483647
def Lo (x : Int) : Prop := 0 ≤ x ∧ x < 2147483647
theorem nxt_lo (x : Int) : Lo (nxt x) := by unfold Lo nxt; omega
def seedF (c k : Int) : Int := nxt (nxt ((c % 2147483647 + 69621 * k * k + 5) % 2147483647))
theorem seed_lo (c k : Int) : Lo (seedF c k) := nxt_lo _
def spNext : List D → D → Prop := fun ds d => ∃ x : Int, ds = [.int x] ∧ (0 ≤ x ∧ x < 3000000000) ∧ d = .int (nxt x)
def spSeedS : List D → D → Prop := fun ds d => ∃ (ns : List Int) (k : Int), ds = [.scr (ns.map D.int), .int k] ∧ (0 ≤ k ∧ k ≤ 1000) ∧ d = .int (seedF (cellAt ns k) k)
def whatR (s : Int) (sl : Bool) (so k x : Int) : Option Int := if (sl && decide (x % 4 = 0)) = true then none else some (if 1 < x / 3 % (k % 7 + 3) then so else x / 16 % (s + 1))
def runR (s : Int) (sl : Bool) (so : Int) : Nat → Nat → Int → List (Option Int)
  | 0, _, _ => []
  | n + 1, k, x => whatR s sl so (k : Int) (nxt (x + (k : Int))) :: runR s sl so n (k + 1) (nxt (x + (k : Int)))
def turnR (m : Nat) (s : Int) (sl : Bool) (x : Int) : Tn := (runR s sl (x / 7 % (s + 1)) m 0 x, x / 7 % (s + 1))
def spTurnR : List D → D → Prop := fun ds d => ∃ (x : Int) (m : Nat) (s : Int) (sl : Bool), ds = [.int x, .int (m : Nat), .int s, .bl sl] ∧ Lo x ∧ m ≤ 24 ∧ 1 ≤ s ∧ d = tD (turnR m s sl x)
def fews : List Int := [3, 3, 3, 3, 3, 30, 3, 12]
def fewR (x : Int) : Int := fews.getD (x % 8).toNat 0
def mostR (m : Nat) : Int := if 8 < m then 20 else 60
def endR (ns : List Int) (st : Int) (m : Nat) : Int :=
  if st + mostR m < (if st + fewR (seedF (cellAt ns st) st) > (ns.length : Nat) then st + fewR (seedF (cellAt ns st) st) else (ns.length : Nat)) then st + mostR m else (if st + fewR (seedF (cellAt ns st) st) > (ns.length : Nat) then st + fewR (seedF (cellAt ns st) st) else (ns.length : Nat))
def turnsR (ns : List Int) (st : Int) (m : Nat) (s : Int) (sl : Bool) : List Tn := (List.range (endR ns st m - st).toNat).map fun j : Nat => turnR m s sl (seedF (cellAt ns (st + (j : Int))) (st + (j : Int)))
def spTurnsR : List D → D → Prop := fun ds d => ∃ (ns : List Int) (st : Int) (m : Nat) (s : Int) (sl : Bool), ds = [.scr (ns.map D.int), .int st, .int (m : Nat), .int s, .bl sl] ∧ ns.length ≤ 63 ∧ (0 ≤ st ∧ st ≤ 10) ∧ m ≤ 24 ∧ 1 ≤ s ∧ d = .tup ((turnsR ns st m s sl).map tD)
def preX : List D → Prop := fun ds => ∃ c : Int, ds = [.int c]
def relMany : List D → D → Prop := fun _ d => ∃ m : Nat, d = .int (m : Nat) ∧ 1 ≤ m ∧ m ≤ 24
def relScaleR : List D → D → Prop := fun _ d => ∃ s : Int, d = .int s ∧ 1 ≤ s ∧ s ≤ 10
theorem twosR {a b i : Int} (h : i = 0 ∨ i = 1) : atI [D.int a, D.int b] i = some (.int (if i = 0 then a else b)) := by
  rcases h with rfl | rfl <;> rfl
abbrev Tb := List (List Int)
def rwD (r : List Int) : D := .tup (r.map D.int)
def tbD (A : Tb) : D := .tup (A.map rwD)
def lA (l : Nat) (A : Tb) (a : Nat) : Int := if l = 0 then (A.getD l []).getD a 0 else (if lstI (A.getD (l - 1) []) < (A.getD l []).getD a 0 then lstI (A.getD (l - 1) []) else (A.getD l []).getD a 0)
def sW (l : Nat) (A : Tb) (said : List (Option Int)) (so : Int) : List Int := (List.range said.length).map fun a => lA l A a + chg (sat2 said a) so
def sB (A : Tb) (said : List (Option Int)) (so : Int) : Tb := (List.range A.length).map fun l => sW l A said so
def TbOk (c m : Nat) (A : Tb) : Prop := A.length = c ∧ ∀ r ∈ A, r.length = m
theorem tb_at {A : Tb} {k : Nat} (h : k < A.length) : atI (A.map rwD) (k : Int) = some (.tup ((A.getD k []).map D.int)) := by
  refine atI_nat ?_
  rw [List.getElem?_map, List.getElem?_eq_getElem h, List.getD_eq_getElem?_getD, List.getElem?_eq_getElem h]
  rfl
theorem TbOk.row {c m : Nat} {A : Tb} (h : TbOk c m A) {k : Nat} (hk : k < c) : (A.getD k []).length = m := by
  have hk2 : k < A.length := by rw [h.1]; exact hk
  rw [List.getD_eq_getElem?_getD, List.getElem?_eq_getElem hk2]
  exact h.2 _ (List.getElem_mem hk2)
theorem sB_ok {c m : Nat} {A : Tb} {said : List (Option Int)} {so : Int} (h : TbOk c m A) (hs : said.length = m) : TbOk c m (sB A said so) := by
  refine ⟨by unfold sB; rw [List.length_map, List.length_range]; exact h.1, fun r hr => ?_⟩
  obtain ⟨l, _, rfl⟩ := List.mem_map.mp hr
  unfold sW
  rw [List.length_map, List.length_range]
  exact hs
theorem sB_at {c m : Nat} {A : Tb} {said : List (Option Int)} {so : Int} (h : TbOk c m A) {k : Nat} (hk : k < c) : (sB A said so).getD k [] = sW k A said so := by
  unfold sB
  rw [List.getD_eq_getElem?_getD, List.getElem?_map, List.getElem?_range (by rw [h.1]; exact hk)]
  rfl
def z0 (m ch : Nat) : Tb := List.replicate (ch + 1) (List.replicate m 0)
theorem z0_ok (m ch : Nat) : TbOk (ch + 1) m (z0 m ch) := ⟨by unfold z0; rw [List.length_replicate], fun r hr => by rw [List.eq_of_mem_replicate hr, List.length_replicate]⟩
def stG (A : Tb) (ts : List Tn) (i : Nat) : Tb := (ts.take i).foldl (fun A t => sB A t.1 t.2) A
theorem stG_succ {A : Tb} {ts : List Tn} {i : Nat} {t : Tn} (h : ts[i]? = some t) : stG A ts (i + 1) = sB (stG A ts i) t.1 t.2 := by
  unfold stG
  rw [List.take_add_one, h, List.foldl_append]
  rfl
theorem stG_ok {c m : Nat} {A : Tb} {ts : List Tn} (h : TbOk c m A) (hs : ∀ t ∈ ts, t.1.length = m) : ∀ i, TbOk c m (stG A ts i)
  | 0 => h
  | i + 1 => by
    cases hq : ts[i]? with
    | none =>
      have e : stG A ts (i + 1) = stG A ts i := by
        unfold stG
        rw [List.take_add_one, hq, List.foldl_append]
        rfl
      rw [e]
      exact stG_ok h hs i
    | some t =>
      rw [stG_succ hq]
      exact sB_ok (stG_ok h hs i) (hs t (List.mem_of_getElem? hq))
def tabG (m ch : Nat) (ts : List Tn) : List Tb := (List.range ts.length).map fun k => stG (z0 m ch) ts (k + 1)
def spLeast : List D → D → Prop := fun ds d => ∃ (l : Int) (ln a c m : Nat) (A : Tb), ds = [.int l, tbD A, .int (a : Nat)] ∧ l = (ln : Nat) ∧ TbOk c m A ∧ ln < c ∧ a < m ∧ c ≤ 63 ∧ m ≤ 24 ∧ d = .int (lA ln A a)
def spSW : List D → D → Prop := fun ds d => ∃ (l : Int) (ln c m : Nat) (A : Tb) (said : List (Option Int)) (so : Int), ds = [.int l, tbD A, .tup (said.map od), .int so] ∧ l = (ln : Nat) ∧ TbOk c m A ∧ ln < c ∧ c ≤ 63 ∧ said.length = m ∧ m ≤ 24 ∧ d = rwD (sW ln A said so)
def spSB : List D → D → Prop := fun ds d => ∃ (c m : Nat) (A : Tb) (said : List (Option Int)) (so : Int), ds = [tbD A, .tup (said.map od), .int so] ∧ TbOk c m A ∧ c ≤ 63 ∧ said.length = m ∧ m ≤ 24 ∧ d = tbD (sB A said so)
def spTable : List D → D → Prop := fun ds d => ∃ (m ch : Nat) (ts : List Tn), ds = [.int (m : Nat), .tup (ts.map tD), .int (ch : Nat)] ∧ 1 ≤ m ∧ m ≤ 24 ∧ ch ≤ 60 ∧ (∀ t ∈ ts, t.1.length = m) ∧ ts.length ≤ 63 ∧ d = .tup ((tabG m ch ts).map tbD)
theorem tb_np (A : Tb) : npD (tbD A) = true := npDs_map (f := rwD) (fun r => npDs_ints _) _
theorem lst_rep {m : Nat} (h : 1 ≤ m) : lstI (List.replicate m 0) = 0 := List.eq_of_mem_replicate (lstI_mem (fun e => by rw [List.replicate_eq_nil_iff] at e; omega))
theorem rep_get (m a : Nat) : (List.replicate m (0 : Int)).getD a 0 = 0 := by
  rw [List.getD_eq_getElem?_getD, List.getElem?_replicate]
  split <;> rfl
theorem z0_get {m ch k : Nat} (h : k < ch + 1) : (z0 m ch).getD k [] = List.replicate m 0 := by
  unfold z0
  rw [List.getD_eq_getElem?_getD, List.getElem?_replicate, if_pos h]
  rfl
def AB (m ch : Nat) : List Tn → Tb
  | [] => z0 m ch
  | t :: r => sB (AB m ch r) t.1 t.2
def Good (m : Nat) (r : List Tn) : Prop := ∀ t ∈ r, t.1.length = m
theorem AB_ok {m ch : Nat} : ∀ {r : List Tn}, Good m r → TbOk (ch + 1) m (AB m ch r)
  | [], _ => z0_ok m ch
  | t :: r, h => sB_ok (AB_ok fun u hu => h u (List.mem_cons_of_mem _ hu)) (h t List.mem_cons_self)
theorem stG_AB (m ch : Nat) (ts : List Tn) : ∀ j, j ≤ ts.length → stG (z0 m ch) ts j = AB m ch (ts.take j).reverse
  | 0, _ => by rw [List.take_zero]; rfl
  | j + 1, h => by
    have hq : ts[j]? = some ts[j] := List.getElem?_eq_getElem (by omega)
    rw [stG_succ hq, stG_AB m ch ts j (by omega), List.take_add_one, hq, List.reverse_append]
    rfl
def ent (A : Tb) (l a : Nat) : Int := (A.getD l []).getD a 0
theorem ent_cons {m ch l a : Nat} {t : Tn} {r : List Tn} (h : Good m (t :: r)) (hl : l < ch + 1) (ha : a < m) : ent (AB m ch (t :: r)) l a = lA l (AB m ch r) a + chg (sat2 t.1 a) t.2 := by
  unfold ent
  show ((sB (AB m ch r) t.1 t.2).getD l []).getD a 0 = _
  rw [sB_at (AB_ok fun u hu => h u (List.mem_cons_of_mem _ hu)) hl]
  unfold sW
  rw [List.getD_eq_getElem?_getD, List.getElem?_map, List.getElem?_range (by rw [h t List.mem_cons_self]; exact ha)]
  rfl
theorem lA_eq (l : Nat) (A : Tb) (a : Nat) : lA l A a = if 0 < l ∧ lstI (A.getD (l - 1) []) < ent A l a then lstI (A.getD (l - 1) []) else ent A l a := by
  unfold lA ent
  by_cases h : l = 0
  · rw [if_pos h, if_neg (by omega)]
  · rw [if_neg h]
    by_cases h2 : lstI (A.getD (l - 1) []) < (A.getD l []).getD a 0
    · rw [if_pos h2, if_pos ⟨by omega, h2⟩]
    · rw [if_neg h2, if_neg (fun z => h2 z.2)]
theorem lA_z0 {m ch l : Nat} (a : Nat) (hm : 1 ≤ m) (hl : l < ch + 1) : lA l (z0 m ch) a = 0 := by
  unfold lA
  rw [z0_get hl, rep_get]
  split
  · rfl
  · rw [z0_get (by omega), lst_rep hm]
    rfl
def plc (r : List Int) : Nat := r.idxOf (lstI r)
theorem plc_lt {r : List Int} (h : r ≠ []) : plc r < r.length := List.idxOf_lt_length_iff.mpr (lstI_mem h)
theorem plc_at {r : List Int} (h : r ≠ []) : r.getD (plc r) 0 = lstI r := by
  rw [List.getD_eq_getElem?_getD, List.getElem?_eq_getElem (plc_lt h)]
  exact List.getElem_idxOf (plc_lt h)
def bkR (m ch : Nat) : List Tn → Nat → Nat → List Nat
  | [], _, a => [a]
  | t :: r, l, a => a :: (if 0 < l ∧ lstI ((AB m ch (t :: r)).getD (l - 1) []) < ent (AB m ch (t :: r)) l a then bkR m ch r (l - 1) (plc ((AB m ch (t :: r)).getD (l - 1) [])) else bkR m ch r l a)
def payR : List Tn → List Nat → Int
  | t :: r, a :: p => chg (sat2 t.1 a) t.2 + payR r p
  | _, _ => 0
def chsR : List Nat → Nat
  | a :: b :: p => (if a = b then 0 else 1) + chsR (b :: p)
  | _ => 0
theorem bk_head (m ch : Nat) (r : List Tn) (l a : Nat) : ∃ p, bkR m ch r l a = a :: p := by cases r <;> exact ⟨_, rfl⟩
theorem bk_len (m ch : Nat) : ∀ (r : List Tn) (l a : Nat), (bkR m ch r l a).length = r.length + 1
  | [], _, _ => rfl
  | t :: r, l, a => by
    unfold bkR
    rw [List.length_cons, List.length_cons]
    split
    · rw [bk_len m ch r]
    · rw [bk_len m ch r]
theorem row_ne {m ch l : Nat} {r : List Tn} (h : Good m r) (hm : 1 ≤ m) (hl : l < ch + 1) : (AB m ch r).getD l [] ≠ [] ∧ ((AB m ch r).getD l []).length = m := by
  have h1 := (AB_ok (ch := ch) h).row hl
  exact ⟨fun e => by rw [e] at h1; have : (0 : Nat) = m := h1; omega, h1⟩
theorem good_tl {m : Nat} {t : Tn} {r : List Tn} (h : Good m (t :: r)) : Good m r := fun u hu => h u (List.mem_cons_of_mem _ hu)
theorem bk_lt {m ch : Nat} (hm : 1 ≤ m) : ∀ {r : List Tn} {l a : Nat}, Good m r → l < ch + 1 → a < m → ∀ x ∈ bkR m ch r l a, x < m
  | [], l, a, _, _, ha, x, hx => by rw [List.mem_singleton.mp hx]; exact ha
  | t :: r, l, a, h, hl, ha, x, hx => by
    unfold bkR at hx
    rcases List.mem_cons.mp hx with rfl | hx
    · exact ha
    · split at hx
      · rename_i hc
        have h1 := row_ne (l := l - 1) (ch := ch) h hm (by omega)
        exact bk_lt hm (good_tl h) (by omega) (by have := plc_lt h1.1; omega) x hx
      · exact bk_lt hm (good_tl h) hl ha x hx
theorem bk_chs (m ch : Nat) : ∀ (r : List Tn) (l a : Nat), chsR (bkR m ch r l a) ≤ l
  | [], l, a => Nat.zero_le _
  | t :: r, l, a => by
    unfold bkR
    split
    · rename_i hc
      have ih := bk_chs m ch r (l - 1) (plc ((AB m ch (t :: r)).getD (l - 1) []))
      obtain ⟨p, e⟩ := bk_head m ch r (l - 1) (plc ((AB m ch (t :: r)).getD (l - 1) []))
      rw [e] at ih ⊢
      unfold chsR
      split <;> omega
    · have ih := bk_chs m ch r l a
      obtain ⟨p, e⟩ := bk_head m ch r l a
      rw [e] at ih ⊢
      unfold chsR
      rw [if_pos rfl]
      omega
theorem bk_pay {m ch : Nat} (hm : 1 ≤ m) : ∀ {r : List Tn} {t : Tn} {l a : Nat}, Good m (t :: r) → l < ch + 1 → a < m → payR (t :: r) (bkR m ch r l a) = ent (AB m ch (t :: r)) l a
  | [], t, l, a, h, hl, ha => by
    rw [ent_cons h hl ha]
    show chg (sat2 t.1 a) t.2 + 0 = lA l (z0 m ch) a + _
    rw [lA_z0 a hm hl]
    omega
  | u :: r, t, l, a, h, hl, ha => by
    rw [ent_cons h hl ha, lA_eq]
    unfold bkR
    show chg (sat2 t.1 a) t.2 + payR (u :: r) _ = _
    split
    · rename_i hc
      have h1 := row_ne (l := l - 1) (ch := ch) (good_tl h) hm (by omega)
      rw [bk_pay hm (good_tl h) (by omega) (by have := plc_lt h1.1; omega)]
      show _ + ((AB m ch (u :: r)).getD (l - 1) []).getD (plc _) 0 = _
      rw [plc_at h1.1]
      omega
    · rw [bk_pay hm (good_tl h) hl ha]
      omega
theorem best_le {m ch : Nat} (hm : 1 ≤ m) : ∀ {r : List Tn} {t : Tn} {p : List Nat} {l a : Nat}, Good m (t :: r) → p.length = r.length → (∀ x ∈ a :: p, x < m) → chsR (a :: p) ≤ l → l < ch + 1 → ent (AB m ch (t :: r)) l a ≤ payR (t :: r) (a :: p)
  | [], t, [], l, a, h, _, hx, _, hl => by
    rw [ent_cons h hl (hx a List.mem_cons_self)]
    show lA l (z0 m ch) a + _ ≤ chg (sat2 t.1 a) t.2 + 0
    rw [lA_z0 a hm hl]
    omega
  | u :: r, t, b :: p, l, a, h, hp, hx, hc, hl => by
    rw [ent_cons h hl (hx a List.mem_cons_self), lA_eq]
    show _ ≤ chg (sat2 t.1 a) t.2 + payR (u :: r) (b :: p)
    have hx2 : ∀ x ∈ b :: p, x < m := fun x h => hx x (List.mem_cons_of_mem _ h)
    have hl2 : p.length = r.length := by simpa using hp
    unfold chsR at hc
    by_cases e : a = b
    · subst e
      rw [if_pos rfl] at hc
      have ih := best_le hm (l := l) (ch := ch) (good_tl h) hl2 hx2 (by omega) hl
      split
      · rename_i hk; have := hk.2; omega
      · omega
    · rw [if_neg e] at hc
      have ih := best_le hm (l := l - 1) (ch := ch) (good_tl h) hl2 hx2 (by omega) (by omega)
      have h1 := row_ne (l := l - 1) (ch := ch) (good_tl h) hm (by omega)
      have hb := hx2 b List.mem_cons_self
      have h2 : lstI ((AB m ch (u :: r)).getD (l - 1) []) ≤ ent (AB m ch (u :: r)) (l - 1) b := by
        unfold ent
        rw [List.getD_eq_getElem?_getD (l := (AB m ch (u :: r)).getD (l - 1) []), List.getElem?_eq_getElem (by rw [h1.2]; exact hb)]
        exact lstI_le (List.getElem_mem _)
      split
      · omega
      · rename_i hk
        have : ¬ (lstI ((AB m ch (u :: r)).getD (l - 1) []) < ent (AB m ch (u :: r)) l a) := fun z => hk ⟨by omega, z⟩
        omega
def pyF (q : Tn × Nat) : Int := chg (sat2 q.1.1 q.2) q.1.2
def payF (ts : List Tn) (p : List Nat) : Int := sm pyF (ts.zip p)
theorem payR_sm : ∀ (r : List Tn) (p : List Nat), payR r p = sm pyF (r.zip p)
  | [], p => by cases p <;> rfl
  | t :: r, [] => rfl
  | t :: r, a :: p => by
    show _ + payR r p = pyF (t, a) + sm pyF (r.zip p)
    rw [payR_sm r p]
    rfl
theorem zip_rev {α β : Type} : ∀ (a : List α) (b : List β), a.length = b.length → a.reverse.zip b.reverse = (a.zip b).reverse
  | [], [], _ => rfl
  | x :: a, y :: b, h => by
    rw [List.reverse_cons, List.reverse_cons, List.zip_append (by rw [List.length_reverse, List.length_reverse]; simpa using h), zip_rev a b (by simpa using h), show (x :: a).zip (y :: b) = (x, y) :: a.zip b from rfl, List.reverse_cons]
    rfl
theorem pay_rev {ts : List Tn} {p : List Nat} (h : ts.length = p.length) : payR ts.reverse p.reverse = payF ts p := by
  rw [payR_sm, zip_rev ts p h]
  exact sm_perm (List.reverse_perm _)
theorem chs_snoc : ∀ (p : List Nat) (b a : Nat), chsR (p ++ [b, a]) = chsR (p ++ [b]) + (if b = a then 0 else 1)
  | [], b, a => by show (if b = a then 0 else 1) + 0 = 0 + _; omega
  | [x], b, a => by
    show (if x = b then 0 else 1) + ((if b = a then 0 else 1) + 0) = (if x = b then 0 else 1) + 0 + _
    omega
  | x :: y :: p, b, a => by
    have ih := chs_snoc (y :: p) b a
    show (if x = y then 0 else 1) + chsR (y :: (p ++ [b, a])) = (if x = y then 0 else 1) + chsR (y :: (p ++ [b])) + _
    have ih : chsR (y :: (p ++ [b, a])) = chsR (y :: (p ++ [b])) + (if b = a then 0 else 1) := ih
    omega
theorem chs_rev : ∀ p : List Nat, chsR p.reverse = chsR p
  | [] => rfl
  | [a] => rfl
  | a :: b :: p => by
    have ih := chs_rev (b :: p)
    rw [List.reverse_cons] at ih
    rw [List.reverse_cons, List.reverse_cons, List.append_assoc]
    show chsR (p.reverse ++ [b, a]) = _
    rw [chs_snoc, ih]
    show _ = (if a = b then 0 else 1) + chsR (b :: p)
    by_cases h : a = b
    · rw [if_pos h, if_pos h.symm]; omega
    · rw [if_neg h, if_neg (fun z => h z.symm)]; omega
def bkL (m ch : Nat) (ts : List Tn) : List Nat := match ts.reverse with
  | [] => []
  | t :: r => bkR m ch r ch (plc ((AB m ch (t :: r)).getD ch []))
def bstV (m ch : Nat) (ts : List Tn) : Int := if ts = [] then 0 else lstI ((AB m ch ts.reverse).getD ch [])
def bstR (m ch : Nat) (ts : List Tn) : List Nat := (bkL m ch ts).reverse
structure Best (m ch : Nat) (ts : List Tn) (p : List Nat) (v : Int) : Prop where
  len : p.length = ts.length
  lt : ∀ x ∈ p, x < m
  chs : chsR p ≤ ch
  pay : v = payF ts p
  le : ∀ q : List Nat, q.length = ts.length → (∀ x ∈ q, x < m) → chsR q ≤ ch → v ≤ payF ts q
theorem best_ok {m ch : Nat} {ts : List Tn} (hm : 1 ≤ m) (h : Good m ts) : Best m ch ts (bstR m ch ts) (bstV m ch ts) := by
  have hg : Good m ts.reverse := fun t ht => h t (List.mem_reverse.mp ht)
  have hl : ts.reverse.length = ts.length := List.length_reverse
  have hn : ts = [] ↔ ts.reverse = [] := by rw [List.reverse_eq_nil_iff]
  have hpay : ∀ q : List Nat, q.length = ts.length → payF ts q = payR ts.reverse q.reverse := fun q hq => (pay_rev hq.symm).symm
  unfold bstR bstV bkL
  by_cases e : ts = []
  · subst e
    exact ⟨rfl, fun x hx => (by cases hx), Nat.zero_le _, rfl, fun q hq _ _ => by
      cases q with
      | nil => exact Int.le_refl _
      | cons a q => cases hq⟩
  · rw [if_neg e]
    generalize hr : ts.reverse = rts at hg hl hn hpay
    cases rts with
    | nil => exact absurd (hn.mpr rfl) e
    | cons t r =>
      have h1 := row_ne (l := ch) (ch := ch) hg hm (by omega)
      have hpl : plc ((AB m ch (t :: r)).getD ch []) < m := by have := plc_lt h1.1; omega
      have hbl := bk_len m ch r ch (plc ((AB m ch (t :: r)).getD ch []))
      have hlen : (bkR m ch r ch (plc ((AB m ch (t :: r)).getD ch []))).reverse.length = ts.length := by rw [List.length_reverse, hbl]; exact hl
      refine ⟨hlen, fun x hx => bk_lt hm (good_tl hg) (by omega) hpl x (List.mem_reverse.mp hx), by rw [chs_rev]; exact bk_chs m ch r ch _, ?_, fun q hq hx hc => ?_⟩
      · rw [hpay _ hlen, List.reverse_reverse, bk_pay hm hg (by omega) hpl]
        show _ = ((AB m ch (t :: r)).getD ch []).getD (plc _) 0
        rw [plc_at h1.1]
      · rw [hpay q hq]
        have hql : q.reverse.length = (t :: r).length := by rw [List.length_reverse, hq, ← hl]
        have hqx : ∀ x ∈ q.reverse, x < m := fun x h => hx x (List.mem_reverse.mp h)
        rw [← chs_rev] at hc
        cases hqr : q.reverse with
        | nil => rw [hqr] at hql; cases hql
        | cons a p =>
          rw [hqr] at hql hqx hc
          have ih := best_le hm (l := ch) (ch := ch) hg (by simpa using hql) hqx hc (by omega)
          have ha := hqx a List.mem_cons_self
          have h2 : lstI ((AB m ch (t :: r)).getD ch []) ≤ ent (AB m ch (t :: r)) ch a := by
            unfold ent
            rw [List.getD_eq_getElem?_getD (l := (AB m ch (t :: r)).getD ch []), List.getElem?_eq_getElem (by rw [h1.2]; exact ha)]
            exact lstI_le (List.getElem_mem _)
          omega
def nD (k : Nat) : D := .int (k : Nat)
def spPlc : List D → D → Prop := fun ds d => ∃ r : List Int, ds = [rwD r] ∧ r ≠ [] ∧ d = nD (plc r)
def spBack : List D → D → Prop := fun ds d => ∃ (m ch : Nat) (ts : List Tn), ds = [.tup ((tabG m ch ts).map tbD), .int (ch : Nat)] ∧ 1 ≤ m ∧ ch ≤ 60 ∧ Good m ts ∧ ts ≠ [] ∧ ts.length ≤ 63 ∧ d = .lst ((bkL m ch ts).map nD)
def spBest : List D → D → Prop := fun ds d => ∃ (m ch : Nat) (ts : List Tn), ds = [.int (m : Nat), .tup (ts.map tD), .int (ch : Nat)] ∧ 1 ≤ m ∧ m ≤ 24 ∧ ch ≤ 60 ∧ Good m ts ∧ ts.length ≤ 63 ∧ d = .tup [.tup ((bstR m ch ts).map nD), .int (bstV m ch ts)]
theorem tab_len (m ch : Nat) (ts : List Tn) : (tabG m ch ts).length = ts.length := by unfold tabG; rw [List.length_map, List.length_range]
theorem cutA_init {α : Type} (a : List α) : cutA a none (some (-1)) = a.dropLast := by
  unfold cutA
  have e1 : HT.sIx a.length 0 none = 0 := rfl
  have e2 : HT.sIx a.length a.length (some (-1)) = a.length - 1 := by
    show (if (-1 : Int) < 0 then ((-1 : Int) + (a.length : Int)).toNat else min (-1 : Int).toNat a.length) = _
    rw [if_pos (by decide)]
    omega
  rw [e1, e2, List.drop_zero, List.dropLast_eq_take]
  rfl
theorem at_last {α : Type} {xs : List α} {v : α} (h : xs.getLast? = some v) : atI xs (-1) = some v := by
  obtain ⟨ys, rfl⟩ := List.getLast?_eq_some_iff.mp h
  exact atI_last ys v
theorem tab_last {m ch : Nat} {ts : List Tn} (h : ts ≠ []) : atI ((tabG m ch ts).map tbD) (-1) = some (.tup ((AB m ch ts.reverse).map rwD)) := by
  have hp : 0 < ts.length := List.length_pos_iff.mpr h
  refine at_last ?_
  rw [List.getLast?_map, List.getLast?_eq_getElem?, tab_len]
  unfold tabG
  rw [List.getElem?_map, List.getElem?_range (by omega)]
  show some (tbD (stG (z0 m ch) ts (ts.length - 1 + 1))) = _
  rw [show ts.length - 1 + 1 = ts.length by omega, stG_AB m ch ts _ (Nat.le_refl _), List.take_length]
  rfl
theorem tab_walk {m ch : Nat} {ts : List Tn} {i : Nat} (hi : i + 1 < ts.length) : ((tabG m ch ts).dropLast.reverse)[i]? = some (AB m ch (ts.reverse.drop (i + 1))) := by
  have hl : (tabG m ch ts).dropLast.length = ts.length - 1 := by rw [List.length_dropLast, tab_len]
  rw [List.getElem?_reverse (by omega), hl, List.getElem?_dropLast, tab_len, if_pos (by omega)]
  unfold tabG
  rw [List.getElem?_map, List.getElem?_range (by omega)]
  show some (stG (z0 m ch) ts (ts.length - 1 - 1 - i + 1)) = _
  rw [show ts.length - 1 - 1 - i + 1 = ts.length - (i + 1) by omega, stG_AB m ch ts _ (by omega), List.reverse_take, show ts.length - (ts.length - (i + 1)) = i + 1 by omega]
def spWh : List D → D → Prop := fun ds d => ∃ i : Int, ds = [.int i] ∧ d = .bl true
def spPaid : List D → D → Prop := fun ds d => ∃ (m : Nat) (ts : List Tn) (p : List Nat) (dr : D), ds = [.tup (ts.map tD), dr] ∧ LF dr (p.map nD) ∧ Good m ts ∧ (∀ x ∈ p, x < m) ∧ d = .int (payF ts p)
def spChs : List D → D → Prop := fun ds d => ∃ (p : List Nat) (dr : D), ds = [dr] ∧ LF dr (p.map nD) ∧ p.length ≤ 63 ∧ d = .int ((chsR p : Nat) : Int)
theorem n_at {p : List Nat} {k : Nat} (h : k < p.length) : atI (p.map nD) (k : Int) = some (.int ((p.getD k 0 : Nat) : Int)) := by
  refine atI_nat ?_
  rw [List.getElem?_map, List.getElem?_eq_getElem h]
  simp [List.getD, h, nD]
theorem s_at {said : List (Option Int)} {k : Nat} (h : k < said.length) : atI (said.map od) (k : Int) = some (od (sat2 said k)) := by
  refine atI_nat ?_
  rw [List.getElem?_map, List.getElem?_eq_getElem h]
  unfold sat2
  rw [List.getElem?_eq_getElem h]
  rfl
def chH (p : List Nat) (j : Nat) : Option D := if (!decide (((p.getD (1 + j) 0 : Nat) : Int) = ((p.getD j 0 : Nat) : Int))) = true then some (.int (1 + (j : Nat))) else none
theorem chs_count : ∀ p : List Nat, ((List.range (p.length - 1)).filterMap (chH p)).length = chsR p
  | [] => rfl
  | [a] => rfl
  | a :: b :: p => by
    have ih := chs_count (b :: p)
    have e1 : (a :: b :: p).length - 1 = ((b :: p).length - 1) + 1 := rfl
    rw [e1, List.range_succ_eq_map, List.filterMap_cons]
    have e2 : ((List.map Nat.succ (List.range ((b :: p).length - 1))).filterMap (chH (a :: b :: p))).length = ((List.range ((b :: p).length - 1)).filterMap (chH (b :: p))).length := by
      rw [List.filterMap_map]
      generalize List.range ((b :: p).length - 1) = l
      induction l with
      | nil => rfl
      | cons j l ihl =>
        have e : ∀ {x : Option D} {y : Option D}, (x.isSome = y.isSome) → ∀ (f g : Nat → Option D), (l.filterMap f).length = (l.filterMap g).length → f j = x → g j = y → ((j :: l).filterMap f).length = ((j :: l).filterMap g).length := fun {x y} hxy f g hl hf hg => by
          rw [List.filterMap_cons, List.filterMap_cons, hf, hg]
          cases x <;> cases y <;> simp_all
        refine e ?_ _ _ ihl rfl rfl
        show (chH (a :: b :: p) (j + 1)).isSome = (chH (b :: p) j).isSome
        unfold chH
        rw [show 1 + (j + 1) = (1 + j) + 1 by omega]
        show (if (!decide ((((b :: p).getD (1 + j) 0 : Nat) : Int) = (((b :: p).getD j 0 : Nat) : Int))) = true then some _ else none).isSome = _
        split <;> rfl
    have e3 : chH (a :: b :: p) 0 = if a = b then none else some (.int (1 + ((0 : Nat) : Int))) := by
      unfold chH
      show (if (!decide (((b : Nat) : Int) = ((a : Nat) : Int))) = true then _ else _) = _
      by_cases h : a = b
      · rw [if_pos h, decide_eq_true (by omega)]; rfl
      · rw [if_neg h, decide_eq_false (by omega)]; rfl
    rw [e3]
    show _ = (if a = b then 0 else 1) + chsR (b :: p)
    by_cases h : a = b
    · rw [if_pos h, if_pos h]
      show ((List.map Nat.succ _).filterMap _).length = _
      rw [e2, ih]; omega
    · rw [if_neg h, if_neg h]
      show (_ :: (List.map Nat.succ _).filterMap _).length = _
      rw [List.length_cons, e2, ih]; omega
theorem plL_n (xs : List Nat) : plD (.lst (xs.map nD)) = true := plDs_map fun _ _ => rfl
def whatQ (s : Int) (sl : Bool) (x : Int) : Option Int := if (sl && decide (x % 4 = 0)) = true then none else some (x / 16 % (s + 1))
def runQ (s : Int) (sl : Bool) : Nat → Nat → Int → List (Option Int)
  | 0, _, _ => []
  | n + 1, k, x => whatQ s sl (nxt (x + (k : Int))) :: runQ s sl n (k + 1) (nxt (x + (k : Int)))
theorem runQ_len (s : Int) (sl : Bool) : ∀ (n k : Nat) (x : Int), (runQ s sl n k x).length = n
  | 0, _, _ => rfl
  | n + 1, k, x => by unfold runQ; rw [List.length_cons, runQ_len s sl n]
def turnQ (m : Nat) (s : Int) (sl : Bool) (x : Int) : Tn := (runQ s sl m 0 x, x / 7 % (s + 1))
def spTurnQ : List D → D → Prop := fun ds d => ∃ (x : Int) (m : Nat) (s : Int) (sl : Bool), ds = [.int x, .int (m : Nat), .int s, .bl sl] ∧ Lo x ∧ m ≤ 24 ∧ 1 ≤ s ∧ d = tD (turnQ m s sl x)
def moreR (m : Nat) (r : List Nat) : List (List Nat) := (List.range m).map fun k => r ++ [k]
def allR (m : Nat) : Nat → List (List Nat)
  | 0 => [[]]
  | n + 1 => (allR m n).flatMap (moreR m)
def rD (r : List Nat) : D := .lst (r.map nD)
theorem more_len (m : Nat) (r : List Nat) : (moreR m r).length = m := by unfold moreR; rw [List.length_map, List.length_range]
theorem flat_len {m : Nat} : ∀ l : List (List Nat), (l.flatMap (moreR m)).length = l.length * m
  | [] => by simp
  | r :: l => by rw [List.flatMap_cons, List.length_append, flat_len l, more_len, List.length_cons, Nat.succ_mul]; omega
theorem all_len {m : Nat} (hm : m ≤ 3) : ∀ n, (allR m n).length ≤ 3 ^ n
  | 0 => Nat.le_refl _
  | n + 1 => by
    show ((allR m n).flatMap (moreR m)).length ≤ _
    rw [flat_len, Nat.pow_succ]
    exact Nat.mul_le_mul (all_len hm n) hm
theorem all_mem {m : Nat} : ∀ {n : Nat} {p : List Nat}, p ∈ allR m n ↔ p.length = n ∧ ∀ x ∈ p, x < m
  | 0, p => by
    show p ∈ [[]] ↔ _
    rw [List.mem_singleton]
    constructor
    · rintro rfl; exact ⟨rfl, fun x hx => by cases hx⟩
    · rintro ⟨h, _⟩; exact List.length_eq_zero_iff.mp h
  | n + 1, p => by
    show p ∈ (allR m n).flatMap (moreR m) ↔ _
    rw [List.mem_flatMap]
    constructor
    · rintro ⟨r, hr, hp⟩
      obtain ⟨k, hk, rfl⟩ := List.mem_map.mp hp
      obtain ⟨h1, h2⟩ := all_mem.mp hr
      refine ⟨by rw [List.length_append, h1]; rfl, fun x hx => ?_⟩
      rcases List.mem_append.mp hx with q | q
      · exact h2 x q
      · rw [List.mem_singleton.mp q]; exact List.mem_range.mp hk
    · rintro ⟨h1, h2⟩
      have hne : p ≠ [] := fun e => by rw [e] at h1; cases h1
      refine ⟨p.dropLast, all_mem.mpr ⟨by rw [List.length_dropLast, h1]; rfl, fun x hx => h2 x (List.dropLast_subset p hx)⟩, List.mem_map.mpr ⟨p.getLast hne, List.mem_range.mpr (h2 _ (List.getLast_mem hne)), List.dropLast_concat_getLast hne⟩⟩
theorem rows_np (l : List (List Nat)) : npDs (l.map rD) = true := npDs_map (f := rD) (fun r => npDs_map (f := nD) (fun _ => rfl) r) l
theorem rows_pl (l : List (List Nat)) : plDs (l.map rD) = true := plDs_map (f := rD) fun r _ => plDs_map (f := nD) fun _ _ => rfl
theorem dp_n : ∀ p : List Nat, dpDs (p.map nD) = 0
  | [] => rfl
  | a :: p => by show max 0 (dpDs (p.map nD)) = 0; rw [dp_n p]; rfl
theorem eq_self (p : List Nat) : eqD (rD p) (rD p) = true := by
  have e : p.map nD = (p.map fun k => ((k : Nat) : Int)).map D.int := by rw [List.map_map]; rfl
  show eqD (.lst (p.map nD)) (.lst (p.map nD)) = true
  rw [e, eqD_ints, decide_eq_true rfl]
def spRows : List D → D → Prop := fun ds d => ∃ m n : Nat, ds = [.int (m : Nat), .int (n : Nat)] ∧ m ≤ 3 ∧ n ≤ 6 ∧ d = .lst ((allR m n).map rD)
def spBestL : List D → D → Prop := fun ds d => ∃ (m ch : Nat) (ts : List Tn), ds = [.int (m : Nat), .tup (ts.map tD), .int (ch : Nat)] ∧ 1 ≤ m ∧ m ≤ 3 ∧ ch ≤ 5 ∧ Good m ts ∧ ts.length ≤ 6 ∧ d = .bl true
theorem six_at {m : Nat} (h1 : 1 ≤ m) (h3 : m ≤ 3) : atI [D.int 6, D.int 6, D.int 5] (((m : Nat) : Int) - 1) = some (.int (if m = 3 then 5 else 6)) := by
  have : m = 1 ∨ m = 2 ∨ m = 3 := by omega
  rcases this with rfl | rfl | rfl <;> rfl
seal EvP Ev EvPs Ex Exs EvT EvI
section
variable {P : Program} {w : World} {K : PySem.W.Frag} {mg : Str → Option Value} {base : Heap}
theorem ok_charge {f : Addr} {fd : FuncData} (T : Txt mg) (Fn : Fun K "charge" "charge" s_charge f fd) (hm : mg "charge" = some (.ref f)) (hb : Binds K fd ["what", "so"] []) : DefOk P w K mg base 1 "charge" (pureSp spCharge) := by
  refine okD (k := 0) Fn sc_charge hm hb (fun ds O R h => ?_) (fun cdv A outer s H E ds O R hr h => ?_)
  · obtain ⟨_, ⟨_, _, rfl, _⟩, _⟩ := h; rfl
  · obtain ⟨d, ⟨w, z, rfl, rfl⟩, hR⟩ := h
    cases w with
    | none =>
      refine xs_cons (x_if (et_cmp (ev_var 0) ev_non cmp_is) (fun hk => ?_) (fun hk => ?_))
      · exact xs_cons (x_ret (EvP.ev ev_int hR))
      · cases hk
    | some w =>
      refine xs_cons (x_if (et_cmp (ev_var 0) ev_non cmp_is) (fun hk => ?_) (fun hk => ?_))
      · cases hk
      · exact xs_nil (xs_cons (x_ret (EvP.ev (ev_callB T.b_abs (es_cons (ev_bin (ev_var 0) (ev_var 1) o_sub) es_nil) c_abs) hR)))
theorem ok_least_ahead {f : Addr} {fd : FuncData} (T : Txt mg) (Fn : Fun K "least_ahead" "least_ahead" s_least_ahead f fd) (hm : mg "least_ahead" = some (.ref f)) (hb : Binds K fd ["left", "ahead", "adviser"] []) : DefOk P w K mg base 1 "least_ahead" (pureSp spLeast) := by
  refine okD (k := 0) Fn sc_least_ahead hm hb (fun ds O R h => ?_) (fun cdv A outer s H E ds O R hr h => ?_)
  · obtain ⟨_, ⟨_, _, _, _, _, _, rfl, _⟩, _⟩ := h; rfl
  · obtain ⟨d, ⟨l, ln, a, c, m, A, rfl, rfl, hA, hln, ham, hc, hm, rfl⟩, hR⟩ := h
    have hAl := hA.1
    have hr1 := hA.row hln
    refine xs_cons (x_set 3 (EvP.ev (ev_ixT (ev_ixT (ev_var 1) (ev_var 0) (tb_at (by omega))) (ev_var 2) (at_ws (by omega))) ?_) sc_least_ahead.nd)
    unfold lA at hR
    refine xs_cons (x_if (et_cmp (ev_var 0) ev_int cmp_eqI) (fun hk => ?_) (fun hk => xs_nil ?_))
    · have hk := of_decide_eq_true hk
      rw [if_pos (by omega)] at hR
      exact xs_cons (x_ret (EvP.ev (ev_var 3) hR))
    · have hk := of_decide_eq_false hk
      rw [if_neg (by omega)] at hR
      have e : ((ln : Nat) : Int) - 1 = ((ln - 1 : Nat) : Int) := by omega
      have hr2 := hA.row (k := ln - 1) (by omega)
      have h0 : A.getD (ln - 1) [] ≠ [] := fun e => by rw [e] at hr2; have : (0 : Nat) = m := hr2; omega
      exact xs_cons (x_ret (EvP.ev (ev_callB T.b_min (es_cons (ev_var 3) (es_cons (ev_callB T.b_min (es_cons (ev_ixT (ev_var 1) (ev_bin (ev_var 0) ev_int o_sub) (by rw [e]; exact tb_at (by omega))) es_nil) (c_minL (Or.inr rfl) h0)) es_nil)) c_min) hR))
theorem ok_sums_with {f : Addr} {fd : FuncData} (T : Txt mg) (Fn : Fun K "sums_with" "sums_with" s_sums_with f fd) (hm : mg "sums_with" = some (.ref f)) (hb : Binds K fd ["left", "ahead", "said", "so"] []) (F_least_ahead : DefOk P w K mg base 1 "least_ahead" (pureSp spLeast)) (F_charge : DefOk P w K mg base 1 "charge" (pureSp spCharge)) : DefOk P w K mg base 2 "sums_with" (pureSp spSW) := by
  refine okD (k := 1) Fn sc_sums_with hm hb (fun ds O R h => ?_) (fun cdv A outer s H E ds O R hr h => ?_)
  · obtain ⟨_, ⟨_, _, _, _, _, _, _, rfl, _⟩, _⟩ := h; rfl
  · obtain ⟨d, ⟨l, ln, c, m, A, said, so, rfl, rfl, hA, hln, hc, hs, hm, rfl⟩, hR⟩ := h
    have hql : ∀ q ∈ said.zipIdx, q.2 < m ∧ sat2 said q.2 = q.1 := fun q hq => by
      have := List.mem_zipIdx hq
      obtain ⟨h1, h2, h3⟩ := this
      refine ⟨by omega, ?_⟩
      unfold sat2
      rw [List.getElem?_eq_getElem (by omega)]
      exact h3.symm
    refine xs_cons (x_ret (EvP.ev (ev_callTy T.b_tuple (es_cons (ev_compM (fun q : Option Int × Nat => .int (lA ln A q.2 + chg q.1 so)) ["adviser", "what"] ["left", "ahead", "so"] [0, 1, 3] (ei_Z (ez_enumM (ev_var 2) (by first | exact Or.inl rfl | exact Or.inr (Or.inl rfl) | exact Or.inr (Or.inr rfl) | assumption) T.b_enumerate)) (by rw [List.length_zipIdx, sizeLine_eq]; omega) (by exact fun q hq s H fp => ⟨[some _, some _], rfl, (tg_tup (tgs_cons (tg_name 0 (show List.Nodup (["adviser", "what", "left", "ahead", "so"] : List Str) by decide +kernel)) (tgs_cons (tg_name 1 (show List.Nodup (["adviser", "what", "left", "ahead", "so"] : List Str) by decide +kernel)) tgs_nil))), ⟨_, rfl, (ev_bin (ev_callP F_least_ahead (hr.mono (by decide)) (es_cons (ev_var 2) (es_cons (ev_var 3) (es_cons (ev_var 0) es_nil))) ⟨_, ln, q.2, c, m, A, rfl, rfl, hA, hln, (hql q hq).1, hc, hm, rfl⟩) (ev_callP F_charge (hr.mono (by decide)) (es_cons (ev_var 1) (es_cons (ev_var 4) es_nil)) ⟨q.1, so, rfl, rfl⟩) o_add)⟩⟩)) es_nil) (c_tuple (by first | exact Or.inr rfl | exact Or.inl (Or.inl rfl) | exact Or.inl (Or.inr (Or.inl rfl)) | exact Or.inl (Or.inr (Or.inr ⟨_, rfl, by first | assumption | rfl⟩))))) ?_))
    have e : (said.zipIdx.map fun q : Option Int × Nat => D.int (lA ln A q.2 + chg q.1 so)) = (sW ln A said so).map D.int := by
      unfold sW
      rw [zipIdx_range, List.map_map, List.map_map]
      rfl
    rw [e]
    exact hR
theorem ok_sums_behind {f : Addr} {fd : FuncData} (T : Txt mg) (Fn : Fun K "sums_behind" "sums_behind" s_sums_behind f fd) (hm : mg "sums_behind" = some (.ref f)) (hb : Binds K fd ["ahead", "said", "so"] []) (F_sums_with : DefOk P w K mg base 2 "sums_with" (pureSp spSW)) : DefOk P w K mg base 3 "sums_behind" (pureSp spSB) := by
  refine okD (k := 2) Fn sc_sums_behind hm hb (fun ds O R h => ?_) (fun cdv A outer s H E ds O R hr h => ?_)
  · obtain ⟨_, ⟨_, _, _, _, _, rfl, _⟩, _⟩ := h; rfl
  · obtain ⟨d, ⟨c, m, A, said, so, rfl, hA, hc, hs, hm, rfl⟩, hR⟩ := h
    have hAl := hA.1
    have hqr : ∀ q, q ∈ List.range ((((A.map rwD).length : Nat) : Int).toNat) → q < c := fun q hq => by
      have := List.mem_range.mp hq
      rw [Int.toNat_natCast, List.length_map] at this
      omega
    refine xs_cons (x_ret (EvP.ev (ev_callTy T.b_tuple (es_cons (ev_compM (fun k : Nat => rwD (sW k A said so)) ["left"] ["ahead", "said", "so"] [0, 1, 2] (ei_range1 (ev_callB T.b_len (es_cons (ev_var 0) es_nil) (c_len (Or.inr rfl))) T.b_range (by rw [List.length_map]; omega) (by rw [List.length_map]; omega)) (by rw [List.length_range, Int.toNat_natCast, List.length_map, sizeLine_eq]; omega) (by exact fun q hq s H fp => ⟨[some _], rfl, (tg_name 0 (show List.Nodup (["left", "ahead", "said", "so"] : List Str) by decide +kernel)), ⟨_, rfl, (ev_callP F_sums_with (hr.mono (by decide)) (es_cons (ev_var 0) (es_cons (ev_var 1) (es_cons (ev_var 2) (es_cons (ev_var 3) es_nil)))) ⟨_, q, c, m, A, said, so, rfl, by omega, hA, hqr q hq, hc, hs, hm, rfl⟩)⟩⟩)) es_nil) (c_tuple (by first | exact Or.inr rfl | exact Or.inl (Or.inl rfl) | exact Or.inl (Or.inr (Or.inl rfl)) | exact Or.inl (Or.inr (Or.inr ⟨_, rfl, by first | assumption | rfl⟩))))) ?_))
    have e : ((List.range ((((A.map rwD).length : Nat) : Int).toNat)).map fun k : Nat => rwD (sW k A said so)) = (sB A said so).map rwD := by
      unfold sB
      rw [List.map_map, Int.toNat_natCast, List.length_map]
      rfl
    rw [e]
    exact hR
theorem ok_row_table {f : Addr} {fd : FuncData} (T : Txt mg) (Fn : Fun K "row_table" "row_table" s_row_table f fd) (hm : mg "row_table" = some (.ref f)) (hb : Binds K fd ["many", "turns", "changes"] []) (F_sums_behind : DefOk P w K mg base 3 "sums_behind" (pureSp spSB)) : DefOk P w K mg base 4 "row_table" (pureSp spTable) := by
  refine okD (k := 3) Fn sc_row_table hm hb (fun ds O R h => ?_) (fun cdv A outer s H E ds O R hr h => ?_)
  · obtain ⟨_, ⟨_, _, _, rfl, _⟩, _⟩ := h; rfl
  · obtain ⟨d, ⟨m, ch, ts, rfl, hm1, hm2, hch, hts, htl, rfl⟩, hR⟩ := h
    refine xs_keep ?_
    refine xs_cons (x_set 3 (ev_lstM es_nil ?_) sc_row_table.nd)
    have ei : (List.replicate (((m : Nat) : Int)).toNat (0 : Int)) = List.replicate m 0 := by rw [Int.toNat_natCast]
    refine xs_cons (x_set 4 (EvP.ev (ev_bin (ev_tup (es_cons (ev_bin (ev_tup (es_cons ev_int es_nil)) (ev_var 0) (o_rep1 (f := D.int) (a := 0) (by omega) (by omega))) es_nil)) (ev_bin (ev_var 2) ev_int o_add) (o_rep1 (f := rwD) (a := List.replicate (((m : Nat) : Int)).toNat 0) (by omega) (by omega))) ?_) sc_row_table.nd)
    have e0 : (List.replicate (((ch : Nat) : Int) + 1).toNat (List.replicate (((m : Nat) : Int)).toNat (0 : Int))) = stG (z0 m ch) ts 0 := by
      rw [ei]
      show _ = z0 m ch
      unfold z0
      congr 1
    rw [e0]
    have hok := stG_ok (z0_ok m ch) hts
    refine xs_cons (x_for (ei_LF (ev_var 1) (by first | exact Or.inl rfl | exact Or.inr (Or.inl rfl) | exact Or.inr (Or.inr rfl) | assumption)) (fun i ρ O' => ∃ u v : Option D, ρ = [some (.int (m : Nat)), some (.tup (ts.map tD)), some (.int (ch : Nat)), some (.ptr O.length), some (tbD (stG (z0 m ch) ts i)), u, v] ∧ O' = O ++ [some (.lst (((List.range i).map fun k => stG (z0 m ch) ts (k + 1)).map tbD))]) ⟨_, _, rfl, rfl⟩ ?_ ?_)
    · rintro i x ρ O' hx ⟨u, v, rfl, rfl⟩
      rw [List.getElem?_map] at hx
      cases hq : ts[i]? with
      | none => rw [hq] at hx; cases hx
      | some t =>
        rw [hq] at hx
        cases hx
        have hi := (List.getElem?_eq_some_iff.mp hq).1
        refine ⟨_, tg_tup (tgs_cons (tg_name 5 sc_row_table.nd) (tgs_cons (tg_name 6 sc_row_table.nd) tgs_nil)), ?_⟩
        refine xs_cons (x_set 4 (EvP.ev (ev_callP F_sums_behind (hr.mono (by decide)) (es_cons (ev_var 4) (es_cons (ev_var 5) (es_cons (ev_var 6) es_nil))) ⟨ch + 1, m, stG (z0 m ch) ts i, t.1, t.2, rfl, hok i, by omega, hts t (List.mem_of_getElem? hq), hm2, rfl⟩) ?_) sc_row_table.nd)
        rw [← stG_succ hq]
        refine xs_cons (x_append (ev_var 3) st0 (ev_var 4) (by rw [sizeLine_eq, List.length_map, List.length_map, List.length_range]; omega) ?_)
        rw [ss0]
        refine xs_nil ⟨_, _, rfl, ?_⟩
        rw [List.range_succ, List.map_append, List.map_append]
        rfl
    · rintro ρ O' ⟨u, v, rfl, rfl⟩
      rw [List.length_map]
      unfold tabG at hR
      generalize (List.range ts.length).map (fun k => stG (z0 m ch) ts (k + 1)) = L at hR
      have q0 : (O ++ [some (MO.lst (L.map tbD))])[O.length]? = some (some (.lst (L.map tbD))) := st0
      refine xs_cons (x_ret (EvP.ev (ev_callTy T.b_tuple (es_cons (ev_var 3) es_nil) (c_tuple (by first | exact Or.inr rfl | exact Or.inl (Or.inl rfl) | exact Or.inl (Or.inr (Or.inl rfl)) | exact Or.inl (Or.inr (Or.inr ⟨_, rfl, by first | assumption | rfl⟩))))) ?_))
      exact ⟨⟨_, rfl⟩, npDs_map tb_np _, hR⟩
theorem ok_place_of_least {f : Addr} {fd : FuncData} (T : Txt mg) (Fn : Fun K "place_of_least" "place_of_least" s_place_of_least f fd) (hm : mg "place_of_least" = some (.ref f)) (hb : Binds K fd ["sums"] []) : DefOk P w K mg base 1 "place_of_least" (pureSp spPlc) := by
  refine okD (k := 0) Fn sc_place_of_least hm hb (fun ds O R h => ?_) (fun cdv A outer s H E ds O R hr h => ?_)
  · obtain ⟨_, ⟨_, rfl, _⟩, _⟩ := h; rfl
  · obtain ⟨d, ⟨r, rfl, h0, rfl⟩, hR⟩ := h
    exact xs_cons (x_ret (EvP.ev (ev_idxT (ev_var 0) (ev_callB T.b_min (es_cons (ev_var 0) es_nil) (c_minL (Or.inr rfl) h0)) (lstI_mem h0)) hR))
theorem ok_row_back {f : Addr} {fd : FuncData} (T : Txt mg) (Fn : Fun K "row_back" "row_back" s_row_back f fd) (hm : mg "row_back" = some (.ref f)) (hb : Binds K fd ["table", "changes"] []) (F_place_of_least : DefOk P w K mg base 1 "place_of_least" (pureSp spPlc)) : DefOk P w K mg base 2 "row_back" (pureSp spBack) := by
  refine okD (k := 1) Fn sc_row_back hm hb (fun ds O R h => ?_) (fun cdv A outer s H E ds O R hr h => ?_)
  · obtain ⟨_, ⟨_, _, _, rfl, _⟩, _⟩ := h; rfl
  · obtain ⟨d, ⟨m, ch, ts, rfl, hm1, hch, hts, hne, htl, rfl⟩, hR⟩ := h
    refine xs_keep ?_
    have hp : 0 < ts.length := List.length_pos_iff.mpr hne
    have hg : Good m ts.reverse := fun t ht => hts t (List.mem_reverse.mp ht)
    have hrl : ts.reverse.length = ts.length := List.length_reverse
    refine xs_cons (x_set 2 (EvP.ev (ev_var 1) ?_) sc_row_back.nd)
    have hlast := tab_last (m := m) (ch := ch) hne
    have htb := (AB_ok (ch := ch) hg).1
    have hrow := row_ne (l := ch) (ch := ch) hg hm1 (by omega)
    refine xs_cons (x_set 3 (EvP.ev (ev_callP F_place_of_least (hr.mono (by decide)) (es_cons (ev_ixT (ev_ixT (ev_var 0) (ev_neg ev_int) (hlast)) (ev_var 2) (tb_at (by omega))) es_nil) ⟨_, rfl, hrow.1, rfl⟩) ?_) sc_row_back.nd)
    refine xs_cons (x_set 4 (ev_lstM (es_cons (ev_var 3) es_nil) ?_) sc_row_back.nd)
    unfold bkL at hR
    generalize hrt : ts.reverse = rts at *
    cases rts with
    | nil => exfalso; rw [List.length_nil] at hrl; omega
    | cons t r =>
      have hrl : r.length + 1 = ts.length := hrl
      have hR : R (.lst ((bkR m ch r ch (plc ((AB m ch (t :: r)).getD ch []))).map nD)) O := hR
      generalize hL0 : bkR m ch r ch (plc ((AB m ch (t :: r)).getD ch [])) = L0 at hR
      have hpl : plc ((AB m ch (t :: r)).getD ch []) < m := by have := plc_lt hrow.1; omega
      generalize plc ((AB m ch (t :: r)).getD ch []) = a0 at hL0 hpl
      refine xs_cons (x_for (ei_rev (ev_slTA (ev_var 0) eo_none (eo_some (ev_neg ev_int))) T.b_reversed) (fun i ρ O' => ∃ (l a : Nat) (L : List Nat) (u : Option D), ρ = [some (.tup ((tabG m ch ts).map tbD)), some (.int (ch : Nat)), some (.int (l : Nat)), some (nD a), some (.ptr O.length), u] ∧ O' = O ++ [some (.lst ((L ++ [a]).map nD))] ∧ L.length = i ∧ l < ch + 1 ∧ a < m ∧ i ≤ r.length ∧ L0 = L ++ bkR m ch (r.drop i) l a) ⟨ch, a0, [], _, rfl, rfl, rfl, by omega, hpl, Nat.zero_le _, hL0.symm⟩ ?_ ?_)
      · rintro i x ρ O' hx ⟨l, a, L, u, rfl, rfl, hLl, hl, ha, hir, hL⟩
        rw [cutA_init, ← List.map_reverse, List.getElem?_map] at hx
        have hi : i + 1 < ts.length := by
          by_cases h : i < ((tabG m ch ts).dropLast.reverse).length
          · rw [List.length_reverse, List.length_dropLast, tab_len] at h; omega
          · rw [List.getElem?_eq_none (by omega)] at hx; cases hx
        rw [tab_walk hi, hrt, List.drop_succ_cons] at hx
        cases hx
        have hi2 : i < r.length := by omega
        have hgd : Good m (r.drop i) := fun t ht => hg t (List.mem_cons_of_mem _ (List.mem_of_mem_drop ht))
        have hA := AB_ok (ch := ch) hgd
        have hAl := hA.1
        have hrw : ∀ k, k < ch + 1 → (AB m ch (r.drop i)).getD k [] ≠ [] ∧ ((AB m ch (r.drop i)).getD k []).length = m := fun k hk => row_ne hgd hm1 hk
        have ed : r.drop i = r[i] :: r.drop (i + 1) := List.drop_eq_getElem_cons hi2
        have hL2 : L0 = L ++ a :: (if 0 < l ∧ lstI ((AB m ch (r.drop i)).getD (l - 1) []) < ent (AB m ch (r.drop i)) l a then bkR m ch (r.drop (i + 1)) (l - 1) (plc ((AB m ch (r.drop i)).getD (l - 1) [])) else bkR m ch (r.drop (i + 1)) l a) := by rw [hL, ed]; rfl
        generalize AB m ch (r.drop i) = A at hA hAl hrw hL2
        have eI : 0 < l → (l : Int) - 1 = ((l - 1 : Nat) : Int) := fun h => by omega
        have hx1 : 0 < l → atI (A.map rwD) ((l : Int) - 1) = some (.tup ((A.getD (l - 1) []).map D.int)) := fun h => by rw [eI h]; exact tb_at (by omega)
        have hp0 : ∀ {b : Bool}, decide ((0 : Int) < (l : Int)) = true → 0 < l := fun h => by have := of_decide_eq_true h; omega
        refine ⟨_, tg_name 5 sc_row_back.nd, ?_⟩
        refine xs_seq (fun ρ' O2 => ∃ l' a' : Nat, ρ' = [some (.tup ((tabG m ch ts).map tbD)), some (.int (ch : Nat)), some (.int (l' : Nat)), some (nD a'), some (.ptr O.length), some (tbD A)] ∧ O2 = O ++ [some (.lst ((L ++ [a]).map nD))] ∧ l' < ch + 1 ∧ a' < m ∧ L0 = L ++ a :: bkR m ch (r.drop (i + 1)) l' a') (x_if (EvW.t (ew_and (et_cmp (ev_var 2) ev_int cmp_gt) (fun hbb => (ew_and1 (et_cmp (ev_callB T.b_min (es_cons (ev_ixT (ev_var 5) (ev_bin (ev_var 2) ev_int o_sub) (hx1 (hp0 (b := true) hbb))) es_nil) (c_minL (Or.inr rfl) (hrw _ (by omega)).1)) (ev_ixT (ev_ixT (ev_var 5) (ev_var 2) (tb_at (by omega))) (ev_var 3) (at_ws (by rw [(hrw l hl).2]; exact ha))) cmp_lt))))) (fun hk => ?_) (fun hk => ?_)) ?_
        · rw [Bool.and_eq_true] at hk
          have h1 := hp0 (b := true) hk.1
          have h2 := of_decide_eq_true hk.2
          rw [if_pos ⟨h1, h2⟩] at hL2
          refine xs_cons (x_set 2 (EvP.ev (ev_bin (ev_var 2) ev_int o_sub) ?_) sc_row_back.nd)
          rw [eI h1]
          refine xs_cons (x_set 3 (EvP.ev (ev_callP F_place_of_least (hr.mono (by decide)) (es_cons (ev_ixT (ev_var 5) (ev_var 2) (tb_at (by omega))) es_nil) ⟨_, rfl, (hrw _ (by omega)).1, rfl⟩) ?_) sc_row_back.nd)
          have h3 := hrw (l - 1) (by omega)
          exact xs_nil ⟨l - 1, plc (A.getD (l - 1) []), rfl, rfl, by omega, by have := plc_lt h3.1; omega, hL2⟩
        · have hk' : ¬ (0 < l ∧ lstI (A.getD (l - 1) []) < ent A l a) := fun z => by
            have e1 : decide ((0 : Int) < (l : Int)) = true := decide_eq_true (by omega)
            have e2 : decide (lstI (A.getD (l - 1) []) < (A.getD l []).getD a 0) = true := decide_eq_true z.2
            rw [e1, e2] at hk
            cases hk
          rw [if_neg hk'] at hL2
          exact xs_nil ⟨l, a, rfl, rfl, hl, ha, hL2⟩
        rintro _ _ ⟨l', a', rfl, rfl, h1, h2, h3⟩
        refine xs_cons (x_append (ev_var 4) st0 (ev_var 3) (by rw [sizeLine_eq, List.length_map, List.length_append, hLl]; show i + 1 < _; omega) ?_)
        rw [ss0]
        exact xs_nil ⟨l', a', L ++ [a], _, rfl, by rw [List.map_append (l₁ := L ++ [a])]; rfl, by rw [List.length_append, hLl]; rfl, h1, h2, by omega, by rw [h3, List.append_assoc]; rfl⟩
      · rintro ρ O' ⟨l, a, L, u, rfl, rfl, hLl, hl, ha, hir, hL⟩
        rw [cutA_init, List.length_reverse, List.length_map, List.length_dropLast, tab_len] at hL
        have er : r.drop (ts.length - 1) = [] := List.drop_eq_nil_of_le (by omega)
        rw [er] at hL
        have hL : L0 = L ++ [a] := hL
        rw [hL] at hR
        refine xs_cons (x_ret (ev_frz (ev_var 4) st0 ?_))
        rw [ss0]
        exact ⟨⟨_, rfl⟩, npDs_map (f := nD) (fun _ => rfl) _, hR⟩
theorem ok_best_row {f : Addr} {fd : FuncData} (T : Txt mg) (Fn : Fun K "best_row" "best_row" s_best_row f fd) (hm : mg "best_row" = some (.ref f)) (hb : Binds K fd ["many", "turns", "changes"] []) (F_row_table : DefOk P w K mg base 4 "row_table" (pureSp spTable)) (F_row_back : DefOk P w K mg base 2 "row_back" (pureSp spBack)) : DefOk P w K mg base 5 "best_row" (pureSp spBest) := by
  refine okD (k := 4) Fn sc_best_row hm hb (fun ds O R h => ?_) (fun cdv A outer s H E ds O R hr h => ?_)
  · obtain ⟨_, ⟨_, _, _, rfl, _⟩, _⟩ := h; rfl
  · obtain ⟨d, ⟨m, ch, ts, rfl, hm1, hm2, hch, hts, htl, rfl⟩, hR⟩ := h
    refine xs_cons (x_set 3 (EvP.ev (ev_callP F_row_table (hr.mono (by decide)) (es_cons (ev_var 0) (es_cons (ev_var 1) (es_cons (ev_var 2) es_nil))) ⟨m, ch, ts, rfl, hm1, hm2, hch, hts, htl, rfl⟩) ?_) sc_best_row.nd)
    refine xs_cons (x_if (et_cmp (ev_callB T.b_len (es_cons (ev_var 3) es_nil) (c_len (by first | exact Or.inr rfl | exact Or.inl (Or.inl rfl) | exact Or.inl (Or.inr (Or.inl rfl)) | exact Or.inl (Or.inr (Or.inr ⟨_, rfl, by first | assumption | rfl⟩))))) ev_int cmp_eqI) (fun hk => ?_) (fun hk => xs_nil ?_))
    · have hk := of_decide_eq_true hk
      rw [List.length_map, tab_len] at hk
      have e : ts = [] := List.length_eq_zero_iff.mp (by omega)
      subst e
      exact xs_cons (x_ret (EvP.ev (ev_tup (es_cons (ev_tup es_nil) (es_cons ev_int es_nil))) hR))
    · have hk := of_decide_eq_false hk
      rw [List.length_map, tab_len] at hk
      have hne : ts ≠ [] := fun e => hk (by rw [e]; rfl)
      have hg : Good m ts.reverse := fun t ht => hts t (List.mem_reverse.mp ht)
      have htb := (AB_ok (ch := ch) hg).1
      have hrow := row_ne (l := ch) (ch := ch) hg hm1 (by omega)
      have hbl : (bkL m ch ts).length ≤ 63 := by have := (best_ok (ch := ch) hm1 hts).len; unfold bstR at this; rw [List.length_reverse] at this; omega
      refine xs_cons (x_ret (EvP.ev (ev_tup (es_cons (ev_tupRev (ev_callP F_row_back (hr.mono (by decide)) (es_cons (ev_var 3) (es_cons (ev_var 2) es_nil)) ⟨m, ch, ts, rfl, hm1, hch, hts, hne, htl, rfl⟩) (by rw [List.length_map]; omega) T.b_tuple T.b_reversed) (es_cons (ev_callB T.b_min (es_cons (ev_ixT (ev_ixT (ev_var 3) (ev_neg ev_int) (tab_last hne)) (ev_var 2) (tb_at (by omega))) es_nil) (c_minL (Or.inr rfl) hrow.1)) es_nil))) ?_))
      unfold bstR bstV at hR
      rw [if_neg hne, List.map_reverse] at hR
      exact hR
theorem ok_l_cell_at {f : Addr} {fd : FuncData} (T : Txt mg) (Fn : Fun K "_law_cell_at" "_law_cell_at" s_l_cell_at f fd) (hm : mg "_law_cell_at" = some (.ref f)) (hb : Binds K fd ["_law_script", "_law_k"] []) : DefOk P w K mg base 1 "_law_cell_at" (pureSp spCell) := by
  refine okD (k := 0) Fn sc_l_cell_at hm hb (fun ds O R h => ?_) (fun cdv A outer s H E ds O R hr h => ?_)
  · obtain ⟨_, ⟨_, _, rfl, _⟩, _⟩ := h; rfl
  · obtain ⟨d, ⟨ns, k, rfl, hk0, rfl⟩, hR⟩ := h
    refine xs_cons (x_if (et_cmp (ev_var 1) (ev_callB T.b_len (es_cons (ev_var 0) es_nil) (c_len (by first | exact Or.inr rfl | exact Or.inl (Or.inl rfl) | exact Or.inl (Or.inr (Or.inl rfl)) | exact Or.inl (Or.inr (Or.inr ⟨_, rfl, by first | assumption | rfl⟩))))) cmp_lt) (fun hk => ?_) (fun hk => ?_))
    · have hk := of_decide_eq_true hk
      rw [List.length_map] at hk
      have hi : k.toNat < ns.length := by omega
      have hz : atI (ns.map D.int) k = some (.int ns[k.toNat]) := atI_map hk0 (List.getElem?_eq_getElem hi)
      refine xs_cons (x_ret (EvP.ev (ev_ixL (ev_var 0) (by first | exact Or.inl rfl | exact Or.inr (Or.inl rfl) | exact Or.inr (Or.inr ⟨_, rfl, by first | assumption | rfl⟩)) (ev_var 1) hz) ?_))
      unfold cellAt at hR
      rw [List.getElem?_eq_getElem hi] at hR
      exact hR
    · have hk := of_decide_eq_false hk
      rw [List.length_map] at hk
      refine xs_nil ?_
      refine xs_cons (x_ret (EvP.ev ev_int ?_))
      unfold cellAt at hR
      rw [List.getElem?_eq_none (by omega)] at hR
      exact hR
theorem ok_l_next {f : Addr} {fd : FuncData} (T : Txt mg) (Fn : Fun K "_law_next" "_law_next" s_l_next f fd) (hm : mg "_law_next" = some (.ref f)) (hb : Binds K fd ["_law_x"] []) : DefOk P w K mg base 1 "_law_next" (pureSp spNext) := by
  refine okD (k := 0) Fn sc_l_next hm hb (fun ds O R h => ?_) (fun cdv A outer s H E ds O R hr h => ?_)
  · obtain ⟨_, ⟨_, rfl, _⟩, _⟩ := h; rfl
  · obtain ⟨d, ⟨x, rfl, hx, rfl⟩, hR⟩ := h
    have m1 : IntMulOk x x := mulP (m := 40) (n := 40) hx.1 (by omega) hx.1 (by omega)
    have m2 : IntMulOk 48271 x := mulP (m := 20) (n := 40) (by decide) (by decide) hx.1 (by omega)
    exact xs_cons (x_ret (EvP.ev (ev_bin (ev_bin (ev_bin (ev_bin (ev_var 0) (ev_var 0) (o_mul m1)) (ev_bin ev_int (ev_var 0) (o_mul m2)) o_add) ev_int o_add) ev_int (o_mod (by first | decide | omega))) hR))
theorem ok_l_seed {f : Addr} {fd : FuncData} (T : Txt mg) (Fn : Fun K "_law_seed" "_law_seed" s_l_seed f fd) (hm : mg "_law_seed" = some (.ref f)) (hb : Binds K fd ["_law_script", "_law_k"] []) (F_l_cell_at : DefOk P w K mg base 1 "_law_cell_at" (pureSp spCell)) (F_l_next : DefOk P w K mg base 1 "_law_next" (pureSp spNext)) : DefOk P w K mg base 2 "_law_seed" (pureSp spSeedS) := by
  refine okD (k := 1) Fn sc_l_seed hm hb (fun ds O R h => ?_) (fun cdv A outer s H E ds O R hr h => ?_)
  · obtain ⟨_, ⟨_, _, rfl, _⟩, _⟩ := h; rfl
  · obtain ⟨d, ⟨ns, k, rfl, hk, rfl⟩, hR⟩ := h
    have m1 : IntMulOk 69621 k := mulP (m := 20) (n := 40) (by decide) (by decide) hk.1 (by omega)
    have m2 : IntMulOk (69621 * k) k := mulP (m := 40) (n := 40) (by omega) (by omega) hk.1 (by omega)
    refine xs_cons (x_set 2 (EvP.ev (ev_bin (ev_bin (ev_bin (ev_bin (ev_callP F_l_cell_at (hr.mono (by decide)) (es_cons (ev_var 0) (es_cons (ev_var 1) es_nil)) ⟨_, _, rfl, hk.1, rfl⟩) ev_int (o_mod (by first | decide | omega))) (ev_bin (ev_bin ev_int (ev_var 1) (o_mul m1)) (ev_var 1) (o_mul m2)) o_add) ev_int o_add) ev_int (o_mod (by first | decide | omega))) ?_) sc_l_seed.nd)
    unfold seedF at hR
    generalize cellAt ns k = c at hR
    have h1 : 0 ≤ (c % 2147483647 + 69621 * k * k + 5) % 2147483647 ∧ (c % 2147483647 + 69621 * k * k + 5) % 2147483647 < 3000000000 := by omega
    have h2 : 0 ≤ nxt ((c % 2147483647 + 69621 * k * k + 5) % 2147483647) ∧ nxt ((c % 2147483647 + 69621 * k * k + 5) % 2147483647) < 3000000000 := by
      have := nxt_lo ((c % 2147483647 + 69621 * k * k + 5) % 2147483647)
      unfold Lo at this
      omega
    exact xs_cons (x_ret (EvP.ev (ev_callP F_l_next (hr.mono (by decide)) (es_cons (ev_callP F_l_next (hr.mono (by decide)) (es_cons (ev_var 2) es_nil) ⟨_, rfl, h1, rfl⟩) es_nil) ⟨_, rfl, h2, rfl⟩) hR))
theorem ok_l_turn {f : Addr} {fd : FuncData} (T : Txt mg) (Fn : Fun K "_law_turn" "_law_turn" s_l_turn f fd) (hm : mg "_law_turn" = some (.ref f)) (hb : Binds K fd ["_law_x", "_law_many", "_law_scale", "_law_sleeps"] []) (F_l_next : DefOk P w K mg base 1 "_law_next" (pureSp spNext)) : DefOk P w K mg base 2 "_law_turn" (pureSp spTurnQ) := by
  refine okD (k := 1) Fn sc_l_turn hm hb (fun ds O R h => ?_) (fun cdv A outer s H E ds O R hr h => ?_)
  · obtain ⟨_, ⟨_, _, _, _, rfl, _⟩, _⟩ := h; rfl
  · obtain ⟨d, ⟨x, m, s, sl, rfl, hx, hm, hs, rfl⟩, hR⟩ := h
    refine xs_keep ?_
    refine xs_cons (x_set 4 (EvP.ev (ev_bin (ev_bin (ev_var 0) ev_int (o_div ⟨(by first | decide | omega), (by first | decide | omega)⟩)) (ev_bin (ev_var 2) ev_int o_add) (o_mod (by omega))) ?_) sc_l_turn.nd)
    unfold turnQ at hR
    generalize x / 7 % (s + 1) = so at hR
    refine xs_cons (x_set 5 (ev_lstM es_nil ?_) sc_l_turn.nd)
    refine xs_cons (x_for (ei_range1 (ev_var 1) T.b_range (by first | decide | omega) (by first | decide | omega)) (fun i ρ O' => ∃ (L : List (Option Int)) (y : Int) (u v : Option D), ρ = [some (.int y), some (.int (m : Nat)), some (.int s), some (.bl sl), some (.int so), some (.ptr O.length), u, v] ∧ O' = O ++ [some (.lst (L.map od))] ∧ L.length = i ∧ Lo y ∧ runQ s sl m 0 x = L ++ runQ s sl (m - i) i y) ⟨[], x, _, _, rfl, rfl, rfl, hx, rfl⟩ ?_ ?_)
    · rintro i z ρ O' hz ⟨L, y, u, v, rfl, rfl, hL, hy, hrun⟩
      obtain ⟨hi, rfl⟩ := rangeD_at hz
      have hi : i < m := by omega
      refine ⟨_, tg_name 6 sc_l_turn.nd, ?_⟩
      have hy' : 0 ≤ y + (0 + ((i : Nat) : Int)) ∧ y + (0 + ((i : Nat) : Int)) < 3000000000 := by have := hy.1; have := hy.2; omega
      refine xs_cons (x_set 0 (EvP.ev (ev_callP F_l_next (hr.mono (by decide)) (es_cons (ev_bin (ev_var 0) (ev_var 6) o_add) es_nil) ⟨_, rfl, hy', rfl⟩) ?_) sc_l_turn.nd)
      rw [show m - i = (m - (i + 1)) + 1 by omega] at hrun
      have hrun : runQ s sl m 0 x = L ++ (whatQ s sl (nxt (y + (i : Int))) :: runQ s sl (m - (i + 1)) (i + 1) (nxt (y + (i : Int)))) := hrun
      rw [show y + (0 + ((i : Nat) : Int)) = y + ((i : Nat) : Int) by omega]
      have hlo := nxt_lo (y + ((i : Nat) : Int))
      generalize nxt (y + ((i : Nat) : Int)) = n at hrun hlo
      refine xs_cons (x_set 7 (EvP.ev (ev_bin (ev_bin (ev_var 0) ev_int (o_div ⟨(by first | decide | omega), (by first | decide | omega)⟩)) (ev_bin (ev_var 2) ev_int o_add) (o_mod (by omega))) ?_) sc_l_turn.nd)
      have hw : whatQ s sl n = if (sl && decide (n % 4 = 0)) = true then none else some (n / 16 % (s + 1)) := rfl
      generalize n / 16 % (s + 1) = z at hw
      refine xs_seq (fun ρ' O2 => ρ' = [some (.int n), some (.int (m : Nat)), some (.int s), some (.bl sl), some (.int so), some (.ptr O.length), some (.int (0 + (i : Nat))), some (od (whatQ s sl n))] ∧ O2 = O ++ [some (.lst (L.map od))]) (x_if (EvW.t (ew_and (et_bl (ev_var 3)) (fun hbb => (ew_and1 (et_cmp (ev_bin (ev_var 0) ev_int (o_mod (by first | decide | omega))) ev_int cmp_eqI))))) (fun hk => ?_) (fun hk => ?_)) ?_
      · refine xs_cons (x_set 7 (EvP.ev ev_non ?_) sc_l_turn.nd)
        exact xs_nil ⟨by rw [hw, if_pos hk]; rfl, rfl⟩
      · exact xs_nil ⟨by rw [hw, if_neg (by rw [hk]; exact Bool.false_ne_true)]; rfl, rfl⟩
      rintro _ _ ⟨rfl, rfl⟩
      refine xs_cons (x_append (ev_var 5) st0 (ev_var 7) (by rw [sizeLine_eq, List.length_map]; omega) ?_)
      rw [ss0]
      exact xs_nil ⟨L ++ [whatQ s sl n], _, _, _, rfl, by rw [List.map_append]; rfl, by rw [List.length_append, hL]; rfl, hlo, by rw [hrun, List.append_assoc]; rfl⟩
    · rintro ρ O' ⟨L, y, u, v, rfl, rfl, hL, hy, hrun⟩
      rw [rangeD_len, Int.toNat_natCast, Nat.sub_self] at hrun
      have e : runQ s sl m 0 x = L := by rw [hrun]; exact List.append_nil _
      rw [e] at hR
      have q0 : (O ++ [some (MO.lst (L.map od))])[O.length]? = some (some (.lst (L.map od))) := st0
      refine xs_cons (x_ret (EvP.ev (ev_tup (es_cons (ev_callTy T.b_tuple (es_cons (ev_var 5) es_nil) (c_tuple (by first | exact Or.inr rfl | exact Or.inl (Or.inl rfl) | exact Or.inl (Or.inr (Or.inl rfl)) | exact Or.inl (Or.inr (Or.inr ⟨_, rfl, by first | assumption | rfl⟩))))) (es_cons (ev_var 4) es_nil))) ?_))
      exact ⟨⟨_, rfl⟩, tD_np (L, so), hR⟩
theorem ok_l_rows {f : Addr} {fd : FuncData} (T : Txt mg) (Fn : Fun K "_law_rows" "_law_rows" s_l_rows f fd) (hm : mg "_law_rows" = some (.ref f)) (hb : Binds K fd ["_law_many", "_law_length"] []) : DefOk P w K mg base 1 "_law_rows" (pureSp spRows) := by
  refine okD (k := 0) Fn sc_l_rows hm hb (fun ds O R h => ?_) (fun cdv A outer s H E ds O R hr h => ?_)
  · obtain ⟨_, ⟨_, _, rfl, _⟩, _⟩ := h; rfl
  · obtain ⟨d, ⟨m, n, rfl, hm, hn, rfl⟩, hR⟩ := h
    refine xs_keep ?_
    refine xs_cons (x_set 2 (EvP.ev (ev_lst (es_cons (ev_lst es_nil) es_nil)) ?_) sc_l_rows.nd)
    refine xs_cons (x_for (ei_range1 (ev_var 1) T.b_range (by first | decide | omega) (by first | decide | omega)) (fun i ρ O' => ∃ u3 u4 u5 : Option D, ρ = [some (.int (m : Nat)), some (.int (n : Nat)), some (.lst ((allR m i).map rD)), u3, u4, u5] ∧ ∃ Y, O' = O ++ Y) ⟨_, _, _, rfl, [], (List.append_nil _).symm⟩ ?_ ?_)
    · rintro i x ρ O1 hx ⟨u3, u4, u5, rfl, Y, rfl⟩
      obtain ⟨hi, rfl⟩ := rangeD_at hx
      have hi : i < 6 := by omega
      refine ⟨_, tg_name 3 sc_l_rows.nd, ?_⟩
      refine xs_cons (x_set 4 (ev_lstM es_nil ?_) sc_l_rows.nd)
      have hal : (allR m i).length ≤ 729 := Nat.le_trans (all_len hm i) (Nat.pow_le_pow_right (by decide) (show i ≤ 6 by omega))
      generalize hA : allR m i = A at hal
      refine xs_cons (x_for (ei_LF (ev_var 2) (by first | exact Or.inl rfl | exact Or.inr (Or.inl rfl) | exact Or.inr (Or.inr rfl) | assumption)) (fun j ρ O' => ∃ v5 : Option D, ρ = [some (.int (m : Nat)), some (.int (n : Nat)), some (.lst (A.map rD)), some (.int (0 + (i : Nat))), some (.ptr (O ++ Y).length), v5] ∧ O' = (O ++ Y) ++ [some (.lst (((A.take j).flatMap (moreR m)).map rD))]) ⟨_, rfl, rfl⟩ ?_ ?_)
      · rintro j x ρ O2 hx ⟨v5, rfl, rfl⟩
        rw [List.getElem?_map] at hx
        cases hq : A[j]? with
        | none => rw [hq] at hx; cases hx
        | some r =>
          rw [hq] at hx
          cases hx
          have hj := (List.getElem?_eq_some_iff.mp hq).1
          have hrl : r.length ≤ 6 := by
            have := (all_mem.mp (show r ∈ allR m i by rw [hA]; exact List.mem_of_getElem? hq)).1
            omega
          refine ⟨_, tg_name 5 sc_l_rows.nd, ?_⟩
          have hsz : ((A.take j).flatMap (moreR m)).length ≤ 729 * 3 := by
            rw [flat_len, List.length_take]
            exact Nat.mul_le_mul (by omega) hm
          refine xs_cons (x_extend (ev_var 4) st0 (ev_compM (fun k : Nat => .lst (r.map nD ++ [.int (0 + (k : Nat))])) ["_law_k"] ["_law_row"] [5] (ei_range1 (ev_var 0) T.b_range (by first | decide | omega) (by first | decide | omega)) (by rw [List.length_range, sizeLine_eq]; omega) (by exact fun q hq s H fp => ⟨[some _], rfl, (tg_name 0 (show List.Nodup (["_law_k", "_law_row"] : List Str) by decide +kernel)), ⟨_, rfl, (ev_bin (ev_var 1) (ev_lst (es_cons (ev_var 0) es_nil)) (o_cat (by rw [List.length_map, sizeLine_eq]; show _ + 1 ≤ _; omega)))⟩⟩)) (by rw [List.length_map, List.length_map, List.length_range, sizeLine_eq]; omega) ?_)
          rw [ss0]
          refine xs_nil ⟨_, rfl, ?_⟩
          have e : ((List.range ((m : Nat) : Int).toNat).map fun k : Nat => D.lst (r.map nD ++ [.int (0 + (k : Nat))])) = (moreR m r).map rD := by
            unfold moreR
            rw [List.map_map, Int.toNat_natCast]
            refine List.map_congr_left fun k _ => ?_
            show _ = D.lst ((r ++ [k]).map nD)
            rw [List.map_append, Int.zero_add]
            rfl
          rw [e, List.take_add_one, hq, List.flatMap_append, List.map_append]
          have e2 : (Option.some r).toList.flatMap (moreR m) = moreR m r := by show (moreR m r ++ []) = _; rw [List.append_nil]
          rw [e2]
      · rintro ρ O2 ⟨v5, rfl, rfl⟩
        rw [List.length_map, List.take_length]
        refine xs_freeze 4 rfl st0 ?_
        rw [ss0]
        refine xs_cons (x_set 2 (EvP.ev (ev_var 4) ?_) sc_l_rows.nd)
        have eA : allR m (i + 1) = A.flatMap (moreR m) := by rw [← hA]; rfl
        rw [← eA]
        exact xs_nil ⟨_, _, _, rfl, _, List.append_assoc ..⟩
    · rintro ρ O' ⟨u3, u4, u5, rfl, Y, rfl⟩
      rw [rangeD_len, Int.toNat_natCast]
      refine xs_cons (x_ret (EvP.ev (ev_var 2) ?_))
      exact ⟨⟨_, rfl⟩, rows_np _, hR⟩
theorem ok_l_paid {f : Addr} {fd : FuncData} (T : Txt mg) (Fn : Fun K "_law_paid" "_law_paid" s_l_paid f fd) (hm : mg "_law_paid" = some (.ref f)) (hb : Binds K fd ["_law_turns", "_law_row"] []) : DefOk P w K mg base 1 "_law_paid" (pureSp spPaid) := by
  refine okD (k := 0) Fn sc_l_paid hm hb (fun ds O R h => ?_) (fun cdv A outer s H E ds O R hr h => ?_)
  · obtain ⟨_, ⟨_, _, _, _, rfl, _⟩, _⟩ := h; rfl
  · obtain ⟨d, ⟨m, ts, p, dr, rfl, hd, hts, hp, rfl⟩, hR⟩ := h
    refine xs_cons (x_set 2 (EvP.ev ev_int ?_) sc_l_paid.nd)
    refine xs_cons (x_for (ei_Z (ez_zipM (ev_var 0) (ev_var 1) (Or.inr (Or.inr rfl)) hd T.b_zip)) (fun i ρ O' => ∃ u v : Option D, ρ = [some (.tup (ts.map tD)), some dr, some (.int (sm pyF ((ts.zip p).take i))), u, v] ∧ O' = O) ⟨_, _, rfl, rfl⟩ ?_ ?_)
    · rintro i x ρ O' hx ⟨u, v, rfl, rfl⟩
      rw [List.getElem?_map] at hx
      cases hq : (ts.zip p)[i]? with
      | none => rw [hq] at hx; cases hx
      | some q =>
        rw [hq] at hx
        cases hx
        have hmem := List.of_mem_zip (List.mem_of_getElem? hq)
        have hl := hts _ hmem.1
        have ha := hp _ hmem.2
        have hs := sm_take (g := pyF) hq
        refine ⟨_, tg_tup (tgs_cons (tg_name 3 sc_l_paid.nd) (tgs_cons (tg_name 4 sc_l_paid.nd) tgs_nil)), ?_⟩
        have hat : atI (q.1.1.map od) ((q.2 : Nat) : Int) = some (od (sat2 q.1.1 q.2)) := s_at (by omega)
        have hpy : pyF q = chg (sat2 q.1.1 q.2) q.1.2 := rfl
        cases hw : sat2 q.1.1 q.2 with
        | none =>
          rw [hw] at hat hpy
          refine xs_cons (x_if (et_cmp (ev_ixT (ev_ixT (ev_var 3) ev_int rfl) (ev_var 4) (hat)) ev_non cmp_isnot) (fun hk => by cases hk) (fun _ => xs_nil (xs_nil ⟨some (tD q.1), some (nD q.2), ?_, rfl⟩)))
          rw [hs, hpy]
          show _ = [_, _, some (D.int (_ + 0)), _, _]
          rw [Int.add_zero]
          rfl
        | some w =>
          rw [hw] at hat hpy
          refine xs_cons (x_if (et_cmp (ev_ixT (ev_ixT (ev_var 3) ev_int rfl) (ev_var 4) (hat)) ev_non cmp_isnot) (fun _ => ?_) (fun hk => by cases hk))
          refine xs_cons (x_set 2 (EvP.ev (ev_bin (ev_var 2) (ev_callB T.b_abs (es_cons (ev_bin (ev_ixT (ev_ixT (ev_var 3) ev_int rfl) (ev_var 4) (hat)) (ev_ixT (ev_var 3) ev_int rfl) o_sub) es_nil) c_abs) o_add) ?_) sc_l_paid.nd)
          refine xs_nil (xs_nil ⟨some (tD q.1), some (nD q.2), ?_, rfl⟩)
          rw [hs, hpy]
          rfl
    · rintro ρ O' ⟨u, v, rfl, rfl⟩
      rw [List.length_map, List.take_length]
      exact xs_cons (x_ret (EvP.ev (ev_var 2) hR))
theorem ok_l_changes {f : Addr} {fd : FuncData} (T : Txt mg) (Fn : Fun K "_law_changes" "_law_changes" s_l_changes f fd) (hm : mg "_law_changes" = some (.ref f)) (hb : Binds K fd ["_law_row"] []) : DefOk P w K mg base 1 "_law_changes" (pureSp spChs) := by
  refine okD (k := 0) Fn sc_l_changes hm hb (fun ds O R h => ?_) (fun cdv A outer s H E ds O R hr h => ?_)
  · obtain ⟨_, ⟨_, _, rfl, _⟩, _⟩ := h; rfl
  · obtain ⟨d, ⟨p, dr, rfl, hd, hl, rfl⟩, hR⟩ := h
    have hqr : ∀ q, q ∈ List.range ((((p.map nD).length : Nat) : Int) - 1).toNat → q + 1 < p.length := fun q hq => by
      have := List.mem_range.mp hq
      rw [List.length_map] at this
      omega
    have h1 : ∀ q, q + 1 < p.length → atI (p.map nD) (1 + (q : Nat)) = some (.int ((p.getD (1 + q) 0 : Nat) : Int)) := fun q hq => by
      rw [show (1 : Int) + (q : Nat) = ((1 + q : Nat) : Int) by omega]
      exact n_at (by omega)
    have h2 : ∀ q, q + 1 < p.length → atI (p.map nD) (1 + (q : Nat) - 1) = some (.int ((p.getD q 0 : Nat) : Int)) := fun q hq => by
      rw [show (1 : Int) + (q : Nat) - 1 = ((q : Nat) : Int) by omega]
      exact n_at (by omega)
    refine xs_cons (x_ret (EvP.ev (ev_callB T.b_len (es_cons (ev_compF (chH p) ["_law_k"] ["_law_row"] [0] (ei_range2 ev_int (ev_callB T.b_len (es_cons (ev_var 0) es_nil) (c_len hd.lt)) T.b_range (by first | decide | omega) (by first | decide | omega) (by rw [List.length_map]; omega) (by rw [List.length_map]; omega)) (by rw [List.length_range, List.length_map, sizeLine_eq]; omega) (by exact fun q hq s H fp => ⟨[some _], rfl, (tg_name 0 (show List.Nodup (["_law_k", "_law_row"] : List Str) by decide +kernel)), ⟨_, (et_cmp (ev_ixF (ev_var 1) hd (ev_var 0) (h1 q (hqr q hq))) (ev_ixF (ev_var 1) hd (ev_bin (ev_var 0) ev_int o_sub) (h2 q (hqr q hq))) cmp_neI), fun hbb => ⟨_, if_pos hbb, (ev_var 0)⟩, fun hbb => if_neg (fun hcc => Bool.false_ne_true (hbb.symm.trans hcc))⟩⟩)) es_nil) (c_len (by first | exact Or.inr rfl | exact Or.inl (Or.inl rfl) | exact Or.inl (Or.inr (Or.inl rfl)) | exact Or.inl (Or.inr (Or.inr ⟨_, rfl, by first | assumption | rfl⟩))))) ?_))
    have e : (((p.map nD).length : Int) - 1).toNat = p.length - 1 := by rw [List.length_map]; omega
    rw [e, chs_count]
    exact hR
theorem ok_l_best {f : Addr} {fd : FuncData} (T : Txt mg) (Fn : Fun K "_law_best" "_law_best" s_l_best f fd) (hm : mg "_law_best" = some (.ref f)) (hb : Binds K fd ["_law_many", "_law_turns", "_law_changes_here"] []) (F_l_rows : DefOk P w K mg base 1 "_law_rows" (pureSp spRows)) (F_l_changes : DefOk P w K mg base 1 "_law_changes" (pureSp spChs)) (F_best_row : DefOk P w K mg base 5 "best_row" (pureSp spBest)) (F_l_paid : DefOk P w K mg base 1 "_law_paid" (pureSp spPaid)) : DefOk P w K mg base 7 "_law_best" (pureSp spBestL) := by
  refine okD (k := 6) Fn sc_l_best hm hb (fun ds O R h => ?_) (fun cdv A outer s H E ds O R hr h => ?_)
  · obtain ⟨_, ⟨_, _, _, rfl, _⟩, _⟩ := h; rfl
  · obtain ⟨d, ⟨m, ch, ts, rfl, hm1, hm3, hch, hts, htl, rfl⟩, hR⟩ := h
    have hal : (allR m ts.length).length ≤ 729 := Nat.le_trans (all_len hm3 _) (Nat.pow_le_pow_right (by decide) (show ts.length ≤ 6 by omega))
    refine xs_cons (x_setF 3 (fun r : List Nat => if decide (((chsR r : Nat) : Int) ≤ (ch : Nat)) = true then some (rD r) else none) ["_law_row"] ["_law_changes_here"] [2] (ei_LF (ev_callP F_l_rows (hr.mono (by decide)) (es_cons (ev_var 0) (es_cons (ev_callB T.b_len (es_cons (ev_var 1) es_nil) (c_len (by first | exact Or.inr rfl | exact Or.inl (Or.inl rfl) | exact Or.inl (Or.inr (Or.inl rfl)) | exact Or.inl (Or.inr (Or.inr ⟨_, rfl, by first | assumption | rfl⟩))))) es_nil)) ⟨m, ts.length, by rw [List.length_map], hm3, htl, rfl⟩) (by first | exact Or.inl rfl | exact Or.inr (Or.inl rfl) | exact Or.inr (Or.inr rfl) | assumption)) (by rw [sizeLine_eq]; omega) (by exact fun q hq s H fp => ⟨[some _], rfl, (tg_name 0 (show List.Nodup (["_law_row", "_law_changes_here"] : List Str) by decide +kernel)), ⟨_, (et_cmp (ev_callP F_l_changes (hr.mono (by decide)) (es_cons (ev_var 0) es_nil) ⟨q, _, rfl, Or.inl rfl, by have := (all_mem.mp hq).1; omega, rfl⟩) (ev_var 1) cmp_le), fun hbb => ⟨_, if_pos hbb, (ev_var 0)⟩, fun hbb => if_neg (fun hcc => Bool.false_ne_true (hbb.symm.trans hcc))⟩⟩) ?_ sc_l_best.nd)
    have hfl : ((allR m ts.length).filterMap fun r : List Nat => if decide (((chsR r : Nat) : Int) ≤ (ch : Nat)) = true then some (rD r) else none) = ((allR m ts.length).filter fun r => decide (chsR r ≤ ch)).map rD := by
      generalize allR m ts.length = A
      induction A with
      | nil => rfl
      | cons r A ih =>
        rw [List.filterMap_cons, List.filter_cons, ih]
        by_cases h : chsR r ≤ ch
        · rw [if_pos (by rw [decide_eq_true_eq]; omega), if_pos (by rw [decide_eq_true_eq]; exact h)]; rfl
        · rw [if_neg (by rw [decide_eq_true_eq]; omega), if_neg (by rw [decide_eq_true_eq]; exact h)]
    rw [hfl]
    have hfm : ∀ r, r ∈ (allR m ts.length).filter (fun r => decide (chsR r ≤ ch)) ↔ (r.length = ts.length ∧ ∀ x ∈ r, x < m) ∧ chsR r ≤ ch := fun r => by rw [List.mem_filter, all_mem, decide_eq_true_eq]
    have hfs : ((allR m ts.length).filter fun r => decide (chsR r ≤ ch)).length ≤ 729 := Nat.le_trans (List.length_filter_le _ _) hal
    generalize (allR m ts.length).filter (fun r => decide (chsR r ≤ ch)) = F at hfm hfs
    refine xs_cons (x_set 4 (EvP.ev (ev_callP F_best_row (hr.mono (by decide)) (es_cons (ev_var 0) (es_cons (ev_var 1) (es_cons (ev_var 2) es_nil))) ⟨m, ch, ts, rfl, hm1, by omega, by omega, hts, by omega, rfl⟩) ?_) sc_l_best.nd)
    have hB := best_ok (ch := ch) hm1 hts
    generalize bstR m ch ts = p at hB
    generalize bstV m ch ts = v at hB
    have hpF : p ∈ F := (hfm p).mpr ⟨⟨hB.len, hB.lt⟩, hB.chs⟩
    have hF0 : F.map (payF ts) ≠ [] := fun e => by rw [List.map_eq_nil_iff] at e; rw [e] at hpF; cases hpF
    refine xs_cons (x_if (EvW.t (ew_or (et_not (et_bl (ev_callB T.b_isinstance (es_cons (ev_var 4) (es_cons (ev_type T.b_tuple) es_nil)) (c_isi_tuple rfl)))) (fun hbb => (ew_or (et_cmp (ev_callB T.b_len (es_cons (ev_var 4) es_nil) (c_len (by first | exact Or.inr rfl | exact Or.inl (Or.inl rfl) | exact Or.inl (Or.inr (Or.inl rfl)) | exact Or.inl (Or.inr (Or.inr ⟨_, rfl, by first | assumption | rfl⟩))))) ev_int cmp_neI) (fun hbb => (ew_or1 (et_cmp (ev_callTy T.b_list (es_cons (ev_ixT (ev_var 4) ev_int rfl) es_nil) (c_list (by first | exact Or.inr rfl | exact Or.inl (Or.inl rfl) | exact Or.inl (Or.inr (Or.inl rfl)) | exact Or.inl (Or.inr (Or.inr ⟨_, rfl, by first | assumption | rfl⟩))))) (ev_var 3) (cmp_niD hr (Or.inl rfl) (plL_n _) (rows_pl _) (Nat.le_trans (Nat.min_le_right _ _) (by show dpDs (p.map nD) + 1 ≤ 60; rw [dp_n]; decide)) (Or.inl rfl))))))))) (fun hk => ?_) (fun _ => xs_nil ?_))
    · exfalso
      have ha : ((F.map rD).any fun y => eqD y (.lst (p.map nD))) = true := List.any_eq_true.mpr ⟨rD p, List.mem_map.mpr ⟨p, hpF, rfl⟩, eq_self p⟩
      rw [ha] at hk
      cases hk
    have hmin : v = lstI (F.map (payF ts)) := by
      have h1 : lstI (F.map (payF ts)) ≤ v := by rw [hB.pay]; exact lstI_le (List.mem_map.mpr ⟨p, hpF, rfl⟩)
      obtain ⟨r, hr', e⟩ := List.mem_map.mp (lstI_mem hF0)
      have h2 := (hfm r).mp hr'
      have h3 := hB.le r h2.1.1 h2.1.2 h2.2
      omega
    refine xs_cons (x_ret (EvP.ev (ev_and (ev_cmp (ev_ixT (ev_var 4) ev_int rfl) (ev_callP F_l_paid (hr.mono (by decide)) (es_cons (ev_var 1) (es_cons (ev_ixT (ev_var 4) ev_int rfl) es_nil)) ⟨m, ts, p, _, rfl, Or.inr (Or.inr rfl), hts, hB.lt, rfl⟩) cmp_eqI) (fun hbb => (ev_one (ev_cmp (ev_ixT (ev_var 4) ev_int rfl) (ev_callB T.b_min (es_cons (ev_compM (fun r : List Nat => .int (payF ts r)) ["_law_row"] ["_law_turns"] [1] (ei_LF (ev_var 3) (by first | exact Or.inl rfl | exact Or.inr (Or.inl rfl) | exact Or.inr (Or.inr rfl) | assumption)) (by rw [sizeLine_eq]; omega) (by exact fun q hq s H fp => ⟨[some _], rfl, (tg_name 0 (show List.Nodup (["_law_row", "_law_turns"] : List Str) by decide +kernel)), ⟨_, rfl, (ev_callP F_l_paid (hr.mono (by decide)) (es_cons (ev_var 1) (es_cons (ev_var 0) es_nil)) ⟨m, ts, q, _, rfl, Or.inl rfl, hts, ((hfm q).mp hq).1.2, rfl⟩)⟩⟩)) es_nil) (c_minL (ns := F.map (payF ts)) (Or.inl (Or.inl (by rw [List.map_map]; rfl))) hF0)) cmp_eqI)))) ?_))
    rw [decide_eq_true hB.pay, decide_eq_true hmin]
    exact hR
theorem ok_law {f : Addr} {fd : FuncData} (T : Txt mg) (Fn : Fun K "law" "law" s_law f fd)  (F_l_seed : DefOk P w K mg base 2 "_law_seed" (pureSp spSeedS)) (F_l_turn : DefOk P w K mg base 2 "_law_turn" (pureSp spTurnQ)) (F_l_best : DefOk P w K mg base 7 "_law_best" (pureSp spBestL)) : FnOk P w K mg base CX0 10 f fd ["_law_script"] (toSp K spLaw) := by
  refine okF (k := 9) Fn sc_law (fun ds O R h => ?_) (fun cdv A outer s H E ds O R hr h => ?_)
  · obtain ⟨_, rfl, _⟩ := h; rfl
  · obtain ⟨ns, rfl, hl, hR⟩ := h
    refine xs_keep ?_
    have hrg : (if (58 : Int) < (if (4 : Int) > (((ns.map D.int).length : Nat) : Int) then 4 else (((ns.map D.int).length : Nat) : Int)) then 58 else (if (4 : Int) > (((ns.map D.int).length : Nat) : Int) then 4 else (((ns.map D.int).length : Nat) : Int))) ≤ 58 ∧ 0 ≤ (if (58 : Int) < (if (4 : Int) > (((ns.map D.int).length : Nat) : Int) then 4 else (((ns.map D.int).length : Nat) : Int)) then 58 else (if (4 : Int) > (((ns.map D.int).length : Nat) : Int) then 4 else (((ns.map D.int).length : Nat) : Int))) := by
      split <;> split <;> omega
    refine xs_cons (x_for (ei_rangeV ev_int (ev_callB T.b_min (es_cons (ev_callB T.b_max (es_cons (ev_callB T.b_len (es_cons (ev_var 0) es_nil) (c_len (by first | exact Or.inr rfl | exact Or.inl (Or.inl rfl) | exact Or.inl (Or.inr (Or.inl rfl)) | exact Or.inl (Or.inr (Or.inr ⟨_, rfl, by first | assumption | rfl⟩))))) (es_cons ev_int es_nil)) c_max) (es_cons ev_int es_nil)) c_min) ev_int T.b_range ⟨by decide, by omega, by omega⟩) (fun i ρ O' => ∃ v1 v2 v3 v4 v5 v6 v7 : Option D, ρ = [some (.scr (ns.map D.int)), v1, v2, v3, v4, v5, v6, v7] ∧ ∃ Y, O' = O ++ Y) ⟨_, _, _, _, _, _, _, rfl, [], (List.append_nil _).symm⟩ ?_ ?_)
    · rintro i y ρ O1 hy ⟨v1, v2, v3, v4, v5, v6, v7, rfl, Y, rfl⟩
      obtain ⟨hi, rfl⟩ := rangeV_at hy
      have hst : 0 ≤ 3 + (i : Int) * 7 ∧ 3 + (i : Int) * 7 ≤ 70 := by
        unfold sevUp at hi
        split at hi <;> omega
      generalize 3 + (i : Int) * 7 = st at hst
      refine ⟨_, tg_name 1 sc_law.nd, ?_⟩
      refine xs_cons (x_set 2 (EvP.ev (ev_callP F_l_seed (hr.mono (by decide)) (es_cons (ev_var 0) (es_cons (ev_var 1) es_nil)) ⟨_, _, rfl, ⟨hst.1, by omega⟩, rfl⟩) ?_) sc_law.nd)
      generalize seedF (cellAt ns st) st = x
      refine xs_cons (x_set 3 (EvP.ev (ev_bin ev_int (ev_bin (ev_var 2) ev_int (o_mod (by first | decide | omega))) o_add) ?_) sc_law.nd)
      have hm : ∃ m : Nat, 1 + x % 3 = (m : Nat) ∧ 1 ≤ m ∧ m ≤ 3 := ⟨(1 + x % 3).toNat, by omega, by omega, by omega⟩
      obtain ⟨m, em, hm1, hm3⟩ := hm
      rw [em]
      refine xs_cons (x_set 4 (EvP.ev (ev_ixL (ev_lst (es_cons ev_int (es_cons (ev_bin ev_int (ev_bin (ev_bin (ev_var 2) ev_int (o_div ⟨(by first | decide | omega), (by first | decide | omega)⟩)) ev_int (o_mod (by first | decide | omega))) o_add) es_nil))) (by first | exact Or.inl rfl | exact Or.inr (Or.inl rfl) | exact Or.inr (Or.inr ⟨_, rfl, by first | assumption | rfl⟩)) (ev_bin (ev_bin (ev_var 2) ev_int (o_div ⟨(by first | decide | omega), (by first | decide | omega)⟩)) ev_int (o_mod (by first | decide | omega))) (twosR (by omega))) ?_) sc_law.nd)
      have hs1 : 1 ≤ (if x / 3 % 2 = 0 then 1 else 1 + x / 6 % 10) := by split <;> omega
      generalize (if x / 3 % 2 = 0 then 1 else 1 + x / 6 % 10) = sc at hs1
      have h56 : (0 : Int) < (if m = 3 then 5 else 6) := by split <;> decide
      refine xs_cons (x_set 5 (EvP.ev (ev_bin ev_int (ev_bin (ev_bin (ev_var 2) ev_int (o_div ⟨(by first | decide | omega), (by first | decide | omega)⟩)) (ev_ixL (ev_lst (es_cons ev_int (es_cons ev_int (es_cons ev_int es_nil)))) (by first | exact Or.inl rfl | exact Or.inr (Or.inl rfl) | exact Or.inr (Or.inr ⟨_, rfl, by first | assumption | rfl⟩)) (ev_bin (ev_var 3) ev_int o_sub) (six_at hm1 hm3)) (o_mod h56)) o_add) ?_) sc_law.nd)
      have hln : ∃ n : Nat, 1 + x / 60 % (if m = 3 then 5 else 6) = (n : Nat) ∧ 1 ≤ n ∧ n ≤ 6 := by
        have h1 := Int.emod_nonneg (x / 60) (show (if m = 3 then (5 : Int) else 6) ≠ 0 by omega)
        have h2 := Int.emod_lt_of_pos (x / 60) h56
        have h3 : (if m = 3 then (5 : Int) else 6) ≤ 6 := by split <;> decide
        exact ⟨(1 + x / 60 % (if m = 3 then (5 : Int) else 6)).toNat, by omega, by omega, by omega⟩
      obtain ⟨n, en, hn1, hn6⟩ := hln
      rw [en]
      refine xs_cons (x_set 6 (ev_lstM es_nil ?_) sc_law.nd)
      refine xs_cons (x_for (ei_range1 (ev_var 5) T.b_range (by first | decide | omega) (by first | decide | omega)) (fun j ρ O' => ∃ (L : List Tn) (v7 : Option D), ρ = [some (.scr (ns.map D.int)), some (.int st), some (.int x), some (.int (m : Nat)), some (.int sc), some (.int (n : Nat)), some (.ptr (O ++ Y).length), v7] ∧ O' = (O ++ Y) ++ [some (.lst (L.map tD))] ∧ L.length = j ∧ Good m L) ⟨[], _, rfl, rfl, rfl, fun t ht => by cases ht⟩ ?_ ?_)
      · rintro j z ρ O2 hz ⟨L, v7, rfl, rfl, hL, hg⟩
        obtain ⟨hj, rfl⟩ := rangeD_at hz
        refine ⟨_, tg_name 7 sc_law.nd, ?_⟩
        have hlo := seed_lo (cellAt ns (st + (0 + (j : Int)))) (st + (0 + (j : Int)))
        refine xs_cons (x_append (ev_var 6) st0 (ev_callP F_l_turn (hr.mono (by decide)) (es_cons (ev_callP F_l_seed (hr.mono (by decide)) (es_cons (ev_var 0) (es_cons (ev_bin (ev_var 1) (ev_var 7) o_add) es_nil)) ⟨_, _, rfl, ⟨by omega, by omega⟩, rfl⟩) (es_cons (ev_var 3) (es_cons (ev_var 4) (es_cons (ev_cmp (ev_bin (ev_bin (ev_var 2) ev_int (o_div ⟨(by first | decide | omega), (by first | decide | omega)⟩)) ev_int (o_mod (by first | decide | omega))) ev_int cmp_eqI) es_nil)))) ⟨_, m, sc, _, rfl, hlo, by omega, hs1, rfl⟩) (by rw [sizeLine_eq, List.length_map]; omega) ?_)
        rw [ss0]
        exact xs_nil ⟨L ++ [turnQ m sc (decide (x / 400 % 3 = 1)) (seedF (cellAt ns (st + (0 + (j : Int)))) (st + (0 + (j : Int))))], _, rfl, by rw [List.map_append]; rfl, by rw [List.length_append, hL]; rfl, fun t ht => by
          rcases List.mem_append.mp ht with q | q
          · exact hg t q
          · rw [List.mem_singleton.mp q]; exact runQ_len _ _ _ _ _⟩
      · rintro ρ O2 ⟨L, v7, rfl, rfl, hL, hg⟩
        rw [rangeD_len, Int.toNat_natCast] at hL
        have hch : ∃ ch : Nat, x / 1200 % 6 = (ch : Nat) ∧ ch ≤ 5 := ⟨(x / 1200 % 6).toNat, by omega, by omega⟩
        obtain ⟨ch, ech, hch⟩ := hch
        have q0 : ((O ++ Y) ++ [some (MO.lst (L.map tD))])[(O ++ Y).length]? = some (some (.lst (L.map tD))) := st0
        refine xs_cons (x_if (et_not (et_bl (ev_callP F_l_best (hr.mono (by decide)) (es_cons (ev_var 3) (es_cons (ev_callTy T.b_tuple (es_cons (ev_var 6) es_nil) (c_tuple (by first | exact Or.inr rfl | exact Or.inl (Or.inl rfl) | exact Or.inl (Or.inr (Or.inl rfl)) | exact Or.inl (Or.inr (Or.inr ⟨_, rfl, by first | assumption | rfl⟩))))) (es_cons (ev_bin (ev_bin (ev_var 2) ev_int (o_div ⟨(by first | decide | omega), (by first | decide | omega)⟩)) ev_int (o_mod (by first | decide | omega))) es_nil))) ⟨m, ch, L, by rw [ech], hm1, hm3, hch, hg, by omega, rfl⟩))) (fun hk => by cases hk) (fun _ => xs_nil ?_))
        exact xs_nil ⟨_, _, _, _, _, _, _, rfl, _, List.append_assoc ..⟩
    · rintro ρ O' ⟨v1, v2, v3, v4, v5, v6, v7, rfl, Y, rfl⟩
      exact xs_cons (x_ret (EvP.ev ev_bl ⟨⟨_, rfl⟩, rfl, hR⟩))
end
theorem len1 {α : Type} {us : List α} (h : us.length = 1) : ∃ x0, us = [x0] := by
  match us, h with
  | [x0], _ => exact ⟨_, rfl⟩
theorem len2 {α : Type} {us : List α} (h : us.length = 2) : ∃ x0 x1, us = [x0, x1] := by
  match us, h with
  | [x0, x1], _ => exact ⟨_, _, rfl⟩
theorem len3 {α : Type} {us : List α} (h : us.length = 3) : ∃ x0 x1 x2, us = [x0, x1, x2] := by
  match us, h with
  | [x0, x1, x2], _ => exact ⟨_, _, _, rfl⟩
theorem len4 {α : Type} {us : List α} (h : us.length = 4) : ∃ x0 x1 x2 x3, us = [x0, x1, x2, x3] := by
  match us, h with
  | [x0, x1, x2, x3], _ => exact ⟨_, _, _, _, rfl⟩
theorem all_mk {l : PySem.W.OpenLaw} {w : World} {K : PySem.W.Frag} {h : Heap} {mg : Str → Option Value} {fa : Addr} (X : K.In h) (G : h.Ns mainGlobals mg) (hfa : mg "law" = some (.ref fa)) {f0 : Addr} {od0 an0 : Option Addr} {sl0 : Array (Option Value)} {oc0 kV0 dc0 pm0 cd0 ct0 : Value} {f1 : Addr} {od1 an1 : Option Addr} {sl1 : Array (Option Value)} {oc1 kV1 dc1 pm1 cd1 ct1 : Value} {f2 : Addr} {od2 an2 : Option Addr} {sl2 : Array (Option Value)} {oc2 kV2 dc2 pm2 cd2 ct2 : Value} {f3 : Addr} {od3 an3 : Option Addr} {sl3 : Array (Option Value)} {oc3 kV3 dc3 pm3 cd3 ct3 : Value} {f4 : Addr} {od4 an4 : Option Addr} {sl4 : Array (Option Value)} {oc4 kV4 dc4 pm4 cd4 ct4 : Value} {f5 : Addr} {od5 an5 : Option Addr} {sl5 : Array (Option Value)} {oc5 kV5 dc5 pm5 cd5 ct5 : Value} {f6 : Addr} {od6 an6 : Option Addr} {sl6 : Array (Option Value)} {oc6 kV6 dc6 pm6 cd6 ct6 : Value} {f7 : Addr} {od7 an7 : Option Addr} {sl7 : Array (Option Value)} {oc7 kV7 dc7 pm7 cd7 ct7 : Value} {f8 : Addr} {od8 an8 : Option Addr} {sl8 : Array (Option Value)} {oc8 kV8 dc8 pm8 cd8 ct8 : Value} {f9 : Addr} {od9 an9 : Option Addr} {sl9 : Array (Option Value)} {oc9 kV9 dc9 pm9 cd9 ct9 : Value} {f10 : Addr} {od10 an10 : Option Addr} {sl10 : Array (Option Value)} {oc10 kV10 dc10 pm10 cd10 ct10 : Value} {f11 : Addr} {od11 an11 : Option Addr} {sl11 : Array (Option Value)} {oc11 kV11 dc11 pm11 cd11 ct11 : Value} {f12 : Addr} {od12 an12 : Option Addr} {sl12 : Array (Option Value)} {oc12 kV12 dc12 pm12 cd12 ct12 : Value} {f13 : Addr} {od13 an13 : Option Addr} {sl13 : Array (Option Value)} {oc13 kV13 dc13 pm13 cd13 ct13 : Value} {f14 : Addr} {od14 an14 : Option Addr} {sl14 : Array (Option Value)} {oc14 kV14 dc14 pm14 cd14 ct14 : Value} {f15 : Addr} {od15 an15 : Option Addr} {sl15 : Array (Option Value)} {oc15 kV15 dc15 pm15 cd15 ct15 : Value} {f16 : Addr} {od16 an16 : Option Addr} {sl16 : Array (Option Value)} {oc16 kV16 dc16 pm16 cd16 ct16 : Value}
    (a0 : PySem.W.nsIn K mainGlobals "charge" = some (some (.ref f0)))
    (l0 : K.lookup f0 = some ⟨oc0, od0, .func (PySem.W.fnOf "charge" "charge" (defArgs s_charge) (defBody s_charge) (defScope s_charge) .none kV0 dc0 pm0 an0 cd0 ct0), sl0⟩)
    (c0 : PySem.W.codeIn K cd0 "charge" = true)
    (k0 : PySem.W.keepIn K (.ref f0) = true)
    (a1 : PySem.W.nsIn K mainGlobals "least_ahead" = some (some (.ref f1)))
    (l1 : K.lookup f1 = some ⟨oc1, od1, .func (PySem.W.fnOf "least_ahead" "least_ahead" (defArgs s_least_ahead) (defBody s_least_ahead) (defScope s_least_ahead) .none kV1 dc1 pm1 an1 cd1 ct1), sl1⟩)
    (c1 : PySem.W.codeIn K cd1 "least_ahead" = true)
    (k1 : PySem.W.keepIn K (.ref f1) = true)
    (a2 : PySem.W.nsIn K mainGlobals "sums_with" = some (some (.ref f2)))
    (l2 : K.lookup f2 = some ⟨oc2, od2, .func (PySem.W.fnOf "sums_with" "sums_with" (defArgs s_sums_with) (defBody s_sums_with) (defScope s_sums_with) .none kV2 dc2 pm2 an2 cd2 ct2), sl2⟩)
    (c2 : PySem.W.codeIn K cd2 "sums_with" = true)
    (k2 : PySem.W.keepIn K (.ref f2) = true)
    (a3 : PySem.W.nsIn K mainGlobals "sums_behind" = some (some (.ref f3)))
    (l3 : K.lookup f3 = some ⟨oc3, od3, .func (PySem.W.fnOf "sums_behind" "sums_behind" (defArgs s_sums_behind) (defBody s_sums_behind) (defScope s_sums_behind) .none kV3 dc3 pm3 an3 cd3 ct3), sl3⟩)
    (c3 : PySem.W.codeIn K cd3 "sums_behind" = true)
    (k3 : PySem.W.keepIn K (.ref f3) = true)
    (a4 : PySem.W.nsIn K mainGlobals "row_table" = some (some (.ref f4)))
    (l4 : K.lookup f4 = some ⟨oc4, od4, .func (PySem.W.fnOf "row_table" "row_table" (defArgs s_row_table) (defBody s_row_table) (defScope s_row_table) .none kV4 dc4 pm4 an4 cd4 ct4), sl4⟩)
    (c4 : PySem.W.codeIn K cd4 "row_table" = true)
    (k4 : PySem.W.keepIn K (.ref f4) = true)
    (a5 : PySem.W.nsIn K mainGlobals "place_of_least" = some (some (.ref f5)))
    (l5 : K.lookup f5 = some ⟨oc5, od5, .func (PySem.W.fnOf "place_of_least" "place_of_least" (defArgs s_place_of_least) (defBody s_place_of_least) (defScope s_place_of_least) .none kV5 dc5 pm5 an5 cd5 ct5), sl5⟩)
    (c5 : PySem.W.codeIn K cd5 "place_of_least" = true)
    (k5 : PySem.W.keepIn K (.ref f5) = true)
    (a6 : PySem.W.nsIn K mainGlobals "row_back" = some (some (.ref f6)))
    (l6 : K.lookup f6 = some ⟨oc6, od6, .func (PySem.W.fnOf "row_back" "row_back" (defArgs s_row_back) (defBody s_row_back) (defScope s_row_back) .none kV6 dc6 pm6 an6 cd6 ct6), sl6⟩)
    (c6 : PySem.W.codeIn K cd6 "row_back" = true)
    (k6 : PySem.W.keepIn K (.ref f6) = true)
    (a7 : PySem.W.nsIn K mainGlobals "best_row" = some (some (.ref f7)))
    (l7 : K.lookup f7 = some ⟨oc7, od7, .func (PySem.W.fnOf "best_row" "best_row" (defArgs s_best_row) (defBody s_best_row) (defScope s_best_row) .none kV7 dc7 pm7 an7 cd7 ct7), sl7⟩)
    (c7 : PySem.W.codeIn K cd7 "best_row" = true)
    (k7 : PySem.W.keepIn K (.ref f7) = true)
    (a8 : PySem.W.nsIn K mainGlobals "_law_cell_at" = some (some (.ref f8)))
    (l8 : K.lookup f8 = some ⟨oc8, od8, .func (PySem.W.fnOf "_law_cell_at" "_law_cell_at" (defArgs s_l_cell_at) (defBody s_l_cell_at) (defScope s_l_cell_at) .none kV8 dc8 pm8 an8 cd8 ct8), sl8⟩)
    (c8 : PySem.W.codeIn K cd8 "_law_cell_at" = true)
    (k8 : PySem.W.keepIn K (.ref f8) = true)
    (a9 : PySem.W.nsIn K mainGlobals "_law_next" = some (some (.ref f9)))
    (l9 : K.lookup f9 = some ⟨oc9, od9, .func (PySem.W.fnOf "_law_next" "_law_next" (defArgs s_l_next) (defBody s_l_next) (defScope s_l_next) .none kV9 dc9 pm9 an9 cd9 ct9), sl9⟩)
    (c9 : PySem.W.codeIn K cd9 "_law_next" = true)
    (k9 : PySem.W.keepIn K (.ref f9) = true)
    (a10 : PySem.W.nsIn K mainGlobals "_law_seed" = some (some (.ref f10)))
    (l10 : K.lookup f10 = some ⟨oc10, od10, .func (PySem.W.fnOf "_law_seed" "_law_seed" (defArgs s_l_seed) (defBody s_l_seed) (defScope s_l_seed) .none kV10 dc10 pm10 an10 cd10 ct10), sl10⟩)
    (c10 : PySem.W.codeIn K cd10 "_law_seed" = true)
    (k10 : PySem.W.keepIn K (.ref f10) = true)
    (a11 : PySem.W.nsIn K mainGlobals "_law_turn" = some (some (.ref f11)))
    (l11 : K.lookup f11 = some ⟨oc11, od11, .func (PySem.W.fnOf "_law_turn" "_law_turn" (defArgs s_l_turn) (defBody s_l_turn) (defScope s_l_turn) .none kV11 dc11 pm11 an11 cd11 ct11), sl11⟩)
    (c11 : PySem.W.codeIn K cd11 "_law_turn" = true)
    (k11 : PySem.W.keepIn K (.ref f11) = true)
    (a12 : PySem.W.nsIn K mainGlobals "_law_rows" = some (some (.ref f12)))
    (l12 : K.lookup f12 = some ⟨oc12, od12, .func (PySem.W.fnOf "_law_rows" "_law_rows" (defArgs s_l_rows) (defBody s_l_rows) (defScope s_l_rows) .none kV12 dc12 pm12 an12 cd12 ct12), sl12⟩)
    (c12 : PySem.W.codeIn K cd12 "_law_rows" = true)
    (k12 : PySem.W.keepIn K (.ref f12) = true)
    (a13 : PySem.W.nsIn K mainGlobals "_law_paid" = some (some (.ref f13)))
    (l13 : K.lookup f13 = some ⟨oc13, od13, .func (PySem.W.fnOf "_law_paid" "_law_paid" (defArgs s_l_paid) (defBody s_l_paid) (defScope s_l_paid) .none kV13 dc13 pm13 an13 cd13 ct13), sl13⟩)
    (c13 : PySem.W.codeIn K cd13 "_law_paid" = true)
    (k13 : PySem.W.keepIn K (.ref f13) = true)
    (a14 : PySem.W.nsIn K mainGlobals "_law_changes" = some (some (.ref f14)))
    (l14 : K.lookup f14 = some ⟨oc14, od14, .func (PySem.W.fnOf "_law_changes" "_law_changes" (defArgs s_l_changes) (defBody s_l_changes) (defScope s_l_changes) .none kV14 dc14 pm14 an14 cd14 ct14), sl14⟩)
    (c14 : PySem.W.codeIn K cd14 "_law_changes" = true)
    (k14 : PySem.W.keepIn K (.ref f14) = true)
    (a15 : PySem.W.nsIn K mainGlobals "_law_best" = some (some (.ref f15)))
    (l15 : K.lookup f15 = some ⟨oc15, od15, .func (PySem.W.fnOf "_law_best" "_law_best" (defArgs s_l_best) (defBody s_l_best) (defScope s_l_best) .none kV15 dc15 pm15 an15 cd15 ct15), sl15⟩)
    (c15 : PySem.W.codeIn K cd15 "_law_best" = true)
    (k15 : PySem.W.keepIn K (.ref f15) = true)
    (a16 : PySem.W.nsIn K mainGlobals "law" = some (some (.ref f16)))
    (l16 : K.lookup f16 = some ⟨oc16, od16, .func (PySem.W.fnOf "law" "law" (defArgs s_law) (defBody s_law) (defScope s_law) .none kV16 dc16 pm16 an16 cd16 ct16), sl16⟩)
    (c16 : PySem.W.codeIn K cd16 "law" = true)
    (k16 : PySem.W.keepIn K (.ref f16) = true)
    (z0 : PySem.W.nsIn K mainGlobals "len" = some none)
    (z1 : PySem.W.nsIn K mainGlobals "tuple" = some none)
    (z2 : PySem.W.nsIn K mainGlobals "list" = some none)
    (z3 : PySem.W.nsIn K mainGlobals "zip" = some none)
    (z4 : PySem.W.nsIn K mainGlobals "range" = some none)
    (z5 : PySem.W.nsIn K mainGlobals "isinstance" = some none)
    (z6 : PySem.W.nsIn K mainGlobals "int" = some none)
    (z7 : PySem.W.nsIn K mainGlobals "bool" = some none)
    (z8 : PySem.W.nsIn K mainGlobals "abs" = some none)
    (z9 : PySem.W.nsIn K mainGlobals "min" = some none)
    (z10 : PySem.W.nsIn K mainGlobals "max" = some none)
    (z11 : PySem.W.nsIn K mainGlobals "enumerate" = some none)
    (z12 : PySem.W.nsIn K mainGlobals "reversed" = some none) :
    ∃ fd : FuncData, (∀ (s : Shared) (v : Value), BindsTo s fd ⟨[v], []⟩ [("_law_script", v)]) ∧ ∀ base : Heap, K.In base → base.Ns mainGlobals mg → FnOk l.prog w K mg base CX0 10 fa fd ["_law_script"] (toSp K spLaw) := by
  have e := hfa.symm.trans (PySem.W.mg_of X G a16)
  cases e
  have T : Txt mg := ⟨PySem.W.mg_none_of X G z0, PySem.W.mg_none_of X G z1, PySem.W.mg_none_of X G z2, PySem.W.mg_none_of X G z3, PySem.W.mg_none_of X G z4, PySem.W.mg_none_of X G z5, PySem.W.mg_none_of X G z6, PySem.W.mg_none_of X G z7, PySem.W.mg_none_of X G z8, PySem.W.mg_none_of X G z9, PySem.W.mg_none_of X G z10, PySem.W.mg_none_of X G z11, PySem.W.mg_none_of X G z12⟩
  have E0 := fun_mk (st := s_charge) l0 c0 k0
  have b0 := E0.binds (ps := ["what", "so"]) fun _ _ _ _ _ _ us hl => by obtain ⟨_, _, rfl⟩ := len2 hl; rfl
  have E1 := fun_mk (st := s_least_ahead) l1 c1 k1
  have b1 := E1.binds (ps := ["left", "ahead", "adviser"]) fun _ _ _ _ _ _ us hl => by obtain ⟨_, _, _, rfl⟩ := len3 hl; rfl
  have E2 := fun_mk (st := s_sums_with) l2 c2 k2
  have b2 := E2.binds (ps := ["left", "ahead", "said", "so"]) fun _ _ _ _ _ _ us hl => by obtain ⟨_, _, _, _, rfl⟩ := len4 hl; rfl
  have E3 := fun_mk (st := s_sums_behind) l3 c3 k3
  have b3 := E3.binds (ps := ["ahead", "said", "so"]) fun _ _ _ _ _ _ us hl => by obtain ⟨_, _, _, rfl⟩ := len3 hl; rfl
  have E4 := fun_mk (st := s_row_table) l4 c4 k4
  have b4 := E4.binds (ps := ["many", "turns", "changes"]) fun _ _ _ _ _ _ us hl => by obtain ⟨_, _, _, rfl⟩ := len3 hl; rfl
  have E5 := fun_mk (st := s_place_of_least) l5 c5 k5
  have b5 := E5.binds (ps := ["sums"]) fun _ _ _ _ _ _ us hl => by obtain ⟨_, rfl⟩ := len1 hl; rfl
  have E6 := fun_mk (st := s_row_back) l6 c6 k6
  have b6 := E6.binds (ps := ["table", "changes"]) fun _ _ _ _ _ _ us hl => by obtain ⟨_, _, rfl⟩ := len2 hl; rfl
  have E7 := fun_mk (st := s_best_row) l7 c7 k7
  have b7 := E7.binds (ps := ["many", "turns", "changes"]) fun _ _ _ _ _ _ us hl => by obtain ⟨_, _, _, rfl⟩ := len3 hl; rfl
  have E8 := fun_mk (st := s_l_cell_at) l8 c8 k8
  have b8 := E8.binds (ps := ["_law_script", "_law_k"]) fun _ _ _ _ _ _ us hl => by obtain ⟨_, _, rfl⟩ := len2 hl; rfl
  have E9 := fun_mk (st := s_l_next) l9 c9 k9
  have b9 := E9.binds (ps := ["_law_x"]) fun _ _ _ _ _ _ us hl => by obtain ⟨_, rfl⟩ := len1 hl; rfl
  have E10 := fun_mk (st := s_l_seed) l10 c10 k10
  have b10 := E10.binds (ps := ["_law_script", "_law_k"]) fun _ _ _ _ _ _ us hl => by obtain ⟨_, _, rfl⟩ := len2 hl; rfl
  have E11 := fun_mk (st := s_l_turn) l11 c11 k11
  have b11 := E11.binds (ps := ["_law_x", "_law_many", "_law_scale", "_law_sleeps"]) fun _ _ _ _ _ _ us hl => by obtain ⟨_, _, _, _, rfl⟩ := len4 hl; rfl
  have E12 := fun_mk (st := s_l_rows) l12 c12 k12
  have b12 := E12.binds (ps := ["_law_many", "_law_length"]) fun _ _ _ _ _ _ us hl => by obtain ⟨_, _, rfl⟩ := len2 hl; rfl
  have E13 := fun_mk (st := s_l_paid) l13 c13 k13
  have b13 := E13.binds (ps := ["_law_turns", "_law_row"]) fun _ _ _ _ _ _ us hl => by obtain ⟨_, _, rfl⟩ := len2 hl; rfl
  have E14 := fun_mk (st := s_l_changes) l14 c14 k14
  have b14 := E14.binds (ps := ["_law_row"]) fun _ _ _ _ _ _ us hl => by obtain ⟨_, rfl⟩ := len1 hl; rfl
  have E15 := fun_mk (st := s_l_best) l15 c15 k15
  have b15 := E15.binds (ps := ["_law_many", "_law_turns", "_law_changes_here"]) fun _ _ _ _ _ _ us hl => by obtain ⟨_, _, _, rfl⟩ := len3 hl; rfl
  have E16 := fun_mk (st := s_law) l16 c16 k16
  have b16 := E16.binds (ps := ["_law_script"]) fun _ _ _ _ _ _ us hl => by obtain ⟨_, rfl⟩ := len1 hl; rfl
  refine ⟨PySem.W.fnOf "law" "law" (defArgs s_law) (defBody s_law) (defScope s_law) .none kV16 dc16 pm16 an16 cd16 ct16, fun s v => .of_eq rfl, fun base _ _ => ?_⟩
  have F_charge : DefOk l.prog w K mg base 1 "charge" (pureSp spCharge) := ok_charge T E0 (PySem.W.mg_of X G a0) b0
  have F_least_ahead : DefOk l.prog w K mg base 1 "least_ahead" (pureSp spLeast) := ok_least_ahead T E1 (PySem.W.mg_of X G a1) b1
  have F_sums_with : DefOk l.prog w K mg base 2 "sums_with" (pureSp spSW) := ok_sums_with T E2 (PySem.W.mg_of X G a2) b2 F_least_ahead F_charge
  have F_sums_behind : DefOk l.prog w K mg base 3 "sums_behind" (pureSp spSB) := ok_sums_behind T E3 (PySem.W.mg_of X G a3) b3 F_sums_with
  have F_row_table : DefOk l.prog w K mg base 4 "row_table" (pureSp spTable) := ok_row_table T E4 (PySem.W.mg_of X G a4) b4 F_sums_behind
  have F_place_of_least : DefOk l.prog w K mg base 1 "place_of_least" (pureSp spPlc) := ok_place_of_least T E5 (PySem.W.mg_of X G a5) b5
  have F_row_back : DefOk l.prog w K mg base 2 "row_back" (pureSp spBack) := ok_row_back T E6 (PySem.W.mg_of X G a6) b6 F_place_of_least
  have F_best_row : DefOk l.prog w K mg base 5 "best_row" (pureSp spBest) := ok_best_row T E7 (PySem.W.mg_of X G a7) b7 F_row_table F_row_back
  have F_l_cell_at : DefOk l.prog w K mg base 1 "_law_cell_at" (pureSp spCell) := ok_l_cell_at T E8 (PySem.W.mg_of X G a8) b8
  have F_l_next : DefOk l.prog w K mg base 1 "_law_next" (pureSp spNext) := ok_l_next T E9 (PySem.W.mg_of X G a9) b9
  have F_l_seed : DefOk l.prog w K mg base 2 "_law_seed" (pureSp spSeedS) := ok_l_seed T E10 (PySem.W.mg_of X G a10) b10 F_l_cell_at F_l_next
  have F_l_turn : DefOk l.prog w K mg base 2 "_law_turn" (pureSp spTurnQ) := ok_l_turn T E11 (PySem.W.mg_of X G a11) b11 F_l_next
  have F_l_rows : DefOk l.prog w K mg base 1 "_law_rows" (pureSp spRows) := ok_l_rows T E12 (PySem.W.mg_of X G a12) b12
  have F_l_paid : DefOk l.prog w K mg base 1 "_law_paid" (pureSp spPaid) := ok_l_paid T E13 (PySem.W.mg_of X G a13) b13
  have F_l_changes : DefOk l.prog w K mg base 1 "_law_changes" (pureSp spChs) := ok_l_changes T E14 (PySem.W.mg_of X G a14) b14
  have F_l_best : DefOk l.prog w K mg base 7 "_law_best" (pureSp spBestL) := ok_l_best T E15 (PySem.W.mg_of X G a15) b15 F_l_rows F_l_changes F_best_row F_l_paid
  exact ok_law T E16 F_l_seed F_l_turn F_l_best
theorem walk {l : PySem.W.OpenLaw} {q : Program} {loose : List Str} {XP : (Str → Option Value) → Heap → Prop} {YP : World → Heap → Prop} {d : DefRec} {K : Params → PySem.W.Frag} (hn : l.most = some 63) (hdf : d.params.defaults = [])
    (hY : ∀ (w : World) (h : Heap), YP w h → (K w.params).In h)
    (F : ∀ (w : World) (mg : Str → Option Value) (fa : Addr) (h : Heap), (K w.params).In h → h.Ns mainGlobals mg → mg d.name = some (.ref fa) →
      ∃ fd : FuncData, (∀ (s : Shared) (u : Value), BindsTo s fd ⟨[u], []⟩ [("_law_script", u)]) ∧ ∀ base : Heap, (K w.params).In base → base.Ns mainGlobals mg → FnOk l.prog w (K w.params) mg base CX0 10 fa fd ["_law_script"] (toSp (K w.params) spLaw)) :
    PySem.W.WalkO q loose XP YP l.row.toRowW d [] (fun f vs => PySem.call f vs) :=
  L2.walk_of (n := 63) (k := 10) (x := "_law_script") (CX := fun _ => CX0) (sp := fun w => toSp (K w.params) spLaw) hn (by decide) hdf ⟨rfl, by decide, by decide⟩ hY F (fun _ _ a ns hl _ hS => law_start hl hS) fun _ _ _ _ _ z => z
end My
open PySem PySem.W PyProof.Rows
theorem My.walkZ {q : Program} {loose : List Str} {XP : (Str → Option Value) → Heap → Prop} {K : Params → PySem.W.Frag} {as : List Addr} {n t : Nat} {r : RowW} {d : DefRec} {kwd : List (Str × Expr)} {run : Value → List Value → Sem Value} (e : ∀ P, as = (K P).map (·.1))
    (h : WalkO q loose XP (fun w h => (K w.params).In h) r d kwd run) : WalkX q loose XP (X.obsZ as) (X.valZ K n t) r d kwd run := fun w s₀ s₁ mg mb G y a o pm cd doc dV kV ho hd hcd hD hmg hg args vals as' L hpre hlay hrd hwl hlo =>
  h w s₀ s₁ mg mb G (fun b o' e' => L.keeps _ _ ((X.z_facts e y).2.1 b o' e')) a o pm cd doc dV kV ho hd hcd hD hmg hg args vals as' hpre hlay hrd hwl hlo
open PySem PySem.W PyProof.Rows
set_option maxRecDepth 100000 in
set_option maxHeartbeats 0 in
theorem PySem.Challenge.cw_heedwise_k66_all_rows_gone_through_holds : PySem.Challenge.rw_heedwise_k66_all_rows_gone_through.Holds := by
  w_on; o_law; z_head; (case hw => w_witness2)
  k_fill
  refine My.walkZ (fun P => rfl) ?_
  refine My.walk (l := PySem.Challenge.rw_heedwise_k66_all_rows_gone_through) rfl rfl (fun w h Y => Y) ?F
  case F =>
    intro w mg fa h KX G hmg
    refine' My.all_mk KX G hmg ?a0 ?l0 ?c0 ?k0 ?a1 ?l1 ?c1 ?k1 ?a2 ?l2 ?c2 ?k2 ?a3 ?l3 ?c3 ?k3 ?a4 ?l4 ?c4 ?k4 ?a5 ?l5 ?c5 ?k5 ?a6 ?l6 ?c6 ?k6 ?a7 ?l7 ?c7 ?k7 ?a8 ?l8 ?c8 ?k8 ?a9 ?l9 ?c9 ?k9 ?a10 ?l10 ?c10 ?k10 ?a11 ?l11 ?c11 ?k11 ?a12 ?l12 ?c12 ?k12 ?a13 ?l13 ?c13 ?k13 ?a14 ?l14 ?c14 ?k14 ?a15 ?l15 ?c15 ?k15 ?a16 ?l16 ?c16 ?k16 ?z0 ?z1 ?z2 ?z3 ?z4 ?z5 ?z6 ?z7 ?z8 ?z9 ?z10 ?z11 ?z12
    (case a0 => k_is)
    (case l0 => k_is)
    (case c0 => k_is)
    (case k0 => k_is)
    (case a1 => k_is)
    (case l1 => k_is)
    (case c1 => k_is)
    (case k1 => k_is)
    (case a2 => k_is)
    (case l2 => k_is)
    (case c2 => k_is)
    (case k2 => k_is)
    (case a3 => k_is)
    (case l3 => k_is)
    (case c3 => k_is)
    (case k3 => k_is)
    (case a4 => k_is)
    (case l4 => k_is)
    (case c4 => k_is)
    (case k4 => k_is)
    (case a5 => k_is)
    (case l5 => k_is)
    (case c5 => k_is)
    (case k5 => k_is)
    (case a6 => k_is)
    (case l6 => k_is)
    (case c6 => k_is)
    (case k6 => k_is)
    (case a7 => k_is)
    (case l7 => k_is)
    (case c7 => k_is)
    (case k7 => k_is)
    (case a8 => k_is)
    (case l8 => k_is)
    (case c8 => k_is)
    (case k8 => k_is)
    (case a9 => k_is)
    (case l9 => k_is)
    (case c9 => k_is)
    (case k9 => k_is)
    (case a10 => k_is)
    (case l10 => k_is)
    (case c10 => k_is)
    (case k10 => k_is)
    (case a11 => k_is)
    (case l11 => k_is)
    (case c11 => k_is)
    (case k11 => k_is)
    (case a12 => k_is)
    (case l12 => k_is)
    (case c12 => k_is)
    (case k12 => k_is)
    (case a13 => k_is)
    (case l13 => k_is)
    (case c13 => k_is)
    (case k13 => k_is)
    (case a14 => k_is)
    (case l14 => k_is)
    (case c14 => k_is)
    (case k14 => k_is)
    (case a15 => k_is)
    (case l15 => k_is)
    (case c15 => k_is)
    (case k15 => k_is)
    (case a16 => k_is)
    (case l16 => k_is)
    (case c16 => k_is)
    (case k16 => k_is)
    (case z0 => k_is)
    (case z1 => k_is)
    (case z2 => k_is)
    (case z3 => k_is)
    (case z4 => k_is)
    (case z5 => k_is)
    (case z6 => k_is)
    (case z7 => k_is)
    (case z8 => k_is)
    (case z9 => k_is)
    (case z10 => k_is)
    (case z11 => k_is)
    (case z12 => k_is)
