import PyProof.Rows.All
import Wide.All
import OpenK.AllK
import Wide.FinOn
import Lean
import PyProof.EqAt
import PyProof.EqKinds
import PyProof.TupleCall
import PyProof.NeData
import PyProof.WalkInts
import PyProof.ListRange
import PySem.Challenge.RW_heedwise_k23_no_hands
set_option Elab.async false
set_option linter.all false
set_option maxRecDepth 100000
namespace L2
open PySem PySem.Spec PyProof.Rows
abbrev Key := Sum Int Str
def keyIs : Key → Value → Bool
  | .inl k, v => Value.isInt k v
  | .inr x, v => Value.isStrOf x v
def keyH (w : World) : Key → Int
  | .inl k => hashInt k
  | .inr x => hashStr w x
theorem keyIs_shape : ∀ {k : Key} {v : Value}, keyIs k v = true → (∃ i t, k = Sum.inl i ∧ v = Value.int i t) ∨ (∃ x t, k = Sum.inr x ∧ v = Value.str x t)
  | .inl i, v, h => by
    obtain ⟨t, e⟩ := Value.isInt_shape (k := i) (v := v) h
    exact .inl ⟨i, t, rfl, e⟩
  | .inr x, v, h => by
    obtain ⟨t, e⟩ := Value.isStrOf_shape (x := x) (v := v) h
    exact .inr ⟨x, t, rfl, e⟩
theorem key_ll (a b : Int) : decide ((Sum.inl a : Key) = Sum.inl b) = (a == b) := by
  by_cases e : a = b
  · subst e; simp
  · have h : ¬ (Sum.inl a : Key) = Sum.inl b := fun q => e (Sum.inl.inj q)
    rw [decide_eq_false h]
    exact (beq_eq_false_iff_ne.mpr e).symm
theorem key_rr (a b : Str) : decide ((Sum.inr a : Key) = Sum.inr b) = decide (a = b) := by
  by_cases e : a = b
  · subst e; simp
  · have h : ¬ (Sum.inr a : Key) = Sum.inr b := fun q => e (Sum.inr.inj q)
    rw [decide_eq_false h, decide_eq_false e]
theorem key_lr (a : Int) (b : Str) : decide ((Sum.inl a : Key) = Sum.inr b) = false := decide_eq_false (fun q => nomatch q)
theorem key_rl (a : Str) (b : Int) : decide ((Sum.inr a : Key) = Sum.inl b) = false := decide_eq_false (fun q => nomatch q)
def mixKind (prog : Program) (w : World) : PySem.KeyKind prog w Key where
  is := keyIs
  hash := keyH w
  inj := fun v a b ha hb => by
    rcases keyIs_shape ha with ⟨i, t, rfl, rfl⟩ | ⟨x, t, rfl, rfl⟩
    · rcases keyIs_shape hb with ⟨j, u, rfl, e⟩ | ⟨y, u, rfl, e⟩
      · injection e with e1 _; rw [e1]
      · exact nomatch e
    · rcases keyIs_shape hb with ⟨j, u, rfl, e⟩ | ⟨y, u, rfl, e⟩
      · exact nomatch e
      · injection e with e1 _; rw [e1]
  byValue := fun k v h => by
    rcases keyIs_shape h with ⟨i, t, rfl, rfl⟩ | ⟨x, t, rfl, rfl⟩ <;> rfl
  pyHash := fun hv h => by
    rcases keyIs_shape hv with ⟨i, t, rfl, rfl⟩ | ⟨x, t, rfl, rfl⟩
    · exact wpAny_pyHash_int h
    · exact wpAny_pyHash_str h
  eqBool := fun hu hv h => by
    rcases keyIs_shape hu with ⟨i, t, rfl, rfl⟩ | ⟨x, t, rfl, rfl⟩
    · rcases keyIs_shape hv with ⟨j, u, rfl, rfl⟩ | ⟨y, u, rfl, rfl⟩
      · rw [key_ll] at h; exact wpAny_eqBool_int h
      · rw [key_lr] at h; exact SeqAt.EqAt.int_str i t y u _ _ _ _ h
    · rcases keyIs_shape hv with ⟨j, u, rfl, rfl⟩ | ⟨y, u, rfl, rfl⟩
      · rw [key_rl] at h; exact SeqAt.EqAt.str_int x t j u _ _ _ _ h
      · rw [key_rr] at h; exact wpAny_eqBool_str h
  «strs» := fun k x t v h => by
    rcases keyIs_shape h with ⟨i, u, rfl, e⟩ | ⟨y, u, rfl, e⟩
    · exact nomatch e
    · injection e with e1 _
      subst e1
      cases v <;> rfl
end L2
namespace L2
open PySem PySem.Spec PyProof.Rows
inductive V where
  | non | bl (b : Bool) | int (i : Int) | str (x : Str) | byt (b : Array UInt8) | flt (b : UInt64) | ref (a : Addr) | ty (n : String)
  deriving DecidableEq
def RelV : V → Value → Prop
  | .non, u => u = Value.none
  | .bl b, u => u = Value.bool b
  | .int i, u => ∃ t, u = Value.int i t
  | .str x, u => ∃ t, u = Value.str x t
  | .byt b, u => ∃ t, u = Value.bytes b t
  | .flt b, u => ∃ t, u = Value.float b t
  | .ref a, u => u = Value.ref a
  | .ty n, u => u = Value.type n
abbrev Vals : List V → List Value → Prop := Paired RelV
theorem Vals.length {xs : List V} {us : List Value} (r : Vals xs us) : xs.length = us.length := Paired.length r
theorem Vals.get : ∀ {xs : List V} {us : List Value} {i : Nat} {x : V}, Vals xs us → xs[i]? = some x → ∃ u, us[i]? = some u ∧ RelV x u
  | _, _, _, _, .nil, e => by simp at e
  | _, _, 0, _, .cons r _, e => by simp at e; subst e; exact ⟨_, rfl, r⟩
  | _, _, i + 1, x, .cons _ t, e => by
    obtain ⟨u, h1, h2⟩ := Vals.get (i := i) (x := x) t (by simpa using e)
    exact ⟨u, by simpa using h1, h2⟩
theorem Vals.append : ∀ {xs ys : List V} {us ws : List Value}, Vals xs us → Vals ys ws → Vals (xs ++ ys) (us ++ ws)
  | _, _, _, _, .nil, s => s
  | _, _, _, _, .cons r t, s => .cons r (Vals.append t s)
def RelO : Option V → Option Value → Prop
  | some v, some u => RelV v u
  | none, none => True
  | _, _ => False
def KV {κ : Type} : List (κ × V) → List (κ × Value) → Prop := Paired fun (p : κ × V) (q : κ × Value) => p.1 = q.1 ∧ RelV p.2 q.2
def kV : Key → V
  | .inl i => .int i
  | .inr x => .str x
inductive HO where
  
  | lst (xs : List V)
  
  | tup (xs : List V)
  
  | dK (kvs : List (Key × V)) | dT (kvs : List (List Key × V))
  
  | set (S : Int → Bool) (n : Nat)
  
  | ins (C dx : Addr) (fs : List (Str × V))
  
  | own (x : Addr)
  
  | xd (fs : List (Str × V))
  
  | met (f x : Addr)
  
  | rng (lo hi : Int)
  
  | frz (o : Obj) (u : HO)
  
  | tbl (ps : Array Value)
  
  | ext (φ : Heap → Prop)
abbrev Hp := Addr → Option HO
def upd (H : Hp) (a : Addr) (o : HO) : Hp := fun b => if b = a then some o else H b
theorem upd_same {H : Hp} {a : Addr} {o : HO} : upd H a o a = some o := by unfold upd; rw [if_pos rfl]
theorem upd_ne {H : Hp} {a b : Addr} {o : HO} (h : b ≠ a) : upd H a o b = H b := by unfold upd; rw [if_neg h]
theorem ne_of_none {H : Hp} {a b : Addr} {o : HO} (h : H a = some o) (h' : H b = none) : a ≠ b := by
  intro e; subst e; rw [h] at h'; cases h'
section
variable (P : Program) (w : World)
def ObjOk (H : Hp) (h : Heap) (a : Addr) : HO → Prop
  | .lst xs => xs.length ≤ sizeLine ∧ ∃ (its : List Value) (n : Nat), Vals xs its ∧ h.get? a = some { cls := .type "list", data := .seq its.toArray n }
  | .tup xs => xs.length ≤ sizeLine ∧ ∃ its : List Value, Vals xs its ∧ IsTup h a its.toArray
  | .dK kvs => kvs.length ≤ sizeLine ∧ (a == sysModules) = false ∧ ∃ vs, KV kvs vs ∧ h.DictOf (mixKind P w) a vs
  | .dT kvs => kvs.length ≤ sizeLine ∧ (a == sysModules) = false ∧ ∃ xs : List (List Key × Addr × Value),
      Paired (fun (p : List Key × V) (q : List Key × Addr × Value) => p.1 = q.1 ∧ H q.2.1 = some (.tup (p.1.map kV)) ∧ RelV p.2 q.2.2) kvs xs ∧
      ∃ o es ep, h.get? a = some o ∧ o.ExactDict ∧ o.data = .dict es ep ∧ es.toList = xs.map (entryOfKey (tupleKind (mixKind P w))) ∧ (xs.map (·.1)).Nodup
  | .set S n => h.SetOf (intKind P w) a S n
  | .ins C dx fs => H dx = some (.own a) ∧ fs.length ≤ 1000 ∧ dx ≠ a ∧ h.get? a = some (PySem.W.instObj C dx) ∧
      ∃ mA, h.Ns1 dx mA ∧ (∀ f, RelO (fs.lookup f) (mA f)) ∧ PySem.Within mA (fs.map (·.1))
  | .own _ => ∃ o, h.get? a = some o
  | .xd fs => ∃ mA, h.Ns1 a mA ∧ ∀ f, RelO (fs.lookup f) (mA f)
  | .rng lo hi => ∃ t u v, h.get? a = some { cls := .type "range", data := .fields #[.int lo t, .int hi u, .int 1 v] }
  | .frz o u => h.get? a = some o ∧ ObjOk H h a u
  | .tbl ps => h.get? a = some { cls := .none, data := .fields ps }
  | .met f x => h.get? a = some (PySem.W.methodObj (.ref f) (.ref x))
  | .ext φ => φ h ∧ (∃ o, h.get? a = some o) ∧ ∀ h1 h2 : Heap, φ h1 → (∀ o, h1.get? a = some o → h2.get? a = some o) → φ h2
def HOk (H : Hp) (h : Heap) : Prop := ∀ a o, H a = some o → ObjOk P w H h a o
end
section
variable {P : Program} {w : World} {H H' : Hp} {h h' : Heap} {a : Addr} {o : HO}
theorem ObjOk.lt (x : ObjOk P w H h a o) : a < h.objs.size := by
  cases o with
  | lst xs => obtain ⟨_, _, _, _, e⟩ := x; exact Heap.lt_size e
  | tup xs => obtain ⟨_, _, _, p⟩ := x; exact p.lt
  | dK kvs => obtain ⟨_, _, _, _, o, _, _, e, _⟩ := x; exact Heap.lt_size e
  | dT kvs => obtain ⟨_, _, _, _, o, _, _, e, _⟩ := x; exact Heap.lt_size e
  | set S n => obtain ⟨o, _, _, _, e, _⟩ := x; exact Heap.lt_size e
  | ins C dx fs => obtain ⟨_, _, _, e, _⟩ := x; exact Heap.lt_size e
  | own y => obtain ⟨_, e⟩ := x; exact Heap.lt_size e
  | xd fs => obtain ⟨_, ⟨_, _, _, e, _⟩, _⟩ := x; exact Heap.lt_size e
  | rng lo hi => obtain ⟨_, _, _, e⟩ := x; exact Heap.lt_size e
  | frz ob u => obtain ⟨e, _⟩ := x; exact Heap.lt_size e
  | tbl ps => exact Heap.lt_size (show h.get? a = some _ from x)
  | met f y => exact Heap.lt_size (show h.get? a = some _ from x)
  | ext φ => obtain ⟨_, ⟨_, e⟩, _⟩ := x; exact Heap.lt_size e
theorem Paired.mapP {α β : Type} {F G : α → β → Prop} : ∀ {l₁ : List α} {l₂ : List β}, Paired F l₁ l₂ → (∀ a b, F a b → G a b) → Paired G l₁ l₂
  | _, _, .nil, _ => .nil
  | _, _, .cons r t, f => .cons (f _ _ r) (Paired.mapP t f)
theorem ObjOk.stay (x : ObjOk P w H h a o) (k : ∀ b u, (b = a ∨ H b = some (.own a)) → h.get? b = some u → h'.get? b = some u)
    (ho : ∀ b, H b = some (.own a) → H' b = some (.own a)) (ht : ∀ b xs, H b = some (.tup xs) → H' b = some (.tup xs)) : ObjOk P w H' h' a o := by
  induction o with
  | lst xs => obtain ⟨z, its, n, r, e⟩ := x; exact ⟨z, its, n, r, k _ _ (.inl rfl) e⟩
  | tup xs => obtain ⟨z, its, r, ob, e, c⟩ := x; exact ⟨z, its, r, ob, k _ _ (.inl rfl) e, c⟩
  | dK kvs => obtain ⟨z, y, vs, r, ob, es, ep, e, c⟩ := x; exact ⟨z, y, vs, r, ob, es, ep, k _ _ (.inl rfl) e, c⟩
  | dT kvs =>
    obtain ⟨z, y, xs, r, ob, es, ep, e, c⟩ := x
    exact ⟨z, y, xs, Paired.mapP r fun p q z => ⟨z.1, ht _ _ z.2.1, z.2.2⟩, ob, es, ep, k _ _ (.inl rfl) e, c⟩
  | set S n => obtain ⟨ob, es, ep, t, e, c⟩ := x; exact ⟨ob, es, ep, t, k _ _ (.inl rfl) e, c⟩
  | ins C dx fs =>
    obtain ⟨d, z, ne, e, mA, ⟨od, es, ep, e2, c⟩, r⟩ := x
    exact ⟨ho _ d, z, ne, k _ _ (.inl rfl) e, mA, ⟨od, es, ep, k _ _ (.inr d) e2, c⟩, r⟩
  | own y => obtain ⟨ob, e⟩ := x; exact ⟨ob, k _ _ (.inl rfl) e⟩
  | xd fs => obtain ⟨mA, ⟨od, es, ep, e, c⟩, r⟩ := x; exact ⟨mA, ⟨od, es, ep, k _ _ (.inl rfl) e, c⟩, r⟩
  | rng lo hi => obtain ⟨t, u, v, e⟩ := x; exact ⟨t, u, v, k _ _ (.inl rfl) e⟩
  | frz ob u ih => obtain ⟨e, q⟩ := x; exact ⟨k _ _ (.inl rfl) e, ih q⟩
  | tbl ps =>
    have e : h.get? a = some { cls := .none, data := .fields ps } := x
    show h'.get? a = some { cls := .none, data := .fields ps }
    exact k a _ (.inl rfl) e
  | met f y =>
    have e : h.get? a = some (PySem.W.methodObj (.ref f) (.ref y)) := x
    show h'.get? a = some (PySem.W.methodObj (.ref f) (.ref y))
    exact k a _ (.inl rfl) e
  | ext φ => obtain ⟨p, ⟨o, e⟩, st⟩ := x; exact ⟨st _ _ p fun o q => k _ _ (.inl rfl) q, ⟨o, k _ _ (.inl rfl) e⟩, st⟩
theorem HOk.lt (x : HOk P w H h) (e : H a = some o) : a < h.objs.size := (x a o e).lt
theorem HOk.fresh (x : HOk P w H h) (e : h.objs.size ≤ a) : H a = none := by
  cases q : H a with
  | none => rfl
  | some u => exact absurd (Nat.lt_of_lt_of_le (x.lt q) e) (Nat.lt_irrefl _)
theorem HOk.kept (x : HOk P w H h) (k : ∀ b u, h.get? b = some u → h'.get? b = some u) : HOk P w H h' := fun a o e =>
  (x a o e).stay (fun b u _ q => k b u q) (fun _ q => q) fun _ _ q => q
theorem HOk.laid (x : HOk P w H h) (k : ∀ b u, h.get? b = some u → h'.get? b = some u) (hp : h.objs.size ≤ a) (new : ObjOk P w (upd H a o) h' a o) : HOk P w (upd H a o) h' := fun b u e => by
  have hn := x.fresh hp
  by_cases hb : b = a
  · subst hb; rw [upd_same] at e; cases e; exact new
  · rw [upd_ne hb] at e
    exact (x b u e).stay (fun c v _ q => k c v q) (fun c q => by rw [upd_ne (ne_of_none q hn)]; exact q) fun c xs q => by rw [upd_ne (ne_of_none q hn)]; exact q
end
def Rd (H : Hp) (a : Addr) (u : HO) : Prop := H a = some u ∨ ∃ o, H a = some (.frz o u)
theorem Rd.ok {P : Program} {w : World} {H : Hp} {h : Heap} {a : Addr} {u : HO} (r : Rd H a u) (x : HOk P w H h) : ObjOk P w H h a u := by
  rcases r with r | ⟨o, r⟩
  · exact x a u r
  · obtain ⟨_, q⟩ := x a _ r
    exact q
def Mut : Option HO → Prop
  | some (.lst _) => True
  | some (.dK _) => True
  | some (.dT _) => True
  | some (.set _ _) => True
  | some (.ins _ _ _) => True
  | some (.ext _) => True
  | _ => False
section
variable {P : Program} {w : World} {H : Hp} {h h' : Heap} {x e : Addr} {o' : HO}
theorem HOk.write (ok : HOk P w H h) (mu : Mut (H x)) (he : e = x ∨ H e = some (.own x)) (k : ∀ b u, b ≠ e → h.get? b = some u → h'.get? b = some u) (heo : ∃ u, h'.get? e = some u)
    (new : ObjOk P w (upd H x o') h' x o') : HOk P w (upd H x o') h' := fun b u q => by
  have nown : ∀ c y, H c = some (.own y) → c ≠ x := fun c y r z => by subst z; rw [r] at mu; exact mu
  have ntup : ∀ c xs, H c = some (.tup xs) → c ≠ x := fun c xs r z => by subst z; rw [r] at mu; exact mu
  by_cases hb : b = x
  · subst hb; rw [upd_same] at q; cases q; exact new
  · rw [upd_ne hb] at q
    by_cases hbe : b = e
    · have q' : H b = some (.own x) := by
        rcases he with z | z
        · exact absurd (hbe.trans z) hb
        · rw [hbe]; exact z
      rw [q] at q'; cases q'
      obtain ⟨v, hv⟩ := heo
      exact ⟨v, by rw [hbe]; exact hv⟩
    · refine (ok b u q).stay (fun c v hc r => k c v ?_ r) (fun c r => by rw [upd_ne (nown c b r)]; exact r) fun c xs r => by rw [upd_ne (ntup c xs r)]; exact r
      rcases hc with rfl | hc
      · exact hbe
      · rintro rfl
        rcases he with z | z
        · exact nown c b hc z
        · rw [hc] at z; cases z; exact hb rfl
end
structure Un (fs ex : List Addr) (H H' : Hp) (h h' : Heap) : Prop where
  keep : ∀ b o, h.get? b = some o → H b = none → b ∉ fs → b ∉ ex → h'.get? b = some o
  slot : ∀ b o, h.get? b = some o → H b = none → b ∈ fs → b ∉ ex → ∃ sl, h'.get? b = some { o with slots := sl }
  free : ∀ b o, h.get? b = some o → H b = none → b ∉ ex → H' b = none
  there : ∀ b o, h.get? b = some o → b ∉ ex → ∃ o', h'.get? b = some o'
  tups : ∀ b xs, H b = some (.tup xs) → H' b = some (.tup xs)
  frzs : ∀ b o u, H b = some (.frz o u) → H' b = some (.frz o u)
  tbls : ∀ b ps, H b = some (.tbl ps) → ∃ more, H' b = some (.tbl (ps ++ more))
section
variable {fs fs' ex ex' : List Addr} {H H1 H2 : Hp} {h h1 h2 h' : Heap} {a x e : Addr} {o : HO}
theorem Un.any (u : Un fs ex H H1 h h1) {b : Addr} {ob : Obj} (q : h.get? b = some ob) (n : H b = none) (hx : b ∉ ex) : ∃ sl, h1.get? b = some { ob with slots := sl } := by
  by_cases hb : b ∈ fs
  · exact u.slot b ob q n hb hx
  · exact ⟨ob.slots, u.keep b ob q n hb hx⟩
theorem Un.kept (k : ∀ b u, h.get? b = some u → h'.get? b = some u) : Un fs ex H H h h' :=
  ⟨fun b ob q _ _ _ => k b ob q, fun b ob q _ _ _ => ⟨ob.slots, k b ob q⟩, fun _ _ _ n _ => n, fun b ob q _ => ⟨ob, k b ob q⟩, fun _ _ q => q, fun _ _ _ q => q, fun _ ps q => ⟨#[], by rw [q]; simp⟩⟩
theorem Un.refl : Un fs ex H H h h := Un.kept fun _ _ q => q
theorem Un.laid (k : ∀ b u, h.get? b = some u → h'.get? b = some u) (hp : h.objs.size ≤ a) (hn : H a = none) : Un fs ex H (upd H a o) h h' where
  keep := fun b u q _ _ _ => k b u q
  slot := fun b u q _ _ _ => ⟨u.slots, k b u q⟩
  free := fun b u q n _ => by rw [upd_ne (Nat.ne_of_lt (Nat.lt_of_lt_of_le (Heap.lt_size q) hp))]; exact n
  there := fun b u q _ => ⟨u, k b u q⟩
  tups := fun b xs q => by rw [upd_ne (ne_of_none q hn)]; exact q
  frzs := fun b u xs q => by rw [upd_ne (ne_of_none q hn)]; exact q
  tbls := fun b ps q => ⟨#[], by rw [upd_ne (ne_of_none q hn), q]; simp⟩
theorem Un.write (mu : Mut (H x)) (he : e = x ∨ H e = some (.own x)) (k : ∀ b u, b ≠ e → h.get? b = some u → h'.get? b = some u) (heo : ∃ u, h'.get? e = some u) : Un fs ex H (upd H x o) h h' := by
  have hx : ∀ b, H b = none → b ≠ x := fun b n z => by subst z; rw [n] at mu; exact mu
  have hb : ∀ b, H b = none → b ≠ e := fun b n z => by
    subst z
    rcases he with r | r
    · exact hx b n r
    · rw [n] at r; cases r
  have hm : ∀ b u, H b = some u → ¬ Mut (some u) → b ≠ x := fun b u q nm z => by subst z; rw [q] at mu; exact nm mu
  refine ⟨fun b u q n _ _ => k b u (hb b n) q, fun b u q n _ _ => ⟨u.slots, k b u (hb b n) q⟩, fun b u q n _ => by rw [upd_ne (hx b n)]; exact n, fun b u q _ => ?_,
    fun b xs q => by rw [upd_ne (hm b _ q fun z => z)]; exact q, fun b u xs q => by rw [upd_ne (hm b _ q fun z => z)]; exact q, fun b ps q => ⟨#[], by rw [upd_ne (hm b _ q fun z => z), q]; simp⟩⟩
  by_cases hbe : b = e
  · subst hbe; exact heo
  · exact ⟨u, k b u hbe q⟩
end
def trk (h : Heap) (H : Hp) : List Addr := (List.range h.objs.size).filter fun a => (H a).isSome
def hidT (h : Heap) (H : Hp) : Heap := PySem.W.hideAll h (trk h H)
theorem hidT_size (h : Heap) (H : Hp) : (hidT h H).objs.size = h.objs.size := PySem.W.hideAll_size _ _
theorem hidT_get {h : Heap} {H : Hp} {b : Addr} {o : Obj} (e : h.get? b = some o) (n : H b = none) : (hidT h H).get? b = some o :=
  PySem.W.hideAll_get _ e fun hm => by
    have q : (H b).isSome = true := (List.mem_filter.mp hm).2
    rw [n] at q; simp at q
theorem of_hidT {h : Heap} {H : Hp} {b : Addr} {o : Obj} (e : (hidT h H).get? b = some o) : h.get? b = some o ∧ H b = none := by
  have e' : h.get? b = some o := PySem.W.of_hideAll (trk h H) e
  refine ⟨e', ?_⟩
  cases q : H b with
  | none => rfl
  | some x =>
    have hm : b ∈ trk h H := List.mem_filter.mpr ⟨List.mem_range.mpr (Heap.lt_size e'), by simp [q]⟩
    have z : (hidT h H).get? b = none := PySem.W.hideAll_none (trk h H) hm
    rw [z] at e; cases e
def allNews (g h : Heap) (L : Addr) : List (Addr × Obj) := (List.range h.objs.size).filterMap fun a => if a = L ∨ (g.get? a).isSome = true then none else (h.get? a).map fun o => (a, o)
def rest (g h : Heap) (L d : Addr) : List (Addr × Obj) := (allNews g h L).filter fun p => decide (p.1 ≠ d)
end L2
namespace L2
open PySem PySem.Spec PyProof.Rows
structure Mod (K : PySem.W.Frag) (mg : Str → Option Value) (base : Heap) : Prop where
  kin : K.In base
  glob : base.Ns mainGlobals mg
  blt : ∃ mb, base.Ns builtinsNs mb ∧ ∀ x : Str, x ≠ "__name__" → mb x = bootBuiltins x
  nolimit : base.NoLimit
structure Cx where
  prog : Program
  w : World
  K : PySem.W.Frag
  mg : Str → Option Value
  base : Heap
  A : Around
  N : List Str
  s₀ : Shared
  H₀ : Hp
  env : Env
  outer : List Env
  stack : List Env
  ex : List Addr
  fn : Str → Bool
  calm : Bool
  pn : List (Addr × Obj)
  xe : Value → Shared → Prop
def frs (l : List Env) : List Addr := l.filterMap (·.frame)
abbrev Cx.fs (X : Cx) : List Addr := frs X.outer
def Vis (sc : Scope) (x : Str) : Prop := sc.names.lookup x = some .local ∨ sc.names.lookup x = some .cell ∨ sc.names.lookup x = some .free
def Loc (sc : Scope) (x : Str) : Prop := sc.names.lookup x = some .local ∨ sc.names.lookup x = some .cell
def Look (env : Env) (h : Heap) (m : Str → Option Value) (x : Str) (u : Value) : Prop :=
  (env.kindOf x = some .local ∧ m x = some u) ∨ ((env.kindOf x = some .cell ∨ env.kindOf x = some .free) ∧ ∃ c, env.cells.lookup x = some c ∧ h.IsCell c (some u))
structure Cx.Ok (X : Cx) : Prop where
  mod : Mod X.K X.mg X.base
  kind : X.env.scope.kind = .function
  glob : X.env.globals = mainGlobals
  blt : X.env.builtins = builtinsNs
  above : X.s₀.heap.objs.size ≤ X.env.locals
  inj : ∀ x y c, X.env.cells.lookup x = some c → X.env.cells.lookup y = some c → x = y
  has : ∀ x, (X.env.kindOf x = some .cell ∨ X.env.kindOf x = some .free) → ∃ c, X.env.cells.lookup x = some c
  cab : ∀ x c, X.fn x = true → X.env.cells.lookup x = some c → X.s₀.heap.objs.size ≤ c
  hd : X.calm = true → X.A.handled = none
  frames : X.A.frames = some X.stack
  stk : X.stack = X.outer ∨ (X.stack = X.env :: X.outer ∧ X.env.frame = some X.env.locals)
  exf : ∀ b ∈ X.ex, b ≠ X.env.locals ∧ ∀ x c, X.env.cells.lookup x = some c → c ≠ b
  bs : ∀ b o, X.base.get? b = some o → X.s₀.heap.get? b = some o ∧ X.H₀ b = none
  bsz : X.base.objs.size ≤ X.s₀.heap.objs.size
  noex : ∀ b o, X.base.get? b = some o → b ∉ X.ex
  exfs : ∀ b ∈ X.ex, b ∉ X.fs
  funs : X.s₀.heap.FunFrames X.base X.outer
  frf : ∀ b ∈ X.fs, X.H₀ b = none
structure Inv (X : Cx) (pins : List (Addr × Obj)) (σ : List (Option V)) (H : Hp) (s : Shared) : Prop where
  ok : X.Ok
  os : s.os = X.s₀.os
  bare : AllBare s.gens
  base : Un X.fs X.ex X.H₀ H X.s₀.heap s.heap
  loc : ∃ m, s.heap.Ns X.env.locals m ∧ ∀ (i : Nat) (x : Str) (v : V), X.N[i]? = some x → σ[i]? = some (some v) → Vis X.env.scope x → ∃ u, RelV v u ∧ Look X.env s.heap m x u
  cell : ∀ x c, X.env.cells.lookup x = some c → ∃ v, s.heap.IsCell c v
  free : H X.env.locals = none
  freeC : ∀ x c, X.env.cells.lookup x = some c → H c = none
  pin : ∀ p ∈ X.pn ++ pins, s.heap.get? p.1 = some p.2 ∧ H p.1 = none ∧ p.1 ≠ X.env.locals ∧ p.1 ∉ X.fs ∧ ∀ v, p.2.data ≠ .cell v
  hok : HOk X.prog X.w H s.heap
  len : σ.length = X.N.length
section
variable {X : Cx} {pins : List (Addr × Obj)} {σ : List (Option V)} {H H' : Hp} {s : Shared} {h' : Heap}
theorem Cx.Ok.nofr (ok : X.Ok) {b : Addr} {o : Obj} (e : X.base.get? b = some o) : b ∉ X.fs := fun hb => by
  have := (ok.funs.mem hb).1
  rw [e] at this; cases this
theorem Inv.bs (I : Inv X pins σ H s) : ∀ b o, X.base.get? b = some o → s.heap.get? b = some o ∧ H b = none := fun b o e =>
  ⟨I.base.keep b o (I.ok.bs b o e).1 (I.ok.bs b o e).2 (I.ok.nofr e) (I.ok.noex b o e), I.base.free b o (I.ok.bs b o e).1 (I.ok.bs b o e).2 (I.ok.noex b o e)⟩
theorem Inv.bk (I : Inv X pins σ H s) : ∀ b o, X.base.get? b = some o → s.heap.get? b = some o := fun b o e => (I.bs b o e).1
theorem Inv.mod (I : Inv X pins σ H s) : Mod X.K X.mg X.base := I.ok.mod
theorem Inv.kIn (I : Inv X pins σ H s) : X.K.In s.heap := I.ok.mod.kin.keeps I.bk
theorem Inv.lt (I : Inv X pins σ H s) : X.env.locals < s.heap.objs.size := let ⟨_, hn, _⟩ := I.loc; hn.lt
theorem Inv.sz (I : Inv X pins σ H s) : X.s₀.heap.objs.size ≤ s.heap.objs.size := Nat.le_trans I.ok.above (Nat.le_of_lt I.lt)
theorem Inv.nofs (I : Inv X pins σ H s) {a : Addr} (h : s.heap.objs.size ≤ a) : a ∉ X.fs := fun hb => by
  obtain ⟨_, o, ho, _⟩ := I.ok.funs.mem hb
  exact absurd (Nat.lt_of_lt_of_le (Heap.lt_size ho) (Nat.le_trans I.sz h)) (Nat.lt_irrefl _)
theorem Inv.cne (I : Inv X pins σ H s) : ∀ x c, X.env.cells.lookup x = some c → c ≠ X.env.locals := fun x c e z => by
  obtain ⟨v, o, ho, hd⟩ := I.cell x c e
  obtain ⟨m, ⟨o', es, ep, ho', hd', _⟩, _⟩ := I.loc
  rw [z, ho'] at ho; cases ho; rw [hd'] at hd; cases hd
theorem Inv.funs (I : Inv X pins σ H s) : s.heap.FunFrames X.base X.outer := by
  have all : ∀ (l : List Env), (∀ b ∈ frs l, b ∈ X.fs) → X.s₀.heap.FunFrames X.base l → s.heap.FunFrames X.base l := by
    intro l
    induction l with
    | nil => intro _ _; trivial
    | cons env r ih =>
      intro hs hl
      obtain ⟨hk, ⟨L, o, hf, hn, ho, hd⟩, hr⟩ := hl
      have hL : L ∈ X.fs := hs L (by unfold frs; rw [List.filterMap_cons, hf]; exact List.mem_cons_self)
      obtain ⟨sl, e⟩ := I.base.slot L o ho (I.ok.frf L hL) hL fun z => I.ok.exfs L z hL
      exact ⟨hk, ⟨L, _, hf, hn, e, hd⟩, ih (fun b hb => hs b (by unfold frs; rw [List.filterMap_cons, hf]; exact List.mem_cons_of_mem _ hb)) hr⟩
  exact all X.outer (fun _ hb => hb) I.ok.funs
theorem Inv.stack (I : Inv X pins σ H s) : s.heap.FunFrames X.base X.stack := by
  rcases I.ok.stk with e | ⟨e, hf⟩
  · rw [e]; exact I.funs
  · rw [e]
    obtain ⟨m, hn, _⟩ := I.loc
    refine .cons (by rw [I.ok.kind]; decide) hf hn ?_ I.funs
    exact Heap.get?_none_of_le (Nat.le_trans I.ok.bsz I.ok.above)
theorem Inv.stkSub (I : Inv X pins σ H s) : ∀ b ∈ frs X.stack, b ∈ X.env.locals :: X.fs := fun b hb => by
  rcases I.ok.stk with e | ⟨e, hf⟩
  · rw [e] at hb; exact List.mem_cons_of_mem _ hb
  · rw [e] at hb
    unfold frs at hb
    rw [List.filterMap_cons, hf] at hb
    exact hb
theorem Inv.stkFree (I : Inv X pins σ H s) : ∀ b ∈ frs X.stack, H b = none := fun b hb => by
  rcases List.mem_cons.mp (I.stkSub b hb) with e | hb
  · rw [e]; exact I.free
  · obtain ⟨_, o, ho, _⟩ := I.ok.funs.mem hb
    exact I.base.free b o ho (I.ok.frf b hb) fun z => I.ok.exfs b z hb
theorem Inv.step {g' : Array GenState} {t' : Nat} {d' : Drawn} {ch : List Addr} (I : Inv X pins σ H s)
    (hch : ∀ b ∈ ch, (b ∈ X.ex ∨ X.s₀.heap.objs.size ≤ b) ∧ b ≠ X.env.locals ∧ (∀ x c, X.env.cells.lookup x = some c → c ≠ b) ∧ ∀ p ∈ X.pn ++ pins, p.1 ≠ b)
    (keep : ∀ b o, b ≠ X.env.locals → b ∉ X.fs → b ∉ ch → s.heap.get? b = some o → H b = none → h'.get? b = some o)
    (slot : ∀ b o, b ≠ X.env.locals → b ∈ X.fs → b ∉ ch → s.heap.get? b = some o → H b = none → ∃ sl, h'.get? b = some { o with slots := sl }) (free : ∀ b o, b ∉ ch → s.heap.get? b = some o → H b = none → H' b = none)
    (there : ∀ b o, b ∉ ch → s.heap.get? b = some o → ∃ o', h'.get? b = some o')
    (tups : ∀ b xs, H b = some (.tup xs) → H' b = some (.tup xs)) (frzs : ∀ b o u, H b = some (.frz o u) → H' b = some (.frz o u)) (tbls : ∀ b ps, H b = some (.tbl ps) → ∃ more, H' b = some (.tbl (ps ++ more)))
    (ns : ∀ m, s.heap.Ns X.env.locals m → h'.Ns X.env.locals m) (hok : HOk X.prog X.w H' h') (hg : AllBare g') :
    Inv X pins σ H' { s with heap := h', gens := g', drawn := d', toks := t' } := by
  have neL : ∀ b o, X.s₀.heap.get? b = some o → b ≠ X.env.locals := fun b o e => Nat.ne_of_lt (Nat.lt_of_lt_of_le (Heap.lt_size e) I.ok.above)
  have neC : ∀ b o, X.s₀.heap.get? b = some o → b ∉ X.ex → b ∉ ch := fun b o e hx hb => by
    rcases (hch b hb).1 with z | z
    · exact hx z
    · exact absurd (Nat.lt_of_lt_of_le (Heap.lt_size e) z) (Nat.lt_irrefl _)
  have cellK : ∀ x c, X.env.cells.lookup x = some c → ∀ v, s.heap.IsCell c v → h'.IsCell c v := fun x c e v ⟨o, ho, hd⟩ => by
    have nch : c ∉ ch := fun z => (hch c z).2.2.1 x c e rfl
    by_cases hc : c ∈ X.fs
    · obtain ⟨sl, q⟩ := slot c o (I.cne x c e) hc nch ho (I.freeC x c e)
      exact ⟨_, q, hd⟩
    · exact ⟨o, keep c o (I.cne x c e) hc nch ho (I.freeC x c e), hd⟩
  refine ⟨I.ok, I.os, hg, ⟨fun b o e n hb hx => ?_, fun b o e n hb hx => ?_, fun b o e n hx => ?_, fun b o e hx => ?_, fun b xs e => tups b xs (I.base.tups b xs e), fun b o xs e => frzs b o xs (I.base.frzs b o xs e), fun b ps e => ?_⟩, ?_, fun x c e => ?_, ?_, fun x c e => ?_, fun p hp => ?_, hok, I.len⟩
  · exact keep b o (neL b o e) hb (neC b o e hx) (I.base.keep b o e n hb hx) (I.base.free b o e n hx)
  · obtain ⟨sl, e1⟩ := I.base.slot b o e n hb hx
    obtain ⟨sl', e2⟩ := slot b _ (neL b o e) hb (neC b o e hx) e1 (I.base.free b o e n hx)
    exact ⟨sl', e2⟩
  · obtain ⟨o', e1⟩ := I.base.there b o e hx
    exact free b o' (neC b o e hx) e1 (I.base.free b o e n hx)
  · obtain ⟨o', e1⟩ := I.base.there b o e hx
    exact there b o' (neC b o e hx) e1
  · obtain ⟨m1, e1⟩ := I.base.tbls b ps e
    obtain ⟨m2, e2⟩ := tbls b _ e1
    exact ⟨m1 ++ m2, by rw [e2, Array.append_assoc]⟩
  · obtain ⟨m, hn, hl⟩ := I.loc
    refine ⟨m, ns m hn, fun i x v e1 e2 e3 => ?_⟩
    obtain ⟨u, r, l⟩ := hl i x v e1 e2 e3
    refine ⟨u, r, ?_⟩
    rcases l with l | ⟨k, c, e, z⟩
    · exact .inl l
    · exact .inr ⟨k, c, e, cellK x c e _ z⟩
  · obtain ⟨v, z⟩ := I.cell x c e
    exact ⟨v, cellK x c e v z⟩
  · obtain ⟨m, ⟨o, _, _, ho, _⟩, _⟩ := I.loc
    exact free _ o (fun z => (hch _ z).2.1 rfl) ho I.free
  · obtain ⟨v, o, ho, hd⟩ := I.cell x c e
    exact free c o (fun z => (hch c z).2.2.1 x c e rfl) ho (I.freeC x c e)
  · obtain ⟨e, n, ne, nf, d⟩ := I.pin p hp
    have nch : p.1 ∉ ch := fun z => (hch p.1 z).2.2.2 p hp rfl
    exact ⟨keep p.1 p.2 ne nf nch e n, free p.1 p.2 nch e n, ne, nf, d⟩
theorem Inv.un {t' : Nat} (I : Inv X pins σ H s) (u : Un X.fs [] H H' s.heap h') (hok : HOk X.prog X.w H' h') : Inv X pins σ H' { s with heap := h', toks := t' } := by
  obtain ⟨m, ⟨o, es, ep, ho, r⟩, _⟩ := id I.loc
  obtain ⟨sl, hL⟩ := u.any ho I.free (by simp)
  exact I.step (g' := s.gens) (d' := s.drawn) (ch := []) (fun _ z => nomatch z) (fun b o _ hb _ e n => u.keep b o e n hb (by simp)) (fun b o _ hb _ e n => u.slot b o e n hb (by simp)) (fun b o _ e n => u.free b o e n (by simp)) (fun b o _ e => u.there b o e (by simp)) u.tups u.frzs u.tbls (fun m' hm => by
    obtain ⟨o', es', ep', ho', r'⟩ := hm
    rw [ho] at ho'; cases ho'
    exact ⟨_, es', ep', hL, r'⟩) hok I.bare
theorem Inv.call {g' : Array GenState} {t' : Nat} {d' : Drawn} {ch : List Addr} (I : Inv X pins σ H s) (u : Un (frs X.stack) ch H H' s.heap h') (hok : HOk X.prog X.w H' h') (hg : AllBare g')
    (hch : ∀ b ∈ ch, (b ∈ X.ex ∨ X.s₀.heap.objs.size ≤ b) ∧ b ≠ X.env.locals ∧ (∀ x c, X.env.cells.lookup x = some c → c ≠ b) ∧ ∀ p ∈ X.pn ++ pins, p.1 ≠ b) :
    Inv X pins σ H' { s with heap := h', gens := g', drawn := d', toks := t' } := by
  obtain ⟨m, ⟨o, es, ep, ho, r⟩, _⟩ := id I.loc
  obtain ⟨sl, hL⟩ := u.any ho I.free fun z => (hch _ z).2.1 rfl
  exact I.step (ch := ch) hch (fun b o hL hb hc e n => u.keep b o e n (fun z => (List.mem_cons.mp (I.stkSub b z)).elim hL hb) hc) (fun b o _ _ hc e n => u.any e n hc) (fun b o hc e n => u.free b o e n hc) (fun b o hc e => u.there b o e hc) u.tups u.frzs u.tbls (fun m' hm => by
    obtain ⟨o', es', ep', ho', r'⟩ := hm
    rw [ho] at ho'; cases ho'
    exact ⟨_, es', ep', hL, r'⟩) hok hg
theorem Inv.turned {t' : Nat} {it : Addr} (I : Inv X pins σ H s) (k : ∀ b o, b ≠ it → s.heap.get? b = some o → h'.get? b = some o) (hn : H it = none) (hL : it ≠ X.env.locals)
    (h1 : it ∈ X.ex ∨ X.s₀.heap.objs.size ≤ it) (h2 : ∀ x c, X.env.cells.lookup x = some c → c ≠ it) (h3 : ∀ p ∈ X.pn ++ pins, p.1 ≠ it) : Inv X pins σ H { s with heap := h', toks := t' } := by
  have nit : ∀ b u, H b = some u → b ≠ it := fun b u e z => by rw [z, hn] at e; cases e
  refine I.step (g' := s.gens) (d' := s.drawn) (ch := [it]) (fun b hb => ?_) (fun b o _ _ hc e _ => k b o (fun z => hc (by simp [z])) e) (fun b o _ _ hc e _ => ⟨o.slots, k b o (fun z => hc (by simp [z])) e⟩) (fun _ _ _ _ n => n)
    (fun b o hc e => ⟨o, k b o (fun z => hc (by simp [z])) e⟩) (fun _ _ e => e) (fun _ _ _ e => e) (fun b ps e => ⟨#[], by rw [e]; simp⟩) (fun m hm => ?_) (fun b u e => ?_) I.bare
  · have e : b = it := by simpa using hb
    subst e
    exact ⟨h1, hL, h2, h3⟩
  · obtain ⟨o, es, ep, ho, r⟩ := hm
    exact ⟨o, es, ep, k _ o (Ne.symm hL) ho, r⟩
  · refine (I.hok b u e).stay (fun c v hc q => k c v ?_ q) (fun _ q => q) fun _ _ q => q
    rcases hc with z | z
    · rw [z]; exact nit b u e
    · exact nit c _ z
theorem Inv.tok (I : Inv X pins σ H s) (t : Nat) : Inv X pins σ H { s with toks := t } := I.un (h' := s.heap) (t' := t) Un.refl I.hok
theorem Inv.kept {t' : Nat} (I : Inv X pins σ H s) (k : ∀ b u, s.heap.get? b = some u → h'.get? b = some u) : Inv X pins σ H { s with heap := h', toks := t' } := I.un (Un.kept k) (I.hok.kept k)
theorem Inv.laid {a : Addr} {o : HO} {t' : Nat} (I : Inv X pins σ H s) (k : ∀ b u, s.heap.get? b = some u → h'.get? b = some u) (hp : s.heap.objs.size ≤ a) (new : ObjOk X.prog X.w (upd H a o) h' a o) :
    Inv X pins σ (upd H a o) { s with heap := h', toks := t' } := I.un (Un.laid k hp (I.hok.fresh hp)) (I.hok.laid k hp new)
theorem Inv.write {x e : Addr} {o : HO} {t' : Nat} (I : Inv X pins σ H s) (mu : Mut (H x)) (he : e = x ∨ H e = some (.own x)) (k : ∀ b u, b ≠ e → s.heap.get? b = some u → h'.get? b = some u) (heo : ∃ u, h'.get? e = some u)
    (new : ObjOk X.prog X.w (upd H x o) h' x o) : Inv X pins σ (upd H x o) { s with heap := h', toks := t' } := I.un (Un.write mu he k heo) (I.hok.write mu he k heo new)
theorem Inv.pins_of {pins' : List (Addr × Obj)} (I : Inv X pins σ H s) (h : ∀ p ∈ pins', s.heap.get? p.1 = some p.2 ∧ H p.1 = none ∧ p.1 ≠ X.env.locals ∧ p.1 ∉ X.fs ∧ ∀ v, p.2.data ≠ .cell v) : Inv X pins' σ H s :=
  ⟨I.ok, I.os, I.bare, I.base, I.loc, I.cell, I.free, I.freeC, fun p hp => (List.mem_append.mp hp).elim (fun z => I.pin p (List.mem_append_left _ z)) (h p), I.hok, I.len⟩
theorem nodup_ix {N : List Str} (hN : N.Nodup) {i j : Nat} {x : Str} (a : N[i]? = some x) (b : N[j]? = some x) : i = j := by
  obtain ⟨h1, e1⟩ := List.getElem?_eq_some_iff.mp a
  obtain ⟨h2, e2⟩ := List.getElem?_eq_some_iff.mp b
  exact (List.getElem_inj hN).mp (e1.trans e2.symm)
theorem store_ok2 {M : Model} {A : Around} {E : Value → Shared → Prop} {i : Nat} {x : Str} {v : V} {u : Value} {Q : Unit → Shared → Prop} (I : Inv X pins σ H s) (hN : X.N.Nodup) (hi : X.N[i]? = some x) (hx : Loc X.env.scope x) (r : RelV v u)
    (h : ∀ s', Inv X pins (σ.set i (some v)) H s' → (∃ a, Heap.SameBut a s.heap s'.heap ∧ (a = X.env.locals ∨ X.env.cells.lookup x = some a)) → Q () s') (hf : X.fn x = true ∨ X.env.scope.names.lookup x = some .local := by first | exact .inl rfl | exact .inr rfl | assumption) : wpAny M A (storeName X.env x u) Q E s := by
  obtain ⟨m, hn, hl⟩ := id I.loc
  have hcls : (X.env.scope.kind == .class || (X.env.scope.kind == .module && X.env.locals != X.env.globals)) = false := by rw [I.ok.kind]; rfl
  have hiσ : i < σ.length := by rw [I.len]; exact (List.getElem?_eq_some_iff.mp hi).1
  have cne := I.cne
  have tracked : ∀ {a : Addr} {h' : Heap}, (∃ o, s.heap.get? a = some o ∧ H a = none) → Heap.SameBut a s.heap h' → HOk X.prog X.w H h' := fun {a h'} ha hs b ob e => by
    obtain ⟨_, _, hfree⟩ := ha
    refine (I.hok b ob e).stay (fun c w' hc q => (hs.2 c ?_).trans q) (fun _ q => q) fun _ _ q => q
    rintro rfl
    rcases hc with rfl | hc
    · rw [hfree] at e; cases e
    · rw [hfree] at hc; cases hc
  rcases hx with hk | hk
  · refine wpAny_storeName_local hk hn (fun h' hn' hs => ?_) hcls
    obtain ⟨oL, _, _, hoL, _⟩ := id hn
    refine h _ ⟨I.ok, I.os, I.bare, ⟨fun b o e n hb hx => ?_, fun b o e n hb hx => ?_, I.base.free, fun b o e hx => ?_, I.base.tups, I.base.frzs, I.base.tbls⟩, ⟨_, hn', fun j y v' e1 e2 e3 => ?_⟩, fun y c e => ?_, I.free, I.freeC, fun p hp => ?_, tracked ⟨oL, hoL, I.free⟩ hs, by simpa using I.len⟩ ⟨_, hs, .inl rfl⟩
    · exact (hs.2 b (Nat.ne_of_lt (Nat.lt_of_lt_of_le (Heap.lt_size e) I.ok.above))).trans (I.base.keep b o e n hb hx)
    · obtain ⟨sl, e1⟩ := I.base.slot b o e n hb hx
      exact ⟨sl, (hs.2 b (Nat.ne_of_lt (Nat.lt_of_lt_of_le (Heap.lt_size e) I.ok.above))).trans e1⟩
    · obtain ⟨o', e1⟩ := I.base.there b o e hx
      exact ⟨o', (hs.2 b (Nat.ne_of_lt (Nat.lt_of_lt_of_le (Heap.lt_size e) I.ok.above))).trans e1⟩
    · by_cases hj : j = i
      · subst hj
        rw [hi] at e1; cases e1
        rw [List.getElem?_set_self hiσ] at e2
        cases e2
        exact ⟨u, r, .inl ⟨hk, by simp⟩⟩
      · rw [List.getElem?_set_ne (Ne.symm hj)] at e2
        obtain ⟨u', r', q⟩ := hl j y v' e1 e2 e3
        refine ⟨u', r', ?_⟩
        rcases q with ⟨k, e⟩ | ⟨k, c, e, z⟩
        · refine .inl ⟨k, ?_⟩
          have : y ≠ x := fun e => hj (nodup_ix hN e1 (e ▸ hi))
          simp [this, e]
        · exact .inr ⟨k, c, e, z.sameBut hs (cne y c e)⟩
    · obtain ⟨w', z⟩ := I.cell y c e
      exact ⟨w', z.sameBut hs (cne y c e)⟩
    · obtain ⟨e, n, ne, nf, d⟩ := I.pin p hp
      exact ⟨(hs.2 p.1 ne).trans e, n, ne, nf, d⟩
  · have hfn : X.fn x = true := by
      rcases hf with z | z
      · exact z
      · rw [z] at hk; cases hk
    obtain ⟨c, hc⟩ := I.ok.has x (.inl hk)
    obtain ⟨w', z⟩ := I.cell x c hc
    refine wpAny_storeName_cell I.ok.kind hk hc z (fun h' hc' hs => ?_)
    obtain ⟨oc, hoc, hocd⟩ := id z
    refine h { s with heap := h' } ⟨I.ok, I.os, I.bare, ⟨fun b o e n hb hx => ?_, fun b o e n hb hx => ?_, I.base.free, fun b o e hx => ?_, I.base.tups, I.base.frzs, I.base.tbls⟩, ⟨m, hn.sameBut hs (Ne.symm (cne x c hc)), fun j y v' e1 e2 e3 => ?_⟩, fun y c' e => ?_, I.free, I.freeC, fun p hp => ?_, tracked ⟨oc, hoc, I.freeC x c hc⟩ hs, by simpa using I.len⟩ ⟨c, hs, .inr hc⟩
    · exact (hs.2 b (Nat.ne_of_lt (Nat.lt_of_lt_of_le (Heap.lt_size e) (I.ok.cab x c hfn hc)))).trans (I.base.keep b o e n hb hx)
    · obtain ⟨sl, e1⟩ := I.base.slot b o e n hb hx
      exact ⟨sl, (hs.2 b (Nat.ne_of_lt (Nat.lt_of_lt_of_le (Heap.lt_size e) (I.ok.cab x c hfn hc)))).trans e1⟩
    · obtain ⟨o', e1⟩ := I.base.there b o e hx
      exact ⟨o', (hs.2 b (Nat.ne_of_lt (Nat.lt_of_lt_of_le (Heap.lt_size e) (I.ok.cab x c hfn hc)))).trans e1⟩
    · by_cases hj : j = i
      · subst hj
        rw [hi] at e1; cases e1
        rw [List.getElem?_set_self hiσ] at e2
        cases e2
        exact ⟨u, r, .inr ⟨.inl hk, c, hc, hc'⟩⟩
      · rw [List.getElem?_set_ne (Ne.symm hj)] at e2
        obtain ⟨u', r', q⟩ := hl j y v' e1 e2 e3
        refine ⟨u', r', ?_⟩
        rcases q with q | ⟨k, c', e, z'⟩
        · exact .inl q
        · refine .inr ⟨k, c', e, z'.sameBut hs ?_⟩
          rintro rfl
          exact hj (nodup_ix hN e1 (I.ok.inj _ _ _ e hc ▸ hi))
    · by_cases hcc : c' = c
      · subst hcc; exact ⟨_, hc'⟩
      · obtain ⟨w2, z2⟩ := I.cell y c' e
        exact ⟨w2, z2.sameBut hs hcc⟩
    · obtain ⟨e, n, ne, nf, d⟩ := I.pin p hp
      refine ⟨(hs.2 p.1 ?_).trans e, n, ne, nf, d⟩
      intro q
      rw [q, hoc] at e
      have q' : oc = p.2 := Option.some.inj e
      exact d w' (by rw [← q']; exact hocd)
theorem store_ok {M : Model} {A : Around} {E : Value → Shared → Prop} {i : Nat} {x : Str} {v : V} {u : Value} {Q : Unit → Shared → Prop} (I : Inv X pins σ H s) (hN : X.N.Nodup) (hi : X.N[i]? = some x) (hx : Loc X.env.scope x) (r : RelV v u)
    (h : ∀ s', Inv X pins (σ.set i (some v)) H s' → Q () s') (hf : X.fn x = true ∨ X.env.scope.names.lookup x = some .local := by first | exact .inl rfl | exact .inr rfl | assumption) : wpAny M A (storeName X.env x u) Q E s :=
  store_ok2 I hN hi hx r (fun s' I' _ => h s' I') hf
theorem Inv.call' {s' : Shared} {ch : List Addr} (I : Inv X pins σ H s) (ho : s'.os = s.os) (u : Un (frs X.stack) ch H H' s.heap s'.heap) (hok : HOk X.prog X.w H' s'.heap) (hg : AllBare s'.gens)
    (hch : ∀ b ∈ ch, (b ∈ X.ex ∨ X.s₀.heap.objs.size ≤ b) ∧ b ≠ X.env.locals ∧ (∀ x c, X.env.cells.lookup x = some c → c ≠ b) ∧ ∀ p ∈ X.pn ++ pins, p.1 ≠ b) : Inv X pins σ H' s' := by
  obtain ⟨h', g', d', t', o'⟩ := s'
  have e : o' = s.os := ho
  subst e
  exact I.call (g' := g') (t' := t') (d' := d') u hok hg hch
end
abbrev XK := Value → Option Addr → Hp → Prop
abbrev St := List (Option V)
abbrev VK := V → Hp → Prop
abbrev TE := St → Hp → VK → Prop
abbrev TT := St → Hp → (Bool → Hp → Prop) → Prop
abbrev TA := St → Hp → (List V → Hp → Prop) → Prop
structure Ends where
  nx : St → Hp → Prop
  rt : VK
  bk : St → Hp → Prop := fun _ _ => False
  ct : St → Hp → Prop := fun _ _ => False
abbrev TS := Ends → St → Hp → Prop
def EP (X : Cx) (pins : List (Addr × Obj)) (σ : St) (Q : VK) (u : Value) (s' : Shared) : Prop := ∃ v H', Inv X pins σ H' s' ∧ RelV v u ∧ Q v H'
def TP (X : Cx) (pins : List (Addr × Obj)) (σ : St) (Q : Bool → Hp → Prop) (b : Bool) (s' : Shared) : Prop := ∃ H', Inv X pins σ H' s' ∧ Q b H'
def AP (X : Cx) (pins : List (Addr × Obj)) (σ : St) (Q : List V → Hp → Prop) (us : List Value) (s' : Shared) : Prop := ∃ vs H', Inv X pins σ H' s' ∧ Vals vs us ∧ Q vs H'
def SP (X : Cx) (pins : List (Addr × Obj)) (D : Ends) (f : Flow) (s' : Shared) : Prop :=
  match f with
  | .next => ∃ σ' H', Inv X pins σ' H' s' ∧ D.nx σ' H'
  | .brk => ∃ σ' H', Inv X pins σ' H' s' ∧ D.bk σ' H'
  | .cont => ∃ σ' H', Inv X pins σ' H' s' ∧ D.ct σ' H'
  | .ret u => ∃ v σ' H', Inv X pins σ' H' s' ∧ RelV v u ∧ D.rt v H'
def PE (X : Cx) (e : Expr) (t : TE) : Prop :=
  ∀ (pins : List (Addr × Obj)) (s : Shared) (σ : St) (H : Hp) (Q : VK), Inv X pins σ H s → t σ H Q → wpAny (model X.prog X.w) X.A (eval e X.env) (EP X pins σ Q) X.xe s
def PT (X : Cx) (e : Expr) (t : TT) : Prop :=
  ∀ (pins : List (Addr × Obj)) (s : Shared) (σ : St) (H : Hp) (Q : Bool → Hp → Prop), Inv X pins σ H s → t σ H Q → wpAny (model X.prog X.w) X.A (isTrue e X.env (eval e X.env)) (TP X pins σ Q) X.xe s
def PW (X : Cx) (e : Expr) (t : TT) : Prop :=
  ∀ (whole : Sem Value) (pins : List (Addr × Obj)) (s : Shared) (σ : St) (H : Hp) (Q : Bool → Hp → Prop), Inv X pins σ H s → t σ H Q → wpAny (model X.prog X.w) X.A (isTrue e X.env whole) (TP X pins σ Q) X.xe s
theorem PW.pt {X : Cx} {e : Expr} {t : TT} (h : PW X e t) : PT X e t := h _
def PA (X : Cx) (es : List Expr) (t : TA) : Prop :=
  ∀ (pos : Pos) (pins : List (Addr × Obj)) (s : Shared) (σ : St) (H : Hp) (Q : List V → Hp → Prop), Inv X pins σ H s → t σ H Q → wpAny (model X.prog X.w) X.A (spliced (backTo pos (starEach es X.env))) (AP X pins σ Q) X.xe s
def PS (X : Cx) (st : Stmt) (t : TS) : Prop :=
  ∀ (pins : List (Addr × Obj)) (s : Shared) (σ : St) (H : Hp) (D : Ends), Inv X pins σ H s → t D σ H → wpAny (model X.prog X.w) X.A (exec st X.env) (SP X pins D) X.xe s
def PSs (X : Cx) (st : List Stmt) (t : TS) : Prop :=
  ∀ (pins : List (Addr × Obj)) (s : Shared) (σ : St) (H : Hp) (D : Ends), Inv X pins σ H s → t D σ H → wpAny (model X.prog X.w) X.A (execs st X.env) (SP X pins D) X.xe s
theorem thn {α : Type} {t : Sem α} {Q Q' : α → Shared → Prop} {M : Model} {A : Around} {E : Value → Shared → Prop} {s : Shared} (h : wpAny M A t Q E s) (hQ : ∀ a s, Q a s → Q' a s) : wpAny M A t Q' E s := wpAny_mono h hQ fun _ _ x => x
end L2
namespace L2
open PySem PySem.Spec PyProof.Rows
section
variable {X : Cx}
def tVar (i : Nat) : TE := fun σ H Q => ∃ v, σ[i]? = some (some v) ∧ Q v H
def tC (v : V) : TE := fun _ H Q => Q v H
theorem pe_var {i : Nat} {x : Str} {pos : Pos} (hN : X.N[i]? = some x) (hv : Vis X.env.scope x) (hd : (x == ("__debug__" : Str)) = false := by decide) (hcd : (x == ("__classdict__" : Str)) = false := by decide) : PE X (.Name x pos) (tVar i) := by
  intro pins s σ H Q I h
  obtain ⟨v, e, h⟩ := h
  obtain ⟨m, hn, hl⟩ := I.loc
  obtain ⟨u, r, l⟩ := hl i x v hN e hv
  have fin : EP X pins σ Q u s := ⟨v, H, I, r, h⟩
  rcases l with ⟨hk, hm⟩ | ⟨hk, c, hc, hcell⟩
  · exact wpAny_Name (wpAny_loadName_local I.ok.kind hk hn hm fin) hd
  · rcases hk with hk | hk
    · exact wpAny_Name (wpAny_loadName_cell I.ok.kind hk hc hcell fin) hd
    · exact wpAny_Name (wpAny_loadName_free I.ok.kind hk hc hcell fin hcd) hd
theorem pe_int {i j pos} : PE X (.Constant (.int i) j pos) (tC (.int i)) := fun _ _ _ H _ I h => wpAny_Constant_int ⟨.int i, H, I.tok _, ⟨_, rfl⟩, h⟩
theorem pe_bl {b j pos} : PE X (.Constant (.bool b) j pos) (tC (.bl b)) := fun _ _ _ H _ I h => Constant_bool ⟨.bl b, H, I, rfl, h⟩
theorem pe_non {j pos} : PE X (.Constant .none j pos) (tC .non) := fun _ _ _ H _ I h => Constant_none ⟨.non, H, I, rfl, h⟩
theorem pe_str {x j pos} : PE X (.Constant (.str x) j pos) (tC (.str x)) := fun _ _ _ H _ I h => Calls.Constant_str ⟨.str x, H, I.tok _, ⟨_, rfl⟩, h⟩
def Gl (X : Cx) (x : Str) : Prop := X.env.kindOf x = some .globalImplicit
theorem ld_glob {E : Value → Shared → Prop} {pins : List (Addr × Obj)} {s : Shared} {σ : St} {H : Hp} {x : Str} {u : Value} {pos : Pos} {Q : Value → Shared → Prop} (I : Inv X pins σ H s) (hg : Gl X x) (hm : X.mg x = some u) (h : Q u s)
    (hd : (x == ("__debug__" : Str)) = false := by decide) : wpAny (model X.prog X.w) X.A (eval (.Name x pos) X.env) Q E s :=
  Calls.Name_function_global I.ok.kind hg (Calls.loadGlobal_global (by rw [I.ok.glob]; exact I.mod.glob.keeps I.bk) hm h) hd
theorem ld_blt {E : Value → Shared → Prop} {pins : List (Addr × Obj)} {s : Shared} {σ : St} {H : Hp} {x : Str} {u : Value} {pos : Pos} {Q : Value → Shared → Prop} (I : Inv X pins σ H s) (hg : Gl X x) (hm : X.mg x = none) (hv : bootBuiltins x = some u) (h : Q u s)
    (hn : x ≠ "__name__" := by decide) (hd : (x == ("__debug__" : Str)) = false := by decide) : wpAny (model X.prog X.w) X.A (eval (.Name x pos) X.env) Q E s := by
  obtain ⟨mb, h1, h2⟩ := I.mod.blt
  exact Calls.Name_function_global I.ok.kind hg (Calls.loadGlobal_builtin (by rw [I.ok.glob]; exact I.mod.glob.keeps I.bk) hm (by rw [I.ok.blt]; exact h1.keeps I.bk) ((h2 x hn).trans hv) h) hd
theorem pe_glob {x : Str} {v : V} {u : Value} {pos : Pos} (hg : Gl X x) (hm : X.mg x = some u) (r : RelV v u) (hd : (x == ("__debug__" : Str)) = false := by decide) : PE X (.Name x pos) (tC v) :=
  fun _ _ _ H _ I h => ld_glob I hg hm ⟨v, H, I, r, h⟩ hd
theorem pe_bltn {x : Str} {v : V} {u : Value} {pos : Pos} (hg : Gl X x) (hm : X.mg x = none) (hv : bootBuiltins x = some u) (r : RelV v u) (hn : x ≠ "__name__" := by decide) (hd : (x == ("__debug__" : Str)) = false := by decide) : PE X (.Name x pos) (tC v) :=
  fun _ _ _ H _ I h => ld_blt I hg hm hv ⟨v, H, I, r, h⟩ hn hd
def t2I (ta tb : TE) (k : Int → Int → Hp → Prop) : St → Hp → Prop := fun σ H => ta σ H fun x H1 => tb σ H1 fun y H2 => ∃ i j, x = .int i ∧ y = .int j ∧ k i j H2
def tAdd (ta tb : TE) : TE := fun σ H Q => t2I ta tb (fun i j H2 => Q (.int (i + j)) H2) σ H
def tSub (ta tb : TE) : TE := fun σ H Q => t2I ta tb (fun i j H2 => Q (.int (i - j)) H2) σ H
def tMul (ta tb : TE) : TE := fun σ H Q => t2I ta tb (fun i j H2 => (-(2 ^ 64) < i ∧ i < 2 ^ 64) ∧ Q (.int (i * j)) H2) σ H
variable {a b : Expr} {ta tb : TE} {pos : Pos}
def PC (X : Cx) (op : CmpOp) (a b : Expr) (t : TE) : Prop :=
  ∀ (pins : List (Addr × Obj)) (s : Shared) (σ : St) (H : Hp) (Q : VK), Inv X pins σ H s → t σ H Q →
    wpAny (model X.prog X.w) X.A (eval a X.env) (fun v s₁ => wpAny (model X.prog X.w) X.A (eval b X.env) (fun u s₂ => wpAny (model X.prog X.w) X.A (compareOp op v u) (EP X pins σ Q) X.xe s₂) X.xe s₁) X.xe s
def tCmp (p : Int → Int → Bool) (ta tb : TE) : TE := fun σ H Q => t2I ta tb (fun i j H2 => Q (.bl (p i j)) H2) σ H
abbrev tLt : TE → TE → TE := tCmp fun i j => decide (i < j)
abbrev tLe : TE → TE → TE := tCmp fun i j => decide (i ≤ j)
abbrev tGt : TE → TE → TE := tCmp fun i j => decide (j < i)
abbrev tGe : TE → TE → TE := tCmp fun i j => decide (j ≤ i)
abbrev tEqI : TE → TE → TE := tCmp fun i j => decide (i = j)
abbrev tNeI : TE → TE → TE := tCmp fun i j => !decide (i = j)
def tIsN (ta : TE) : TE := fun σ H Q => ta σ H fun x H1 => Q (.bl (decide (x = .non))) H1
def tNotN (ta : TE) : TE := fun σ H Q => ta σ H fun x H1 => Q (.bl (!decide (x = .non))) H1
def tB (t : TE) : TT := fun σ H Q => t σ H fun x H1 => ∃ c, x = .bl c ∧ Q c H1
variable {tA tB' : TT} {rest : List Expr}
def tAnd (t u : TT) : TT := fun σ H Q => t σ H fun c H1 => if c = true then u σ H1 Q else Q false H1
def tOr (t u : TT) : TT := fun σ H Q => t σ H fun c H1 => if c = true then Q true H1 else u σ H1 Q
def tNot (t : TT) : TT := fun σ H Q => t σ H fun c H1 => Q (!c) H1
theorem pw_and1 (ha : PT X a tA) : PW X (.BoolOp .And [a] pos) tA := by
  intro wh pins s σ H Q I h
  refine isTrue_and (thn (ha pins s σ H Q I h) fun c s1 e => ?_)
  cases c with
  | true => exact isTrue_and_nil e
  | false => exact e
theorem pw_or1 (ha : PT X a tA) : PW X (.BoolOp .Or [a] pos) tA := by
  intro wh pins s σ H Q I h
  refine isTrue_or (thn (ha pins s σ H Q I h) fun c s1 e => ?_)
  cases c with
  | false => exact isTrue_or_nil e
  | true => exact e
theorem pt_not (ha : PT X a tA) : PT X (.UnaryOp .Not a pos) (tNot tA) := by
  intro pins s σ H Q I h
  exact isTrue_not (ha pins s σ H (fun c H1 => Q (!c) H1) I h)
def tAndV (ta tb : TE) : TE := fun σ H Q => ta σ H fun x H1 => ∃ c, x = .bl c ∧ if c = true then tb σ H1 Q else Q (.bl false) H1
def tOrV (ta tb : TE) : TE := fun σ H Q => ta σ H fun x H1 => ∃ c, x = .bl c ∧ if c = true then Q (.bl true) H1 else tb σ H1 Q
def tNotV (ta : TE) : TE := fun σ H Q => ta σ H fun x H1 => ∃ c, x = .bl c ∧ Q (.bl (!c)) H1
theorem pe_one {op} {t : TE} (h : PE X a t) : PE X (.BoolOp op [a] pos) t := fun pins s σ H Q I hw => BoolOp_one (h pins s σ H Q I hw)
theorem pe_not (ha : PE X a ta) : PE X (.UnaryOp .Not a pos) (tNotV ta) := by
  intro pins s σ H Q I h
  refine UnaryOp_ (thn (ha pins s σ H _ I h) fun v s1 ⟨x, H1, I1, r1, q1⟩ => ?_)
  obtain ⟨c, rfl, q1⟩ := q1
  cases r1
  exact not_of (wpAny_truthy_bool ⟨.bl (!c), H1, I1, rfl, q1⟩)
def tIf (t : TT) (ta tb : TE) : TE := fun σ H Q => t σ H fun c H1 => if c = true then ta σ H1 Q else tb σ H1 Q
end
end L2
namespace L2
open PySem PySem.Spec PyProof.Rows
def SqL (K : PySem.W.Frag) (H : Hp) (a : Addr) (xs : List V) : Prop :=
  Rd H a (.lst xs) ∨
    ∃ (o : Obj) (its : Array Value) (n : Nat), K.lookup a = some o ∧ o.cls = .type "list" ∧ o.dict = none ∧ o.data = .seq its n ∧ its.size ≤ sizeLine ∧ Vals xs its.toList
def SqT (K : PySem.W.Frag) (H : Hp) (a : Addr) (xs : List V) : Prop :=
  Rd H a (.tup xs) ∨
    ∃ (o : Obj) (its : Array Value) (n : Nat), K.lookup a = some o ∧ o.cls = .type "tuple" ∧ o.data = .seq its n ∧ its.size ≤ sizeLine ∧ Vals xs its.toList
def absV : Value → Option V
  | .none => some .non
  | .bool b => some (.bl b)
  | .int i _ => some (.int i)
  | .str x _ => some (.str x)
  | .bytes b _ => some (.byt b)
  | .float b _ => some (.flt b)
  | .ref a => some (.ref a)
  | .type n => some (.ty n)
  | _ => none
section
variable {X : Cx} {pins : List (Addr × Obj)} {σ : St} {H : Hp} {s : Shared} {a : Addr} {xs ys : List V}
theorem SqL.of {K : PySem.W.Frag} (h : H a = some (.lst xs)) : SqL K H a xs := .inl (.inl h)
theorem SqT.of {K : PySem.W.Frag} (h : H a = some (.tup xs)) : SqT K H a xs := .inl (.inl h)
theorem Inv.list (I : Inv X pins σ H s) (h : SqL X.K H a xs) : ∃ its : List Value, Vals xs its ∧ PlainL s.heap a its.toArray ∧ xs.length ≤ sizeLine := by
  rcases h with h | ⟨o, its, n, hk, hc, hd, hs, hz, r⟩
  · obtain ⟨z, its, n, r, e⟩ := h.ok I.hok
    exact ⟨its, r, ⟨_, n, e, rfl, rfl, rfl⟩, z⟩
  · refine ⟨its.toList, r, ⟨o, n, I.kIn a o hk, hc, hd, by simpa using hs⟩, ?_⟩
    have e := r.length
    simp only [Array.length_toList] at e
    omega
theorem Inv.tuple (I : Inv X pins σ H s) (h : SqT X.K H a xs) : ∃ its : List Value, Vals xs its ∧ IsTup s.heap a its.toArray ∧ xs.length ≤ sizeLine := by
  rcases h with h | ⟨o, its, n, hk, hc, hs, hz, r⟩
  · obtain ⟨z, its, r, p⟩ := h.ok I.hok
    exact ⟨its, r, p, z⟩
  · refine ⟨its.toList, r, ⟨o, I.kIn a o hk, hc, n, by simpa using hs⟩, ?_⟩
    have e := r.length
    simp only [Array.length_toList] at e
    omega
end
abbrev Cx.wish (X : Cx) (E : Value → Shared → Prop) : Cx := { X with xe := E }
abbrev Cx.nox (X : Cx) : Cx := X.wish fun _ _ => False
theorem Cx.Ok.wish {X : Cx} (ok : X.Ok) (E : Value → Shared → Prop) : (X.wish E).Ok :=
  ⟨ok.mod, ok.kind, ok.glob, ok.blt, ok.above, ok.inj, ok.has, ok.cab, ok.hd, ok.frames, ok.stk, ok.exf, ok.bs, ok.bsz, ok.noex, ok.exfs, ok.funs, ok.frf⟩
theorem Cx.Ok.unwish {X : Cx} {E : Value → Shared → Prop} (ok : (X.wish E).Ok) : X.Ok :=
  ⟨ok.mod, ok.kind, ok.glob, ok.blt, ok.above, ok.inj, ok.has, ok.cab, ok.hd, ok.frames, ok.stk, ok.exf, ok.bs, ok.bsz, ok.noex, ok.exfs, ok.funs, ok.frf⟩
section
variable {X : Cx} {pins : List (Addr × Obj)} {σ : St} {H : Hp} {s : Shared} {E : Value → Shared → Prop}
theorem Inv.wish (I : Inv X pins σ H s) (E : Value → Shared → Prop) : Inv (X.wish E) pins σ H s := ⟨I.ok.wish E, I.os, I.bare, I.base, I.loc, I.cell, I.free, I.freeC, I.pin, I.hok, I.len⟩
theorem Inv.unwish (I : Inv (X.wish E) pins σ H s) : Inv X pins σ H s := ⟨I.ok.unwish, I.os, I.bare, I.base, I.loc, I.cell, I.free, I.freeC, I.pin, I.hok, I.len⟩
theorem SP.unwish {D : Ends} {f : Flow} {s' : Shared} (h : SP (X.wish E) pins D f s') : SP X pins D f s' := by
  cases f with
  | next => obtain ⟨σ', H', I, q⟩ := h; exact ⟨σ', H', I.unwish, q⟩
  | brk => obtain ⟨σ', H', I, q⟩ := h; exact ⟨σ', H', I.unwish, q⟩
  | cont => obtain ⟨σ', H', I, q⟩ := h; exact ⟨σ', H', I.unwish, q⟩
  | ret u => obtain ⟨v, σ', H', I, r, q⟩ := h; exact ⟨v, σ', H', I.unwish, r, q⟩
theorem PSs.nox {st : List Stmt} {t : TS} (h : PSs X.nox st t) : PSs X st t := fun pins s σ H D I hw =>
  wpAny_mono (h pins s σ H D (I.wish _) hw) (fun _ _ q => q.unwish) fun _ _ z => False.elim z
end
section
variable {X : Cx} {st : Stmt} {rest : List Stmt} {t u : TS} {e : Expr} {te : TE} {pos : Pos}
def tNext : TS := fun D σ H => D.nx σ H
def tSeq (t u : TS) : TS := fun D σ H => t { D with nx := u D } σ H
theorem pss_nil : PSs X [] tNext := fun _ _ σ H _ I h => wpAny_execs_nil ⟨σ, H, I, h⟩
theorem pss_cons (h1 : PS X st t) (h2 : PSs X rest u) : PSs X (st :: rest) (tSeq t u) := by
  intro pins s σ H D I h
  refine wpAny_execs_cons (thn (h1 pins s σ H { D with nx := u D } I h) fun f s1 q => ?_)
  cases f with
  | next =>
    obtain ⟨σ', H', I', q⟩ := q
    exact h2 pins s1 σ' H' D I' q
  | ret v => exact q
  | brk => exact q
  | cont => exact q
def tBreak : TS := fun D σ H => D.bk σ H
def tCont : TS := fun D σ H => D.ct σ H
theorem Inv.quiet {pins : List (Addr × Obj)} {σ : St} {H : Hp} {s : Shared} (I : Inv X pins σ H s) : interactive X.env = false := by simp [interactive, I.ok.kind]
def tDrop (te : TE) : TS := fun D σ H => te σ H fun _ H1 => D.nx σ H1
theorem ps_expr (he : PE X e te) (hs : swapsWith e none pos.line X.env = pure false := by rfl) : PS X (.Expr e pos) (tDrop te) := by
  intro pins s σ H D I h
  exact wpAny_Expr_any (thn (he pins s σ H _ I h) fun v s1 ⟨x, H1, I1, r1, q1⟩ => ⟨σ, H1, I1, q1⟩) I.quiet hs
def tRet (te : TE) : TS := fun D σ H => te σ H D.rt
theorem ps_ret (he : PE X e te) : PS X (.Return (some e) pos) (tRet te) := by
  intro pins s σ H D I h
  exact wpAny_Return_some (thn (he pins s σ H _ I h) fun v s1 ⟨x, H1, I1, r1, q1⟩ => ⟨x, σ, H1, I1, r1, q1⟩)
def tRetN : TS := fun D _ H => D.rt .non H
def tIfS (c : TT) (t u : TS) : TS := fun D σ H => c σ H fun b H1 => if b = true then t D σ H1 else u D σ H1
theorem ps_if {c : Expr} {a b : List Stmt} {tc : TT} (hc : PT X c tc) (ha : PSs X a t) (hb : PSs X b u) : PS X (.If c a b pos) (tIfS tc t u) := by
  intro pins s σ H D I h
  refine wpAny_If (thn (hc pins s σ H _ I h) fun d s1 ⟨H1, I1, q1⟩ => ?_)
  cases d with
  | true => exact ha pins s1 σ H1 D I1 q1
  | false => exact hb pins s1 σ H1 D I1 q1
def tNever : TS := fun _ _ _ => False
end
abbrev TG := V → St → Hp → (St → Hp → Prop) → Prop
abbrev TGs := List V → St → Hp → (St → Hp → Prop) → Prop
def PG (X : Cx) (target : Expr) (t : TG) : Prop :=
  ∀ (pins : List (Addr × Obj)) (s : Shared) (σ : St) (H : Hp) (v : V) (u : Value) (Q : St → Hp → Prop), Inv X pins σ H s → RelV v u → t v σ H Q →
    wpAny (model X.prog X.w) X.A (assign target X.env u) (fun _ s' => ∃ σ' H', Inv X pins σ' H' s' ∧ Q σ' H') X.xe s
def PGs (X : Cx) (ts : List Expr) (t : TGs) : Prop :=
  ∀ (pins : List (Addr × Obj)) (s : Shared) (σ : St) (H : Hp) (vs : List V) (us : List Value) (Q : St → Hp → Prop), Inv X pins σ H s → Vals vs us → t vs σ H Q →
    wpAny (model X.prog X.w) X.A (assignInOrder ((assignEach ts X.env).map (·.2)) us) (fun _ s' => ∃ σ' H', Inv X pins σ' H' s' ∧ Q σ' H') X.xe s
abbrev TSet := V → V → V → Hp → (Hp → Prop) → Prop
def PSet (X : Cx) (t : TSet) : Prop :=
  ∀ (pins : List (Addr × Obj)) (s : Shared) (σ : St) (H : Hp) (o i v : V) (ov iv u : Value) (Q : Hp → Prop), Inv X pins σ H s → RelV o ov → RelV i iv → RelV v u → t o i v H Q →
    wpAny (model X.prog X.w) X.A (setItem ov iv u) (fun _ s' => ∃ H', Inv X pins σ H' s' ∧ Q H') X.xe s
abbrev TIp := V → V → Hp → VK → Prop
def PIp (X : Cx) (op : Operator) (t : TIp) : Prop :=
  ∀ (pins : List (Addr × Obj)) (s : Shared) (σ : St) (H : Hp) (x y : V) (v u : Value) (Q : VK), Inv X pins σ H s → RelV x v → RelV y u → t x y H Q →
    wpAny (model X.prog X.w) X.A (inplaceOp op v u) (EP X pins σ Q) X.xe s
section
variable {X : Cx} {pos : Pos}
def gName (i : Nat) : TG := fun v σ H Q => Q (σ.set i (some v)) H
theorem pg_name {i : Nat} {x : Str} (hN : X.N.Nodup) (hi : X.N[i]? = some x) (hx : Loc X.env.scope x) (hf : X.fn x = true ∨ X.env.scope.names.lookup x = some .local := by first | exact .inl rfl | exact .inr rfl | assumption) : PG X (.Name x pos) (gName i) := by
  intro pins s σ H v u Q I r h
  exact wpAny_assign_Name (store_ok I hN hi hx r (fun s' I' => ⟨_, H, I', h⟩) hf)
def gNil : TGs := fun vs σ H Q => vs = [] ∧ Q σ H
def gCons (t : TG) (u : TGs) : TGs := fun vs σ H Q => ∃ v r, vs = v :: r ∧ t v σ H fun σ' H' => u r σ' H' Q
def gTup (K : PySem.W.Frag) (n : Nat) (t : TGs) : TG := fun v σ H Q => ∃ a xs, v = .ref a ∧ SqT K H a xs ∧ xs.length = n ∧ t xs σ H Q
def gSub (to ti : TE) (t : TSet) : TG := fun v σ H Q => to σ H fun o H1 => ti σ H1 fun i H2 => t o i v H2 fun H3 => Q σ H3
def tAsg (te : TE) (g : TG) : TS := fun D σ H => te σ H fun x H1 => g x σ H1 D.nx
theorem ps_set {i : Nat} {x : Str} {e : Expr} {te : TE} {pos' : Pos} (hN : X.N.Nodup) (hi : X.N[i]? = some x) (hx : Loc X.env.scope x) (he : PE X e te) (hs : swapsWith e (some (.Name x pos')) pos.line X.env = pure false := by rfl) (hf : X.fn x = true ∨ X.env.scope.names.lookup x = some .local := by first | exact .inl rfl | exact .inr rfl | assumption) :
    PS X (.Assign [.Name x pos'] e pos) (tAsg te (gName i)) := by
  intro pins s σ H D I h
  refine wpAny_Assign_Name (thn (he pins s σ H _ I h) fun v s1 ⟨y, H1, I1, r1, q1⟩ => ?_) hs
  exact store_ok I1 hN hi hx r1 (fun s2 I2 => ⟨_, H1, I2, q1⟩) hf
def tPar (i j : Nat) (ta : TA) : TS := fun D σ H => ta σ H fun vs H1 => ∃ v w, vs = [v, w] ∧ D.nx ((σ.set i (some v)).set j (some w)) H1
def tAug (i : Nat) (te : TE) (ti : TIp) : TS := fun D σ H => ∃ x, σ[i]? = some (some x) ∧ te σ H fun y H1 => ti x y H1 fun z H2 => D.nx (σ.set i (some z)) H2
def tAugS (to ti te : TE) (tget : V → V → Hp → VK → Prop) (tip : TIp) (tset : TSet) : TS := fun D σ H => to σ H fun o H1 => ti σ H1 fun i H2 => tget o i H2 fun x H3 => te σ H3 fun y H4 => tip x y H4 fun z H5 => tset o i z H5 fun H6 => D.nx σ H6
def PGet (X : Cx) (t : V → V → Hp → VK → Prop) : Prop :=
  ∀ (pins : List (Addr × Obj)) (s : Shared) (σ : St) (H : Hp) (o i : V) (ov iv : Value) (Q : VK), Inv X pins σ H s → RelV o ov → RelV i iv → t o i H Q →
    wpAny (model X.prog X.w) X.A (getItem ov iv) (EP X pins σ Q) X.xe s
def ipI (f : Int → Int → Int) : TIp := fun x y H Q => ∃ i j, x = .int i ∧ y = .int j ∧ Q (.int (f i j)) H
end
section
variable {X : Cx} {pos : Pos}
def tWhile (c : TT) (tb : TS) : TS := fun D σ H => ∃ W : Nat → St → Hp → Prop, (∃ m, W m σ H) ∧ ∀ m σ H, W m σ H →
  c σ H fun b H1 => if b = true then ∃ N : St → Hp → Prop, (∀ σ' H', N σ' H' → ∃ m', m' < m ∧ W m' σ' H') ∧ tb { D with nx := N, ct := N, bk := D.nx } σ H1 else D.nx σ H1
end
structure It where
  go : Nat → Hp → Prop
  yld : Nat → Hp → V → Hp → Prop
  stop : Nat → Hp → Prop
def FpOk (X : Cx) (pins : List (Addr × Obj)) (H : Hp) (b : Addr) : Prop :=
  H b = none ∧ b ≠ X.env.locals ∧ b ∉ X.fs ∧ (b ∈ X.ex ∨ X.s₀.heap.objs.size ≤ b) ∧ (∀ x c, X.env.cells.lookup x = some c → c ≠ b) ∧ ∀ p ∈ X.pn ++ pins, p.1 ≠ b
theorem Inv.fpOk {X : Cx} {pins : List (Addr × Obj)} {σ : St} {H H' : Hp} {s : Shared} {b : Addr} (I : Inv X pins σ H s) (hb : s.heap.objs.size ≤ b) (hn : H' b = none) : FpOk X pins H' b := by
  refine ⟨hn, Nat.ne_of_gt (Nat.lt_of_lt_of_le I.lt hb), I.nofs hb, .inr (Nat.le_trans I.sz hb), fun x c e z => ?_, fun p hp z => ?_⟩
  · obtain ⟨v, q⟩ := I.cell x c e
    exact absurd (Nat.lt_of_lt_of_le q.lt (by rw [z]; exact hb)) (Nat.lt_irrefl _)
  · exact absurd (Nat.lt_of_lt_of_le (Heap.lt_size (I.pin p hp).1) (by rw [z]; exact hb)) (Nat.lt_irrefl _)
structure Turn (P : Program) (w : World) (K : PySem.W.Frag) (tg : Expr) (J : It) (fp : List Addr) (it : Addr) (tn : Nat → Heap → Prop) : Prop where
  mem : it ∈ fp
  obj : ∀ i h, tn i h → ∀ b ∈ fp, ∃ o, h.get? b = some o ∧ ∀ v, o.data ≠ .cell v
  keep : ∀ i h h', tn i h → (∀ b ∈ fp, ∀ o, h.get? b = some o → h'.get? b = some o) → tn i h'
  item : ∀ (X : Cx), X.prog = P → X.w = w → X.K = K → X.calm = true → ∀ (i : Nat) (pins : List (Addr × Obj)) (s : Shared) (σ : St) (H : Hp) (E : Value → Shared → Prop), Inv X pins σ H s → (∀ b ∈ fp, FpOk X pins H b) → tn i s.heap → J.go i H →
    wpAny (model P w) X.A (pyNext (.ref it)) (fun r s1 => ∃ u, r = some u ∧
      wpAny (model P w) X.A (letOwnedTupleGo tg (.ref it) u) (fun _ s2 => ∃ x H', Inv X pins σ H' s2 ∧ RelV x u ∧ J.yld i H x H' ∧ tn (i + 1) s2.heap ∧ ∀ b ∈ fp, H' b = none) E s1) E s
  done : ∀ (X : Cx), X.prog = P → X.w = w → X.K = K → X.calm = true → ∀ (i : Nat) (pins : List (Addr × Obj)) (s : Shared) (σ : St) (H : Hp) (E : Value → Shared → Prop), Inv X pins σ H s → (∀ b ∈ fp, FpOk X pins H b) → tn i s.heap → J.stop i H →
    wpAny (model P w) X.A (pyNext (.ref it)) (fun r s1 => r = none ∧ Inv X pins σ H s1) E s
  self : ∀ (A : Around) (i : Nat) (s : Shared) (Q : Value → Shared → Prop) (E : Value → Shared → Prop), tn i s.heap → Q (.ref it) s → wpAny (model P w) A (pyIter (.ref it)) Q E s
abbrev TI := St → Hp → (It → Hp → Prop) → Prop
def PIE (X : Cx) (pins : List (Addr × Obj)) (σ : St) (tg : Expr) (R : It → Hp → Prop) (itv : Value) (s2 : Shared) : Prop :=
  ∃ (it : Addr) (fp : List Addr) (tn : Nat → Heap → Prop) (J : It) (H' : Hp), itv = .ref it ∧ Inv X pins σ H' s2 ∧ Turn X.prog X.w X.K tg J fp it tn ∧ tn 0 s2.heap ∧ (∀ b ∈ fp, FpOk X pins H' b) ∧ R J H'
def PI (X : Cx) (tg iter : Expr) (wi : TI) : Prop :=
  ∀ (pins : List (Addr × Obj)) (s : Shared) (σ : St) (H : Hp) (R : It → Hp → Prop), Inv X pins σ H s → wi σ H R →
    wpAny (model X.prog X.w) X.A (eval iter X.env) (fun v s1 => wpAny (model X.prog X.w) X.A (pyIter v) (PIE X pins σ tg R) X.xe s1) X.xe s
theorem go_of {M : Model} {A : Around} {E : Value → Shared → Prop} {s : Shared} {tg : Expr} {it : Addr} {u : Value} {o : Obj} {n : String} {vs : Array Value} {Q : Unit → Shared → Prop} (ho : s.heap.get? it = some o) (hc : o.cls = .type n) (hd : o.data = .fields vs)
    (hn : ["enumerate", "zip", "dict_itemiterator", "dict_reverseitemiterator", "odict_iterator", "itertools.zip_longest", "itertools.pairwise"].contains n = false) (hQ : Q () s) : wpAny M A (letOwnedTupleGo tg (.ref it) u) Q E s := by
  unfold letOwnedTupleGo
  cases tg <;> first
    | exact wpAny_pure hQ
    | (cases u <;> first
        | exact wpAny_pure hQ
        | (refine wpAny_bind (wpAny_load ho ?_)
           rw [hc, hd]
           show wpAny M A (if (["enumerate", "zip", "dict_itemiterator", "dict_reverseitemiterator", "odict_iterator", "itertools.zip_longest", "itertools.pairwise"].contains n && vs[0]? == some (rawInt _)) = true then _ else _) Q E s
           rw [if_neg (by intro h; rw [hn, Bool.false_and] at h; cases h)]
           exact wpAny_pure hQ))
def Itl (K : PySem.W.Frag) (a : Addr) : It :=
  ⟨fun i H => ∃ xs x, SqL K H a xs ∧ xs[i]? = some x, fun i H x H' => H' = H ∧ ∀ xs, SqL K H a xs → xs[i]? = some x, fun i H => ∃ xs, SqL K H a xs ∧ xs.length ≤ i⟩
def Itt (K : PySem.W.Frag) (a : Addr) : It :=
  ⟨fun i H => ∃ xs x, SqT K H a xs ∧ xs[i]? = some x, fun i H x H' => H' = H ∧ ∀ xs, SqT K H a xs → xs[i]? = some x, fun i H => ∃ xs, SqT K H a xs ∧ xs.length ≤ i⟩
def Itr (lo : Int) (n : Nat) : It := ⟨fun i _ => i < n, fun i H x H' => H' = H ∧ x = .int (lo + i), fun i _ => n ≤ i⟩
end L2
namespace L2
open PySem PySem.Spec PyProof.Rows
section
variable {X : Cx} {tg : Expr}
def iList (K : PySem.W.Frag) (tl : TE) : TI := fun σ H R => tl σ H fun x H1 => ∃ a, x = .ref a ∧ (∃ xs, SqL K H1 a xs) ∧ R (Itl K a) H1
def iTup (K : PySem.W.Frag) (tl : TE) : TI := fun σ H R => tl σ H fun x H1 => ∃ a, x = .ref a ∧ (∃ xs, SqT K H1 a xs) ∧ R (Itt K a) H1
def iRng1 (ta : TA) : TI := fun σ H R => ta σ H fun vs H1 => ∃ j : Int, vs = [.int j] ∧ -(2 ^ 62) ≤ j ∧ j < 2 ^ 62 ∧ R (Itr 0 j.toNat) H1
def iRng2 (ta : TA) : TI := fun σ H R => ta σ H fun vs H1 => ∃ i j : Int, vs = [.int i, .int j] ∧ (-(2 ^ 62) ≤ i ∧ i < 2 ^ 62 ∧ -(2 ^ 62) ≤ j ∧ j < 2 ^ 62) ∧ R (Itr i (j - i).toNat) H1
def tFor (wi : TI) (g : TG) (tb : TS) : TS := fun D σ H => wi σ H fun J H1 => ∃ W : Nat → Nat → St → Hp → Prop, (∃ m, W 0 m σ H1) ∧ ∀ i m σ H, W i m σ H →
  (J.stop i H ∧ D.nx σ H) ∨ (J.go i H ∧ ∃ N : St → Hp → Prop, (∀ σ' H', N σ' H' → ∃ m', m' < m ∧ W (i + 1) m' σ' H') ∧ ∀ x H', J.yld i H x H' → g x σ H' fun σ2 H2 => tb { D with nx := N, ct := N, bk := D.nx } σ2 H2)
def pinsAt (fp : List Addr) (h : Heap) : List (Addr × Obj) := fp.filterMap fun b => (h.get? b).map fun o => (b, o)
theorem mem_pinsAt {fp : List Addr} {h : Heap} {b : Addr} {o : Obj} (hb : b ∈ fp) (e : h.get? b = some o) : (b, o) ∈ pinsAt fp h := List.mem_filterMap.mpr ⟨b, hb, by rw [e]; rfl⟩
theorem of_pinsAt {fp : List Addr} {h : Heap} {p : Addr × Obj} (hp : p ∈ pinsAt fp h) : p.1 ∈ fp ∧ h.get? p.1 = some p.2 := by
  obtain ⟨b, hb, e⟩ := List.mem_filterMap.mp hp
  cases q : h.get? b with
  | none => rw [q] at e; cases e
  | some o =>
    rw [q] at e
    have e' : (b, o) = p := Option.some.inj e
    subst e'
    exact ⟨hb, q⟩
theorem Inv.pinned {pins : List (Addr × Obj)} {σ : St} {H : Hp} {s : Shared} {fp : List Addr} (I : Inv X pins σ H s) (hf : ∀ b ∈ fp, FpOk X pins H b) (ho : ∀ b ∈ fp, ∃ o, s.heap.get? b = some o ∧ ∀ v, o.data ≠ .cell v) : Inv X (pins ++ pinsAt fp s.heap) σ H s :=
  I.pins_of fun p hp => (List.mem_append.mp hp).elim (fun z => I.pin p (List.mem_append_right _ z)) fun z => by
    obtain ⟨hb, e⟩ := of_pinsAt z
    obtain ⟨f0, f1, f2, _⟩ := hf p.1 hb
    obtain ⟨o, e', d⟩ := ho p.1 hb
    rw [e] at e'; cases e'
    exact ⟨e, f0, f1, f2, d⟩
theorem Inv.unpinned {pins pl : List (Addr × Obj)} {σ : St} {H : Hp} {s : Shared} (I : Inv X (pins ++ pl) σ H s) : Inv X pins σ H s := I.pins_of fun p hp => I.pin p (List.mem_append_right _ (List.mem_append_left _ hp))
theorem ps_for {iter : Expr} {body : List Stmt} {wi : TI} {g : TG} {tb : TS} {pos : Pos} (hp : PassesOwn (model X.prog X.w) X.A X.env X.xe) (hc : X.calm = true) (hi : PI X tg iter wi) (hg : PG X tg g) (hb : PSs X body tb)
    (hs : ∀ x, foldedSetIterable iter X.env x = pure x := by intro _; rfl) : PS X (.For tg iter body [] pos) (tFor wi g tb) := by
  intro pins s σ H D I h
  refine wpAny_For (thn (hi pins s σ H _ I h) fun v s1 h1 => thn h1 fun itv s2 h2 => ?_) hs
  obtain ⟨it, fp, tn, J, H2, e, I2, T, st2, f2, W, ⟨m0, w0⟩, turn⟩ := h2
  subst e
  -- what stays true of the iterator's objects through the loop
  have stat : ∀ {H' : Hp}, (∀ b ∈ fp, H' b = none) → ∀ b ∈ fp, FpOk X pins H' b := fun hn b hb => ⟨hn b hb, (f2 b hb).2⟩
  refine codeAny_forLoop_any (fun n s' => ∃ i σ' H', Inv X pins σ' H' s' ∧ tn i s'.heap ∧ (∀ b ∈ fp, H' b = none) ∧ W i n σ' H') ?_ m0 ⟨0, σ, H2, I2, st2, fun b hb => (f2 b hb).1, w0⟩
  rintro n s3 ⟨i, σ3, H3, I3, st3, fr3, w3⟩
  rcases turn i n σ3 H3 w3 with ⟨stop, qn⟩ | ⟨go, N, hN, step⟩
  · refine wpAny_passesOwn hp (thn (T.done X rfl rfl rfl hc i pins s3 σ3 H3 X.xe I3 (stat fr3) st3 stop) fun r s4 ⟨hr, I4⟩ => ?_)
    subst hr
    exact wpAny_execs_nil ⟨σ3, H3, I4, qn⟩
  · refine wpAny_passesOwn hp (thn (T.item X rfl rfl rfl hc i pins s3 σ3 H3 X.xe I3 (stat fr3) st3 go) fun r s4 ⟨u, hr, h4⟩ => ?_)
    subst hr
    refine wpAny_passesOwn hp (thn h4 fun _ s5 ⟨x, H5, I5, r5, y5, st5, fr5⟩ => ?_)
    have I5' := I5.pinned (stat fr5) (T.obj _ _ st5)
    refine wpAny_passesOwn hp (thn (hg _ s5 σ3 H5 x u _ I5' r5 (step x H5 y5)) fun _ s6 ⟨σ6, H6, I6, q6⟩ => ?_)
    refine wpAny_passesOwn hp (thn (hb _ s6 σ6 H6 _ I6 q6) fun f s7 q7 => ?_)
    have again : ∀ {σ7 : St} {H7 : Hp}, Inv X (pins ++ pinsAt fp s5.heap) σ7 H7 s7 → N σ7 H7 → ∃ m, m < n ∧ ∃ i σ' H', Inv X pins σ' H' s7 ∧ tn i s7.heap ∧ (∀ b ∈ fp, H' b = none) ∧ W i m σ' H' := fun {σ7 H7} I7 n7 => by
      obtain ⟨m', hm, w7⟩ := hN σ7 H7 n7
      refine ⟨m', hm, i + 1, σ7, H7, I7.unpinned, T.keep _ _ _ st5 fun b hb o e => (I7.pin (b, o) (List.mem_append_right _ (List.mem_append_right _ (mem_pinsAt hb e)))).1, fun b hb => ?_, w7⟩
      obtain ⟨o, e, d⟩ := T.obj _ _ st5 b hb
      exact (I7.pin (b, o) (List.mem_append_right _ (List.mem_append_right _ (mem_pinsAt hb e)))).2.1
    cases f with
    | next => obtain ⟨σ7, H7, I7, n7⟩ := q7; exact again I7 n7
    | cont => obtain ⟨σ7, H7, I7, n7⟩ := q7; exact again I7 n7
    | brk => obtain ⟨σ7, H7, I7, q7⟩ := q7; exact ⟨σ7, H7, I7.unpinned, q7⟩
    | ret v => obtain ⟨x7, σ7, H7, I7, r7, q7⟩ := q7; exact ⟨x7, σ7, H7, I7.unpinned, r7, q7⟩
end
end L2
namespace L2
open PySem PySem.Spec PyProof.Rows
abbrev R2 := V → V → Hp → VK → Prop
def OpR (X : Cx) (f : Value → Value → Sem Value) (r : R2) : Prop :=
  ∀ (pins : List (Addr × Obj)) (s : Shared) (σ : St) (H : Hp) (x y : V) (v u : Value) (Q : VK), Inv X pins σ H s → RelV x v → RelV y u → r x y H Q →
    wpAny (model X.prog X.w) X.A (f v u) (EP X pins σ Q) X.xe s
def UnR (X : Cx) (f : Value → Sem Value) (r : V → Hp → VK → Prop) : Prop :=
  ∀ (pins : List (Addr × Obj)) (s : Shared) (σ : St) (H : Hp) (x : V) (v : Value) (Q : VK), Inv X pins σ H s → RelV x v → r x H Q →
    wpAny (model X.prog X.w) X.A (f v) (EP X pins σ Q) X.xe s
def CallR (X : Cx) (f : Value) (r : List V → Hp → VK → Prop) : Prop :=
  ∀ (pins : List (Addr × Obj)) (s : Shared) (σ : St) (H : Hp) (xs : List V) (us : List Value) (Q : VK), Inv X pins σ H s → Vals xs us → r xs H Q →
    wpAny (model X.prog X.w) X.A (call f us) (EP X pins σ Q) X.xe s
def TruR (X : Cx) (r : V → Hp → (Bool → Hp → Prop) → Prop) : Prop :=
  ∀ (pins : List (Addr × Obj)) (s : Shared) (σ : St) (H : Hp) (x : V) (v : Value) (Q : Bool → Hp → Prop), Inv X pins σ H s → RelV x v → r x H Q →
    wpAny (model X.prog X.w) X.A (truthy v) (TP X pins σ Q) X.xe s
def tOp (r : R2) (ta tb : TE) : TE := fun σ H Q => ta σ H fun x H1 => tb σ H1 fun y H2 => r x y H2 Q
def tUn (r : V → Hp → VK → Prop) (ta : TE) : TE := fun σ H Q => ta σ H fun x H1 => r x H1 Q
def rI (C : Int → Int → Prop) (g : Int → Int → V) : R2 := fun x y H Q => ∃ i j, x = .int i ∧ y = .int j ∧ C i j ∧ Q (g i j) H
def rI0 (g : Int → Int → V) : R2 := fun x y H Q => ∃ i j, x = .int i ∧ y = .int j ∧ Q (g i j) H
def rU (g : Int → V) : V → Hp → VK → Prop := fun x H Q => ∃ i, x = .int i ∧ Q (g i) H
section
variable {X : Cx} {a b c : Expr} {ta tb tc : TE} {pos : Pos}
theorem binT (ha : PE X a ta) (hb : PE X b tb) {pins : List (Addr × Obj)} {s : Shared} {σ : St} {H : Hp} {R : V → V → Hp → Prop} (I : Inv X pins σ H s)
    (h : ta σ H fun x H1 => tb σ H1 fun y H2 => R x y H2) {Q : Value → Shared → Prop} {f : Value → Value → Sem Value}
    (hf : ∀ v u s2 x y H2, Inv X pins σ H2 s2 → RelV x v → RelV y u → R x y H2 → wpAny (model X.prog X.w) X.A (f v u) Q X.xe s2) :
    wpAny (model X.prog X.w) X.A (eval a X.env) (fun v s₁ => wpAny (model X.prog X.w) X.A (eval b X.env) (fun u s₂ => wpAny (model X.prog X.w) X.A (f v u) Q X.xe s₂) X.xe s₁) X.xe s := by
  refine thn (ha pins s σ H _ I h) fun v s1 ⟨x, H1, I1, r1, q1⟩ => ?_
  refine thn (hb pins s1 σ H1 _ I1 q1) fun u s2 ⟨y, H2, I2, r2, q2⟩ => ?_
  exact hf v u s2 x y H2 I2 r1 r2 q2
theorem opI {f : Value → Value → Sem Value} {C : Int → Int → Prop} {g : Int → Int → Int}
    (rule : ∀ (i j : Int) (t u : Tok) (s : Shared) (Q : Value → Shared → Prop) (E : Value → Shared → Prop), C i j → Q (.int (g i j) s.toks) { s with toks := s.toks + 1 } → wpAny (model X.prog X.w) X.A (f (.int i t) (.int j u)) Q E s) :
    OpR X f (rI C fun i j => .int (g i j)) := by
  intro pins s σ H x y v u Q I rx ry h
  obtain ⟨i, j, rfl, rfl, hc, q⟩ := h
  obtain ⟨t, rfl⟩ := rx
  obtain ⟨t', rfl⟩ := ry
  exact rule i j t t' s _ _ hc ⟨.int (g i j), H, I.tok _, ⟨_, rfl⟩, q⟩
theorem opI0 {f : Value → Value → Sem Value} {g : Int → Int → Int}
    (rule : ∀ (i j : Int) (t u : Tok) (s : Shared) (Q : Value → Shared → Prop) (E : Value → Shared → Prop), Q (.int (g i j) s.toks) { s with toks := s.toks + 1 } → wpAny (model X.prog X.w) X.A (f (.int i t) (.int j u)) Q E s) :
    OpR X f (rI0 fun i j => .int (g i j)) := by
  intro pins s σ H x y v u Q I rx ry h
  obtain ⟨i, j, rfl, rfl, q⟩ := h
  obtain ⟨t, rfl⟩ := rx
  obtain ⟨t', rfl⟩ := ry
  exact rule i j t t' s _ _ ⟨.int (g i j), H, I.tok _, ⟨_, rfl⟩, q⟩
theorem opB0 {f : Value → Value → Sem Value} {g : Int → Int → Bool}
    (rule : ∀ (i j : Int) (t u : Tok) (s : Shared) (Q : Value → Shared → Prop) (E : Value → Shared → Prop), Q (.bool (g i j)) s → wpAny (model X.prog X.w) X.A (f (.int i t) (.int j u)) Q E s) :
    OpR X f (rI0 fun i j => .bl (g i j)) := by
  intro pins s σ H x y v u Q I rx ry h
  obtain ⟨i, j, rfl, rfl, q⟩ := h
  obtain ⟨t, rfl⟩ := rx
  obtain ⟨t', rfl⟩ := ry
  exact rule i j t t' s _ _ ⟨.bl (g i j), H, I, rfl, q⟩
def CDiv (i j : Int) : Prop := 0 < j ∧ j < 1073741824
def CDivN (i j : Int) : Prop := j ≠ 0 ∧ j.natAbs < 1073741824
def CPow (i j : Int) : Prop := 0 ≤ j ∧ j ≤ 1000000 ∧ i.natAbs < 2 ^ 64
def CMul (i j : Int) : Prop := (-(2 ^ 64) < i ∧ i < 2 ^ 64) ∨ (-(2 ^ 64) < j ∧ j < 2 ^ 64)
theorem CMul.ok {i j : Int} (h : CMul i j) : IntMulOk i j := by
  rcases h with ⟨h1, h2⟩ | ⟨h1, h2⟩
  · exact .of_left (intBits_le_64 h1 h2)
  · exact .of_right (intBits_le_64 h1 h2)
theorem op_add : OpR X (binaryOp .Add) (rI0 fun i j => .int (i + j)) := opI0 fun _ _ _ _ _ _ _ q => add_int q
theorem op_sub : OpR X (binaryOp .Sub) (rI0 fun i j => .int (i - j)) := opI0 fun _ _ _ _ _ _ _ q => sub_int q
theorem op_fdiv : OpR X (binaryOp .FloorDiv) (rI CDiv fun i j => .int (i / j)) := opI fun i j _ _ _ _ _ hc q => by
  have h1 : (0 : Int) < j := hc.1
  have h2 : j < 1073741824 := hc.2
  exact floordiv_int (by omega) (by rw [Int.fdiv_eq_ediv_of_nonneg i (by omega)]; exact q) (.inl (PyProof.noPylong_small (by omega)))
theorem op_mod : OpR X (binaryOp .Mod) (rI (fun _ j => 0 < j) fun i j => .int (i % j)) := opI fun i j _ _ _ _ _ hc q => by
  have h1 : (0 : Int) < j := hc
  exact mod_int' (by omega) (by rw [Int.fmod_eq_emod_of_nonneg i (by omega)]; exact q)
theorem op_pow : OpR X (binaryOp .Pow) (rI CPow fun i j => .int (i ^ j.toNat)) := opI fun _ _ _ _ _ _ _ hc q => pow_int_small hc.1 hc.2.1 hc.2.2 q
end
def scal : V → V → Bool
  | .non, .non => true | .non, .int _ => true | .int _, .non => true | .non, .bl _ => true | .bl _, .non => true | .non, .str _ => true | .str _, .non => true
  | .int _, .int _ => true | .bl _, .bl _ => true | .str _, .str _ => true | .byt _, .byt _ => true
  | .int _, .str _ => true | .str _, .int _ => true | .bl _, .str _ => true | .str _, .bl _ => true
  | _, _ => false
def rEq : R2 := fun x y H Q => scal x y = true ∧ Q (.bl (decide (x = y))) H
def rNe : R2 := fun x y H Q => scal x y = true ∧ Q (.bl (!decide (x = y))) H
theorem dec_int {i j : Int} : decide (V.int i = V.int j) = (i == j) := by
  rw [Bool.eq_iff_iff]
  simp
theorem dec_bl {i j : Bool} : decide (V.bl i = V.bl j) = (i == j) := by
  rw [Bool.eq_iff_iff]
  simp
theorem dec_str {i j : Str} : decide (V.str i = V.str j) = (i == j) := by
  rw [Bool.eq_iff_iff]
  simp
theorem dec_byt {i j : Array UInt8} : decide (V.byt i = V.byt j) = (i.toList == j.toList) := by
  rw [Bool.eq_iff_iff]
  cases i
  cases j
  simp
section
variable {X : Cx} {a b c : Expr} {ta tb tc : TE} {pos : Pos}
theorem fin_bl {pins : List (Addr × Obj)} {σ : St} {H : Hp} {s : Shared} {Q : VK} {k k' : Bool} (I : Inv X pins σ H s) (q : Q (.bl k) H) (e : k = k') : EP X pins σ Q (.bool k') s := by
  subst e
  exact ⟨.bl k, H, I, rfl, q⟩
theorem op_eq : OpR X (compareOp .Eq) rEq := by
  intro pins s σ H x y v u Q I rx ry h
  obtain ⟨hs, q⟩ := h
  cases x with
  | non =>
    cases rx
    cases y with
    | non => cases ry; exact PySem.EqNone.eq_none_none (fin_bl I q (by simp))
    | bl j => cases ry; exact PySem.EqNone.eq_none_bool (fin_bl I q (by simp))
    | int j => obtain ⟨t', rfl⟩ := ry; exact PySem.EqNone.eq_none_int (fin_bl I q (by simp))
    | str j => obtain ⟨t', rfl⟩ := ry; exact PySem.EqNone.eq_none_str (fin_bl I q (by simp))
    | _ => exact absurd (show false = true from hs) Bool.false_ne_true
  | bl i =>
    cases rx
    cases y with
    | non => cases ry; exact PySem.EqNone.eq_bool_none (fin_bl I q (by simp))
    | bl j => cases ry; exact eq_bool (fin_bl I q dec_bl)
    | str j => obtain ⟨t', rfl⟩ := ry; exact PySem.EqMixed.eq_bool_str (fin_bl I q (by simp))
    | _ => exact absurd (show false = true from hs) Bool.false_ne_true
  | int i =>
    obtain ⟨t, rfl⟩ := rx
    cases y with
    | non => cases ry; exact PySem.EqNone.eq_int_none (fin_bl I q (by simp))
    | int j => obtain ⟨t', rfl⟩ := ry; exact eq_int (fin_bl I q dec_int)
    | str j => obtain ⟨t', rfl⟩ := ry; exact PySem.EqMixed.eq_int_str (fin_bl I q (by simp))
    | _ => exact absurd (show false = true from hs) Bool.false_ne_true
  | str i =>
    obtain ⟨t, rfl⟩ := rx
    cases y with
    | non => cases ry; exact PySem.EqNone.eq_str_none (fin_bl I q (by simp))
    | bl j => cases ry; exact PySem.EqMixed.eq_str_bool (fin_bl I q (by simp))
    | int j => obtain ⟨t', rfl⟩ := ry; exact PySem.EqMixed.eq_str_int (fin_bl I q (by simp))
    | str j => obtain ⟨t', rfl⟩ := ry; exact eq_str (fin_bl I q dec_str)
    | _ => exact absurd (show false = true from hs) Bool.false_ne_true
  | byt i =>
    obtain ⟨t, rfl⟩ := rx
    cases y with
    | byt j => obtain ⟨t', rfl⟩ := ry; exact PySem.W.eq_bytes (fin_bl I q dec_byt)
    | _ => exact absurd (show false = true from hs) Bool.false_ne_true
  | _ => cases y <;> exact absurd (show false = true from hs) Bool.false_ne_true
theorem op_ne : OpR X (compareOp .NotEq) rNe := by
  intro pins s σ H x y v u Q I rx ry h
  obtain ⟨hs, q⟩ := h
  cases x with
  | non =>
    cases rx
    cases y with
    | non => cases ry; exact PySem.EqNone.ne_none_none (fin_bl I q (by simp))
    | bl j => cases ry; exact PySem.EqNone.ne_none_bool (fin_bl I q (by simp))
    | int j => obtain ⟨t', rfl⟩ := ry; exact PySem.EqNone.ne_none_int (fin_bl I q (by simp))
    | str j => obtain ⟨t', rfl⟩ := ry; exact PySem.EqNone.ne_none_str (fin_bl I q (by simp))
    | _ => exact absurd (show false = true from hs) Bool.false_ne_true
  | bl i =>
    cases rx
    cases y with
    | non => cases ry; exact PySem.EqNone.ne_bool_none (fin_bl I q (by simp))
    | bl j => cases ry; exact ne_bool (fin_bl I q (congrArg not dec_bl))
    | str j => obtain ⟨t', rfl⟩ := ry; exact PySem.EqMixed.ne_bool_str (fin_bl I q (by simp))
    | _ => exact absurd (show false = true from hs) Bool.false_ne_true
  | int i =>
    obtain ⟨t, rfl⟩ := rx
    cases y with
    | non => cases ry; exact PySem.EqNone.ne_int_none (fin_bl I q (by simp))
    | int j => obtain ⟨t', rfl⟩ := ry; exact ne_int (fin_bl I q (congrArg not dec_int))
    | str j => obtain ⟨t', rfl⟩ := ry; exact PySem.EqMixed.ne_int_str (fin_bl I q (by simp))
    | _ => exact absurd (show false = true from hs) Bool.false_ne_true
  | str i =>
    obtain ⟨t, rfl⟩ := rx
    cases y with
    | non => cases ry; exact PySem.EqNone.ne_str_none (fin_bl I q (by simp))
    | bl j => cases ry; exact PySem.EqMixed.ne_str_bool (fin_bl I q (by simp))
    | int j => obtain ⟨t', rfl⟩ := ry; exact PySem.EqMixed.ne_str_int (fin_bl I q (by simp))
    | str j => obtain ⟨t', rfl⟩ := ry; exact ne_str (fin_bl I q (congrArg not dec_str))
    | _ => exact absurd (show false = true from hs) Bool.false_ne_true
  | byt i =>
    obtain ⟨t, rfl⟩ := rx
    cases y with
    | byt j => obtain ⟨t', rfl⟩ := ry; exact PySem.W.ne_bytes (fin_bl I q (congrArg not dec_byt))
    | _ => exact absurd (show false = true from hs) Bool.false_ne_true
  | _ => cases y <;> exact absurd (show false = true from hs) Bool.false_ne_true
theorem op_lt : OpR X (compareOp .Lt) (rI0 fun i j => .bl (decide (i < j))) := opB0 fun _ _ _ _ _ _ _ q => lt_int q
theorem op_le : OpR X (compareOp .LtE) (rI0 fun i j => .bl (decide (i ≤ j))) := opB0 fun _ _ _ _ _ _ _ q => le_int q
theorem op_isN : OpR X (compareOp .Is) (fun x y H Q => y = .non ∧ Q (.bl (decide (x = .non))) H) := by
  intro pins s σ H x y v u Q I rx ry h
  obtain ⟨rfl, q⟩ := h
  cases ry
  refine is_none_gen (fin_bl I q ?_)
  cases x <;> first
    | (cases rx; rfl)
    | (obtain ⟨t, rfl⟩ := rx; rfl)
def isObj : HO → Bool
  | .lst _ => true
  | .ins _ _ _ => true
  | _ => false
theorem nomark (b : Expr) {op : CmpOp} (h : op ≠ .In := by decide) (h2 : op ≠ .NotIn := by decide) : behindInMarks op b = false := by
  have e1 : (op == CmpOp.In) = false := by cases op <;> first | rfl | exact absurd rfl h
  have e2 : (op == CmpOp.NotIn) = false := by cases op <;> first | rfl | exact absurd rfl h2
  cases b <;> simp [behindInMarks, e1, e2]
def tTest (t : TE) : TT := fun σ H Q => t σ H fun x H' => ∃ k, x = .bl k ∧ Q k H'
def tChain (r r' : R2) (ta tb tc : TE) : TE := fun σ H Q => ta σ H fun x H1 => tb σ H1 fun y H2 => r x y H2 fun z H3 => ∃ k, z = .bl k ∧
  (if k = true then tc σ H3 fun w' H4 => r' y w' H4 Q else Q (.bl false) H3)
def TruV (K : PySem.W.Frag) (x : V) (H : Hp) (k : Bool) : Prop :=
  match x with
  | .non => k = false
  | .bl b => k = b
  | .int i => k = (i != 0)
  | .str y => y.length ≤ sizeLine ∧ k = ((y.length : Int) != 0)
  | .byt y => y.size ≤ sizeLine ∧ k = ((y.size : Int) != 0)
  | .ref p => (∃ xs, SqL K H p xs ∧ k = !xs.isEmpty) ∨ (∃ xs, SqT K H p xs ∧ k = !xs.isEmpty) ∨ ∃ kvs, H p = some (.dK kvs) ∧ k = !kvs.isEmpty
  | _ => False
theorem isEmpty_kv {κ : Type} {kvs : List (κ × V)} {vs : List (κ × Value)} (r : KV kvs vs) : (!vs.isEmpty) = !kvs.isEmpty := by
  cases r <;> rfl
theorem isEmpty_of {xs : List V} {its : List Value} (r : Vals xs its) : (!its.toArray.isEmpty) = !xs.isEmpty := by
  cases r <;> simp
theorem line63 : (sizeLine : Nat) < 2 ^ 63 := by rw [sizeLine_eq]; decide
theorem tru_ok : TruR X (fun x H Q => ∃ k, TruV X.K x H k ∧ Q k H) := by
  intro pins s σ H x v Q I rx h
  obtain ⟨k, e, q⟩ := h
  have hl := line63
  have hs : sizeLine = 16777216 := sizeLine_eq
  cases x with
  | non =>
    cases rx
    have e' : k = false := e
    subst e'
    exact truthy_none ⟨H, I, q⟩
  | bl b =>
    cases rx
    have e' : k = b := e
    subst e'
    exact wpAny_truthy_bool ⟨H, I, q⟩
  | int i =>
    obtain ⟨t, rfl⟩ := rx
    have e' : k = (i != 0) := e
    subst e'
    exact PySem.P.truthy_int ⟨H, I, q⟩
  | str y =>
    obtain ⟨t, rfl⟩ := rx
    obtain ⟨hy, e'⟩ : y.length ≤ sizeLine ∧ k = ((y.length : Int) != 0) := e
    subst e'
    exact PySem.P.truthy_str (by omega) ⟨H, I.tok _, q⟩
  | byt y =>
    obtain ⟨t, rfl⟩ := rx
    obtain ⟨hy, e'⟩ : y.size ≤ sizeLine ∧ k = ((y.size : Int) != 0) := e
    subst e'
    exact PySem.W.truthy_bytes (by omega) ⟨H, I.tok _, q⟩
  | ref p =>
    cases rx
    have e' : (∃ xs, SqL X.K H p xs ∧ k = !xs.isEmpty) ∨ (∃ xs, SqT X.K H p xs ∧ k = !xs.isEmpty) ∨ ∃ kvs, H p = some (.dK kvs) ∧ k = !kvs.isEmpty := e
    rcases e' with ⟨xs, hx, e'⟩ | ⟨xs, hx, e'⟩ | ⟨kvs, hx, e'⟩
    · subst e'
      obtain ⟨its, r, pl, hz⟩ := I.list hx
      have hlen := r.length
      exact wpAny_truthy_list pl.isList (by simp only [List.size_toArray]; omega) ⟨H, I.tok _, by rw [isEmpty_of r]; exact q⟩
    · subst e'
      obtain ⟨its, r, pl, hz⟩ := I.tuple hx
      have hlen := r.length
      exact truthy_tuple pl (by simp only [List.size_toArray]; omega) ⟨H, I.tok _, by rw [isEmpty_of r]; exact q⟩
    · subst e'
      obtain ⟨hz, hS, vs, r, m⟩ : kvs.length ≤ sizeLine ∧ (p == sysModules) = false ∧ ∃ vs, KV kvs vs ∧ s.heap.DictOf (mixKind X.prog X.w) p vs := I.hok p _ hx
      have hlen : kvs.length = vs.length := Paired.length r
      exact wpAny_truthy_dict hS m (by omega) ⟨H, I.tok _, by rw [isEmpty_kv r]; exact q⟩
  | _ => exact (show False from e).elim
theorem pt_truth (ha : PE X a ta) (he : ∀ whole, isTrue a X.env whole = (do let v ← whole; standAt a.pos; holding [v] (truthy v))) :
    PT X a (fun σ H Q => ta σ H fun x H' => ∃ k, TruV X.K x H' k ∧ Q k H') := by
  intro pins s σ H Q I h
  exact isTrue_plain (thn (ha pins s σ H _ I h) fun v s1 ⟨x, H1, I1, r1, q1⟩ => tru_ok pins s1 σ H1 x v Q I1 r1 q1) (he _)
def PlainIxT (b : Expr) : Prop := ∀ o i, subscripted b false o i = operate [o, i] (getItem o i)
theorem vals1 {x : V} {us : List Value} (r : Vals [x] us) : ∃ u, us = [u] ∧ RelV x u := by
  cases r with
  | cons r1 r2 => cases r2; exact ⟨_, rfl, r1⟩
theorem vals2 {x y : V} {us : List Value} (r : Vals [x, y] us) : ∃ u w', us = [u, w'] ∧ RelV x u ∧ RelV y w' := by
  cases r with
  | cons r1 r2 =>
    cases r2 with
    | cons r3 r4 => cases r4; exact ⟨_, _, rfl, r1, r3⟩
theorem call_min2 (hc : X.calm = true) : CallR X (.builtin "min") (fun xs H Q => ∃ i j, xs = [.int i, .int j] ∧ Q (.int (if j < i then j else i)) H) := by
  intro pins s σ H xs us Q I r h
  obtain ⟨i, j, rfl, q⟩ := h
  obtain ⟨u, w', rfl, ⟨t, rfl⟩, ⟨t', rfl⟩⟩ := vals2 r
  refine min_two_ints (I.ok.hd hc) fun h' tk k => ⟨_, H, I.kept k, ?_, q⟩
  by_cases hj : j < i
  · rw [if_pos hj, if_pos hj]; exact ⟨_, rfl⟩
  · rw [if_neg hj, if_neg hj]; exact ⟨_, rfl⟩
theorem call_int1 : CallR X (.type "int") (fun xs H Q => (∃ i, xs = [.int i] ∧ Q (.int i) H) ∨ ∃ k, xs = [.bl k] ∧ Q (.int (if k then 1 else 0)) H) := by
  intro pins s σ H xs us Q I r h
  rcases h with ⟨i, rfl, q⟩ | ⟨k, rfl, q⟩
  · obtain ⟨u, rfl, t, rfl⟩ := vals1 r
    exact call_int_int ⟨.int i, H, I, ⟨_, rfl⟩, q⟩
  · obtain ⟨u, rfl, r1⟩ := vals1 r
    cases r1
    exact call_int_bool ⟨.int (if k then 1 else 0), H, I.tok _, ⟨_, rfl⟩, q⟩
def LenV (K : PySem.W.Frag) (x : V) (H : Hp) (n : Nat) : Prop :=
  match x with
  | .str y => y.length ≤ sizeLine ∧ n = y.length
  | .byt y => y.size ≤ sizeLine ∧ n = y.size
  | .ref p => (∃ xs, SqL K H p xs ∧ n = xs.length) ∨ ∃ xs, SqT K H p xs ∧ n = xs.length
  | _ => False
end
end L2
namespace L2
open PySem PySem.Spec PyProof.Rows
structure ObjM (h : Heap) (x dx C : Addr) (mA : Str → Option Value) : Prop where
  obj : h.get? x = some (PySem.W.instObj C dx)
  ns : h.Ns1 dx mA
  ne : dx ≠ x
theorem lookIn_ns {h : Heap} {dx : Addr} {mA : Str → Option Value} (n : h.Ns1 dx mA) : ∃ od, h.get? dx = some od ∧ ∀ name, PySem.W.lookIn name od = some (mA name) := by
  obtain ⟨o, es, ep, ho, hd, hk, _, hm⟩ := n
  refine ⟨o, ho, fun name => ?_⟩
  have e := hm name
  unfold nsFind findBy at e
  rw [← Array.find?_toList] at e
  unfold PySem.W.lookIn
  rw [hd]
  dsimp only
  split
  · rename_i y q
    rw [q] at e
    exact congrArg some e
  · rename_i q
    rw [q] at e
    have a : es.toList.any (·.refKey) = false := by
      rw [List.any_eq_false]
      intro y hy
      obtain ⟨z, t, hkey⟩ := hk y (Array.mem_toList_iff.mp hy)
      simp [DictEntry.refKey, hkey]
    have a' : ¬ es.toList.any (·.refKey) = true := by rw [a]; exact Bool.false_ne_true
    rw [if_neg a']
    exact congrArg some e
theorem ObjM.look {h : Heap} {x dx C : Addr} {mA : Str → Option Value} (I : ObjM h x dx C mA) : ∃ od, PySem.W.InstAt h x (PySem.W.instObj C dx) C (some od) ∧ ∀ name, PySem.W.lookIn name od = some (mA name) :=
  let ⟨od, ho, hl⟩ := lookIn_ns I.ns
  ⟨od, ⟨I.obj, rfl, rfl, ho⟩, hl⟩
section
variable {prog : Program} {w : World} {A : Around} {E : Value → Shared → Prop} {s : Shared} {K : PySem.W.Frag} {x dx C f : Addr} {mA : Str → Option Value} {name : Str} {v : Value}
theorem get_map {expr : Bool} {Q : Value → Shared → Prop} (X : K.In s.heap) (I : ObjM s.heap x dx C mA) (hg : PySem.W.plainGet K C name = true) (hh : PySem.W.hasDictIn K C = true)
    (ha : PySem.W.findIn K (.ref C) name = some none) (hv : mA name = some v) (hv' : PySem.W.handedIn v = true) (h : Q v { s with toks := s.toks + 1 }) :
    wpAny (model prog w) A (getAttr (.ref x) name expr) Q E s := by
  obtain ⟨od, J, hl⟩ := I.look
  exact PySem.W.get_value X J (PySem.W.plainGet_of hg).1 (PySem.W.findObj_own hh ha rfl (by rw [hl, hv])) hv' h
theorem set_map {ns : List Str} {Q : Unit → Shared → Prop} (X : K.In s.heap) (I : ObjM s.heap x dx C mA)
    (hs : PySem.W.findIn K (.ref C) "__setattr__" = some (some (.builtin "object.__setattr__"))) (hp : PySem.W.plainOver K C = true) (ht : PySem.W.takerIn K C name = some none) (hh : PySem.W.hasDictIn K C = true)
    (hw : PySem.Within mA ns) (hsz : ns.length ≤ sizeLine)
    (h : ∀ h', ObjM h' x dx C (fun y => if y = name then some v else mA y) → Heap.SameBut dx s.heap h' → Q () { s with heap := h', toks := s.toks + 2 }) :
    wpAny (model prog w) A (setAttr (.ref x) name v) Q E s := by
  obtain ⟨od, J, hl⟩ := I.look
  refine PySem.W.set_plain X J hs (PySem.W.osa_open (s := { s with toks := s.toks + 1 }) (r := none) X J hp ht fun b => ?_)
  obtain ⟨cd, hc, hd'⟩ := PySem.W.any_some hh
  have hx : s.heap.get? x = some ⟨.ref C, some dx, .plain, #[]⟩ := I.obj
  refine wpAny_bind (wpAny_pure (wpAny_bind (wpAny_bind (wpAny_loadPart hx (wpAny_bind (PySem.W.Looks.here (s := { s with toks := s.toks + 1 }) (PySem.W.looks_clsIn X hc) ?_))))))
  rw [hd']
  refine wpAny_pure (a := some dx) (wpAny_bind (wpAny_pure (wpAny_bind ?_)))
  refine wpAny_nsSet1 (s := { s with toks := s.toks + 1 }) I.ns fun h' hn2 hs2 => ?_
  obtain ⟨oD, esD, epD, hoD, hdD, hcD⟩ := hn2.count (PySem.Within.cons name v hw)
  refine wpAny_bind (wpAny_lookBehind hoD (by rw [hdD]; exact pastItsLine_dict (Nat.le_trans hcD (by rw [List.length_cons]; omega))) ?_)
  exact wpAny_pure (h _ ⟨(hs2.2 _ (Ne.symm I.ne)).trans I.obj, hn2, I.ne⟩ hs2)
theorem make_map {R : Result → Shared → Prop} {vs : List Value} {kw : List (Str × Value)} (X : K.In s.heap) (hm : PySem.W.makesIn K C = true)
    (hi : PySem.W.findIn K (.ref C) "__init__" = some (some (.ref f))) (hf : PySem.W.typeIn K (.ref f) = some (.type "function"))
    (h : codeAny (model prog w) (A.under (.builtin "type.__call__" ⟨.ref C :: vs, kw⟩)) (.call (.ref f) ⟨.ref (s.heap.objs.size + 1) :: vs, kw⟩) (PySem.W.InitBack (s.heap.objs.size + 1) R)
      { s with heap := (s.heap.push PySem.W.emptyDict).push (PySem.W.instObj C s.heap.objs.size) }) :
    codeAny (model prog w) A (.call (.ref C) ⟨vs, kw⟩) R s := by
  obtain ⟨hh, g, d, t, os⟩ := s
  exact PySem.W.make_core (PySem.W.makes_of X hm) (PySem.W.looks_findIn X hi) (fun self => PySem.W.bind_fn X self hf) (.inl rfl) h
end
def putF (f : Str) (v : V) : List (Str × V) → List (Str × V)
  | [] => [(f, v)]
  | (g, x) :: r => if g = f then (g, v) :: r else (g, x) :: putF f v r
theorem lookup_putF (f g : Str) (v : V) : ∀ fs : List (Str × V), (putF f v fs).lookup g = if g = f then some v else fs.lookup g
  | [] => by
    show List.lookup g [(f, v)] = _
    by_cases h : g = f
    · have hb : (g == f) = true := beq_iff_eq.mpr h
      simp only [List.lookup, hb, if_pos h]
    · have hb : (g == f) = false := beq_eq_false_iff_ne.mpr h
      simp only [List.lookup, hb, if_neg h]
  | (k, x) :: r => by
    have ih := lookup_putF f g v r
    rw [show putF f v ((k, x) :: r) = (if k = f then (k, v) :: r else (k, x) :: putF f v r) from rfl]
    by_cases hk : k = f
    · rw [if_pos hk]
      by_cases h : g = k
      · have hb : (g == k) = true := beq_iff_eq.mpr h
        simp only [List.lookup, hb, if_pos (h.trans hk)]
      · have hb : (g == k) = false := beq_eq_false_iff_ne.mpr h
        simp only [List.lookup, hb, if_neg (fun e : g = f => h (e.trans hk.symm))]
    · rw [if_neg hk]
      by_cases h : g = k
      · have hb : (g == k) = true := beq_iff_eq.mpr h
        simp only [List.lookup, hb, if_neg (fun e : g = f => hk (h.symm.trans e))]
      · have hb : (g == k) = false := beq_eq_false_iff_ne.mpr h
        simp only [List.lookup, hb]
        exact ih
theorem keys_putF (f : Str) (v : V) : ∀ fs : List (Str × V), f ∈ (putF f v fs).map (·.1) ∧ ∀ g, g ∈ fs.map (·.1) → g ∈ (putF f v fs).map (·.1)
  | [] => ⟨by simp [putF], fun g h => by simp at h⟩
  | (k, x) :: r => by
    obtain ⟨i1, i2⟩ := keys_putF f v r
    rw [show putF f v ((k, x) :: r) = (if k = f then (k, v) :: r else (k, x) :: putF f v r) from rfl]
    by_cases hk : k = f
    · rw [if_pos hk]
      subst hk
      exact ⟨by simp, fun g h => by simpa using h⟩
    · rw [if_neg hk]
      refine ⟨?_, fun g h => ?_⟩
      · rw [List.map_cons]
        exact List.mem_cons_of_mem _ i1
      · rw [List.map_cons] at h ⊢
        rcases List.mem_cons.mp h with e | e
        · exact List.mem_cons.mpr (.inl e)
        · exact List.mem_cons_of_mem _ (i2 g e)
theorem length_putF (f : Str) (v : V) : ∀ fs : List (Str × V), (putF f v fs).length ≤ fs.length + 1
  | [] => by simp [putF]
  | (k, x) :: r => by
    have ih := length_putF f v r
    rw [show putF f v ((k, x) :: r) = (if k = f then (k, v) :: r else (k, x) :: putF f v r) from rfl]
    by_cases hk : k = f
    · rw [if_pos hk, List.length_cons, List.length_cons]; omega
    · rw [if_neg hk, List.length_cons, List.length_cons]; omega
theorem RelO.some_of {v : V} {o : Option Value} (r : RelO (some v) o) : ∃ u, o = some u ∧ RelV v u := by
  cases o with
  | none => exact (show False from r).elim
  | some u => exact ⟨u, rfl, r⟩
theorem handed_of {v : V} {u : Value} (r : RelV v u) : PySem.W.handedIn u = true := by
  cases v with
  | non => cases (show u = Value.none from r); rfl
  | bl b => cases (show u = Value.bool b from r); rfl
  | int i => obtain ⟨t, e⟩ := (show ∃ t, u = Value.int i t from r); cases e; rfl
  | str x => obtain ⟨t, e⟩ := (show ∃ t, u = Value.str x t from r); cases e; rfl
  | byt b => obtain ⟨t, e⟩ := (show ∃ t, u = Value.bytes b t from r); cases e; rfl
  | flt b => obtain ⟨t, e⟩ := (show ∃ t, u = Value.float b t from r); cases e; rfl
  | ref a => cases (show u = Value.ref a from r); rfl
  | ty n => cases (show u = Value.type n from r); rfl
section
variable {P : Program} {w : World} {H H' : Hp} {h h' : Heap} {a C dx : Addr} {fs fs' : List (Str × V)}
theorem ins_get (hok : HOk P w H h) (e : H a = some (.ins C dx fs)) : ∃ mA, ObjM h a dx C mA ∧ (∀ f, RelO (fs.lookup f) (mA f)) ∧ PySem.Within mA (fs.map (·.1)) ∧ fs.length ≤ 1000 ∧ H dx = some (.own a) := by
  obtain ⟨d, z, ne, ob, mA, n, r, q⟩ := (show ObjOk P w H h a (.ins C dx fs) from hok a _ e)
  exact ⟨mA, ⟨ob, n, ne⟩, r, q, z, d⟩
end
structure Cls (K : PySem.W.Frag) (C : Addr) : Prop where
  pg : PySem.W.plainGet K C Str.empty = true
  hd : PySem.W.hasDictIn K C = true
  po : PySem.W.plainOver K C = true
  sa : PySem.W.findIn K (.ref C) "__setattr__" = some (some (.builtin "object.__setattr__"))
theorem Cls.get {K : PySem.W.Frag} {C : Addr} (c : Cls K C) (f : Str) : PySem.W.plainGet K C f = true := c.pg
def NoAttr (K : PySem.W.Frag) (C : Addr) (f : Str) : Prop := PySem.W.findIn K (.ref C) f = some none
theorem NoAttr.taker {K : PySem.W.Frag} {C : Addr} {f : Str} (n : NoAttr K C f) : PySem.W.takerIn K C f = some none := by
  unfold PySem.W.takerIn
  rw [show PySem.W.findIn K (.ref C) f = some none from n]
  rfl
structure Con (K : PySem.W.Frag) (C : Addr) (f : Str) (v : V) (u : Value) : Prop where
  at_ : PySem.W.findIn K (.ref C) f = some (some u)
  rel : RelV v u
  get : PySem.W.specialIn K u "__get__" = some none
  cp : PySem.W.copiedNames.contains f = false
structure Meth (K : PySem.W.Frag) (C : Addr) (m : Str) (f : Addr) : Prop where
  at_ : PySem.W.findIn K (.ref C) m = some (some (.ref f))
  fn : PySem.W.isFn K (.ref f) = true
  kp : PySem.W.keepIn K (.ref f) = true
section
variable {X : Cx} {pins : List (Addr × Obj)} {σ : St} {H : Hp} {s : Shared} {a C dx : Addr} {fs : List (Str × V)} {f : Str} {v : V} {A : Around} {E : Value → Shared → Prop}
theorem getattr_ok {b : Bool} {Q : Value → Shared → Prop} (I : Inv X pins σ H s) (e : H a = some (.ins C dx fs)) (c : Cls X.K C) (n : NoAttr X.K C f) (l : fs.lookup f = some v)
    (h : ∀ u s', Inv X pins σ H s' → RelV v u → Q u s') : wpAny (model X.prog X.w) A (getAttr (.ref a) f b) Q E s := by
  obtain ⟨mA, O, r, _, _, _⟩ := ins_get I.hok e
  obtain ⟨u, hu, ru⟩ := RelO.some_of (v := v) (o := mA f) (by rw [← l]; exact r f)
  exact get_map I.kIn O (c.get f) c.hd n hu (handed_of ru) (h u _ (I.tok _) ru)
theorem setattr_ok {y : V} {u : Value} {Q : Unit → Shared → Prop} (I : Inv X pins σ H s) (e : H a = some (.ins C dx fs)) (c : Cls X.K C) (n : NoAttr X.K C f) (hl : fs.length < 1000) (ry : RelV y u)
    (h : ∀ s', Inv X pins σ (upd H a (.ins C dx (putF f y fs))) s' → Q () s') : wpAny (model X.prog X.w) A (setAttr (.ref a) f u) Q E s := by
  obtain ⟨mA, O, r, wi, _, ho⟩ := ins_get I.hok e
  have hz : (fs.map (·.1)).length ≤ sizeLine := by rw [List.length_map, sizeLine_eq]; omega
  refine set_map I.kIn O c.sa c.po n.taker c.hd wi hz fun h' O' sb => h _ ?_
  have hd : ∃ o, h'.get? dx = some o := let ⟨o, _, _, e', _⟩ := O'.ns; ⟨o, e'⟩
  refine I.write (x := a) (e := dx) (by rw [e]; exact True.intro) (.inr ho) (fun b q hb z => (sb.2 b hb).trans z) hd ?_
  refine ⟨by rw [upd_ne O.ne]; exact ho, ?_, O.ne, O'.obj, _, O'.ns, fun g => ?_, fun g hg => ?_⟩
  · have := length_putF f y fs; omega
  · show RelO ((putF f y fs).lookup g) (if g = f then some u else mA g)
    rw [lookup_putF]
    by_cases q : g = f
    · rw [if_pos q, if_pos q]; exact ry
    · rw [if_neg q, if_neg q]; exact r g
  · by_cases q : g = f
    · rw [q]; exact (keys_putF f y fs).1
    · refine (keys_putF f y fs).2 g (wi g fun z => hg ?_)
      show (if g = f then some u else mA g) = none
      rw [if_neg q]; exact z
theorem Inv.made (I : Inv X pins σ H s) : Inv X pins σ (upd (upd H s.heap.objs.size (.own (s.heap.objs.size + 1))) (s.heap.objs.size + 1) (.ins C s.heap.objs.size []))
    { s with heap := (s.heap.push PySem.W.emptyDict).push (PySem.W.instObj C s.heap.objs.size) } := by
  have e1 : (s.heap.push PySem.W.emptyDict).get? s.heap.objs.size = some PySem.W.emptyDict := Heap.get?_push_size s.heap rfl
  have e2 : ((s.heap.push PySem.W.emptyDict).push (PySem.W.instObj C s.heap.objs.size)).get? (s.heap.objs.size + 1) = some (PySem.W.instObj C s.heap.objs.size) := by
    have := Heap.get?_push_size (s.heap.push PySem.W.emptyDict) (o := PySem.W.instObj C s.heap.objs.size) rfl
    rwa [Heap.size_push] at this
  have e3 : (s.heap.push PySem.W.emptyDict).Ns s.heap.objs.size (fun _ => none) := ⟨PySem.W.emptyDict, #[], _, e1, rfl, (fun e he => absurd he (by simp)), fun _ => rfl⟩
  have I1 := I.laid (a := s.heap.objs.size) (o := .own (s.heap.objs.size + 1)) (h' := s.heap.push PySem.W.emptyDict) (t' := s.toks) (fun b u q => Heap.get?_push_of_some _ q) (Nat.le_refl _) ⟨_, e1⟩
  refine I1.laid (a := s.heap.objs.size + 1) (o := .ins C s.heap.objs.size []) (t' := s.toks) (fun b u q => Heap.get?_push_of_some _ q) (Nat.le_of_eq (Heap.size_push _ _)) ?_
  have ne : s.heap.objs.size ≠ s.heap.objs.size + 1 := Nat.ne_of_lt (Nat.lt_succ_self _)
  refine ⟨by rw [upd_ne ne, upd_same], Nat.zero_le _, ne, e2, fun _ => none, (Heap.Ns1.of_empty e3).at fun o q => Heap.get?_push_of_some _ q, fun _ => True.intro, fun y hy => absurd rfl hy⟩
theorem attr_of {prog : Program} {w : World} {env : Env} {e : Expr} {f : Str} {pos : Pos} {s : Shared} {Q : Value → Shared → Prop} (hb : attributeBase e f env (eval e env) = eval e env)
    (h : wpAny (model prog w) A (eval e env) (fun o s₁ => wpAny (model prog w) A (getAttr o f true) Q E s₁) E s) : wpAny (model prog w) A (eval (.Attribute e f pos) env) Q E s :=
  Attribute_any_ h (by rw [arm_eval_Attribute, hb])
end
def tFld (K : PySem.W.Frag) (ta : TE) (f : Str) : TE := fun σ H Q => ta σ H fun x H1 => ∃ a C dx fs v, x = .ref a ∧ H1 a = some (.ins C dx fs) ∧ Cls K C ∧ NoAttr K C f ∧ fs.lookup f = some v ∧ Q v H1
def tCon (K : PySem.W.Frag) (ta : TE) (f : Str) : TE := fun σ H Q => ta σ H fun x H1 => ∃ a C dx fs v u, x = .ref a ∧ H1 a = some (.ins C dx fs) ∧ Cls K C ∧ Con K C f v u ∧ fs.lookup f = none ∧ Q v H1
def sFld (K : PySem.W.Frag) (ta tv : TE) (f : Str) : TS := fun D σ H => tv σ H fun y H1 => ta σ H1 fun x H2 => ∃ a C dx fs, x = .ref a ∧ H2 a = some (.ins C dx fs) ∧ Cls K C ∧ NoAttr K C f ∧ fs.length < 1000 ∧
  D.nx σ (upd H2 a (.ins C dx (putF f y fs)))
def InOp (X : Cx) (op : Operator) (rd : V → V → Hp → VK → Prop) : Prop :=
  ∀ (pins : List (Addr × Obj)) (s : Shared) (σ : St) (H : Hp) (x y : V) (u v : Value) (Q : VK), Inv X pins σ H s → RelV x u → RelV y v → rd x y H Q → wpAny (model X.prog X.w) X.A (inplaceOp op u v) (EP X pins σ Q) X.xe s
def sFldAug (K : PySem.W.Frag) (ta tv : TE) (rd : V → V → Hp → VK → Prop) (f : Str) : TS := fun D σ H => ta σ H fun x H1 => ∃ a C dx fs v, x = .ref a ∧ H1 a = some (.ins C dx fs) ∧ Cls K C ∧ NoAttr K C f ∧ fs.lookup f = some v ∧
  tv σ H1 fun y H2 => rd v y H2 fun z H3 => ∃ dx' fs', H3 a = some (.ins C dx' fs') ∧ fs'.length < 1000 ∧ D.nx σ (upd H3 a (.ins C dx' (putF f z fs')))
section
variable {X : Cx} {o e value : Expr} {f : Str} {pos pos' tpos : Pos} {ta tv : TE}
theorem pe_fld (he : PE X e ta) (hb : attributeBase e f X.env (eval e X.env) = eval e X.env) : PE X (.Attribute e f pos) (tFld X.K ta f) := by
  intro pins s σ H Q I h
  refine attr_of hb (thn (he pins s σ H _ I h) fun u s1 ⟨x, H1, I1, rx, a, C, dx, fs, v, ex, ea, c, n, l, q⟩ => ?_)
  subst ex
  obtain rfl : u = Value.ref a := rx
  exact getattr_ok I1 ea c n l fun u' s2 I2 ru => ⟨v, H1, I2, ru, q⟩
def rAdd : V → V → Hp → VK → Prop := fun x y H Q => ∃ i j, x = .int i ∧ y = .int j ∧ Q (.int (i + j)) H
def rSub : V → V → Hp → VK → Prop := fun x y H Q => ∃ i j, x = .int i ∧ y = .int j ∧ Q (.int (i - j)) H
end
section
variable {X : Cx} {pins : List (Addr × Obj)} {σ : St} {H : Hp} {s : Shared} {A : Around} {E : Value → Shared → Prop} {Q : Value → Shared → Prop} {c : Value} {b : Bool}
inductive TyOf (K : PySem.W.Frag) (H : Hp) : V → Value → Prop where
  | non : TyOf K H .non (.type "NoneType")
  | bl (x : Bool) : TyOf K H (.bl x) (.type "bool")
  | int (i : Int) : TyOf K H (.int i) (.type "int")
  | str (x : Str) : TyOf K H (.str x) (.type "str")
  | flt (x : UInt64) : TyOf K H (.flt x) (.type "float")
  | lst {a : Addr} {xs : List V} (e : H a = some (.lst xs)) : TyOf K H (.ref a) (.type "list")
  | frz {a : Addr} {o : Obj} {xs : List V} (e : H a = some (.frz o (.lst xs))) : TyOf K H (.ref a) (.type "list")
  | tup {a : Addr} {xs : List V} (e : H a = some (.tup xs)) : TyOf K H (.ref a) (.type "tuple")
  | dK {a : Addr} {kvs : List (Key × V)} (e : H a = some (.dK kvs)) : TyOf K H (.ref a) (.type "dict")
  | dT {a : Addr} {kvs : List (List Key × V)} (e : H a = some (.dT kvs)) : TyOf K H (.ref a) (.type "dict")
  | ins {a C dx : Addr} {fs : List (Str × V)} (e : H a = some (.ins C dx fs)) (cl : Cls K C) (ha : PySem.W.findIn K (.ref C) "__class__" = some (some (.builtin "object.__class__")))
      (hn : PySem.W.specialIn K (.builtin "object.__class__") "__get__" = some (some (.builtin "getset_descriptor.__get__"))) (htk : PySem.W.takesIn K (.builtin "object.__class__") = some true)
      (hm : PySem.W.mroIn K C (.type "object") = some true) : TyOf K H (.ref a) (.ref C)
end
end L2
namespace L2
open PySem PySem.Spec PyProof.Rows
structure Room (k : Nat) (A : Around) : Prop where
  hd : A.handled = none
  dp : A.depth + 3 * k + 5 < recursionLimit
  un : A.units + 16 * k + 200 < cLine
theorem Room.mono {j k : Nat} {A : Around} (r : Room k A) (h : j ≤ k) : Room j A := ⟨r.hd, by have := r.dp; omega, by have := r.un; omega⟩
theorem Room.deeper {k : Nat} {A : Around} (r : Room (k + 1) A) (env : Env) : Room k (A.deeper env) :=
  ⟨r.hd, by have := r.dp; show A.depth + 1 + 3 * k + 5 < _; omega, by have := r.un; show A.units + 3 + 16 * k + 200 < _; omega⟩
theorem make_depth {A : Around} {C : Addr} {us : List Value} {kw : List (Str × Value)} : (A.under (.builtin "type.__call__" ⟨.ref C :: us, kw⟩)).depth = A.depth + 1 := by
  first | rfl | simp [Around.under, Code.weight, Code.isCreation, Code.isGuard, Code.isCaller, Code.frames, Code.isFrame, guardIds]
theorem make_units {A : Around} {C : Addr} {us : List Value} {kw : List (Str × Value)} : (A.under (.builtin "type.__call__" ⟨.ref C :: us, kw⟩)).units = A.units + 1 := by
  first | rfl | simp [Around.under, Code.cUnits, Code.frames, Code.isFrame]
theorem Room.make {k : Nat} {A : Around} (r : Room (k + 1) A) (C : Addr) (us : List Value) (kw : List (Str × Value)) : Room k (A.under (.builtin "type.__call__" ⟨.ref C :: us, kw⟩)) :=
  ⟨r.hd, by have := r.dp; rw [make_depth]; omega, by have := r.un; rw [make_units]; omega⟩
theorem Room.depth {k : Nat} {A : Around} (r : Room k A) : A.depth < recursionLimit := by have := r.dp; omega
theorem Room.units {k : Nat} {A : Around} (r : Room k A) : A.units + 64 < cLine := by have := r.un; omega
def tNil : TA := fun _ H Q => Q [] H
def tCons (ta : TE) (tr : TA) : TA := fun σ H Q => ta σ H fun x H1 => tr σ H1 fun xs H2 => Q (x :: xs) H2
section
variable {X : Cx} {e : Expr} {es : List Expr} {te : TE} {t : TA} {pos : Pos}
theorem pa_nil : PA X [] tNil := fun _ _ _ _ H Q I h => Calls.spliced_nil ⟨[], H, I, .nil, h⟩
theorem pa_cons (ha : PE X e te) (hr : PA X es t) (hs : starEach (e :: es) X.env = (false, eval e X.env) :: starEach es X.env := by rfl) : PA X (e :: es) (tCons te t) := by
  intro pos pins s σ H Q I h
  rw [hs]
  show wpAny _ _ (spliced ((false, eval e X.env) :: backTo pos (starEach es X.env))) _ _ s
  refine Calls.spliced_cons (thn (ha pins s σ H _ I h) fun u s1 ⟨x, H1, I1, r1, q1⟩ => ?_)
  exact thn (hr pos pins s1 σ H1 _ I1 q1) fun us s2 ⟨xs, H2, I2, r2, q2⟩ => ⟨x :: xs, H2, I2, .cons r1 r2, q2⟩
def tTup (t : TA) : TE := fun σ H Q => t σ H fun xs H1 => xs.length ≤ sizeLine ∧ ∀ p, H1 p = none → Q (.ref p) (upd H1 p (.tup xs))
def tLst (t : TA) : TE := fun σ H Q => t σ H fun xs H1 => xs.length ≤ sizeLine ∧ ∀ p, H1 p = none → Q (.ref p) (upd H1 p (.lst xs))
theorem pe_tup {x1} (h : PA X es t) : PE X (.Tuple es x1 pos) (tTup t) := by
  intro pins s σ H Q I hq
  refine wpAny_Tuple_spliced (thn (h pos pins s σ H _ I hq) fun us s1 ⟨xs, H1, I1, r, z, q⟩ => ⟨by rw [← r.length]; exact z, ?_⟩)
  have hf : H1 s1.heap.objs.size = none := I1.hok.fresh (Nat.le_refl _)
  refine ⟨.ref s1.heap.objs.size, upd H1 s1.heap.objs.size (.tup xs), I1.laid (t' := s1.toks) (fun b u e => Heap.get?_push_of_some _ e) (Nat.le_refl _) ?_, rfl, q _ hf⟩
  exact ⟨z, us, r, ⟨_, Heap.get?_push_size _ rfl, rfl, _, rfl⟩⟩
theorem pe_lst (h : PA X es t) : PE X (.List es pos) (tLst t) := by
  intro pins s σ H Q I hq
  refine wpAny_List_spliced (thn (h pos pins s σ H _ I hq) fun us s1 ⟨xs, H1, I1, r, z, q⟩ => ⟨by rw [← r.length]; exact z, ?_⟩)
  have hf : H1 s1.heap.objs.size = none := I1.hok.fresh (Nat.le_refl _)
  refine ⟨.ref s1.heap.objs.size, upd H1 s1.heap.objs.size (.lst xs), I1.laid (t' := s1.toks) (fun b u e => Heap.get?_push_of_some _ e) (Nat.le_refl _) ?_, rfl, q _ hf⟩
  exact ⟨z, us, 0, r, Heap.get?_push_size _ rfl⟩
end
abbrev Sp := List V → Hp → VK → XK → Prop
abbrev CXT := List Env → Hp → Shared → XK → Value → Shared → Prop
structure Env0 (P : Program) (w : World) (K : PySem.W.Frag) (mg : Str → Option Value) (base : Heap) (A : Around) (outer : List Env) (s : Shared) (H : Hp) : Prop where
  frames : A.frames = some outer
  mod : Mod K mg base
  bs : ∀ b o, base.get? b = some o → s.heap.get? b = some o ∧ H b = none
  bsz : base.objs.size ≤ s.heap.objs.size
  funs : s.heap.FunFrames base outer
  frf : ∀ b ∈ frs outer, H b = none
  hok : HOk P w H s.heap
  bare : AllBare s.gens
def CE (outer : List Env) (P : Program) (w : World) (H : Hp) (s : Shared) (Q : VK) (u : Value) (s' : Shared) : Prop :=
  ∃ v H', s'.os = s.os ∧ AllBare s'.gens ∧ Un (frs outer) [] H H' s.heap s'.heap ∧ HOk P w H' s'.heap ∧ RelV v u ∧ Q v H'
def CR (CX : CXT) (outer : List Env) (P : Program) (w : World) (H : Hp) (s : Shared) (Q : VK) (E : XK) (r : Result) (s' : Shared) : Prop :=
  match r with
  | .ok (.ret u) => CE outer P w H s Q u s'
  | .ok _ => False
  | .error e => CX outer H s E e s'
structure FnOk (P : Program) (w : World) (K : PySem.W.Frag) (mg : Str → Option Value) (base : Heap) (CX : CXT) (k : Nat) (f : Addr) (fd : FuncData) (ps : List Str) (sp : Sp) : Prop where
  len : ∀ vs H Q E, sp vs H Q E → vs.length = ps.length
  run : ∀ (A : Around) (outer : List Env) (s : Shared) (H : Hp) (args : Args) (us : List Value) (vs : List V) (Q : VK) (E : XK), Room k A → Env0 P w K mg base A outer s H → BindsTo s fd args (ps.zip us) → Vals vs us → sp vs H Q E →
    codeAny (model P w) A (.call (.ref f) args) (CR CX outer P w H s Q E) s
theorem Env0.make {P : Program} {w : World} {K : PySem.W.Frag} {mg : Str → Option Value} {base : Heap} {A : Around} {outer : List Env} {s : Shared} {H : Hp} (e : Env0 P w K mg base A outer s H) (C : Addr) (us : List Value) (kw : List (Str × Value)) :
    Env0 P w K mg base (A.under (.builtin "type.__call__" ⟨.ref C :: us, kw⟩)) outer s H := ⟨by first | exact e.frames | (simpa [Around.under, Code.envs, Code.isFrame, pushEnvs] using e.frames), e.mod, e.bs, e.bsz, e.funs, e.frf, e.hok, e.bare⟩
section
variable {X : Cx} {pins : List (Addr × Obj)} {σ : St} {H : Hp} {s s' : Shared}
theorem Inv.env0 (I : Inv X pins σ H s) : Env0 X.prog X.w X.K X.mg X.base X.A X.stack s H :=
  ⟨I.ok.frames, I.ok.mod, I.bs, Nat.le_trans I.ok.bsz I.sz, I.stack, I.stkFree, I.hok, I.bare⟩
theorem Inv.after {Q : VK} {u : Value} (I : Inv X pins σ H s) (h : CE X.stack X.prog X.w H s Q u s') : EP X pins σ Q u s' := by
  obtain ⟨v, H', os, bare, un, hok, r, q⟩ := h
  obtain ⟨hh, g, d, t, os'⟩ := s'
  obtain rfl : os' = s.os := os
  exact ⟨v, H', I.call (h' := hh) (g' := g) (d' := d) (t' := t) (ch := []) un hok bare (fun b z => absurd z (by simp)), r, q⟩
end
def tCall (sp : Sp) (dvs : List V) (E : XK) (t : TA) : TE := fun σ H Q => t σ H fun vs H1 => sp (vs ++ dvs) H1 Q E
def tMeth (C : Addr) (m : Str) (sp : Sp) (dvs : List V) (E : XK) (ta : TE) (t : TA) : TE := fun σ H Q => ta σ H fun x H1 => ∃ a dx fs, x = .ref a ∧ H1 a = some (.ins C dx fs) ∧ fs.lookup m = none ∧
  t σ H1 fun vs H2 => sp (x :: (vs ++ dvs)) H2 Q E
def tMake (C : Addr) (sp : Sp) (dvs : List V) (E : XK) (t : TA) : TE := fun σ H Q => t σ H fun vs H1 => ∀ x dx, H1 x = none → H1 dx = none → dx ≠ x →
  sp (.ref x :: (vs ++ dvs)) (upd (upd H1 dx (.own x)) x (.ins C dx [])) (fun v H2 => v = .non ∧ Q (.ref x) H2) E
def Binds (K : PySem.W.Frag) (fd : FuncData) (ps : List Str) (ds : List Value) : Prop :=
  ∀ (s : Shared) (us : List Value), K.In s.heap → (us ++ ds).length = ps.length → BindsTo s fd ⟨us, []⟩ (ps.zip (us ++ ds))
theorem Binds.all {K : PySem.W.Frag} {fd : FuncData} {ps : List Str} (h : ∀ us : List Value, us.length = ps.length → bindArgs fd ⟨us, []⟩ = pure (ps.zip us)) : Binds K fd ps [] := fun s us _ hl => by
  rw [List.append_nil] at hl ⊢
  exact .of_eq (h us hl)
def Passes (CX : CXT) (X : Cx) (E : XK) : Prop := ∀ (pins : List (Addr × Obj)) (σ : St) (H : Hp) (s : Shared) (e : Value) (s' : Shared), Inv X pins σ H s → CX X.stack H s E e s' → X.xe e s'
section
variable {X : Cx} {CX : CXT} {k : Nat} {f C : Addr} {fd : FuncData} {ps : List Str} {sp : Sp} {dvs : List V} {ds : List Value} {E : XK} {x m : Str} {p pos apos : Pos} {e o : Expr} {es : List Expr} {ta : TE} {t : TA}
theorem run_fn {pins : List (Addr × Obj)} {σ : St} {H : Hp} {s : Shared} {Q : VK} {us : List Value} {vs : List V} (F : FnOk X.prog X.w X.K X.mg X.base CX k f fd ps sp) (hr : Room k X.A) (hb : Binds X.K fd ps ds) (hd : Vals dvs ds) (hx : Passes CX X E)
    (I : Inv X pins σ H s) (r : Vals vs us) (h : sp (vs ++ dvs) H Q E) : wpAny (model X.prog X.w) X.A (call (.ref f) us) (EP X pins σ Q) X.xe s := by
  have r2 : Vals (vs ++ dvs) (us ++ ds) := r.append hd
  have hl : (us ++ ds).length = ps.length := by rw [← r2.length]; exact F.len _ _ _ _ h
  refine wpAny_call (codeAny_mono (F.run X.A X.stack s H ⟨us, []⟩ (us ++ ds) (vs ++ dvs) Q E hr I.env0 (hb s us I.kIn hl) r2 h) fun r s' hq => ?_)
  cases r with
  | error e => exact hx pins σ H s e s' I hq
  | ok fl =>
    cases fl with
    | ret u => exact I.after hq
    | next => exact False.elim hq
    | brk => exact False.elim hq
    | cont => exact False.elim hq
theorem pe_call (F : FnOk X.prog X.w X.K X.mg X.base CX k f fd ps sp) (hr : Room k X.A) (hg : Gl X x) (hm : X.mg x = some (.ref f)) (hk : PySem.W.keepIn X.K (.ref f) = true) (hb : Binds X.K fd ps ds) (hd : Vals dvs ds) (hx : Passes CX X E)
    (ha : PA X (e :: es) t) (hdb : (x == ("__debug__" : Str)) = false := by decide) (he : starEach (e :: es) X.env = (false, eval e X.env) :: starEach es X.env := by rfl) (hpl : (backTo pos (starEach es X.env)).any (·.1) = false := by rfl) :
    PE X (.Call (.Name x p) (e :: es) [] pos) (tCall sp dvs E t) := by
  intro pins s σ H Q I h
  refine wpAny_Call_Name_kw (ld_glob I hg hm ?_ hdb)
  refine PySem.W.callWith_K (h₀ := X.base) I.ok.mod.kin hk (thn (ha pos pins s σ H _ I h) fun us s1 ⟨vs, H1, I1, r, q⟩ => ⟨I1.kIn, ?_⟩) he hpl
  exact run_fn F hr hb hd hx I1 r q
structure Mk (K : PySem.W.Frag) (C f : Addr) : Prop where
  makes : PySem.W.makesIn K C = true
  init : PySem.W.findIn K (.ref C) "__init__" = some (some (.ref f))
  fn : PySem.W.isFn K (.ref f) = true
  kp : PySem.W.keepIn K (.ref C) = true
end
def PK (X : Cx) (kws : List Keyword) (t : TA) : Prop :=
  ∀ (pos : Pos) (pins : List (Addr × Obj)) (s : Shared) (σ : St) (H : Hp) (Q : List V → Hp → Prop), Inv X pins σ H s → t σ H Q → wpAny (model X.prog X.w) X.A (evalAll ((backToKw pos (keywordEach kws X.env)).map (·.2))) (AP X pins σ Q) X.xe s
section
variable {X : Cx} {CX : CXT} {k : Nat} {f C : Addr} {fd : FuncData} {ps ks : List Str} {sp : Sp} {E : XK} {x m : Str} {p pos apos kpos : Pos} {e o : Expr} {es : List Expr} {kws : List Keyword} {te ta : TE} {t tk : TA} {nm : Option Str}
structure KBinds (K : PySem.W.Frag) (fd : FuncData) (ps ks : List Str) (g : List Value → List Value → List Value) (gV : List V → List V → List V) : Prop where
  to : ∀ (s : Shared) (us ws : List Value), K.In s.heap → (g us ws).length = ps.length → BindsTo s fd ⟨us, ks.zip ws⟩ (ps.zip (g us ws))
  rel : ∀ {vs : List V} {us : List Value} {zs : List V} {ws : List Value}, Vals vs us → Vals zs ws → Vals (gV vs zs) (g us ws)
def tCallK (sp : Sp) (gV : List V → List V → List V) (E : XK) (t tk : TA) : TE := fun σ H Q => t σ H fun vs H1 => tk σ H1 fun zs H2 => sp (gV vs zs) H2 Q E
variable {g : List Value → List Value → List Value} {gV : List V → List V → List V}
end
structure FnScope (N P : List Str) (sc : Scope) : Prop where
  kind : sc.kind = .function
  co : sc.isCoroutine = false
  gen : sc.isGenerator = false
  nd : N.Nodup
  pre : N.take P.length = P
  par : ∀ x ∈ P, sc.names.lookup x = some .local ∨ sc.names.lookup x = some .cell
  nofree : ∀ y ∈ sc.names, y.2 ≠ .free
theorem bindL_out {kindOf : Str → Option NameKind} {x : Str} : ∀ {binds : List (Str × Value)} {m : Str → Option Value}, (∀ v, (x, v) ∉ binds) → bindL kindOf binds m x = m x
  | [], _, _ => rfl
  | (n, v) :: r, m, h => by
    unfold bindL
    rw [bindL_out fun w hw => h w (List.mem_cons_of_mem _ hw)]
    split
    · have : x ≠ n := by rintro rfl; exact h v List.mem_cons_self
      simp [this]
    · rfl
theorem bindC_out {kindOf : Str → Option NameKind} {x : Str} : ∀ {binds : List (Str × Value)} {m : Str → Option Value}, (∀ v, (x, v) ∉ binds) → bindC kindOf binds m x = m x
  | [], _, _ => rfl
  | (n, v) :: r, m, h => by
    unfold bindC
    rw [bindC_out fun w hw => h w (List.mem_cons_of_mem _ hw)]
    split
    · rfl
    · have : x ≠ n := by rintro rfl; exact h v List.mem_cons_self
      simp [this]
theorem bindL_get {kindOf : Str → Option NameKind} {x : Str} {v : Value} : ∀ {P : List Str} {vs : List Value} {i : Nat} {m : Str → Option Value}, P.Nodup → P[i]? = some x → vs[i]? = some v → kindOf x = some .local →
    bindL kindOf (P.zip vs) m x = some v
  | [], _, _, _, _, h, _, _ => by simp at h
  | _ :: _, [], _, _, _, _, h, _ => by simp at h
  | p :: P, w :: vs, 0, m, nd, h1, h2, hk => by
    simp at h1 h2; subst h1; subst h2
    show bindL kindOf ((p, w) :: P.zip vs) m p = _
    unfold bindL
    rw [bindL_out fun v hv => (List.nodup_cons.mp nd).1 (List.of_mem_zip hv).1, if_pos hk]
    simp
  | p :: P, w :: vs, i + 1, m, nd, h1, h2, hk => by
    show bindL kindOf ((p, w) :: P.zip vs) m x = _
    unfold bindL
    exact bindL_get (i := i) (List.nodup_cons.mp nd).2 (by simpa using h1) (by simpa using h2) hk
theorem bindC_get {kindOf : Str → Option NameKind} {x : Str} {v : Value} : ∀ {P : List Str} {vs : List Value} {i : Nat} {m : Str → Option Value}, P.Nodup → P[i]? = some x → vs[i]? = some v → kindOf x ≠ some .local →
    bindC kindOf (P.zip vs) m x = some v
  | [], _, _, _, _, h, _, _ => by simp at h
  | _ :: _, [], _, _, _, _, h, _ => by simp at h
  | p :: P, w :: vs, 0, m, nd, h1, h2, hk => by
    simp at h1 h2; subst h1; subst h2
    show bindC kindOf ((p, w) :: P.zip vs) m p = _
    unfold bindC
    rw [bindC_out fun v hv => (List.nodup_cons.mp nd).1 (List.of_mem_zip hv).1, if_neg hk]
    simp
  | p :: P, w :: vs, i + 1, m, nd, h1, h2, hk => by
    show bindC kindOf ((p, w) :: P.zip vs) m x = _
    unfold bindC
    exact bindC_get (i := i) (List.nodup_cons.mp nd).2 (by simpa using h1) (by simpa using h2) hk
def start (N : List Str) (vs : List V) : St := vs.map some ++ List.replicate (N.length - vs.length) none
def cxOf (CX : CXT) (P : Program) (w : World) (K : PySem.W.Frag) (mg : Str → Option Value) (base : Heap) (N : List Str) (qual : Str) (scope : Scope) (f : Addr) (cd : Value) (A : Around) (outer : List Env) (s : Shared) (H : Hp) (E : XK) : Cx where
  prog := P
  w := w
  K := K
  mg := mg
  base := base
  A := A.deeper (envOfC qual scope s.heap.objs.size f cd)
  N := N
  s₀ := s
  H₀ := H
  env := envOfC qual scope s.heap.objs.size f cd
  outer := outer
  stack := envOfC qual scope s.heap.objs.size f cd :: outer
  ex := []
  calm := true
  fn := fun _ => true
  pn := []
  xe := fun e s' => wpAny (model P w) (A.deeper (envOfC qual scope s.heap.objs.size f cd)) (leaving (envOfC qual scope s.heap.objs.size f cd) e) (fun _ s'' => CX outer H s E e s'') (fun e' s'' => CX outer H s E e' s'') s'
theorem cell_has {sc : Scope} {n : Nat} {x : Str} (h : sc.names.lookup x = some .cell) : ∃ c, (cellsFrom n sc.names []).lookup x = some c := by
  have q := PySem.W.cellsFrom_some sc.names n [] (.inl h)
  exact Option.isSome_iff_exists.mp q
theorem inv_start {CX : CXT} {P : Program} {w : World} {K : PySem.W.Frag} {mg : Str → Option Value} {base : Heap} {N ps : List Str} {qual : Str} {scope : Scope} {f : Addr} {cd : Value} {A : Around} {outer : List Env} {s s1 : Shared} {H : Hp} {E : XK} {us : List Value} {vs : List V}
    (S : FnScope N ps scope) (hd : A.handled = none) (e0 : Env0 P w K mg base A outer s H) (hl : vs.length = ps.length) (r : Vals vs us)
    (x : InCallC s s.heap.objs.size (bindL (envOfC qual scope s.heap.objs.size f cd).kindOf (ps.zip us) fun _ => none) (cellsFrom (s.heap.objs.size + 1) scope.names []) (bindC (envOfC qual scope s.heap.objs.size f cd).kindOf (ps.zip us) fun _ => none) s1) :
    Inv (cxOf CX P w K mg base N qual scope f cd A outer s H E) [] (start N vs) H s1 := by
  have hpl : ps.length ≤ N.length := by have := congrArg List.length S.pre; rw [List.length_take] at this; omega
  obtain ⟨h1, tk, rfl, hk⟩ := x.done
  have noA : ∀ b : Addr, b ∉ (cxOf CX P w K mg base N qual scope f cd A outer s H E).ex := fun b z => absurd (show b ∈ ([] : List Addr) from z) (by simp)
  refine ⟨⟨e0.mod, S.kind, rfl, rfl, Nat.le_refl _, fun y z c h1 h2 => ?_, fun y hy => ?_, fun y c _ h => ?_, fun _ => hd, Around.frames_deeper e0.frames, .inr ⟨rfl, rfl⟩, fun b z => absurd z (noA b), e0.bs, e0.bsz, fun b _ _ => noA b, fun b z => absurd z (noA b), e0.funs, e0.frf⟩,
    rfl, e0.bare, Un.kept hk, ⟨_, x.toInCall.ns, fun i y v h1 h2 h3 => ?_⟩, fun y c h => ⟨_, x.cell y c h⟩, e0.hok.fresh (Nat.le_refl _), fun y c h => ?_, fun p hp => absurd (show p ∈ ([] : List (Addr × Obj)) from hp) (by simp), e0.hok.kept hk, ?_⟩
  · exact name_of_addr x.apart (PySem.mem_of_lookup h1) (PySem.mem_of_lookup h2)
  · have hy : scope.names.lookup y = some .cell ∨ scope.names.lookup y = some .free := hy
    rcases hy with hy | hy
    · exact cell_has hy
    · exact absurd rfl (S.nofree _ (PySem.mem_of_lookup hy))
  · exact Nat.le_of_lt (x.above y c (PySem.mem_of_lookup h))
  · have hi : i < vs.length := by
      unfold start at h2
      by_cases hi : i < vs.length
      · exact hi
      · rw [List.getElem?_append_right (by simpa using hi)] at h2
        rw [List.getElem?_replicate] at h2
        split at h2 <;> cases h2
    have ha : vs[i]? = some v := by
      unfold start at h2
      rw [List.getElem?_append_left (by simpa using hi), List.getElem?_map] at h2
      cases e : vs[i]? with
      | none => rw [e] at h2; cases h2
      | some a => rw [e] at h2; cases h2; rfl
    obtain ⟨u, hu, rv⟩ := r.get ha
    have hp : ps[i]? = some y := by
      rw [← S.pre, List.getElem?_take_of_lt (by omega)]; exact h1
    have ndP : ps.Nodup := by rw [← S.pre]; exact S.nd.sublist (List.take_sublist _ _)
    refine ⟨u, rv, ?_⟩
    rcases S.par y (List.mem_of_getElem? hp) with k | k
    · exact .inl ⟨k, bindL_get ndP hp hu k⟩
    · obtain ⟨c, e⟩ := cell_has (n := s.heap.objs.size + 1) k
      refine .inr ⟨.inl k, c, e, ?_⟩
      have q := x.cell y c e
      rw [bindC_get ndP hp hu (by show scope.names.lookup y ≠ _; rw [k]; decide)] at q
      exact q
  · exact e0.hok.fresh (Nat.le_of_lt (x.above y c (PySem.mem_of_lookup h)))
  · unfold start
    show _ = N.length
    rw [List.length_append, List.length_map, List.length_replicate]
    omega
theorem fn_of {CX : CXT} {P : Program} {w : World} {K : PySem.W.Frag} {mg : Str → Option Value} {base : Heap} {k : Nat} {f : Addr} {name qual : Str} {params : Arguments} {body : List Stmt} {scope : Scope} {dV kV doc pm cdv ct oc : Value} {an od : Option Addr}
    {osl : Array (Option Value)} {N ps : List Str} {sp : Sp} (lk : K.lookup f = some ⟨oc, od, .func (PySem.W.fnOf name qual params body scope dV kV doc pm an cdv ct), osl⟩) (hcd : PySem.W.codeIn K cdv qual = true) (S : FnScope N ps scope)
    (len : ∀ vs H Q E, sp vs H Q E → vs.length = ps.length)
    (hbody : ∀ (A : Around) (outer : List Env) (s : Shared) (H : Hp) (vs : List V) (Q : VK) (E : XK), Room k (A.deeper (envOfC qual scope s.heap.objs.size f cdv)) → sp vs H Q E →
      ∃ t, PSs (cxOf CX P w K mg base N qual scope f cdv A outer s H E) body t ∧ t { nx := fun _ H' => Q .non H', rt := Q } (start N vs) H) :
    FnOk P w K mg base CX (k + 1) f (PySem.W.fnOf name qual params body scope dV kV doc pm an cdv ct) ps sp := by
  refine ⟨len, fun A outer s H args us vs Q E hr e0 hb r hsp => ?_⟩
  have hl := len _ _ _ _ hsp
  have KX : K.In s.heap := e0.mod.kin.keeps fun b o e => (e0.bs b o e).1
  have lim : s.heap.NoLimit := e0.mod.nolimit.keeps fun b o e => (e0.bs b o e).1
  have hkind : ∀ y ∈ ps.zip us, scope.names.lookup y.1 = some .local ∨ (scope.names.lookup y.1 = some .cell ∧ ((cellsFrom (s.heap.objs.size + 1) scope.names []).lookup y.1).isSome = true) := fun ⟨n, v⟩ hy => by
    rcases S.par n (List.of_mem_zip hy).1 with q | q
    · exact .inl q
    · exact .inr ⟨q, PySem.W.cellsFrom_some _ _ _ (.inl q)⟩
  refine codeAny_call_function hr.depth (KX _ _ lk) rfl S.co S.gen rfl (PySem.W.codeRec_of KX hcd) (hb _ _ _ _ ?_)
  refine wpAny_newFunctionEnv_cells S.kind hkind fun env he s1 x => ?_
  subst he
  refine ⟨lim.keeps x.toInCall.keep, codeAny_func ?_⟩
  obtain ⟨t, ht, hq⟩ := hbody A outer s H vs Q E (hr.deeper _) hsp
  have I : Inv (cxOf CX P w K mg base N qual scope f cdv A outer s H E) [] (start N vs) H s1 := inv_start S hr.hd e0 hl r x
  refine wpAny_mono (ht [] s1 (start N vs) H _ I hq) (fun fl s' hs => ?_) fun e s' hs => hs
  have fin : ∀ {σ' : St} {H' : Hp} {v : V} {u : Value}, Inv (cxOf CX P w K mg base N qual scope f cdv A outer s H E) [] σ' H' s' → RelV v u → Q v H' → CE outer P w H s Q u s' :=
    fun {σ' H' v u} J rv q => ⟨v, H', J.os, J.bare, J.base, J.hok, rv, q⟩
  cases fl with
  | ret u =>
    obtain ⟨v, σ', H', J, rv, q⟩ := hs
    exact fin J rv q
  | next =>
    obtain ⟨σ', H', J, q⟩ := hs
    exact fin (v := V.non) (u := Value.none) J rfl q
  | brk =>
    obtain ⟨_, _, _, q⟩ := hs
    exact False.elim q
  | cont =>
    obtain ⟨_, _, _, q⟩ := hs
    exact False.elim q
end L2
namespace L2
open PySem PySem.Spec PyProof.Rows
section
variable {X : Cx} {x : Str} {p pos : Pos} {e : Expr} {es : List Expr} {t : TA} {id T : String} {r : List V → Hp → VK → Prop}
def tCB (r : List V → Hp → VK → Prop) (t : TA) : TE := fun σ H Q => t σ H fun vs H1 => r vs H1 Q
theorem pe_callB (hc : CallR X (.builtin id) r) (hg : Gl X x) (hm : X.mg x = none) (hv : bootBuiltins x = some (.builtin id)) (ha : PA X (e :: es) t) (hn : x ≠ "__name__" := by decide) (hdb : (x == ("__debug__" : Str)) = false := by decide)
    (he : starEach (e :: es) X.env = (false, eval e X.env) :: starEach es X.env := by rfl) (hpl : (backTo pos (starEach es X.env)).any (·.1) = false := by rfl) : PE X (.Call (.Name x p) (e :: es) [] pos) (tCB r t) := by
  intro pins s σ H Q I h
  refine wpAny_Call_Name_kw (ld_blt I hg hm hv ?_ hn hdb)
  exact PyProof.Rows.callWith_builtin1 (thn (ha pos pins s σ H _ I h) fun us s1 ⟨vs, H1, I1, r1, q1⟩ => hc pins s1 σ H1 vs us Q I1 r1 q1) he hpl
theorem pe_callTy (hc : CallR X (.type T) r) (hg : Gl X x) (hm : X.mg x = none) (hv : bootBuiltins x = some (.type T)) (ha : PA X (e :: es) t) (hn : x ≠ "__name__" := by decide) (hdb : (x == ("__debug__" : Str)) = false := by decide)
    (he : starEach (e :: es) X.env = (false, eval e X.env) :: starEach es X.env := by rfl) (hpl : (backTo pos (starEach es X.env)).any (·.1) = false := by rfl) : PE X (.Call (.Name x p) (e :: es) [] pos) (tCB r t) := by
  intro pins s σ H Q I h
  refine wpAny_Call_Name_kw (ld_blt I hg hm hv ?_ hn hdb)
  exact PyProof.Rows.callWith_type1 (thn (ha pos pins s σ H _ I h) fun us s1 ⟨vs, H1, I1, r1, q1⟩ => hc pins s1 σ H1 vs us Q I1 r1 q1) he hpl
end
end L2
namespace HT
open PySem PyProof.Rows
def lexLt : List Int → List Int → Bool
  | [], [] => false
  | [], _ :: _ => true
  | _ :: _, [] => false
  | x :: xs, y :: ys => if x = y then lexLt xs ys else decide (x < y)
section
open PySem.SeqAt
open PySem.AutoSeq1 (wpAny_loadPart')
open PySem.MeetsSeq PySem.MeetsSeq2 PySem.MeetsSeq3
end
section
variable {prog : Program} {w : World} {A : Around} {E : Value → Shared → Prop} {s : Shared}
def sIx (n d : Nat) : Option Int → Nat
  | none => d
  | some v => if v < 0 then (v + (n : Int)).toNat else min v.toNat n
end
end HT
namespace L2
open PySem PySem.Spec PyProof.Rows
abbrev TO := St → Hp → (Option Int → Hp → Prop) → Prop
def PO (X : Cx) (e : Option Expr) (t : TO) : Prop :=
  ∀ (pins : List (Addr × Obj)) (s : Shared) (σ : St) (H : Hp) (Q : Option Int → Hp → Prop), Inv X pins σ H s → t σ H Q →
    wpAny (model X.prog X.w) X.A (evalPart e X.env) (fun u s' => ∃ o H', Inv X pins σ H' s' ∧ IsPart u o ∧ Q o H') X.xe s
def tNoPart : TO := fun _ H Q => Q none H
def tPart (t : TE) : TO := fun σ H Q => t σ H fun x H1 => ∃ i, x = .int i ∧ Q (some i) H1
section
variable {X : Cx} {e : Expr} {te : TE} {lo hi : Option Expr} {tl th : TO} {pos p2 : Pos}
def SlR (X : Cx) (r : V → Option Int → Option Int → Hp → VK → Prop) : Prop :=
  ∀ (pins : List (Addr × Obj)) (s : Shared) (σ : St) (H : Hp) (x : V) (v vl vu : Value) (lo hi : Option Int) (sl : Addr) (Q : VK), Inv X pins σ H s → RelV x v → s.heap.IsSliceOf sl vl vu .none → IsPart vl lo → IsPart vu hi → r x lo hi H Q →
    ∃ T id, typeLookup (.type T) "__getitem__" = pure (some (.builtin id)) ∧ s.TypeIs v T ∧ wpAny (model X.prog X.w) X.A (getItem v (.ref sl)) (EP X pins σ Q) X.xe s
def tSl (r : V → Option Int → Option Int → Hp → VK → Prop) (te : TE) (tl th : TO) : TE := fun σ H Q => te σ H fun x H1 => tl σ H1 fun l H2 => th σ H2 fun u H3 => r x l u H3 Q
def cutV (xs : List V) (lo hi : Option Int) : List V := (xs.drop (HT.sIx xs.length 0 lo)).take (HT.sIx xs.length xs.length hi - HT.sIx xs.length 0 lo)
def rSlT (K : PySem.W.Frag) : V → Option Int → Option Int → Hp → VK → Prop := fun x lo hi H Q => ∃ a xs, x = .ref a ∧ SqT K H a xs ∧
  ¬ (HT.sIx xs.length 0 lo = 0 ∧ HT.sIx xs.length xs.length hi = xs.length) ∧ ∀ p, H p = none → Q (.ref p) (upd H p (.tup (cutV xs lo hi)))
def rLtT (K : PySem.W.Frag) : R2 := fun x y H Q => ∃ a b ns ms, x = .ref a ∧ y = .ref b ∧ SqT K H a (ns.map V.int) ∧ SqT K H b (ms.map V.int) ∧ Q (.bl (HT.lexLt ns ms)) H
def rCatT (K : PySem.W.Frag) : R2 := fun x y H Q => ∃ a b xs ys, x = .ref a ∧ y = .ref b ∧ SqT K H a xs ∧ SqT K H b ys ∧ xs ≠ [] ∧ xs.length + ys.length ≤ sizeLine ∧
  (ys = [] → Q (.ref a) H) ∧ (ys ≠ [] → ∀ p, H p = none → Q (.ref p) (upd H p (.tup (xs ++ ys))))
end
end L2
namespace L2
open PySem PySem.Spec PyProof.Rows
def ixN (n : Nat) (i : Int) : Option Nat := if 0 ≤ i then (if i < n then some i.toNat else none) else if -(n : Int) ≤ i then some (i + n).toNat else none
def atI {α : Type} (xs : List α) (i : Int) : Option α := (ixN xs.length i).bind fun j => xs[j]?
theorem ixN_seq {n : Nat} {i : Int} {j : Nat} (h : ixN n i = some j) : seqIndex? i n = some j ∧ j < n ∧ -(n : Int) ≤ i ∧ i < n := by
  unfold ixN at h
  by_cases h0 : 0 ≤ i
  · rw [if_pos h0] at h
    by_cases h1 : i < n
    · rw [if_pos h1] at h
      have e : i.toNat = j := Option.some.inj h
      exact ⟨by rw [seqIndex_of h0 h1, e], by omega, by omega, h1⟩
    · rw [if_neg h1] at h; cases h
  · rw [if_neg h0] at h
    by_cases h1 : -(n : Int) ≤ i
    · rw [if_pos h1] at h
      have e : (i + n).toNat = j := Option.some.inj h
      exact ⟨by rw [seqIndex_neg (by omega) h1, e], by omega, h1, by omega⟩
    · rw [if_neg h1] at h; cases h
theorem atI_get {α : Type} {xs : List α} {i : Int} {v : α} (h : atI xs i = some v) : ∃ j, seqIndex? i xs.length = some j ∧ xs[j]? = some v ∧ j < xs.length ∧ -(xs.length : Int) ≤ i ∧ i < xs.length := by
  unfold atI at h
  cases e : ixN xs.length i with
  | none => rw [e] at h; cases h
  | some j =>
    rw [e] at h
    obtain ⟨h1, h2, h3, h4⟩ := ixN_seq e
    exact ⟨j, h1, h, h2, h3, h4⟩
theorem atI_nat {α : Type} {xs : List α} {j : Nat} {v : α} (h : xs[j]? = some v) : atI xs (j : Int) = some v := by
  have hj : j < xs.length := (List.getElem?_eq_some_iff.mp h).1
  have e : ixN xs.length (j : Int) = some j := by
    unfold ixN
    rw [if_pos (by omega), if_pos (by omega)]; simp
  unfold atI; rw [e]; exact h
def PlainIx (b : Expr) : Prop := ∀ o i, subscripted b false o i = operate [o, i] (getItem o i)
def IxR (X : Cx) (r : R2) : Prop :=
  ∀ (value slice : Expr) (pins : List (Addr × Obj)) (s : Shared) (σ : St) (H : Hp) (x y : V) (v u : Value) (Q : VK), Inv X pins σ H s → RelV x v → RelV y u → r x y H Q →
    subscripted slice false v u = operate [v, u] (getItem v u) → wpAny (model X.prog X.w) X.A (subscriptTail value slice v u) (EP X pins σ Q) X.xe s
def MtR (X : Cx) (id : String) (r : V → List V → Hp → VK → Prop) : Prop :=
  ∀ (pins : List (Addr × Obj)) (s : Shared) (σ : St) (H : Hp) (x : V) (xs : List V) (v : Value) (us : List Value) (Q : VK), Inv X pins σ H s → RelV x v → Vals xs us → r x xs H Q →
    wpAny (model X.prog X.w) X.A (call (.builtin id) (v :: us)) (EP X pins σ Q) X.xe s
section
variable {X : Cx} {a b : Expr} {ta tb : TE} {pos : Pos}
def rIxL (K : PySem.W.Frag) : R2 := fun x y H Q => ∃ p xs i v, x = .ref p ∧ y = .int i ∧ SqL K H p xs ∧ atI xs i = some v ∧ Q v H
def rIxT (K : PySem.W.Frag) : R2 := fun x y H Q => ∃ p xs i v, x = .ref p ∧ y = .int i ∧ SqT K H p xs ∧ atI xs i = some v ∧ Q v H
def rIxS : R2 := fun x y H Q => ∃ z i c, x = .str z ∧ y = .int i ∧ z.length ≤ sizeLine ∧ atI z.cps.toList i = some c ∧ Q (.str ⟨#[c]⟩) H
theorem ix_list : IxR X (rIxL X.K) := by
  intro value slice pins s σ H x y v u Q I rx ry h hs
  obtain ⟨p, xs, i, z, rfl, rfl, hq, he, q⟩ := h
  cases rx
  obtain ⟨t, rfl⟩ := ry
  obtain ⟨its, r, pl, hz⟩ := I.list hq
  obtain ⟨j, h1, h2, h3, h4, h5⟩ := atI_get he
  obtain ⟨w, ew, rw'⟩ := r.get h2
  have hl := r.length
  have hn := line63
  have fin : EP X pins σ Q w s := ⟨z, H, I, rw', q⟩
  by_cases h0 : 0 ≤ i
  · have hj : i.toNat = j := by
      rw [seqIndex_of h0 h5] at h1
      exact Option.some.inj h1
    exact item_listR pl.isList h0 (by omega) (by rw [hj]; simpa using ew) fin hs
  · have hj : (i + (its.toArray.size : Int)).toNat = j := by
      rw [seqIndex_neg (by omega) h4] at h1
      rw [List.size_toArray, ← hl]
      exact Option.some.inj h1
    exact subscriptTail_builtinR (x := w) pl.isList.typeIs slot_list_getitem.lookup
      (wpAny_getItem_list_neg (Q := fun r s' => r = w ∧ EP X pins σ Q r s') pl.isList (by omega) (by rw [List.size_toArray] <;> omega) (by omega) (by rw [hj]; simpa using ew) ⟨rfl, fin⟩) hs
theorem ix_tup : IxR X (rIxT X.K) := by
  intro value slice pins s σ H x y v u Q I rx ry h hs
  obtain ⟨p, xs, i, z, rfl, rfl, hq, he, q⟩ := h
  cases rx
  obtain ⟨t, rfl⟩ := ry
  obtain ⟨its, r, pl, hz⟩ := I.tuple hq
  obtain ⟨j, h1, h2, h3, h4, h5⟩ := atI_get he
  obtain ⟨w, ew, rw'⟩ := r.get h2
  have hl := r.length
  have hn := line63
  have fin : EP X pins σ Q w s := ⟨z, H, I, rw', q⟩
  exact subscriptTail_builtinR (x := w) pl.typeIs slot_tuple_getitem.lookup
    (getItem_tuple (j := j) (Q := fun r s' => r = w ∧ EP X pins σ Q r s') pl (by omega) (by omega) (by rw [List.size_toArray, ← hl]; exact h1) (by simpa using ew) ⟨rfl, fin⟩) hs
def rIx (K : PySem.W.Frag) : R2 := fun x y H Q => rIxL K x y H Q ∨ rIxT K x y H Q ∨ rIxS x y H Q
def rSetL : V → V → V → Hp → (Hp → Prop) → Prop := fun o i v H Q => ∃ p xs k j, o = .ref p ∧ i = .int k ∧ H p = some (.lst xs) ∧ ixN xs.length k = some j ∧ Q (upd H p (.lst (xs.set j v)))
def rSlL (K : PySem.W.Frag) : V → Option Int → Option Int → Hp → VK → Prop := fun x lo hi H Q => ∃ a xs, x = .ref a ∧ SqL K H a xs ∧ ∀ p, H p = none → Q (.ref p) (upd H p (.lst (cutV xs lo hi)))
def flatV : V → Bool
  | .non => true
  | .bl _ => true
  | .int _ => true
  | .str _ => true
  | _ => false
def eqV : V → V → Bool
  | .non, .non => true
  | .bl a, .bl b => a == b
  | .bl a, .int b => (if a then 1 else 0) == b
  | .int a, .bl b => a == (if b then 1 else 0)
  | .int a, .int b => a == b
  | .str a, .str b => a == b
  | _, _ => false
def eqU (x : V) (u : Value) : Bool := match u with
  | .none => eqV .non x
  | .bool b => eqV (.bl b) x
  | .int i _ => eqV (.int i) x
  | .str z _ => eqV (.str z) x
  | _ => false
def inV (x : V) (xs : List V) : Bool := xs.any fun y => eqV y x
def rIn (K : PySem.W.Frag) (neg : Bool) : R2 := fun x y H Q => ∃ p xs, y = .ref p ∧ (SqL K H p xs ∨ SqT K H p xs) ∧ flatV x = true ∧ xs.all flatV = true ∧ Q (.bl (if neg then !inV x xs else inV x xs)) H
theorem call_len_seq : CallR X (.builtin "len") (fun xs H Q => ∃ p ys, xs = [.ref p] ∧ (SqL X.K H p ys ∨ SqT X.K H p ys) ∧ Q (.int ys.length) H) := by
  intro pins s σ H xs us Q I r h
  obtain ⟨p, ys, rfl, hq, q⟩ := h
  obtain ⟨u, rfl, rx⟩ := vals1 r
  cases rx
  have hn := line63
  rcases hq with hq | hq
  · obtain ⟨its, r', pl, hz⟩ := I.list hq
    have hlen := r'.length
    exact Calls.call_len_list pl.isList (by simp only [List.size_toArray] <;> omega) ⟨.int ys.length, H, I.tok _, ⟨s.toks + 1, by rw [List.size_toArray, hlen]⟩, q⟩
  · obtain ⟨its, r', pl, hz⟩ := I.tuple hq
    have hlen := r'.length
    exact len_tuple pl (by simp only [List.size_toArray] <;> omega) ⟨.int ys.length, H, I.tok _, ⟨s.toks + 1, by rw [List.size_toArray, hlen]⟩, q⟩
def tyV (K : PySem.W.Frag) (T : String) (x : V) (H : Hp) : Prop := match x with
  | .str _ => T = "str"
  | .int _ => T = "int"
  | .ref p => (T = "list" ∧ ∃ xs, SqL K H p xs) ∨ (T = "tuple" ∧ ∃ o, K.lookup p = some o ∧ o.cls = .type "tuple" ∧ o.dict = none) ∨
      (T = "dict" ∧ ((∃ kvs, H p = some (.dK kvs)) ∨ ∃ kvs, H p = some (.dT kvs))) ∨ (T = "set" ∧ ∃ S n, H p = some (.set S n))
  | _ => False
def tBM0 (K : PySem.W.Frag) (T : String) (r : V → List V → Hp → VK → Prop) (to : TE) : TE := fun σ H Q => to σ H fun x H1 => tyV K T x H1 ∧ r x [] H1 Q
def tBM (K : PySem.W.Frag) (T : String) (r : V → List V → Hp → VK → Prop) (to : TE) (t : TA) : TE := fun σ H Q => to σ H fun x H1 => tyV K T x H1 ∧ t σ H1 fun xs H2 => r x xs H2 Q
variable {o e : Expr} {es : List Expr} {to : TE} {t : TA} {name : Str} {apos cpos : Pos} {T id : String} {r : V → List V → Hp → VK → Prop}
end
end L2
namespace L2
open PySem PySem.Spec PyProof.Rows
def MtM (X : Cx) (id : String) (r : V → List V → Hp → VK → Prop) : Prop :=
  ∀ (pins : List (Addr × Obj)) (s : Shared) (σ : St) (H : Hp) (x : V) (xs : List V) (v : Value) (us : List Value) (Q : VK), Inv X pins σ H s → RelV x v → Vals xs us → r x xs H Q →
    wpAny (model X.prog X.w) X.A (call (.builtin id) (v :: us)) (EP X pins σ Q) X.xe s
theorem Vals.rep {xs : List V} {us : List Value} (h : Vals xs us) : ∀ k : Nat, Vals (List.replicate k xs).flatten (List.replicate k us).flatten
  | 0 => .nil
  | k + 1 => by
    rw [List.replicate_succ, List.replicate_succ, List.flatten_cons, List.flatten_cons]
    exact Vals.append h (Vals.rep h k)
theorem foldl_rep (its : List Value) : ∀ (k : Nat) (acc : List Value),
    List.foldl (fun x1 x2 => x1 ++ x2) acc.toArray (List.replicate k its.toArray) = (acc ++ (List.replicate k its).flatten).toArray
  | 0, acc => by simp
  | k + 1, acc => by
    have e : acc.toArray ++ its.toArray = (acc ++ its).toArray := by simp
    have e2 : (acc ++ its) ++ (List.replicate k its).flatten = acc ++ (List.replicate (k + 1) its).flatten := by
      rw [List.replicate_succ, List.flatten_cons, List.append_assoc]
    rw [← e2, ← foldl_rep its k (acc ++ its), ← e, List.replicate_succ, List.foldl_cons]
section
variable {X : Cx} {pins : List (Addr × Obj)} {σ : St} {H : Hp} {s : Shared} {l b : Addr} {xs ys zs : List V}
end
section
variable {X : Cx}
def rAppend : V → List V → Hp → VK → Prop := fun x vs H Q => ∃ l xs y, x = .ref l ∧ vs = [y] ∧ H l = some (.lst xs) ∧ xs.length < sizeLine ∧ Q .non (upd H l (.lst (xs ++ [y])))
def rExtend : V → List V → Hp → VK → Prop := fun x vs H Q => ∃ l b xs zs, x = .ref l ∧ vs = [.ref b] ∧ H l = some (.lst xs) ∧ H b = some (.lst zs) ∧ xs.length + zs.length ≤ sizeLine ∧ Q .non (upd H l (.lst (xs ++ zs)))
def rPop : V → List V → Hp → VK → Prop := fun x vs H Q => ∃ l xs y, x = .ref l ∧ vs = [] ∧ H l = some (.lst xs) ∧ xs[xs.length - 1]? = some y ∧ Q y (upd H l (.lst xs.dropLast))
def rPopAt : V → List V → Hp → VK → Prop := fun x vs H Q => ∃ l xs i k y, x = .ref l ∧ vs = [.int i] ∧ H l = some (.lst xs) ∧ -(2 ^ 63) ≤ i ∧ i < 2 ^ 63 ∧ seqIndex? i xs.length = some k ∧ xs[k]? = some y ∧ Q y (upd H l (.lst (xs.eraseIdx k)))
def rReverse : V → List V → Hp → VK → Prop := fun x vs H Q => ∃ l xs, x = .ref l ∧ vs = [] ∧ H l = some (.lst xs) ∧ Q .non (upd H l (.lst xs.reverse))
def rClear : V → List V → Hp → VK → Prop := fun x vs H Q => ∃ l xs, x = .ref l ∧ vs = [] ∧ H l = some (.lst xs) ∧ Q .non (upd H l (.lst []))
def rCat : R2 := fun x y H Q => ∃ l b xs zs, x = .ref l ∧ y = .ref b ∧ H l = some (.lst xs) ∧ H b = some (.lst zs) ∧ xs.length + zs.length ≤ sizeLine ∧ ∀ p, H p = none → Q (.ref p) (upd H p (.lst (xs ++ zs)))
def rRep : R2 := fun x y H Q => ∃ l k xs, x = .ref l ∧ y = .int k ∧ H l = some (.lst xs) ∧ -(2 ^ 63) ≤ k ∧ k < 2 ^ 63 ∧ xs.length * k.toNat ≤ sizeLine ∧
  ∀ p, H p = none → Q (.ref p) (upd H p (.lst (List.replicate k.toNat xs).flatten))
theorem len_rep {α : Type} (xs : List α) (k : Nat) : (List.replicate k xs).flatten.length = k * xs.length := by
  induction k with
  | zero => simp
  | succ k ih => rw [List.replicate_succ, List.flatten_cons, List.length_append, ih, Nat.succ_mul, Nat.add_comm]
end
section
variable {prog : Program} {w : World} {A : Around} {E : Value → Shared → Prop} {s : Shared}
end
section
variable {X : Cx}
end
end L2
namespace Att
open PySem PySem.W PySem.Calls PyProof.Rows
theorem ints_of_wellAll {P : Params} {h : Heap} : ∀ (ns : List Int) (vs : List Value), WellAll P h vs (ns.map WData.int) → IntsAre vs ns := by
  intro ns
  induction ns with
  | nil =>
    intro vs w
    rw [List.map_nil] at w
    cases w
    exact .nil
  | cons n ns ih =>
    intro vs w
    rw [List.map_cons] at w
    cases w with
    | cons a b =>
      cases a
      exact .cons _ _ (ih _ b)
theorem script_of {l : OpenLaw} {n : Nat} (hn : l.most = some n) {P : Params} {h : Heap} {args : List WData} {vals : List Value}
    (hpre : l.row.toRowW.claim.pre args = true) (hwl : WellAll P h vals args) :
    ∃ a vs ns, vals = [Value.ref a] ∧ args = [WData.list (ns.map WData.int)] ∧ h.get? a = some { cls := .type "list", data := .seq vs.toArray } ∧ IntsAre vs ns ∧ ns.length ≤ n := by
  have hsh : WShape.hasAll [] args [.list .int] = true := (pre_splitW hpre).1
  have hc : l.pre.holds [] { args := args } = true := (pre_splitW hpre).2
  obtain ⟨d, r, rfl, h1, h2⟩ := hasAllW_cons hsh
  obtain rfl := hasAllW_nil h2
  obtain ⟨xs, rfl, h3⟩ := hasW_list h1
  obtain ⟨ns, rfl⟩ := items_int h3
  have hlen : ns.length ≤ n := by
    unfold OpenLaw.pre at hc
    have h4 : (WTm.not (.lt (.lit (.int (n : Int))) (.len (.arg 0)))).holds [] { args := [.list (ns.map .int)] } = true := by
      have h4 := (holds_andW hc).1
      rw [hn] at h4
      exact h4
    have h5 := condW_of h4 (w_not (w_lt w_lit (w_len_list (w_arg rfl))))
    rw [List.length_map] at h5
    refine Nat.le_of_not_lt fun q => ?_
    have q' : (n : Int) < ((ns.length : Nat) : Int) := by omega
    first
      | (rw [decide_eq_true q'] at h5; exact absurd h5 (by decide))
      | (simp at h5; omega)
  cases hwl with
  | cons w1 w2 =>
    cases w2
    cases w1 with
    | list ho hall => exact ⟨_, _, ns, rfl, rfl, ho, ints_of_wellAll ns _ hall, hlen⟩
theorem post_true (l : OpenLaw) (args : List WData) : l.row.toRowW.claim.post args (.bool true) args = true :=
  postW_of (r := l.row.toRowW) (X := (true == true))
    (show WShape.has [] (.bool true) .bool = true by first | rfl | decide | simp [WShape.has, WShape.arms, WShape.armsAll])
    (show (WTm.eq .res (.lit (.bool true))).value [] { args := args, res := some (.bool true), after := args } = some (.bool (true == true)) from w_eq_bool (w_res rfl) w_lit) rfl
theorem attach_call {l : OpenLaw} {n : Nat} {q : Program} {loose : List Str} {XP : (Str → Option Value) → Heap → Prop} {YP : World → Heap → Prop} {d : DefRec}
    (hn : l.most = some n) (hdf : d.params.defaults = [])
    (call : ∀ (w : World) (s₀ s₁ : Shared) (mg mb : Str → Option Value) (fa : Addr) (o : Obj) (pm cd doc : Value) (a : Addr) (vs : List Value) (ns : List Int),
      Ground q loose [] XP w s₀ mg mb s₁.heap → YP w s₁.heap →
      s₁.heap.get? fa = some o → o.data = .func (docDef d.name d.params d.body d.scope pm cd doc) → s₁.heap.CodeRec cd d.name → mg d.name = some (.ref fa) →
      s₁.heap.get? a = some { cls := .type "list", data := .seq vs.toArray } → IntsAre vs ns → ns.length ≤ n → s₁.gens = #[] →
      codeAny (model l.prog w) callerA (.call (.ref fa) ⟨[.ref a], []⟩) (fun r s' => r = .ok (.ret (.bool true)) ∧ OldK s₁.heap s'.heap ∧ s'.os = s₁.os ∧ AllBare s'.gens) s₁) :
    WalkO q loose XP YP l.row.toRowW d [] (fun f vs => PySem.call f vs) := by
  intro w s₀ s₁ mg mb G Y fa o pm cd doc dV kV ho hd hcd hD hmg hg args vals as hpre hlay hrd hwl hlo
  obtain rfl : dV = .none := Dflts.none hD hdf
  obtain rfl : kV = .none := Dflts.noKw hD
  obtain ⟨a, vs, ns, rfl, rfl, hobj, hints, hlen⟩ := script_of hn hpre hwl
  refine enter_call (codeAny_mono (call w s₀ s₁ mg mb fa o pm cd doc a vs ns G Y ho (fd_plain hd) hcd hmg hobj hints hlen hg) fun r s' hq => ?_)
  obtain ⟨rfl, h2, h3, h4⟩ := hq
  exact ⟨.inl ⟨.bool true, .bool true, [], rfl, fun _ => rfl, .bool true, post_true l _, fun _ => ⟨List.Pairwise.nil, fun _ hm => (nomatch hm)⟩⟩, h2, h3, h4⟩
section
variable {prog : Program} {w : World} {A : Around} {E : Value → Shared → Prop} {s : Shared} {K : Frag}
def noObjs (h : Heap) : Heap := { h with objs := #[] }
def ledger (h : Heap) (L d : Addr) : List (Addr × Obj) := (List.range h.objs.size).filterMap fun a => if a = L ∨ a = d then none else (h.get? a).map fun o => (a, o)
end
end Att
namespace L2
open PySem PySem.Spec PyProof.Rows
theorem vals_ints : ∀ {vs : List Value} {ns : List Int}, IntsAre vs ns → Vals (ns.map V.int) vs
  | _, _, .nil => .nil
  | _, _, .cons n t h => .cons ⟨t, rfl⟩ (vals_ints h)
def Only (H : Hp) : Prop := ∀ b, H b = none ∨ ∃ o xs, H b = some (.frz o (.lst xs))
theorem law_call {P : Program} {w : World} {K : PySem.W.Frag} {mg mb : Str → Option Value} {CX : CXT} {k : Nat} {fa a : Addr} {fd : FuncData} {x : Str} {sp : Sp} {s₁ : Shared} {vs : List Value} {ns : List Int}
    (KX : K.In s₁.heap) (hns : s₁.heap.Ns mainGlobals mg) (hb : s₁.heap.Ns builtinsNs mb) (hbb : ∀ x : Str, x ≠ "__name__" → mb x = bootBuiltins x) (hlim : s₁.heap.NoLimit) (hg : s₁.gens = #[])
    (ha : s₁.heap.get? a = some { cls := .type "list", data := .seq vs.toArray }) (hi : IntsAre vs ns) (hl : ns.length ≤ sizeLine) (hr : Room k callerA)
    (F : ∀ base : Heap, K.In base → base.Ns mainGlobals mg → FnOk P w K mg base CX k fa fd [x] sp) (hbind : ∀ (s : Shared) (u : Value), BindsTo s fd ⟨[u], []⟩ [(x, u)])
    (hsp : ∀ H : Hp, Only H → SqL K H a (ns.map V.int) → sp [.ref a] H (fun v _ => v = .bl true) fun _ _ _ => False)
    (hCX : ∀ H e s', CX [] H s₁ (fun _ _ _ => False) e s' → False) :
    codeAny (model P w) callerA (.call (.ref fa) ⟨[.ref a], []⟩) (fun r s' => r = .ok (.ret (.bool true)) ∧ OldK s₁.heap s'.heap ∧ s'.os = s₁.os ∧ AllBare s'.gens) s₁ := by
  have rv := vals_ints hi
  have lenV := hi.length
  -- from an abstract heap in which nothing but the script may be tracked
  have core : ∀ H : Hp, Only H → SqL K H a (ns.map V.int) → HOk P w H s₁.heap → (∀ b, H b ≠ none → b = a) → (H a ≠ none → K.lookup a = none) →
      codeAny (model P w) callerA (.call (.ref fa) ⟨[.ref a], []⟩) (fun r s' => r = .ok (.ret (.bool true)) ∧ OldK s₁.heap s'.heap ∧ s'.os = s₁.os ∧ AllBare s'.gens) s₁ := by
    intro H hO hS hok hA hK
    have base_of : ∀ {b : Addr} {o : Obj}, s₁.heap.get? b = some o → H b = none → (hidT s₁.heap H).get? b = some o := fun e n => hidT_get e n
    have noA : ∀ {b : Addr} {o : Obj} {es : Array DictEntry} {ep : Nat}, s₁.heap.get? b = some o → o.data = .dict es ep → H b = none := fun {b o es ep} e d => by
      cases q : H b with
      | none => rfl
      | some u =>
        have e' : b = a := hA b (by rw [q]; simp)
        subst e'
        rw [ha] at e; cases e
        have d' : Data.seq vs.toArray _ = Data.dict es ep := d
        cases d'
    have nsK : ∀ {b : Addr} {m : Str → Option Value}, s₁.heap.Ns b m → (hidT s₁.heap H).Ns b m := fun {b m} ⟨o, es, ep, e, d, r⟩ => ⟨o, es, ep, base_of e (noA e d), d, r⟩
    have hKb : K.In (hidT s₁.heap H) := fun b o e => base_of (KX b o e) (by
      cases q : H b with
      | none => rfl
      | some u =>
        have e' : b = a := hA b (by rw [q]; simp)
        subst e'
        rw [hK (by rw [q]; simp)] at e; cases e)
    have hM : Mod K mg (hidT s₁.heap H) := ⟨hKb, nsK hns, ⟨mb, nsK hb, hbb⟩, let ⟨mc, h1, h2⟩ := hlim; ⟨mc, nsK h1, h2⟩⟩
    have e0 : Env0 P w K mg (hidT s₁.heap H) callerA [] s₁ H := ⟨rfl, hM, fun b o e => of_hidT e, Nat.le_of_eq (hidT_size _ _), trivial, fun b hb => absurd (show b ∈ ([] : List Addr) from hb) (by simp), hok, .of_eq hg⟩
    refine codeAny_mono ((F _ hKb (nsK hns)).run callerA [] s₁ H ⟨[.ref a], []⟩ [.ref a] [.ref a] _ _ hr e0 (hbind s₁ (.ref a)) (.cons rfl .nil) (hsp H hO hS)) fun r s' h => ?_
    cases r with
    | error e => exact (hCX H e s' h).elim
    | ok fl =>
      cases fl with
      | next => exact False.elim h
      | brk => exact False.elim h
      | cont => exact False.elim h
      | ret u =>
        obtain ⟨v, H', os, bare, un, hok', r', q⟩ := h
        have q' : v = .bl true := q
        subst q'
        obtain rfl : u = Value.bool true := r'
        refine ⟨rfl, OldK.of_keep fun b o e => ?_, os, bare⟩
        cases q : H b with
        | none => exact un.keep b o e q (by intro z; exact absurd (show b ∈ ([] : List Addr) from z) (by simp)) (by simp)
        | some u =>
          rcases hO b with z | ⟨ob, xs, z⟩
          · rw [q] at z; cases z
          · have z2 := un.frzs b ob _ z
            obtain ⟨e1, _⟩ := hok b _ z
            obtain ⟨e2, _⟩ := hok' b _ z2
            rw [e] at e1; cases e1
            exact e2
  cases hk : K.lookup a with
  | some o =>
    -- the script is one of the module's own objects
    have e := KX a o hk
    rw [ha] at e
    cases e
    refine core (fun _ => none) (fun _ => .inl rfl) (.inr ⟨_, vs.toArray, _, hk, rfl, rfl, rfl, by rw [List.size_toArray, lenV]; exact hl, by simpa using rv⟩) (fun b u z => by have z' : (none : Option HO) = some u := z; cases z') (fun b z => absurd rfl z) fun z => absurd rfl z
  | none =>
    refine core (fun b => if b = a then some (.frz { cls := .type "list", data := .seq vs.toArray } (.lst (ns.map V.int))) else none) (fun b => ?_) (.inl (.inr ⟨{ cls := .type "list", data := .seq vs.toArray }, if_pos rfl⟩)) (fun b u z => ?_) (fun b z => ?_) fun _ => hk
    · by_cases hb : b = a
      · exact .inr ⟨_, _, if_pos hb⟩
      · exact .inl (if_neg hb)
    · by_cases hb : b = a
      · have z' := (if_pos hb).symm.trans z
        cases z'
        subst hb
        exact ⟨ha, by rw [List.length_map]; exact hl, vs, _, rv, ha⟩
      · have z' := (if_neg hb).symm.trans z
        cases z'
    · by_cases hb : b = a
      · exact hb
      · exact absurd (if_neg hb) z
end L2
namespace L2
open PySem PySem.Spec PyProof.Rows
abbrev KOf {K : PySem.W.Frag} {h : Heap} (_ : K.In h) : PySem.W.Frag := K
theorem walk_of {l : PySem.W.OpenLaw} {n k : Nat} {q : Program} {loose : List Str} {XP : (Str → Option Value) → Heap → Prop} {YP : World → Heap → Prop} {d : DefRec} {K : Params → PySem.W.Frag} {CX : World → CXT} {sp : World → Sp} {x : Str}
    (hn : l.most = some n) (hn2 : n ≤ sizeLine) (hdf : d.params.defaults = []) (hr : Room k callerA)
    (hY : ∀ (w : World) (h : Heap), YP w h → (K w.params).In h)
    (F : ∀ (w : World) (mg : Str → Option Value) (fa : Addr) (h : Heap), (K w.params).In h → h.Ns mainGlobals mg → mg d.name = some (.ref fa) →
      ∃ fd : FuncData, (∀ (s : Shared) (u : Value), BindsTo s fd ⟨[u], []⟩ [(x, u)]) ∧
        ∀ base : Heap, (K w.params).In base → base.Ns mainGlobals mg → FnOk l.prog w (K w.params) mg base (CX w) k fa fd [x] (sp w))
    (hsp : ∀ (w : World) (H : Hp) (a : Addr) (ns : List Int), ns.length ≤ n → Only H → SqL (K w.params) H a (ns.map V.int) → sp w [.ref a] H (fun v _ => v = .bl true) fun _ _ _ => False)
    (hCX : ∀ (w : World) (H : Hp) (s : Shared) (e : Value) (s' : Shared), CX w [] H s (fun _ _ _ => False) e s' → False) :
    PySem.W.WalkO q loose XP YP l.row.toRowW d [] (fun f vs => PySem.call f vs) := by
  refine Att.attach_call hn hdf fun w s₀ s₁ mg mb fa o pm cd doc a vs ns G Y ho hd hcd hmg hobj hints hlen hg => ?_
  have KX := hY w _ Y
  obtain ⟨fd, hb, hF⟩ := F w mg fa _ KX G.T.g hmg
  exact law_call KX G.T.g G.T.b G.T.builtins G.T.nolimit hg hobj hints (Nat.le_trans hlen hn2) hr hF hb (fun H hO hS => hsp w H a ns hlen hO hS) fun H e s' => hCX w H s₁ e s'
end L2
namespace L2
open PySem PySem.Spec PyProof.Rows
def inClass (s : Stmt) (j : Nat) : Stmt := match s with
  | .ClassDef _ _ _ body _ _ _ _ _ _ _ => body.getD j (.Pass ⟨0, 0, 0, 0⟩)
  | _ => .Pass ⟨0, 0, 0, 0⟩
def defArgs (s : Stmt) : Arguments := match s with
  | .FunctionDef _ a _ _ _ _ _ _ _ _ => a
  | _ => { posonlyargs := [], args := [], vararg := none, kwonlyargs := [], kw_defaults := [], kwarg := none, defaults := [] }
def defBody (s : Stmt) : List Stmt := match s with
  | .FunctionDef _ _ b _ _ _ _ _ _ _ => b
  | _ => []
def defScope (s : Stmt) : Scope := match s with
  | .FunctionDef _ _ _ _ _ _ sc _ _ _ => sc
  | _ => { kind := .function, names := [], isGenerator := false, isCoroutine := false }
abbrev CX0 : CXT := fun _ _ _ _ _ _ => False
abbrev E0 : XK := fun _ _ _ => False
theorem pass0 {X : Cx} : Passes CX0 X E0 := fun _ _ _ _ _ _ _ h => h.elim
structure Fun (K : PySem.W.Frag) (x qual : Str) (st : Stmt) (f : Addr) (fd : FuncData) : Prop where
  ex : ∃ (oc : Value) (od : Option Addr) (kV doc pm : Value) (an : Option Addr) (cdv ct : Value) (osl : Array (Option Value)),
    fd = PySem.W.fnOf x qual (defArgs st) (defBody st) (defScope st) .none kV doc pm an cdv ct ∧ K.lookup f = some ⟨oc, od, .func fd, osl⟩ ∧ PySem.W.codeIn K cdv qual = true
  kp : PySem.W.keepIn K (.ref f) = true
section
variable {P : Program} {w : World} {K : PySem.W.Frag} {mg : Str → Option Value} {base : Heap}
theorem Fun.ok {x qual : Str} {st : Stmt} {f : Addr} {fd : FuncData} {N ps : List Str} {k : Nat} {sp : Sp} (F : Fun K x qual st f fd) (S : FnScope N ps (defScope st)) (len : ∀ vs H Q E, sp vs H Q E → vs.length = ps.length)
    (hbody : ∀ (cdv : Value) (A : Around) (outer : List Env) (s : Shared) (H : Hp) (vs : List V) (Q : VK) (E : XK), Room k (A.deeper (envOfC qual (defScope st) s.heap.objs.size f cdv)) → sp vs H Q E →
      ∃ t, PSs (cxOf CX0 P w K mg base N qual (defScope st) f cdv A outer s H E).nox (defBody st) t ∧ t { nx := fun _ H' => Q .non H', rt := Q } (start N vs) H) : FnOk P w K mg base CX0 (k + 1) f fd ps sp := by
  obtain ⟨oc, od, kV, doc, pm, an, cdv, ct, osl, rfl, lk, hcd⟩ := F.ex
  refine fn_of lk hcd S len fun A outer s H vs Q E hr hsp => ?_
  obtain ⟨t, h, q⟩ := hbody cdv A outer s H vs Q E hr hsp
  exact ⟨t, h.nox, q⟩
theorem Fun.binds {x qual : Str} {st : Stmt} {f : Addr} {fd : FuncData} {ps : List Str} (F : Fun K x qual st f fd)
    (h : ∀ (kV doc pm : Value) (an : Option Addr) (cdv ct : Value) (us : List Value), us.length = ps.length → bindArgs (PySem.W.fnOf x qual (defArgs st) (defBody st) (defScope st) .none kV doc pm an cdv ct) ⟨us, []⟩ = pure (ps.zip us)) : Binds K fd ps [] := by
  obtain ⟨oc, od, kV, doc, pm, an, cdv, ct, osl, rfl, lk, hcd⟩ := F.ex
  exact .all (h kV doc pm an cdv ct)
theorem fun_mk {x qual : Str} {st : Stmt} {f : Addr} {oc : Value} {od an : Option Addr} {osl : Array (Option Value)} {kV doc pm cdv ct : Value} (l : K.lookup f = some ⟨oc, od, .func (PySem.W.fnOf x qual (defArgs st) (defBody st) (defScope st) .none kV doc pm an cdv ct), osl⟩)
    (c : PySem.W.codeIn K cdv qual = true) (k : PySem.W.keepIn K (.ref f) = true) : Fun K x qual st f (PySem.W.fnOf x qual (defArgs st) (defBody st) (defScope st) .none kV doc pm an cdv ct) := ⟨⟨oc, od, kV, doc, pm, an, cdv, ct, osl, rfl, l, c⟩, k⟩
end
theorem small1000 {n : Nat} (h : n ≤ 1000) : n < sizeLine := Nat.lt_of_le_of_lt h (by decide)
section
variable {X : Cx}
end
theorem iteF {A B : Prop} (h : B) : if false = true then A else B := by
  rw [if_neg Bool.false_ne_true]
  exact h
theorem iteT {A B : Prop} (h : A) : if true = true then A else B := by
  rw [if_pos rfl]
  exact h
def Same (H H' : Hp) : Prop := ∀ b o, H b = some o → H' b = some o
theorem Same.refl (H : Hp) : Same H H := fun _ _ h => h
theorem Same.trans {H H1 H2 : Hp} (a : Same H H1) (b : Same H1 H2) : Same H H2 := fun c o h => b c o (a c o h)
theorem Same.free {H H' : Hp} (e : Same H H') {l : Addr} (h : H' l = Option.none) : H l = Option.none := by
  cases q : H l with
  | none => rfl
  | some o =>
    rw [e l o q] at h
    cases h
theorem Same.seq {K : PySem.W.Frag} {H H' : Hp} {a : Addr} {xs : List V} (e : Same H H') (h : SqL K H a xs) : SqL K H' a xs := by
  rcases h with (h | ⟨o, h⟩) | h
  · exact .inl (.inl (e _ _ h))
  · exact .inl (.inr ⟨o, e _ _ h⟩)
  · exact .inr h
end L2
set_option Elab.async false
set_option linter.all false
set_option maxRecDepth 100000
namespace DL
open PySem PySem.Spec PyProof.Rows L2
inductive D where
  | non | bl (b : Bool) | int (i : Int) | str (x : Str) | tup (xs : List D) | lst (xs : List D) | scr (xs : List D) | ptr (n : Nat) | ty (n : String)
structure Wd where
  g : Hp
  l : List Addr
structure Ext (G G' : Wd) : Prop where
  g : Same G.g G'.g
  l : ∃ t, G'.l = G.l ++ t
theorem Ext.refl (G : Wd) : Ext G G := ⟨Same.refl _, [], (List.append_nil _).symm⟩
theorem Ext.trans {G G' G'' : Wd} (a : Ext G G') (b : Ext G' G'') : Ext G G'' := ⟨a.g.trans b.g, by
  obtain ⟨t, e⟩ := a.l; obtain ⟨u, e'⟩ := b.l; exact ⟨t ++ u, by rw [e', e, List.append_assoc]⟩⟩
theorem Ext.at {G G' : Wd} {n : Nat} {a : Addr} (e : Ext G G') (h : G.l[n]? = some a) : G'.l[n]? = some a := by
  obtain ⟨t, e⟩ := e.l
  rw [e, List.getElem?_append_left (List.getElem?_eq_some_iff.mp h).1, h]
mutual
inductive Is (K : PySem.W.Frag) (G : Wd) : D → V → Prop
  | non : Is K G .non .non
  | bl (b : Bool) : Is K G (.bl b) (.bl b)
  | int (i : Int) : Is K G (.int i) (.int i)
  | str (x : Str) : Is K G (.str x) (.str x)
  | tup {a : Addr} {ds : List D} {vs : List V} (h : SqT K G.g a vs) (r : Iss K G ds vs) : Is K G (.tup ds) (.ref a)
  | lst {a : Addr} {ds : List D} {vs : List V} (h : G.g a = some (.lst vs)) (r : Iss K G ds vs) : Is K G (.lst ds) (.ref a)
  | scr {a : Addr} {ds : List D} {vs : List V} (h : SqL K G.g a vs) (r : Iss K G ds vs) : Is K G (.scr ds) (.ref a)
  | ptr {a : Addr} (n : Nat) (h : G.l[n]? = some a) : Is K G (.ptr n) (.ref a)
  | ty (n : String) : Is K G (.ty n) (.ty n)
inductive Iss (K : PySem.W.Frag) (G : Wd) : List D → List V → Prop
  | nil : Iss K G [] []
  | cons {d : D} {v : V} {ds : List D} {vs : List V} (h : Is K G d v) (r : Iss K G ds vs) : Iss K G (d :: ds) (v :: vs)
end
theorem sqT_same {K : PySem.W.Frag} {H H' : Hp} {a : Addr} {xs : List V} (e : Same H H') (h : SqT K H a xs) : SqT K H' a xs := by
  rcases h with (h | ⟨o, h⟩) | h
  · exact .inl (.inl (e _ _ h))
  · exact .inl (.inr ⟨o, e _ _ h⟩)
  · exact .inr h
mutual
theorem Is.ext {K : PySem.W.Frag} {G G' : Wd} (e : Ext G G') : ∀ {d : D} {v : V}, Is K G d v → Is K G' d v
  | _, _, .non => .non
  | _, _, .bl b => .bl b
  | _, _, .int i => .int i
  | _, _, .str x => .str x
  | _, _, .tup h r => .tup (sqT_same e.g h) (Iss.ext e r)
  | _, _, .lst h r => .lst (e.g _ _ h) (Iss.ext e r)
  | _, _, .scr h r => .scr (e.g.seq h) (Iss.ext e r)
  | _, _, .ptr n h => .ptr n (e.at h)
  | _, _, .ty n => .ty n
theorem Iss.ext {K : PySem.W.Frag} {G G' : Wd} (e : Ext G G') : ∀ {ds : List D} {vs : List V}, Iss K G ds vs → Iss K G' ds vs
  | _, _, .nil => .nil
  | _, _, .cons h r => .cons (Is.ext e h) (Iss.ext e r)
end
section
variable {K : PySem.W.Frag} {G G' : Wd}
theorem Iss.length : ∀ {ds : List D} {vs : List V}, Iss K G ds vs → ds.length = vs.length
  | _, _, .nil => rfl
  | _, _, .cons _ r => by rw [List.length_cons, List.length_cons, r.length]
theorem Iss.append : ∀ {ds es : List D} {vs us : List V}, Iss K G ds vs → Iss K G es us → Iss K G (ds ++ es) (vs ++ us)
  | _, _, _, _, .nil, q => q
  | _, _, _, _, .cons h r, q => .cons h (Iss.append r q)
theorem Iss.get : ∀ {ds : List D} {vs : List V} {i : Nat} {d : D}, Iss K G ds vs → ds[i]? = some d → ∃ v, vs[i]? = some v ∧ Is K G d v
  | _, _, _, _, .nil, e => by simp at e
  | _, _, 0, _, .cons h r, e => by simp at e; subst e; exact ⟨_, rfl, h⟩
  | _, _, i + 1, d, .cons h r, e => by
    obtain ⟨v, e1, h1⟩ := Iss.get (i := i) (d := d) r (by simpa using e)
    exact ⟨v, by simpa using e1, h1⟩
theorem Iss.ints : ∀ {ns : List Int}, Iss K G (ns.map D.int) (ns.map V.int)
  | [] => .nil
  | n :: ns => .cons (.int n) (Iss.ints (ns := ns))
end
inductive MO where
  | lst (xs : List D)
  | ins (C : Addr) (fs : List (Str × D))
  
  | exc (C : Addr) (fs : List (Str × D))
abbrev Sto := List (Option MO)
inductive FsIs (K : PySem.W.Frag) (G : Wd) : List (Str × D) → List (Str × V) → Prop
  | nil : FsIs K G [] []
  | cons {f : Str} {d : D} {v : V} {fs : List (Str × D)} {vs : List (Str × V)} (h : Is K G d v) (r : FsIs K G fs vs) : FsIs K G ((f, d) :: fs) ((f, v) :: vs)
theorem FsIs.ext {K : PySem.W.Frag} {G G' : Wd} (e : Ext G G') : ∀ {fs : List (Str × D)} {vs : List (Str × V)}, FsIs K G fs vs → FsIs K G' fs vs
  | _, _, .nil => .nil
  | _, _, .cons h r => .cons (h.ext e) (FsIs.ext e r)
def MOk (K : PySem.W.Frag) (G : Wd) (H : Hp) (p : Addr) : MO → Prop
  | .lst xs => ∃ vs, H p = some (.lst vs) ∧ Iss K G xs vs
  | .ins C fs => ∃ dx vs, H p = some (.ins C dx vs) ∧ FsIs K G fs vs
  | .exc C fs => ∃ ob, H p = some (.ext fun h => h.get? p = some ob) ∧ (ob.cls = .ref C ∧ ∃ ws, ob.data = .fields ws) ∧ (fs = [] ∨ ∃ dx vs, ob.dict = some dx ∧ G.g dx = some (.xd vs) ∧ FsIs K G fs vs)
structure SA (K : PySem.W.Frag) (G : Wd) (H : Hp) (O : Sto) : Prop where
  sub : Same G.g H
  len : G.l.length = O.length
  nd : G.l.Nodup
  liv : ∀ a ∈ G.l, ∃ o, H a = some o
  mt : ∀ (n : Nat) (m : MO), O[n]? = some (some m) → ∃ a, G.l[n]? = some a ∧ G.g a = none ∧ MOk K G H a m
section
variable {K : PySem.W.Frag} {G G' : Wd} {H H' : Hp} {O : Sto}
theorem MOk.ext {p : Addr} {m : MO} (e : Ext G G') (q : H' p = H p) (h : MOk K G H p m) : MOk K G' H' p m := by
  cases m with
  | lst xs => obtain ⟨vs, h1, h2⟩ := h; exact ⟨vs, by rw [q]; exact h1, h2.ext e⟩
  | ins C fs => obtain ⟨dx, vs, h1, h2⟩ := h; exact ⟨dx, vs, by rw [q]; exact h1, h2.ext e⟩
  | exc C fs =>
    obtain ⟨ob, h1, h2, h3⟩ := h
    refine ⟨ob, by rw [q]; exact h1, h2, h3.imp id ?_⟩
    rintro ⟨dx, vs, a1, a2, a3⟩
    exact ⟨dx, vs, a1, e.g _ _ a2, a3.ext e⟩
theorem MOk.some {p : Addr} {m : MO} (h : MOk K G H p m) : ∃ o, H p = some o := by
  cases m with
  | lst xs => obtain ⟨vs, h1, h2⟩ := h; exact ⟨_, h1⟩
  | ins C fs => obtain ⟨dx, vs, h1, h2⟩ := h; exact ⟨_, h1⟩
  | exc C fs => obtain ⟨ob, h1, _⟩ := h; exact ⟨_, h1⟩
theorem SA.free {p : Addr} (s : SA K G H O) (h : H p = none) : G.g p = none := s.sub.free h
theorem SA.grow (s : SA K G H O) (e : Same H H') : SA K G H' O :=
  ⟨s.sub.trans e, s.len, s.nd, fun a ha => let ⟨o, h⟩ := s.liv a ha; ⟨o, e _ _ h⟩, fun n m h => by
    obtain ⟨a, h1, h2, h3⟩ := s.mt n m h
    obtain ⟨o, h4⟩ := h3.some
    exact ⟨a, h1, h2, h3.ext (Ext.refl _) (by rw [h4, e _ _ h4])⟩⟩
theorem same_upd {p : Addr} {o : HO} (h : H p = none) : Same H (upd H p o) := fun b u q => by
  rw [upd_ne]; exact q
  rintro rfl; rw [h] at q; cases q
theorem SA.laid {p : Addr} {o : HO} (s : SA K G H O) (h : H p = none) : Ext G ⟨upd G.g p o, G.l⟩ ∧ SA K ⟨upd G.g p o, G.l⟩ (upd H p o) O := by
  have e : Ext G ⟨upd G.g p o, G.l⟩ := ⟨same_upd (s.free h), [], (List.append_nil _).symm⟩
  refine ⟨e, ⟨fun b u q => ?_, s.len, s.nd, fun a ha => let ⟨o, q⟩ := s.liv a ha; ⟨o, same_upd h _ _ q⟩, fun n m hq => ?_⟩⟩
  · by_cases hb : b = p
    · subst hb
      have q : upd G.g b o b = some u := q
      rw [upd_same] at q; rw [upd_same]; exact q
    · have q : upd G.g p o b = some u := q
      rw [upd_ne hb] at q ⊢; exact s.sub b u q
  · obtain ⟨a, h1, h2, h3⟩ := s.mt n m hq
    have ne : a ≠ p := by
      rintro rfl; obtain ⟨o, h4⟩ := h3.some; rw [h] at h4; cases h4
    exact ⟨a, h1, by show upd G.g p o a = none; rw [upd_ne ne]; exact h2, h3.ext e (upd_ne ne)⟩
theorem SA.new {p : Addr} {o : HO} {m : MO} (s : SA K G H O) (h : H p = none) (r : MOk K ⟨G.g, G.l ++ [p]⟩ (upd H p o) p m) : Ext G ⟨G.g, G.l ++ [p]⟩ ∧ SA K ⟨G.g, G.l ++ [p]⟩ (upd H p o) (O ++ [some m]) := by
  have e : Ext G ⟨G.g, G.l ++ [p]⟩ := ⟨Same.refl _, [p], rfl⟩
  have hp : p ∉ G.l := fun z => by obtain ⟨o, q⟩ := s.liv p z; rw [h] at q; cases q
  refine ⟨e, ⟨s.sub.trans (same_upd h), ?_, ?_, ?_, ?_⟩⟩
  · simp [s.len]
  · exact List.nodup_append.mpr ⟨s.nd, List.nodup_cons.mpr ⟨List.not_mem_nil, List.nodup_nil⟩, fun a ha b hb => by
      rw [List.mem_singleton] at hb; subst hb; rintro rfl; exact hp ha⟩
  · intro a ha
    rcases List.mem_append.mp ha with ha | ha
    · obtain ⟨u, q⟩ := s.liv a ha; exact ⟨u, same_upd h _ _ q⟩
    · rw [List.mem_singleton] at ha; subst ha; exact ⟨_, upd_same⟩
  · intro n m' hq
    by_cases hn : n < O.length
    · rw [List.getElem?_append_left hn] at hq
      obtain ⟨a, h1, h2, h3⟩ := s.mt n m' hq
      have ne : a ≠ p := by rintro rfl; exact hp (List.mem_of_getElem? h1)
      exact ⟨a, e.at h1, h2, h3.ext e (upd_ne ne)⟩
    · have e1 : n = O.length := by
        have := (List.getElem?_eq_some_iff.mp hq).1
        rw [List.length_append, List.length_singleton] at this
        omega
      subst e1
      rw [List.getElem?_append_right (Nat.le_refl _), Nat.sub_self] at hq
      cases hq
      exact ⟨p, by show (G.l ++ [p])[O.length]? = _; rw [← s.len, List.getElem?_append_right (Nat.le_refl _), Nat.sub_self]; rfl, s.free h, r⟩
theorem SA.put {n : Nat} {p : Addr} {o : HO} {m m' : MO} (s : SA K G H O) (h : O[n]? = some (some m)) (hp : G.l[n]? = some p) (r : MOk K G (upd H p o) p m') : SA K G (upd H p o) (O.set n (some m')) := by
  obtain ⟨a, h1, h2, h3⟩ := s.mt n m h
  obtain rfl : p = a := Option.some.inj (hp.symm.trans h1)
  refine ⟨fun b u q => ?_, by simp [s.len], s.nd, fun b hb => ?_, fun k m2 hk => ?_⟩
  · rw [upd_ne]; exact s.sub b u q
    rintro rfl; rw [h2] at q; cases q
  · by_cases hbp : b = p
    · subst hbp; exact ⟨_, upd_same⟩
    · obtain ⟨u, q⟩ := s.liv b hb; exact ⟨u, by rw [upd_ne hbp]; exact q⟩
  · by_cases hkn : n = k
    · subst hkn
      rw [List.getElem?_set_self (List.getElem?_eq_some_iff.mp h).1] at hk
      cases hk
      exact ⟨p, hp, h2, r⟩
    · rw [List.getElem?_set_ne hkn] at hk
      obtain ⟨b, g1, g2, g3⟩ := s.mt k m2 hk
      have ne : b ≠ p := by
        rintro rfl
        exact hkn ((List.getElem?_inj (List.getElem?_eq_some_iff.mp hp).1 s.nd).mp (hp.trans g1.symm))
      exact ⟨b, g1, g2, g3.ext (Ext.refl _) (upd_ne ne)⟩
end
abbrev Rho := List (Option D)
structure EnvR (K : PySem.W.Frag) (G : Wd) (σ : L2.St) (ρ : Rho) : Prop where
  len : σ.length = ρ.length
  get : ∀ (i : Nat) (d : D), ρ[i]? = some (some d) → ∃ v, σ[i]? = some (some v) ∧ Is K G d v
theorem EnvR.ext {K : PySem.W.Frag} {G G' : Wd} {σ : L2.St} {ρ : Rho} (e : Ext G G') (h : EnvR K G σ ρ) : EnvR K G' σ ρ :=
  ⟨h.len, fun i d q => let ⟨v, h1, h2⟩ := h.get i d q; ⟨v, h1, h2.ext e⟩⟩
theorem EnvR.set {K : PySem.W.Frag} {G : Wd} {σ : L2.St} {ρ : Rho} {d : D} {v : V} (i : Nat) (h : EnvR K G σ ρ) (q : Is K G d v) : EnvR K G (σ.set i (some v)) (ρ.set i (some d)) := by
  refine ⟨by simp [h.len], fun j e hj => ?_⟩
  by_cases hij : i = j
  · subst hij
    by_cases hl : i < ρ.length
    · rw [List.getElem?_set_self hl] at hj
      cases hj
      exact ⟨v, List.getElem?_set_self (by rw [h.len]; exact hl), q⟩
    · rw [List.getElem?_eq_none (by simp; omega)] at hj; cases hj
  · rw [List.getElem?_set_ne hij] at hj ⊢
    exact h.get j e hj
def Ev (X : Cx) (ρ : Rho) (O : Sto) (e : Expr) (R : D → Sto → Prop) : Prop :=
  ∀ G, PE X e (fun σ H Q => SA X.K G H O ∧ EnvR X.K G σ ρ ∧ ∀ v d O' G' H', Ext G G' → SA X.K G' H' O' → Is X.K G' d v → R d O' → Q v H')
def EvP (X : Cx) (ρ : Rho) (O : Sto) (e : Expr) (d : D) : Prop :=
  ∀ G, PE X e (fun σ H Q => SA X.K G H O ∧ EnvR X.K G σ ρ ∧ ∀ v G' H', Ext G G' → SA X.K G' H' O → Is X.K G' d v → Q v H')
def EvT (X : Cx) (ρ : Rho) (O : Sto) (e : Expr) (b : Bool) : Prop :=
  ∀ G, PT X e (fun σ H Q => SA X.K G H O ∧ EnvR X.K G σ ρ ∧ ∀ G' H', Ext G G' → SA X.K G' H' O → Q b H')
def EvW (X : Cx) (ρ : Rho) (O : Sto) (e : Expr) (b : Bool) : Prop :=
  ∀ G, PW X e (fun σ H Q => SA X.K G H O ∧ EnvR X.K G σ ρ ∧ ∀ G' H', Ext G G' → SA X.K G' H' O → Q b H')
def EvAs (X : Cx) (ρ : Rho) (O : Sto) (es : List Expr) (R : List D → Sto → Prop) : Prop :=
  ∀ G, PA X es (fun σ H Q => SA X.K G H O ∧ EnvR X.K G σ ρ ∧ ∀ vs ds O' G' H', Ext G G' → SA X.K G' H' O' → Iss X.K G' ds vs → R ds O' → Q vs H')
theorem _root_.L2.PE.imp {X : Cx} {e : Expr} {t u : TE} (h : PE X e t) (k : ∀ σ H Q, u σ H Q → t σ H Q) : PE X e u := fun pins s σ H Q I q => h pins s σ H Q I (k _ _ _ q)
theorem _root_.L2.PT.imp {X : Cx} {e : Expr} {t u : TT} (h : PT X e t) (k : ∀ σ H Q, u σ H Q → t σ H Q) : PT X e u := fun pins s σ H Q I q => h pins s σ H Q I (k _ _ _ q)
theorem _root_.L2.PA.imp {X : Cx} {es : List Expr} {t u : TA} (h : PA X es t) (k : ∀ σ H Q, u σ H Q → t σ H Q) : PA X es u := fun pos pins s σ H Q I q => h pos pins s σ H Q I (k _ _ _ q)
theorem _root_.L2.PS.imp {X : Cx} {e : Stmt} {t u : TS} (h : PS X e t) (k : ∀ D σ H, u D σ H → t D σ H) : PS X e u := fun pins s σ H D I q => h pins s σ H D I (k _ _ _ q)
theorem _root_.L2.PSs.imp {X : Cx} {e : List Stmt} {t u : TS} (h : PSs X e t) (k : ∀ D σ H, u D σ H → t D σ H) : PSs X e u := fun pins s σ H D I q => h pins s σ H D I (k _ _ _ q)
section
variable {X : Cx} {ρ : Rho} {O : Sto} {e a b c : Expr} {d da db : D} {R : D → Sto → Prop} {pos : Pos}
theorem EvP.ev (h : EvP X ρ O e d) (r : R d O) : Ev X ρ O e R := fun G => (h G).imp fun σ H Q ⟨s, n, k⟩ => ⟨s, n, fun v G' H' e1 s' i => k v d O G' H' e1 s' i r⟩
theorem Ev.evp (h : Ev X ρ O e fun d' O' => d' = d ∧ O' = O) : EvP X ρ O e d := fun G => (h G).imp fun σ H Q ⟨s, n, k⟩ => ⟨s, n, fun v d' O' G' H' e1 s' i r => by obtain ⟨rfl, rfl⟩ := r; exact k v G' H' e1 s' i⟩
theorem EvP.cast {d' : D} (h : EvP X ρ O e d) (q : d = d') : EvP X ρ O e d' := q ▸ h
theorem EvW.t (h : EvW X ρ O e b') : EvT X ρ O e b' := fun G => (h G).pt
theorem ev_var (i : Nat) {x : Str} {p : Pos} (hr : ρ[i]? = some (some d) := by rfl) (hN : X.N[i]? = some x := by rfl) (hv : Vis X.env.scope x := by first | exact Or.inl rfl | exact Or.inr (Or.inl rfl) | exact Or.inr (Or.inr rfl))
    (hd : (x == ("__debug__" : Str)) = false := by decide) (hcd : (x == ("__classdict__" : Str)) = false := by decide) : EvP X ρ O (.Name x p) d := fun G =>
  PE.imp (pe_var hN hv hd hcd) fun σ H Q ⟨s, n, k⟩ => by
    obtain ⟨v, e1, i1⟩ := n.get i d hr
    exact ⟨v, e1, k v G H (Ext.refl _) s i1⟩
theorem ev_int {i : Int} {j : Nat} : EvP X ρ O (.Constant (.int i) j pos) (.int i) := fun G => PE.imp pe_int fun σ H Q ⟨s, n, k⟩ => k _ G H (Ext.refl _) s (.int i)
theorem ev_bl {i : Bool} {j : Nat} : EvP X ρ O (.Constant (.bool i) j pos) (.bl i) := fun G => PE.imp pe_bl fun σ H Q ⟨s, n, k⟩ => k _ G H (Ext.refl _) s (.bl i)
theorem ev_non {j : Nat} : EvP X ρ O (.Constant .none j pos) .non := fun G => PE.imp pe_non fun σ H Q ⟨s, n, k⟩ => k _ G H (Ext.refl _) s .non
theorem ev_str {x : Str} {j : Nat} : EvP X ρ O (.Constant (.str x) j pos) (.str x) := fun G => PE.imp pe_str fun σ H Q ⟨s, n, k⟩ => k _ G H (Ext.refl _) s (.str x)
def Op2 (X : Cx) (O : Sto) (f : Value → Value → Sem Value) (da db d : D) : Prop :=
  ∀ G, OpR X f (fun v u H Q => SA X.K G H O ∧ Is X.K G da v ∧ Is X.K G db u ∧ ∀ w G' H', Ext G G' → SA X.K G' H' O → Is X.K G' d w → Q w H')
theorem Op2.of {f : Value → Value → Sem Value} {r : R2} (ho : OpR X f r)
    (k : ∀ G v u H Q, SA X.K G H O → Is X.K G da v → Is X.K G db u → (∀ w G' H', Ext G G' → SA X.K G' H' O → Is X.K G' d w → Q w H') → r v u H Q) : Op2 X O f da db d :=
  fun G pins s σ H x y v u Q I rx ry ⟨h1, h2, h3, h4⟩ => ho pins s σ H x y v u Q I rx ry (k G _ _ _ _ h1 h2 h3 h4)
theorem ev_bin {op : Operator} (ha : EvP X ρ O a da) (hb : EvP X ρ O b db) (ho : Op2 X O (binaryOp op) da db d) : EvP X ρ O (.BinOp a op b pos) d := fun G pins s σ H Q I ⟨h1, h2, h3⟩ =>
  wpAny_BinOp (binT (ta := fun σ H Q => SA X.K G H O ∧ EnvR X.K G σ ρ ∧ ∀ v G' H', Ext G G' → SA X.K G' H' O → Is X.K G' da v → Q v H') (ha G)
    (tb := fun σ H Q => ∃ G1 v0, SA X.K G1 H O ∧ EnvR X.K G1 σ ρ ∧ ∀ v G' H', Ext G1 G' → SA X.K G' H' O → Is X.K G' db v → Q v H') (fun pins s σ H Q I ⟨G1, _, q⟩ => hb G1 pins s σ H Q I q) I
    (R := fun x y H2 => ∃ G2, Ext G G2 ∧ SA X.K G2 H2 O ∧ Is X.K G2 da x ∧ Is X.K G2 db y)
    ⟨h1, h2, fun v G1 H1 e1 s1 i1 => ⟨G1, (0 : Nat), s1, h2.ext e1, fun u G2 H2 e2 s2 i2 => ⟨G2, e1.trans e2, s2, i1.ext e2, i2⟩⟩⟩
    fun v u s2 x y H2 I2 rx ry ⟨G2, e2, s2', i1, i2⟩ => ho G2 pins s2 σ H2 x y v u Q I2 rx ry ⟨s2', i1, i2, fun w G3 H3 e3 s3 i3 => h3 w G3 H3 (e2.trans e3) s3 i3⟩)
theorem o_int {f : Value → Value → Sem Value} {g : Int → Int → Int} {i j : Int} (ho : OpR X f (rI0 fun i j => .int (g i j))) : Op2 X O f (.int i) (.int j) (.int (g i j)) :=
  .of ho fun G v u H Q s h1 h2 k => by cases h1; cases h2; exact ⟨i, j, rfl, rfl, k _ G H (Ext.refl _) s (.int _)⟩
theorem o_intC {f : Value → Value → Sem Value} {C : Int → Int → Prop} {g : Int → Int → Int} {i j : Int} (ho : OpR X f (rI C fun i j => .int (g i j))) (hc : C i j) : Op2 X O f (.int i) (.int j) (.int (g i j)) :=
  .of ho fun G v u H Q s h1 h2 k => by cases h1; cases h2; exact ⟨i, j, rfl, rfl, hc, k _ G H (Ext.refl _) s (.int _)⟩
theorem o_intB {f : Value → Value → Sem Value} {g : Int → Int → Bool} {i j : Int} (ho : OpR X f (rI0 fun i j => .bl (g i j))) : Op2 X O f (.int i) (.int j) (.bl (g i j)) :=
  .of ho fun G v u H Q s h1 h2 k => by cases h1; cases h2; exact ⟨i, j, rfl, rfl, k _ G H (Ext.refl _) s (.bl _)⟩
theorem o_add {i j : Int} : Op2 X O (binaryOp .Add) (.int i) (.int j) (.int (i + j)) := o_int op_add
theorem o_sub {i j : Int} : Op2 X O (binaryOp .Sub) (.int i) (.int j) (.int (i - j)) := o_int op_sub
theorem op_mulG : OpR X (binaryOp .Mult) (rI IntMulOk fun i j => .int (i * j)) := opI fun _ _ _ _ _ _ _ hc q => mul_int q hc
theorem o_mul {i j : Int} (h : IntMulOk i j) : Op2 X O (binaryOp .Mult) (.int i) (.int j) (.int (i * j)) := o_intC op_mulG h
theorem o_div {i j : Int} (h : CDiv i j) : Op2 X O (binaryOp .FloorDiv) (.int i) (.int j) (.int (i / j)) := o_intC op_fdiv h
theorem o_mod {i j : Int} (h : 0 < j) : Op2 X O (binaryOp .Mod) (.int i) (.int j) (.int (i % j)) := o_intC (C := fun _ j => 0 < j) op_mod h
theorem o_pow {i j : Int} (h : CPow i j) : Op2 X O (binaryOp .Pow) (.int i) (.int j) (.int (i ^ j.toNat)) := o_intC op_pow h
theorem cmp_lt {i j : Int} : Op2 X O (compareOp .Lt) (.int i) (.int j) (.bl (decide (i < j))) := o_intB op_lt
theorem cmp_le {i j : Int} : Op2 X O (compareOp .LtE) (.int i) (.int j) (.bl (decide (i ≤ j))) := o_intB op_le
theorem dec_V {i j : Int} : decide (V.int i = V.int j) = decide (i = j) := by
  by_cases h : i = j
  · subst h; rw [decide_eq_true rfl, decide_eq_true rfl]
  · rw [decide_eq_false h, decide_eq_false]; intro z; injection z with z; exact h z
theorem cmp_eqI {i j : Int} : Op2 X O (compareOp .Eq) (.int i) (.int j) (.bl (decide (i = j))) :=
  .of op_eq fun G v u H Q s h1 h2 k => by cases h1; cases h2; exact ⟨rfl, by rw [dec_V]; exact k _ G H (Ext.refl _) s (.bl _)⟩
theorem cmp_neI {i j : Int} : Op2 X O (compareOp .NotEq) (.int i) (.int j) (.bl (!decide (i = j))) :=
  .of op_ne fun G v u H Q s h1 h2 k => by cases h1; cases h2; exact ⟨rfl, by rw [dec_V]; exact k _ G H (Ext.refl _) s (.bl _)⟩
def isN : D → Bool
  | .non => true
  | _ => false
theorem isN_of {K : PySem.W.Frag} {G : Wd} {v : V} (h : Is K G d v) : decide (v = V.non) = isN d := by
  cases h <;> first | rfl | exact decide_eq_false (fun z => by cases z)
theorem cmp_is : Op2 X O (compareOp .Is) da .non (.bl (isN da)) :=
  .of op_isN fun G v u H Q s h1 h2 k => by cases h2; exact ⟨rfl, by rw [isN_of h1]; exact k _ G H (Ext.refl _) s (.bl _)⟩
theorem ev_cmp {op : CmpOp} (ha : EvP X ρ O a da) (hb : EvP X ρ O b db) (ho : Op2 X O (compareOp op) da db d) (hm : behindInMarks op b = false := by first | exact nomark _ | (with_unfolding_all rfl)) : EvP X ρ O (.Compare a [op] [b] pos) d := fun G pins s σ H Q I ⟨h1, h2, h3⟩ =>
  wpAny_Compare1 (binT (ta := fun σ H Q => SA X.K G H O ∧ EnvR X.K G σ ρ ∧ ∀ v G' H', Ext G G' → SA X.K G' H' O → Is X.K G' da v → Q v H') (ha G)
    (tb := fun σ H Q => ∃ G1 v0, SA X.K G1 H O ∧ EnvR X.K G1 σ ρ ∧ ∀ v G' H', Ext G1 G' → SA X.K G' H' O → Is X.K G' db v → Q v H') (fun pins s σ H Q I ⟨G1, _, q⟩ => hb G1 pins s σ H Q I q) I
    (R := fun x y H2 => ∃ G2, Ext G G2 ∧ SA X.K G2 H2 O ∧ Is X.K G2 da x ∧ Is X.K G2 db y)
    ⟨h1, h2, fun v G1 H1 e1 s1 i1 => ⟨G1, (0 : Nat), s1, h2.ext e1, fun u G2 H2 e2 s2 i2 => ⟨G2, e1.trans e2, s2, i1.ext e2, i2⟩⟩⟩
    fun v u s2 x y H2 I2 rx ry ⟨G2, e2, s2', i1, i2⟩ => ho G2 pins s2 σ H2 x y v u Q I2 rx ry ⟨s2', i1, i2, fun w G3 H3 e3 s3 i3 => h3 w G3 H3 (e2.trans e3) s3 i3⟩) hm
theorem et_cmp {op : CmpOp} {k : Bool} (ha : EvP X ρ O a da) (hb : EvP X ρ O b db) (ho : Op2 X O (compareOp op) da db (.bl k)) (hm : behindInMarks op b = false := by first | exact nomark _ | (with_unfolding_all rfl)) : EvT X ρ O (.Compare a [op] [b] pos) k := fun G pins s σ H Q I ⟨h1, h2, h3⟩ => by
  refine wpAny_isTrue_Compare1 (thn (ha G pins s σ H _ I ⟨h1, h2, fun v G1 H1 e1 s1 i1 => (⟨G1, e1, s1, i1⟩ : ∃ G1, Ext G G1 ∧ SA X.K G1 H1 O ∧ Is X.K G1 da v)⟩) fun v s1 ⟨x, H1, I1, r1, G1, e1, sa1, i1⟩ =>
    thn (hb G1 pins s1 σ H1 _ I1 ⟨sa1, h2.ext e1, fun u G2 H2 e2 s2 i2 => (⟨G2, e2, s2, i2⟩ : ∃ G2, Ext G1 G2 ∧ SA X.K G2 H2 O ∧ Is X.K G2 db u)⟩) fun u s2 ⟨y, H2, I2, r2, G2, e2, sa2, i2⟩ =>
    thn (ho G2 pins s2 σ H2 x y v u _ I2 r1 r2 ⟨sa2, i1.ext e2, i2, fun w G3 H3 e3 s3 i3 => (⟨G3, e3, s3, i3⟩ : ∃ G3, Ext G2 G3 ∧ SA X.K G3 H3 O ∧ Is X.K G3 (.bl k) w)⟩) fun c s3 ⟨z, H3, I3, r3, G3, e3, sa3, i3⟩ => ?_) hm
  cases i3
  cases r3
  exact wpAny_truthy_bool ⟨H3, I3, h3 G3 H3 ((e1.trans e2).trans e3) sa3⟩
theorem et_bl {k : Bool} (ha : EvP X ρ O a (.bl k)) (he : ∀ whole, isTrue a X.env whole = (do let v ← whole; standAt a.pos; holding [v] (truthy v)) := by intro _; rfl) : EvT X ρ O a k := fun G =>
  (pt_truth (ha G) he).imp fun σ H Q ⟨h1, h2, h3⟩ => ⟨h1, h2, fun v G' H' e1 s1 i1 => by cases i1; exact ⟨k, rfl, h3 G' H' e1 s1⟩⟩
theorem et_not {k : Bool} (ha : EvT X ρ O a k) : EvT X ρ O (.UnaryOp .Not a pos) (!k) := fun G =>
  (pt_not (ha G)).imp fun σ H Q ⟨h1, h2, h3⟩ => ⟨h1, h2, fun G' H' e1 s1 => h3 G' H' e1 s1⟩
theorem ew_and1 {k : Bool} (ha : EvT X ρ O a k) : EvW X ρ O (.BoolOp .And [a] pos) k := fun G => pw_and1 (ha G)
theorem ew_or1 {k : Bool} (ha : EvT X ρ O a k) : EvW X ρ O (.BoolOp .Or [a] pos) k := fun G => pw_or1 (ha G)
theorem ew_and {k l : Bool} {rest : List Expr} (ha : EvT X ρ O a k) (hb : k = true → EvW X ρ O (.BoolOp .And (b :: rest) pos) l) : EvW X ρ O (.BoolOp .And (a :: b :: rest) pos) (k && l) := fun G wh pins s σ H Q I ⟨h1, h2, h3⟩ => by
  refine isTrue_and (thn (ha G pins s σ H (fun c H1 => c = k ∧ ∃ G1, Ext G G1 ∧ SA X.K G1 H1 O) I ⟨h1, h2, fun G1 H1 e1 s1 => ⟨rfl, G1, e1, s1⟩⟩) ?_)
  rintro c s1 ⟨H1, I1, rfl, G1, e1, sa1⟩
  cases c with
  | false => exact ⟨H1, I1, h3 G1 H1 e1 sa1⟩
  | true => exact hb rfl G1 wh pins s1 σ H1 Q I1 ⟨sa1, h2.ext e1, fun G2 H2 e2 s2 => h3 G2 H2 (e1.trans e2) s2⟩
theorem ew_or {k l : Bool} {rest : List Expr} (ha : EvT X ρ O a k) (hb : k = false → EvW X ρ O (.BoolOp .Or (b :: rest) pos) l) : EvW X ρ O (.BoolOp .Or (a :: b :: rest) pos) (k || l) := fun G wh pins s σ H Q I ⟨h1, h2, h3⟩ => by
  refine isTrue_or (thn (ha G pins s σ H (fun c H1 => c = k ∧ ∃ G1, Ext G G1 ∧ SA X.K G1 H1 O) I ⟨h1, h2, fun G1 H1 e1 s1 => ⟨rfl, G1, e1, s1⟩⟩) ?_)
  rintro c s1 ⟨H1, I1, rfl, G1, e1, sa1⟩
  cases c with
  | true => exact ⟨H1, I1, h3 G1 H1 e1 sa1⟩
  | false => exact hb rfl G1 wh pins s1 σ H1 Q I1 ⟨sa1, h2.ext e1, fun G2 H2 e2 s2 => h3 G2 H2 (e1.trans e2) s2⟩
theorem ev_one {op : BoolOp} (ha : EvP X ρ O a d) : EvP X ρ O (.BoolOp op [a] pos) d := fun G => pe_one (ha G)
theorem ev_and {k l : Bool} {rest : List Expr} (ha : EvP X ρ O a (.bl k)) (hb : k = true → EvP X ρ O (.BoolOp .And (b :: rest) pos) (.bl l)) : EvP X ρ O (.BoolOp .And (a :: b :: rest) pos) (.bl (k && l)) := fun G pins s σ H Q I ⟨h1, h2, h3⟩ => by
  refine BoolOp_and (thn (ha G pins s σ H (fun v H1 => ∃ G1, Ext G G1 ∧ SA X.K G1 H1 O ∧ Is X.K G1 (.bl k) v) I ⟨h1, h2, fun v G1 H1 e1 s1 i1 => ⟨G1, e1, s1, i1⟩⟩) ?_)
  rintro v s1 ⟨x, H1, I1, r1, G1, e1, sa1, i1⟩
  cases i1
  cases r1
  refine wpAny_truthy_bool ?_
  cases k with
  | false => exact ⟨.bl false, H1, I1, rfl, h3 _ G1 H1 e1 sa1 (.bl _)⟩
  | true => exact hb rfl G1 pins s1 σ H1 Q I1 ⟨sa1, h2.ext e1, fun w G2 H2 e2 s2 i2 => h3 w G2 H2 (e1.trans e2) s2 i2⟩
theorem ev_not {k : Bool} (ha : EvP X ρ O a (.bl k)) : EvP X ρ O (.UnaryOp .Not a pos) (.bl (!k)) := fun G => (pe_not (ha G)).imp fun σ H Q ⟨h1, h2, h3⟩ => ⟨h1, h2, fun v G1 H1 e1 s1 i1 => by
  cases i1
  exact ⟨k, rfl, h3 _ G1 H1 e1 s1 (.bl _)⟩⟩
theorem ev_chain {op op' : CmpOp} {k l : Bool} {dc : D} (ha : EvP X ρ O a da) (hb : EvP X ρ O b db) (hc : EvP X ρ O c dc) (ho : Op2 X O (compareOp op) da db (.bl k)) (ho' : k = true → Op2 X O (compareOp op') db dc (.bl l))
    (hm : lastMarks [op, op'] [b, c] = false := by with_unfolding_all rfl) : EvP X ρ O (.Compare a [op, op'] [b, c] pos) (.bl (k && l)) := fun G pins s σ H Q I ⟨h1, h2, h3⟩ => by
  refine Compare_chain (thn (ha G pins s σ H (fun v H1 => ∃ G1, Ext G G1 ∧ SA X.K G1 H1 O ∧ Is X.K G1 da v) I ⟨h1, h2, fun v G1 H1 e1 s1 i1 => ⟨G1, e1, s1, i1⟩⟩) ?_) hm
  rintro v s1 ⟨x, H1, I1, r1, G1, e1, sa1, i1⟩
  refine chain_link (thn (hb G1 pins s1 σ H1 (fun v H2 => ∃ G2, Ext G1 G2 ∧ SA X.K G2 H2 O ∧ Is X.K G2 db v) I1 ⟨sa1, h2.ext e1, fun v G2 H2 e2 s2 i2 => ⟨G2, e2, s2, i2⟩⟩) ?_)
  rintro u s2 ⟨y, H2, I2, r2, G2, e2, sa2, i2⟩
  refine thn (ho G2 pins s2 σ H2 x y v u (fun w H3 => ∃ G3, Ext G2 G3 ∧ SA X.K G3 H3 O ∧ Is X.K G3 (.bl k) w) I2 r1 r2 ⟨sa2, i1.ext e2, i2, fun w G3 H3 e3 s3 i3 => ⟨G3, e3, s3, i3⟩⟩) ?_
  rintro w s3 ⟨z, H3, I3, r3, G3, e3, sa3, i3⟩
  cases i3
  cases r3
  refine wpAny_truthy_bool ?_
  cases k with
  | false => exact ite_ff ⟨.bl false, H3, I3, rfl, h3 _ G3 H3 ((e1.trans e2).trans e3) sa3 (.bl _)⟩
  | true =>
    refine ite_tt (chain_last (thn (hc G3 pins s3 σ H3 (fun v H4 => ∃ G4, Ext G3 G4 ∧ SA X.K G4 H4 O ∧ Is X.K G4 dc v) I3 ⟨sa3, h2.ext ((e1.trans e2).trans e3), fun v G4 H4 e4 s4 i4 => ⟨G4, e4, s4, i4⟩⟩) ?_))
    rintro q s4 ⟨z', H4, I4, r4, G4, e4, sa4, i4⟩
    exact ho' rfl G4 pins s4 σ H4 y z' u q Q I4 r2 r4 ⟨sa4, i2.ext (e3.trans e4), i4, fun w G5 H5 e5 s5 i5 => h3 w G5 H5 ((((e1.trans e2).trans e3).trans e4).trans e5) s5 i5⟩
theorem et_chain {op op' : CmpOp} {k l : Bool} {dc : D} (ha : EvP X ρ O a da) (hb : EvP X ρ O b db) (hc : EvP X ρ O c dc) (ho : Op2 X O (compareOp op) da db (.bl k)) (ho' : k = true → Op2 X O (compareOp op') db dc (.bl l))
    (hm : lastMarks [op, op'] [b, c] = false := by with_unfolding_all rfl) : EvT X ρ O (.Compare a [op, op'] [b, c] pos) (k && l) := fun G pins s σ H Q I ⟨h1, h2, h3⟩ => by
  refine isTrue_chain (thn (ha G pins s σ H (fun v H1 => ∃ G1, Ext G G1 ∧ SA X.K G1 H1 O ∧ Is X.K G1 da v) I ⟨h1, h2, fun v G1 H1 e1 s1 i1 => ⟨G1, e1, s1, i1⟩⟩) ?_) hm
  rintro v s1 ⟨x, H1, I1, r1, G1, e1, sa1, i1⟩
  refine test_link (thn (hb G1 pins s1 σ H1 (fun v H2 => ∃ G2, Ext G1 G2 ∧ SA X.K G2 H2 O ∧ Is X.K G2 db v) I1 ⟨sa1, h2.ext e1, fun v G2 H2 e2 s2 i2 => ⟨G2, e2, s2, i2⟩⟩) ?_)
  rintro u s2 ⟨y, H2, I2, r2, G2, e2, sa2, i2⟩
  refine thn (ho G2 pins s2 σ H2 x y v u (fun w H3 => ∃ G3, Ext G2 G3 ∧ SA X.K G3 H3 O ∧ Is X.K G3 (.bl k) w) I2 r1 r2 ⟨sa2, i1.ext e2, i2, fun w G3 H3 e3 s3 i3 => ⟨G3, e3, s3, i3⟩⟩) ?_
  rintro w s3 ⟨z, H3, I3, r3, G3, e3, sa3, i3⟩
  cases i3
  cases r3
  refine wpAny_truthy_bool ?_
  cases k with
  | false => exact ite_ff ⟨H3, I3, h3 G3 H3 ((e1.trans e2).trans e3) sa3⟩
  | true =>
    refine ite_tt (test_last (thn (hc G3 pins s3 σ H3 (fun v H4 => ∃ G4, Ext G3 G4 ∧ SA X.K G4 H4 O ∧ Is X.K G4 dc v) I3 ⟨sa3, h2.ext ((e1.trans e2).trans e3), fun v G4 H4 e4 s4 i4 => ⟨G4, e4, s4, i4⟩⟩) ?_))
    rintro q s4 ⟨z', H4, I4, r4, G4, e4, sa4, i4⟩
    refine thn (ho' rfl G4 pins s4 σ H4 y z' u q (fun w H5 => ∃ G5, Ext G4 G5 ∧ SA X.K G5 H5 O ∧ Is X.K G5 (.bl l) w) I4 r2 r4 ⟨sa4, i2.ext (e3.trans e4), i4, fun w G5 H5 e5 s5 i5 => ⟨G5, e5, s5, i5⟩⟩) ?_
    rintro q' s5 ⟨z2, H5, I5, r5, G5, e5, sa5, i5⟩
    cases i5
    cases r5
    exact wpAny_truthy_bool ⟨H5, I5, h3 G5 H5 ((((e1.trans e2).trans e3).trans e4).trans e5) sa5⟩
end
end DL
set_option Elab.async false
set_option linter.all false
set_option maxRecDepth 100000
namespace DL
open PySem PySem.Spec PyProof.Rows L2
def LV (O : Sto) (d : D) (xs : List D) : Prop := d = .lst xs ∨ d = .scr xs ∨ ∃ n, d = .ptr n ∧ O[n]? = some (some (.lst xs))
def LT (O : Sto) (d : D) (xs : List D) : Prop := LV O d xs ∨ d = .tup xs
theorem LV.sq {K : PySem.W.Frag} {G : Wd} {H : Hp} {O : Sto} {d : D} {xs : List D} {v : V} (h : LV O d xs) (s : SA K G H O) (i : Is K G d v) : ∃ a vs, v = .ref a ∧ SqL K H a vs ∧ Iss K G xs vs := by
  rcases h with rfl | rfl | ⟨p, rfl, h⟩
  · cases i with | lst h r => exact ⟨_, _, rfl, SqL.of (s.sub _ _ h), r⟩
  · cases i with | scr h r => exact ⟨_, _, rfl, s.sub.seq h, r⟩
  · cases i with
    | ptr _ q =>
      obtain ⟨a, e, _, vs, h1, h2⟩ := s.mt p _ h
      obtain rfl := Option.some.inj (q.symm.trans e)
      exact ⟨_, vs, rfl, SqL.of h1, h2⟩
theorem tup_sq {K : PySem.W.Frag} {G : Wd} {H : Hp} {O : Sto} {xs : List D} {v : V} (s : SA K G H O) (i : Is K G (.tup xs) v) : ∃ a vs, v = .ref a ∧ SqT K H a vs ∧ Iss K G xs vs := by
  cases i with | tup h r => exact ⟨_, _, rfl, sqT_same s.sub h, r⟩
def EvPs (X : Cx) (ρ : Rho) (O : Sto) (es : List Expr) (ds : List D) : Prop :=
  ∀ G, PA X es (fun σ H Q => SA X.K G H O ∧ EnvR X.K G σ ρ ∧ ∀ vs G' H', Ext G G' → SA X.K G' H' O → Iss X.K G' ds vs → Q vs H')
section
variable {X : Cx} {ρ : Rho} {O : Sto} {e a b c : Expr} {es : List Expr} {d da db : D} {ds : List D} {R : D → Sto → Prop} {pos p : Pos} {x : Str}
theorem es_nil : EvPs X ρ O [] [] := fun G => PA.imp pa_nil fun σ H Q ⟨h1, h2, h3⟩ => h3 _ G H (Ext.refl _) h1 .nil
theorem es_cons (he : EvP X ρ O e d) (hs : EvPs X ρ O es ds) (hst : starEach (e :: es) X.env = (false, eval e X.env) :: starEach es X.env := by rfl) : EvPs X ρ O (e :: es) (d :: ds) := fun G =>
  PA.imp (pa_cons (he G) (t := fun σ H Q => ∃ G1, SA X.K G1 H O ∧ EnvR X.K G1 σ ρ ∧ ∀ vs G' H', Ext G1 G' → SA X.K G' H' O → Iss X.K G' ds vs → Q vs H') (fun pos pins s σ H Q I ⟨G1, q⟩ => hs G1 pos pins s σ H Q I q) hst)
    fun σ H Q ⟨h1, h2, h3⟩ => ⟨h1, h2, fun v G1 H1 e1 s1 i1 => ⟨G1, s1, h2.ext e1, fun vs G2 H2 e2 s2 i2 => h3 _ G2 H2 (e1.trans e2) s2 (.cons (i1.ext e2) i2)⟩⟩
theorem EvPs.as {R : List D → Sto → Prop} (h : EvPs X ρ O es ds) (r : R ds O) : EvAs X ρ O es R := fun G => PA.imp (h G) fun σ H Q ⟨h1, h2, h3⟩ => ⟨h1, h2, fun vs G' H' e1 s1 i1 => h3 vs ds O G' H' e1 s1 i1 r⟩
theorem ev_tup {x1 : Nat} (h : EvPs X ρ O es ds) (hz : ds.length ≤ sizeLine := by exact Nat.le_of_ble_eq_true rfl) : EvP X ρ O (.Tuple es x1 pos) (.tup ds) := fun G =>
  PE.imp (pe_tup (h G)) fun σ H Q ⟨h1, h2, h3⟩ => ⟨h1, h2, fun vs G1 H1 e1 s1 i1 => ⟨by rw [← i1.length]; exact hz, fun p hp => by
    obtain ⟨e2, s2⟩ := s1.laid (o := .tup vs) hp
    exact h3 _ _ _ (e1.trans e2) s2 (.tup (SqT.of upd_same) (i1.ext e2))⟩⟩
theorem ev_lst (h : EvPs X ρ O es ds) (hz : ds.length ≤ sizeLine := by exact Nat.le_of_ble_eq_true rfl) : EvP X ρ O (.List es pos) (.lst ds) := fun G =>
  PE.imp (pe_lst (h G)) fun σ H Q ⟨h1, h2, h3⟩ => ⟨h1, h2, fun vs G1 H1 e1 s1 i1 => ⟨by rw [← i1.length]; exact hz, fun p hp => by
    obtain ⟨e2, s2⟩ := s1.laid (o := .lst vs) hp
    exact h3 _ _ _ (e1.trans e2) s2 (.lst upd_same (i1.ext e2))⟩⟩
theorem ixN_len {xs : List D} {vs : List V} {K : PySem.W.Frag} {G : Wd} {i : Int} (r : Iss K G xs vs) (h : atI xs i = some d) : ∃ v, atI vs i = some v ∧ Is K G d v := by
  unfold atI at h ⊢
  rw [← r.length]
  cases q : ixN xs.length i with
  | none => rw [q] at h; cases h
  | some j =>
    rw [q] at h
    exact r.get h
theorem ev_ixL {xs : List D} {i : Int} (ha : EvP X ρ O a da) (hl : LV O da xs) (hb : EvP X ρ O b (.int i)) (hi : atI xs i = some d) (hs : PlainIx b := by intro _ _; rfl) : EvP X ρ O (.Subscript a b pos) d := fun G pins s σ H Q I ⟨h1, h2, h3⟩ =>
  Subscript_ (binT (ta := fun σ H Q => SA X.K G H O ∧ EnvR X.K G σ ρ ∧ ∀ v G' H', Ext G G' → SA X.K G' H' O → Is X.K G' da v → Q v H') (ha G)
    (tb := fun σ H Q => ∃ G1, SA X.K G1 H O ∧ EnvR X.K G1 σ ρ ∧ ∀ v G' H', Ext G1 G' → SA X.K G' H' O → Is X.K G' (.int i) v → Q v H') (fun pins s σ H Q I ⟨G1, q⟩ => hb G1 pins s σ H Q I q) I
    (R := fun x y H2 => ∃ G2, Ext G G2 ∧ SA X.K G2 H2 O ∧ Is X.K G2 da x ∧ Is X.K G2 (.int i) y)
    ⟨h1, h2, fun v G1 H1 e1 s1 i1 => ⟨G1, s1, h2.ext e1, fun u G2 H2 e2 s2 i2 => ⟨G2, e1.trans e2, s2, i1.ext e2, i2⟩⟩⟩
    fun v u s2 x y H2 I2 rx ry ⟨G2, e2, s2', i1, i2⟩ => by
      obtain ⟨p, vs, rfl, q, r⟩ := hl.sq s2' i1
      cases i2
      obtain ⟨w, hw, iw⟩ := ixN_len r hi
      exact ix_list a b pins s2 σ H2 _ _ v u Q I2 rx ry ⟨p, vs, i, w, rfl, rfl, q, hw, h3 w G2 H2 e2 s2' iw⟩ (hs _ _))
theorem ev_ixT {xs : List D} {i : Int} (ha : EvP X ρ O a (.tup xs)) (hb : EvP X ρ O b (.int i)) (hi : atI xs i = some d) (hs : PlainIx b := by intro _ _; rfl) : EvP X ρ O (.Subscript a b pos) d := fun G pins s σ H Q I ⟨h1, h2, h3⟩ =>
  Subscript_ (binT (ta := fun σ H Q => SA X.K G H O ∧ EnvR X.K G σ ρ ∧ ∀ v G' H', Ext G G' → SA X.K G' H' O → Is X.K G' (.tup xs) v → Q v H') (ha G)
    (tb := fun σ H Q => ∃ G1, SA X.K G1 H O ∧ EnvR X.K G1 σ ρ ∧ ∀ v G' H', Ext G1 G' → SA X.K G' H' O → Is X.K G' (.int i) v → Q v H') (fun pins s σ H Q I ⟨G1, q⟩ => hb G1 pins s σ H Q I q) I
    (R := fun x y H2 => ∃ G2, Ext G G2 ∧ SA X.K G2 H2 O ∧ Is X.K G2 (.tup xs) x ∧ Is X.K G2 (.int i) y)
    ⟨h1, h2, fun v G1 H1 e1 s1 i1 => ⟨G1, s1, h2.ext e1, fun u G2 H2 e2 s2 i2 => ⟨G2, e1.trans e2, s2, i1.ext e2, i2⟩⟩⟩
    fun v u s2 x y H2 I2 rx ry ⟨G2, e2, s2', i1, i2⟩ => by
      obtain ⟨p, vs, rfl, q, r⟩ := tup_sq s2' i1
      cases i2
      obtain ⟨w, hw, iw⟩ := ixN_len r hi
      exact ix_tup a b pins s2 σ H2 _ _ v u Q I2 rx ry ⟨p, vs, i, w, rfl, rfl, q, hw, h3 w G2 H2 e2 s2' iw⟩ (hs _ _))
def sliceD (xs : List D) (lo hi : Option Int) : List D := (xs.drop (HT.sIx xs.length 0 lo)).take (HT.sIx xs.length xs.length hi - HT.sIx xs.length 0 lo)
def EvO (X : Cx) (ρ : Rho) (O : Sto) (e : Option Expr) (i : Option Int) : Prop :=
  ∀ G, PO X e (fun σ H Q => SA X.K G H O ∧ EnvR X.K G σ ρ ∧ ∀ G' H', Ext G G' → SA X.K G' H' O → Q i H')
def CallD (X : Cx) (O : Sto) (f : Value) (ds : List D) (d : D) : Prop :=
  ∀ G, CallR X f (fun vs H Q => SA X.K G H O ∧ Iss X.K G ds vs ∧ ∀ w G' H', Ext G G' → SA X.K G' H' O → Is X.K G' d w → Q w H')
theorem CallD.of {f : Value} {r : List V → Hp → VK → Prop} (ho : CallR X f r)
    (k : ∀ G vs H Q, SA X.K G H O → Iss X.K G ds vs → (∀ w G' H', Ext G G' → SA X.K G' H' O → Is X.K G' d w → Q w H') → r vs H Q) : CallD X O f ds d :=
  fun G pins s σ H xs us Q I r ⟨h1, h2, h3⟩ => ho pins s σ H xs us Q I r (k G _ _ _ h1 h2 h3)
theorem ev_callB {id : String} (hm : X.mg x = none) (ha : EvPs X ρ O (e :: es) ds) (hc : CallD X O (.builtin id) ds d) (hg : Gl X x := by rfl) (hv : bootBuiltins x = some (.builtin id) := by first | rfl | decide +kernel) (hn : x ≠ "__name__" := by decide) (hdb : (x == ("__debug__" : Str)) = false := by decide)
    (he : starEach (e :: es) X.env = (false, eval e X.env) :: starEach es X.env := by rfl) (hpl : (backTo pos (starEach es X.env)).any (·.1) = false := by rfl) : EvP X ρ O (.Call (.Name x p) (e :: es) [] pos) d := fun G =>
  PE.imp (pe_callB (r := fun vs H Q => ∃ G1, SA X.K G1 H O ∧ Iss X.K G1 ds vs ∧ ∀ w G' H', Ext G1 G' → SA X.K G' H' O → Is X.K G' d w → Q w H') (fun pins s σ H xs us Q I r ⟨G1, q⟩ => hc G1 pins s σ H xs us Q I r q) hg hm hv (ha G) hn hdb he hpl)
    fun σ H Q ⟨h1, h2, h3⟩ => ⟨h1, h2, fun vs G1 H1 e1 s1 i1 => ⟨G1, s1, i1, fun w G2 H2 e2 s2 i2 => h3 w G2 H2 (e1.trans e2) s2 i2⟩⟩
theorem ev_callTy {T : String} (hm : X.mg x = none) (ha : EvPs X ρ O (e :: es) ds) (hc : CallD X O (.type T) ds d) (hg : Gl X x := by rfl) (hv : bootBuiltins x = some (.type T) := by first | rfl | decide +kernel) (hn : x ≠ "__name__" := by decide) (hdb : (x == ("__debug__" : Str)) = false := by decide)
    (he : starEach (e :: es) X.env = (false, eval e X.env) :: starEach es X.env := by rfl) (hpl : (backTo pos (starEach es X.env)).any (·.1) = false := by rfl) : EvP X ρ O (.Call (.Name x p) (e :: es) [] pos) d := fun G =>
  PE.imp (pe_callTy (r := fun vs H Q => ∃ G1, SA X.K G1 H O ∧ Iss X.K G1 ds vs ∧ ∀ w G' H', Ext G1 G' → SA X.K G' H' O → Is X.K G' d w → Q w H') (fun pins s σ H xs us Q I r ⟨G1, q⟩ => hc G1 pins s σ H xs us Q I r q) hg hm hv (ha G) hn hdb he hpl)
    fun σ H Q ⟨h1, h2, h3⟩ => ⟨h1, h2, fun vs G1 H1 e1 s1 i1 => ⟨G1, s1, i1, fun w G2 H2 e2 s2 i2 => h3 w G2 H2 (e1.trans e2) s2 i2⟩⟩
theorem c_len {xs : List D} (h : LT O d xs) : CallD X O (.builtin "len") [d] (.int xs.length) := .of call_len_seq fun G vs H Q s i k => by
  cases i with
  | cons i r =>
    cases r
    rcases h with h | rfl
    · obtain ⟨p, vs, rfl, q, r⟩ := h.sq s i
      exact ⟨p, vs, rfl, .inl q, by rw [← r.length]; exact k _ G H (Ext.refl _) s (.int _)⟩
    · obtain ⟨p, vs, rfl, q, r⟩ := tup_sq s i
      exact ⟨p, vs, rfl, .inr q, by rw [← r.length]; exact k _ G H (Ext.refl _) s (.int _)⟩
theorem c_min {i j : Int} (hc : X.calm = true := by rfl) : CallD X O (.builtin "min") [.int i, .int j] (.int (if j < i then j else i)) := .of (call_min2 hc) fun G vs H Q s h k => by
  cases h with | cons h r => cases r with | cons h' r => cases r; cases h; cases h'; exact ⟨i, j, rfl, k _ G H (Ext.refl _) s (.int _)⟩
theorem c_intB {b : Bool} : CallD X O (.type "int") [.bl b] (.int (if b then 1 else 0)) := .of call_int1 fun G vs H Q s h k => by
  cases h with | cons h r => cases r; cases h; exact .inr ⟨b, rfl, k _ G H (Ext.refl _) s (.int _)⟩
abbrev SpD := List D → Sto → (D → Sto → Prop) → Prop
def toSp (K : PySem.W.Frag) (sp : SpD) : Sp := fun vs H Q _ => ∃ G O ds R, SA K G H O ∧ Iss K G ds vs ∧ sp ds O R ∧ ∀ v d O' G' H', Ext G G' → SA K G' H' O' → Is K G' d v → R d O' → Q v H'
structure DefOk (P : Program) (w : World) (K : PySem.W.Frag) (mg : Str → Option Value) (base : Heap) (k : Nat) (x : Str) (sp : SpD) : Prop where
  ex : ∃ f fd ps, FnOk P w K mg base CX0 k f fd ps (toSp K sp) ∧ mg x = some (.ref f) ∧ PySem.W.keepIn K (.ref f) = true ∧ Binds K fd ps []
theorem ev_callA {k : Nat} {sp : SpD} (F : DefOk X.prog X.w X.K X.mg X.base k x sp) (hr : Room k X.A) (ha : EvAs X ρ O (e :: es) fun ds O1 => sp ds O1 R) (hg : Gl X x := by rfl) (hdb : (x == ("__debug__" : Str)) = false := by decide)
    (he : starEach (e :: es) X.env = (false, eval e X.env) :: starEach es X.env := by rfl) (hpl : (backTo pos (starEach es X.env)).any (·.1) = false := by rfl) : Ev X ρ O (.Call (.Name x p) (e :: es) [] pos) R := fun G => by
  obtain ⟨f, fd, ps, h1, h2, h3, h4⟩ := F.ex
  refine PE.imp (pe_call h1 hr hg h2 h3 h4 .nil pass0 (ha G) hdb he hpl) fun σ H Q ⟨q1, q2, q3⟩ => ⟨q1, q2, fun vs ds O1 G1 H1 e1 s1 i1 r1 => ?_⟩
  show toSp X.K sp (vs ++ []) H1 Q E0
  rw [List.append_nil]
  exact ⟨G1, O1, ds, R, s1, i1, r1, fun v d O' G' H' e2 s2 i2 r2 => q3 v d O' G' H' (e1.trans e2) s2 i2 r2⟩
theorem ev_call {k : Nat} {sp : SpD} (F : DefOk X.prog X.w X.K X.mg X.base k x sp) (hr : Room k X.A) (ha : EvPs X ρ O (e :: es) ds) (hs : sp ds O R) (hg : Gl X x := by rfl) (hdb : (x == ("__debug__" : Str)) = false := by decide)
    (he : starEach (e :: es) X.env = (false, eval e X.env) :: starEach es X.env := by rfl) (hpl : (backTo pos (starEach es X.env)).any (·.1) = false := by rfl) : Ev X ρ O (.Call (.Name x p) (e :: es) [] pos) R :=
  ev_callA F hr (ha.as hs) hg hdb he hpl
def pureSp (f : List D → D → Prop) : SpD := fun ds O R => ∃ d, f ds d ∧ R d O
theorem ev_callP {k : Nat} {f : List D → D → Prop} (F : DefOk X.prog X.w X.K X.mg X.base k x (pureSp f)) (hr : Room k X.A) (ha : EvPs X ρ O (e :: es) ds) (hs : f ds d) (hg : Gl X x := by rfl) (hdb : (x == ("__debug__" : Str)) = false := by decide)
    (he : starEach (e :: es) X.env = (false, eval e X.env) :: starEach es X.env := by rfl) (hpl : (backTo pos (starEach es X.env)).any (·.1) = false := by rfl) : EvP X ρ O (.Call (.Name x p) (e :: es) [] pos) d :=
  (ev_call F hr ha ⟨d, hs, rfl, rfl⟩ hg hdb he hpl).evp
end
structure Post where
  nx : Rho → Sto → Prop
  rt : D → Sto → Prop
  bk : Rho → Sto → Prop := fun _ _ => False
  ct : Rho → Sto → Prop := fun _ _ => False
def Goes (K : PySem.W.Frag) (G : Wd) (N : Rho → Sto → Prop) (n : L2.St → Hp → Prop) : Prop := ∀ σ ρ O G' H, Ext G G' → SA K G' H O → EnvR K G' σ ρ → N ρ O → n σ H
structure Conts (K : PySem.W.Frag) (G : Wd) (P : Post) (E : Ends) : Prop where
  nx : Goes K G P.nx E.nx
  rt : ∀ v d O G' H, Ext G G' → SA K G' H O → Is K G' d v → P.rt d O → E.rt v H
  bk : Goes K G P.bk E.bk
  ct : Goes K G P.ct E.ct
theorem Goes.ext {K : PySem.W.Frag} {G G' : Wd} {N : Rho → Sto → Prop} {n : L2.St → Hp → Prop} (h : Goes K G N n) (e : Ext G G') : Goes K G' N n := fun σ ρ O G2 H e2 => h σ ρ O G2 H (e.trans e2)
theorem Conts.ext {K : PySem.W.Frag} {G G' : Wd} {P : Post} {E : Ends} (h : Conts K G P E) (e : Ext G G') : Conts K G' P E := ⟨h.nx.ext e, fun v d O G2 H e2 => h.rt v d O G2 H (e.trans e2), h.bk.ext e, h.ct.ext e⟩
def Ex (X : Cx) (ρ : Rho) (O : Sto) (st : Stmt) (P : Post) : Prop := ∀ G, PS X st (fun E σ H => SA X.K G H O ∧ EnvR X.K G σ ρ ∧ Conts X.K G P E)
def Exs (X : Cx) (ρ : Rho) (O : Sto) (st : List Stmt) (P : Post) : Prop := ∀ G, PSs X st (fun E σ H => SA X.K G H O ∧ EnvR X.K G σ ρ ∧ Conts X.K G P E)
section
variable {X : Cx} {ρ : Rho} {O : Sto} {e a b c : Expr} {es : List Expr} {d da db : D} {ds : List D} {R : D → Sto → Prop} {pos p : Pos} {x : Str} {st : Stmt} {rest body orelse : List Stmt} {P : Post}
theorem xs_nil (h : P.nx ρ O) : Exs X ρ O [] P := fun G => PSs.imp pss_nil fun E σ H ⟨h1, h2, h3⟩ => h3.nx σ ρ O G H (Ext.refl _) h1 h2 h
theorem xs_cons (h : Ex X ρ O st { P with nx := fun ρ' O' => Exs X ρ' O' rest P }) : Exs X ρ O (st :: rest) P := fun G =>
  PSs.imp (pss_cons (h G) (u := fun E σ H => ∃ G1 ρ1 O1, SA X.K G1 H O1 ∧ EnvR X.K G1 σ ρ1 ∧ Exs X ρ1 O1 rest P ∧ Conts X.K G1 P E) (fun pins s σ H E I ⟨G1, ρ1, O1, q1, q2, q3, q4⟩ => q3 G1 pins s σ H E I ⟨q1, q2, q4⟩)) fun E σ H ⟨h1, h2, h3⟩ =>
    ⟨h1, h2, ⟨fun σ1 ρ1 O1 G1 H1 e1 s1 n1 q1 => ⟨G1, ρ1, O1, s1, n1, q1, h3.ext e1⟩, h3.rt, h3.bk, h3.ct⟩⟩
theorem x_ret (h : Ev X ρ O e P.rt) : Ex X ρ O (.Return (some e) pos) P := fun G => PS.imp (ps_ret (h G)) fun E σ H ⟨h1, h2, h3⟩ => ⟨h1, h2, fun v d O' G' H' e1 s1 i1 r1 => h3.rt v d O' G' H' e1 s1 i1 r1⟩
theorem x_if {k : Bool} (hc : EvT X ρ O c k) (h1 : k = true → Exs X ρ O body P) (h2 : k = false → Exs X ρ O orelse P) : Ex X ρ O (.If c body orelse pos) P := fun G =>
  PS.imp (ps_if (hc G) (t := fun E σ H => ∃ G1, k = true ∧ SA X.K G1 H O ∧ EnvR X.K G1 σ ρ ∧ Conts X.K G1 P E) (fun pins s σ H E I ⟨G1, z, q⟩ => h1 z G1 pins s σ H E I q)
    (u := fun E σ H => ∃ G1, k = false ∧ SA X.K G1 H O ∧ EnvR X.K G1 σ ρ ∧ Conts X.K G1 P E) (fun pins s σ H E I ⟨G1, z, q⟩ => h2 z G1 pins s σ H E I q)) fun E σ H ⟨q1, q2, q3⟩ =>
    ⟨q1, q2, fun G' H' e1 s1 => by
      cases k with
      | true => exact iteT ⟨G', rfl, s1, q2.ext e1, q3.ext e1⟩
      | false => exact iteF ⟨G', rfl, s1, q2.ext e1, q3.ext e1⟩⟩
def Tg (X : Cx) (tg : Expr) (d : D) (ρ ρ' : Rho) : Prop := ∀ G, PG X tg (fun v σ H Q => Is X.K G d v ∧ Same G.g H ∧ EnvR X.K G σ ρ ∧ ∀ σ', EnvR X.K G σ' ρ' → Q σ' H)
def Tgs (X : Cx) (tg : List Expr) (ds : List D) (ρ ρ' : Rho) : Prop := ∀ G, PGs X tg (fun vs σ H Q => Iss X.K G ds vs ∧ Same G.g H ∧ EnvR X.K G σ ρ ∧ ∀ σ', EnvR X.K G σ' ρ' → Q σ' H)
theorem tg_name (i : Nat) (hN : X.N.Nodup) (hi : X.N[i]? = some x := by rfl) (hx : Loc X.env.scope x := by first | exact Or.inl rfl | exact Or.inr rfl) (hf : X.fn x = true ∨ X.env.scope.names.lookup x = some .local := by first | exact .inl rfl | exact .inr rfl | assumption) : Tg X (.Name x pos) d ρ (ρ.set i (some d)) := fun G pins s σ H v u Q I r ⟨h1, h2, h3, h4⟩ =>
  pg_name hN hi hx hf pins s σ H v u Q I r (h4 _ (h3.set i h1))
theorem x_set (i : Nat) (he : Ev X ρ O e fun d O' => P.nx (ρ.set i (some d)) O') (hN : X.N.Nodup) (hi : X.N[i]? = some x := by rfl) (hx : Loc X.env.scope x := by first | exact Or.inl rfl | exact Or.inr rfl) {p : Pos}
    (hs : swapsWith e (some (.Name x p)) pos.line X.env = pure false := by rfl) (hf : X.fn x = true ∨ X.env.scope.names.lookup x = some .local := by first | exact .inl rfl | exact .inr rfl | assumption) : Ex X ρ O (.Assign [.Name x p] e pos) P := fun G =>
  PS.imp (ps_set hN hi hx (he G) hs hf) fun E σ H ⟨h1, h2, h3⟩ => ⟨h1, h2, fun v d O' G' H' e1 s1 i1 r1 => h3.nx _ _ O' G' H' e1 s1 ((h2.ext e1).set i i1) r1⟩
structure Yields (K : PySem.W.Frag) (G : Wd) (J : It) (xs : List D) : Prop where
  go : ∀ i H, Same G.g H → i < xs.length → J.go i H
  stop : ∀ i H, Same G.g H → xs.length ≤ i → J.stop i H
  yld : ∀ i v H H' G2 O2, Ext G G2 → SA K G2 H O2 → J.yld i H v H' → i < xs.length → ∃ x G3, xs[i]? = some x ∧ Ext G2 G3 ∧ SA K G3 H' O2 ∧ Is K G3 x v
def EvI (X : Cx) (ρ : Rho) (O : Sto) (tg iter : Expr) (xs : List D) : Prop :=
  ∀ G, PI X tg iter (fun σ H R => SA X.K G H O ∧ EnvR X.K G σ ρ ∧ ∀ J G' H', Ext G G' → SA X.K G' H' O → Yields X.K G' J xs → R J H')
theorem _root_.L2.PI.imp {X : Cx} {tg iter : Expr} {t u : TI} (h : PI X tg iter t) (k : ∀ σ H R, u σ H R → t σ H R) : PI X tg iter u := fun pins s σ H R I q => h pins s σ H R I (k _ _ _ q)
def rangeD (lo : Int) (n : Nat) : List D := (List.range n).map fun i => .int (lo + (i : Nat))
theorem x_for {tg iter : Expr} {body : List Stmt} {xs : List D} (hi : EvI X ρ O tg iter xs) (inv : Nat → Rho → Sto → Prop) (h0 : inv 0 ρ O)
    (hs : ∀ i x ρ' O', xs[i]? = some x → inv i ρ' O' → ∃ ρ1, Tg X tg x ρ' ρ1 ∧ Exs X ρ1 O' body { P with nx := inv (i + 1), ct := inv (i + 1), bk := P.nx }) (hd : ∀ ρ' O', inv xs.length ρ' O' → P.nx ρ' O')
    (hp : PassesOwn (model X.prog X.w) X.A X.env X.xe := by exact PassesOwn.never) (hc : X.calm = true := by rfl) (hf : ∀ x, foldedSetIterable iter X.env x = pure x := by intro _; rfl) : Ex X ρ O (.For tg iter body [] pos) P := fun G =>
  PS.imp (ps_for hp hc (hi G) (g := fun v σ H Q => ∃ G1 ρ1 ρ2 x, Tg X tg x ρ1 ρ2 ∧ Is X.K G1 x v ∧ Same G1.g H ∧ EnvR X.K G1 σ ρ1 ∧ ∀ σ', EnvR X.K G1 σ' ρ2 → Q σ' H) (fun pins s σ H v u Q I r ⟨G1, ρ1, ρ2, x, q, q'⟩ => q G1 pins s σ H v u Q I r q')
    (tb := fun E σ H => ∃ G1 ρ1 O1 P1, SA X.K G1 H O1 ∧ EnvR X.K G1 σ ρ1 ∧ Exs X ρ1 O1 body P1 ∧ Conts X.K G1 P1 E) (fun pins s σ H E I ⟨G1, ρ1, O1, P1, q1, q2, q3, q4⟩ => q3 G1 pins s σ H E I ⟨q1, q2, q4⟩) hf) fun E σ H ⟨q1, q2, q3⟩ => by
    refine ⟨q1, q2, fun J G1 H1 e1 s1 Y => ?_⟩
    refine ⟨fun i m σ H => ∃ G2 ρ2 O2, Ext G1 G2 ∧ SA X.K G2 H O2 ∧ EnvR X.K G2 σ ρ2 ∧ inv i ρ2 O2 ∧ i ≤ xs.length ∧ m = xs.length - i, ⟨_, G1, ρ, O, Ext.refl _, s1, q2.ext e1, h0, Nat.zero_le _, rfl⟩, ?_⟩
    rintro i m σ2 H2 ⟨G2, ρ2, O2, e2, s2, n2, v2, l2, rfl⟩
    by_cases hlt : i < xs.length
    · refine .inr ⟨Y.go i H2 (e2.g.trans s2.sub) hlt, fun σ' H' => ∃ G3 ρ3 O3, Ext G1 G3 ∧ SA X.K G3 H' O3 ∧ EnvR X.K G3 σ' ρ3 ∧ inv (i + 1) ρ3 O3, fun σ' H' ⟨G3, ρ3, O3, e3, s3, n3, v3⟩ => ⟨xs.length - (i + 1), by omega, G3, ρ3, O3, e3, s3, n3, v3, hlt, rfl⟩, fun v H3 y => ?_⟩
      obtain ⟨x, G3, hx, e3, s3, i3⟩ := Y.yld i v H2 H3 G2 O2 e2 s2 y hlt
      obtain ⟨ρ3, t3, b3⟩ := hs i x ρ2 O2 hx v2
      have e13 : Ext G1 G3 := e2.trans e3
      refine ⟨G3, ρ2, ρ3, x, t3, i3, s3.sub, n2.ext e3, fun σ' n' => ⟨G3, ρ3, O2, _, s3, n', b3, ⟨fun σ4 ρ4 O4 G4 H4 e4 s4 n4 q => ⟨G4, ρ4, O4, e13.trans e4, s4, n4, q⟩, fun v d O4 G4 H4 e4 s4 i4 r => q3.rt v d O4 G4 H4 (e1.trans (e13.trans e4)) s4 i4 r,
        fun σ4 ρ4 O4 G4 H4 e4 s4 n4 q => q3.nx σ4 ρ4 O4 G4 H4 (e1.trans (e13.trans e4)) s4 n4 q, fun σ4 ρ4 O4 G4 H4 e4 s4 n4 q => ⟨G4, ρ4, O4, e13.trans e4, s4, n4, q⟩⟩⟩⟩
    · have ei : i = xs.length := by omega
      subst ei
      exact .inl ⟨Y.stop _ H2 (e2.g.trans s2.sub) (Nat.le_refl _), q3.nx σ2 ρ2 O2 G2 H2 (e1.trans e2) s2 n2 (hd _ _ v2)⟩
end
def startD (N : List Str) (ds : List D) : Rho := ds.map some ++ List.replicate (N.length - ds.length) none
section
variable {P : Program} {w : World} {K : PySem.W.Frag} {mg : Str → Option Value} {base : Heap}
theorem start_env {G : Wd} {N : List Str} {ds : List D} {vs : List V} (r : Iss K G ds vs) : EnvR K G (L2.start N vs) (startD N ds) := by
  refine ⟨by unfold L2.start startD; simp [r.length], fun i d h => ?_⟩
  unfold startD at h
  by_cases hi : i < ds.length
  · rw [List.getElem?_append_left (by simpa using hi), List.getElem?_map] at h
    cases q : ds[i]? with
    | none => rw [q] at h; cases h
    | some d' =>
      rw [q] at h; cases h
      obtain ⟨v, hv, iv⟩ := r.get q
      refine ⟨v, ?_, iv⟩
      unfold L2.start
      rw [List.getElem?_append_left (by rw [List.length_map, ← r.length]; exact hi), List.getElem?_map, hv]
      rfl
  · rw [List.getElem?_append_right (by simpa using hi), List.getElem?_replicate] at h
    split at h <;> cases h
theorem okF {x qual : Str} {st : Stmt} {f : Addr} {fd : FuncData} {N ps : List Str} {k : Nat} {sp : SpD} (F : Fun K x qual st f fd) (S : FnScope N ps (defScope st))
    (len : ∀ ds O R, sp ds O R → ds.length = ps.length)
    (hbody : ∀ (cdv : Value) (A : Around) (outer : List Env) (s : Shared) (H : Hp) (E : XK) (ds : List D) (O : Sto) (R : D → Sto → Prop), Room k (A.deeper (envOfC qual (defScope st) s.heap.objs.size f cdv)) → sp ds O R →
      Exs (cxOf CX0 P w K mg base N qual (defScope st) f cdv A outer s H E).nox (startD N ds) O (defBody st) { nx := fun _ O' => R .non O', rt := R }) : FnOk P w K mg base CX0 (k + 1) f fd ps (toSp K sp) := by
  refine F.ok S (fun vs H Q E h => ?_) (fun cdv A outer s H vs Q E hr h => ?_)
  · obtain ⟨G, O, ds, R, h1, h2, h3, h4⟩ := h
    rw [← h2.length]
    exact len _ _ _ h3
  · obtain ⟨G, O, ds, R, h1, h2, h3, h4⟩ := h
    refine ⟨_, hbody cdv A outer s H E ds O R hr h3 G, h1, start_env h2, ⟨fun σ ρ O' G' H' e1 s1 n1 q => h4 _ _ O' G' H' e1 s1 .non q, fun v d O' G' H' e1 s1 i1 q => h4 v d O' G' H' e1 s1 i1 q, fun σ ρ O' G' H' e1 s1 n1 q => q.elim, fun σ ρ O' G' H' e1 s1 n1 q => q.elim⟩⟩
theorem okD {x qual : Str} {st : Stmt} {f : Addr} {fd : FuncData} {N ps : List Str} {k : Nat} {sp : SpD} (F : Fun K x qual st f fd) (S : FnScope N ps (defScope st)) (hm : mg x = some (.ref f)) (hb : Binds K fd ps [])
    (len : ∀ ds O R, sp ds O R → ds.length = ps.length)
    (hbody : ∀ (cdv : Value) (A : Around) (outer : List Env) (s : Shared) (H : Hp) (E : XK) (ds : List D) (O : Sto) (R : D → Sto → Prop), Room k (A.deeper (envOfC qual (defScope st) s.heap.objs.size f cdv)) → sp ds O R →
      Exs (cxOf CX0 P w K mg base N qual (defScope st) f cdv A outer s H E).nox (startD N ds) O (defBody st) { nx := fun _ O' => R .non O', rt := R }) : DefOk P w K mg base (k + 1) x sp :=
  ⟨f, fd, ps, okF F S len hbody, hm, F.kp, hb⟩
end
def spLaw : SpD := fun ds O R => ∃ ns : List Int, ds = [.scr (ns.map D.int)] ∧ ns.length ≤ 63 ∧ R (.bl true) O
theorem law_start {K : PySem.W.Frag} {H : Hp} {a : Addr} {ns : List Int} (hl : ns.length ≤ 63) (hS : SqL K H a (ns.map V.int)) : toSp K spLaw [.ref a] H (fun v _ => v = .bl true) fun _ _ _ => False :=
  ⟨⟨H, []⟩, [], [.scr (ns.map D.int)], fun d _ => d = .bl true, ⟨Same.refl _, rfl, List.nodup_nil, fun a h => absurd h List.not_mem_nil, fun n m h => by cases h⟩, .cons (.scr hS Iss.ints) .nil, ⟨ns, rfl, hl, rfl⟩, fun v d O' G' H' _ _ i r => by subst r; cases i; rfl⟩
section
variable {X : Cx} {ρ : Rho} {O : Sto} {e a b c : Expr} {es : List Expr} {d da db : D} {ds : List D} {R : D → Sto → Prop} {pos p : Pos} {x : Str}
theorem ev_type {U : String} (hm : X.mg x = none) (hg : Gl X x := by rfl) (hv : bootBuiltins x = some (.type U) := by first | rfl | decide +kernel) (hn : x ≠ "__name__" := by decide) (hd : (x == ("__debug__" : Str)) = false := by decide) : EvP X ρ O (.Name x p) (.ty U) := fun G =>
  PE.imp (pe_bltn (v := .ty U) hg hm hv rfl hn hd) fun σ H Q ⟨h1, h2, h3⟩ => h3 _ G H (Ext.refl _) h1 (.ty U)
def tyD : D → Option String
  | .non => some "NoneType" | .bl _ => some "bool" | .int _ => some "int" | .str _ => some "str" | .tup _ => some "tuple" | .lst _ => some "list" | .scr _ => some "list" | .ptr _ => none | .ty _ => none
theorem c_isi {T U : String} {k : Bool} (ht : tyD d = some T) (hk : ∀ K, PySem.W.kitOne K (.type T) (.type U) = some k) : CallD X O (.builtin "isinstance") [d, .ty U] (.bl k) := fun G pins s σ H xs us Q I r ⟨h1, h2, h3⟩ => by
  cases h2 with
  | cons i r2 =>
    cases r2 with
    | cons i' r3 =>
      cases r3
      cases i'
      obtain ⟨u, u', rfl, r1, r2⟩ := vals2 r
      cases r2
      have fin : ∀ tk, EP X pins σ Q (.bool k) { s with toks := tk } := fun tk => ⟨.bl k, H, I.tok tk, rfl, h3 _ G H (Ext.refl _) h1 (.bl k)⟩
      cases i with
      | non => cases ht; cases r1; exact PySem.W.kia_one PySem.W.kitx_none I.kIn True.intro (hk _) (fun z => nomatch z) fin
      | bl y => cases ht; cases r1; exact PySem.W.kia_one PySem.W.kitx_bool I.kIn True.intro (hk _) (fun z => nomatch z) fin
      | int i => cases ht; obtain ⟨t, rfl⟩ := r1; exact PySem.W.kia_one PySem.W.kitx_int I.kIn True.intro (hk _) (fun z => nomatch z) fin
      | str y => cases ht; obtain ⟨t, rfl⟩ := r1; exact PySem.W.kia_one PySem.W.kitx_str I.kIn True.intro (hk _) (fun z => nomatch z) fin
      | tup q1 q2 =>
        cases ht; cases r1
        obtain ⟨its, _, ⟨o, g1, g2, _⟩, _⟩ := I.tuple (sqT_same h1.sub q1)
        exact PySem.W.kia_one PySem.W.kitx_tuple I.kIn ⟨o, g1, g2⟩ (hk _) (fun z => nomatch z) fin
      | lst q1 q2 =>
        cases ht; cases r1
        obtain ⟨its, _, ⟨o, n, g1, g2, _⟩, _⟩ := I.list (SqL.of (h1.sub _ _ q1))
        exact PySem.W.kia_one PySem.W.kitx_list I.kIn ⟨o, g1, g2⟩ (hk _) (fun z => nomatch z) fin
      | scr q1 q2 =>
        cases ht; cases r1
        obtain ⟨its, _, ⟨o, n, g1, g2, _⟩, _⟩ := I.list (h1.sub.seq q1)
        exact PySem.W.kia_one PySem.W.kitx_list I.kIn ⟨o, g1, g2⟩ (hk _) (fun z => nomatch z) fin
      | ptr _ _ => cases ht
      | ty _ => cases ht
def subTy (T U : String) : Bool := T == U || (T == "bool" && U == "int")
theorem kit_all : ∀ T ∈ ["NoneType", "bool", "int", "str", "tuple", "list"], ∀ U ∈ ["int", "bool", "tuple"], ∀ K, PySem.W.kitOne K (.type T) (.type U) = some (subTy T U) := by
  intro T hT U hU K
  simp only [List.mem_cons, List.not_mem_nil, or_false] at hT hU
  rcases hT with rfl | rfl | rfl | rfl | rfl | rfl <;> rcases hU with rfl | rfl | rfl <;> kernel_rfl
def okTy : D → Bool
  | .ptr _ => false | .ty _ => false | _ => true
def isiD (d : D) (U : String) : Bool := match tyD d with
  | some T => subTy T U
  | none => false
theorem c_isiU {U : String} (h : okTy d = true) (hU : U ∈ ["int", "bool", "tuple"]) : CallD X O (.builtin "isinstance") [d, .ty U] (.bl (isiD d U)) := by
  cases d with
  | ptr _ => cases h
  | ty _ => cases h
  | _ => exact c_isi (T := _) rfl (kit_all _ (by decide) U hU)
theorem c_isi_int (h : okTy d = true) : CallD X O (.builtin "isinstance") [d, .ty "int"] (.bl (isiD d "int")) := c_isiU h (by decide)
theorem c_isi_bool (h : okTy d = true) : CallD X O (.builtin "isinstance") [d, .ty "bool"] (.bl (isiD d "bool")) := c_isiU h (by decide)
end
end DL
set_option Elab.async false
set_option linter.all false
set_option maxRecDepth 100000
namespace DL
open PySem PySem.Spec PyProof.Rows L2
def closOf (env : Env) : List (Str × NameKind) → List (Str × Addr) → List (Str × Addr)
  | [], cs => cs
  | (n, k) :: r, cs => if k == .free then closOf env r ((n, (env.cells.lookup n).getD 0) :: cs) else closOf env r cs
def cxC (X : Cx) (N : List Str) (scope : Scope) (s : Shared) (H : Hp) (fp : List Addr) : Cx :=
  { X with
    N := N
    s₀ := s
    H₀ := H
    env := compEnvC scope (cellsFrom (s.heap.objs.size + 2) scope.names (closOf X.env scope.names [])) (s.heap.objs.size + 1) X.env
    outer := X.stack
    ex := fp
    fn := fun x => scope.names.lookup x == some .cell
    pn := []
    xe := fun _ _ => False }
section
variable {X : Cx} {pins : List (Addr × Obj)} {σ : L2.St} {H : Hp} {s : Shared}
def FreeOk (X : Cx) (scope : Scope) : Prop := ∀ y ∈ scope.names, y.2 = .free → X.env.kindOf y.1 = some .cell ∨ X.env.kindOf y.1 = some .free
end
end DL
set_option Elab.async false
set_option linter.all false
set_option maxRecDepth 100000
namespace DL
open PySem PySem.Spec PyProof.Rows L2
abbrev lstO (ys : List Value) : Obj := { cls := .type "list", data := .seq ys.toArray ys.length }
def Kept (X : Cx) (ρ : Rho) (O : Sto) (elt : Expr) : List Expr → Option D → Prop
  | [], z => ∃ y, z = some y ∧ EvP X ρ O elt y
  | [c], z => ∃ k, EvT X ρ O c k ∧ (k = true → ∃ y, z = some y ∧ EvP X ρ O elt y) ∧ (k = false → z = none)
  | _, _ => False
section
variable {X : Cx} {ρ : Rho} {O : Sto} {elt tg iter : Expr} {ifs : List Expr} {scope : Scope} {pos : Pos} {xs : List D} {zs : List (Option D)}
def freeB (XN : List Str) (xs cs : List (Str × NameKind)) (F : List Str) (js : List Nat) : Bool :=
  (js.map fun j => XN[j]?) == F.map some && (F.all fun x => cs.lookup x == some .free && (cs.all fun y => y.1 != x || y.2 != .cell) && (xs.lookup x == some .cell || xs.lookup x == some .free)) &&
  (cs.all fun y => (y.2 != .free || xs.lookup y.1 == some .cell || xs.lookup y.1 == some .free) && (y.2 != .local || cs.lookup y.1 == some .local))
def frOf (ρ : Rho) (js : List Nat) : Rho := js.map fun j => (ρ[j]?).getD none
def CTurn (X : Cx) (T F : List Str) (js : List Nat) (ρ : Rho) (O : Sto) (scope : Scope) (tg elt : Expr) (ifs : List Expr) (x : D) (z : Option D) : Prop :=
  ∀ (s : Shared) (H : Hp) (fp : List Addr), ∃ ts : Rho, ts.length = T.length ∧ Tg (cxC X (T ++ F) scope s H fp) tg x (T.map (fun _ => (none : Option D)) ++ frOf ρ js) (ts ++ frOf ρ js) ∧ Kept (cxC X (T ++ F) scope s H fp) (ts ++ frOf ρ js) O elt ifs z
end
end DL
set_option Elab.async false
set_option linter.all false
set_option maxRecDepth 100000
namespace DL
open PySem PySem.Spec PyProof.Rows L2 PySem.W
def kRun {α : Type} (lt : Nat → Nat → Bool) : KasT α → α
  | .ret a => a
  | .ask i j k => kRun lt (k (lt i j))
section
variable (key : Nat → Int)
abbrev ltK (i j : Nat) : Bool := decide (key i < key j)
def KQ (p : Array Nat) (i : Nat) : Int := key (p.getD i 0)
def Srt (p : Array Nat) (m : Nat) : Prop := ∀ i j, i ≤ j → j < m → KQ key p i ≤ KQ key p j
end
end DL
set_option Elab.async false
set_option linter.all false
set_option maxRecDepth 100000
set_option maxHeartbeats 2000000
namespace DL
open PySem PySem.Spec PyProof.Rows L2 PySem.W
def SIt (k : Bool) (h : Heap) (it l : Addr) (i : Nat) : Prop := if k then h.IsListIter it l i else h.IsTupleIter it l i
def SSq (k : Bool) (h : Heap) (l : Addr) (xs : Array Value) : Prop := if k then h.IsList l xs else h.IsTuple l xs
section
variable {k : Bool} {h h' : Heap} {it l b : Addr} {i : Nat} {xs : Array Value}
end
section
variable {prog : Program} {w : World} {A : Around} {E : Value → Shared → Prop} {s : Shared} {it l : Addr} {i : Nat} {xs : Array Value} {Q : Value → Shared → Prop}
end
def zObj (n : Nat) (f0 f1 : Value) : Obj := { cls := .type "zip", dict := none, data := .fields #[f0, f1, .bool false, .ref (n + 2), .ref (n + 3)], slots := #[] }
structure ZW (n : Nat) (k1 k2 : Bool) (l1 l2 i1 i2 : Nat) (xs ys : Array Value) (f0 f1 a b : Value) (h : Heap) : Prop where
  z : h.get? (n + 4) = some { cls := .type "zip", dict := none, data := .fields #[f0, f1, .bool false, .ref (n + 2), .ref (n + 3)], slots := #[] }
  ti : h.get? (n + 2) = some { cls := .type "tuple", data := .seq #[.ref n, .ref (n + 1)] }
  to : h.get? (n + 3) = some { cls := .type "tuple", data := .seq #[a, b] }
  w1 : SIt k1 h n l1 i1
  w2 : SIt k2 h (n + 1) l2 i2
  s1 : SSq k1 h l1 xs
  s2 : SSq k2 h l2 ys
  b1 : l1 < n
  b2 : l2 < n
def Oth (n : Nat) (h h' : Heap) : Prop := ∀ c o, c ≠ n + 4 → c ≠ n + 3 → c ≠ n → c ≠ n + 1 → h.get? c = some o → h'.get? c = some o
section
variable {prog : Program} {w : World} {A : Around} {E : Value → Shared → Prop} {s : Shared} {n l1 l2 i1 i2 : Nat} {k1 k2 : Bool} {xs ys : Array Value} {f0 f1 a b v : Value}
def ZF (f0 : Value) : Prop := f0 = .none ∨ ∃ c : Nat, f0 = rawInt (c : Int)
def ZE (n : Nat) (h : Heap) (f0 f1 : Value) (h' : Heap) (e : Addr) : Prop := h'.get? (n + 4) = some (zObj n f0 f1) ∧ Oth n h h' ∧ ∃ o, h'.get? e = some o ∧ o.cls = .type "StopIteration"
end
end DL
set_option Elab.async false
set_option linter.all false
set_option maxRecDepth 100000
set_option maxHeartbeats 2000000
namespace DL
open PySem PySem.Spec PyProof.Rows L2 PySem.W
section
variable {prog : Program} {w : World} {A : Around} {E : Value → Shared → Prop} {s : Shared} {n l1 l2 i1 i2 i : Nat} {k1 k2 : Bool} {xs ys : Array Value} {f0 f1 a b v : Value}
def ztn (k1 k2 : Bool) (n l1 l2 i : Nat) (h : Heap) : Prop := ∃ f0 f1 a b, ZF f0 ∧ h.get? (n + 4) = some (zObj n f0 f1) ∧ IsPair h (n + 2) (.ref n) (.ref (n + 1)) ∧ IsPair h (n + 3) a b ∧ SIt k1 h n l1 i ∧ SIt k2 h (n + 1) l2 i
end
def Sq (k : Bool) (K : PySem.W.Frag) (H : Hp) (a : Addr) (xs : List V) : Prop := if k then SqL K H a xs else SqT K H a xs
def Itz (k1 k2 : Bool) (K : PySem.W.Frag) (l1 l2 : Addr) : It :=
  ⟨fun i H => ∃ as bs a b, Sq k1 K H l1 as ∧ Sq k2 K H l2 bs ∧ as[i]? = some a ∧ bs[i]? = some b,
   fun i H x H' => ∃ T a b, H T = none ∧ H' = upd H T (.tup [a, b]) ∧ x = .ref T ∧ (∀ as, Sq k1 K H l1 as → as[i]? = some a) ∧ ∀ bs, Sq k2 K H l2 bs → bs[i]? = some b,
   fun i H => ∃ as bs, Sq k1 K H l1 as ∧ Sq k2 K H l2 bs ∧ (as.length ≤ i ∨ bs.length ≤ i)⟩
section
variable {X : Cx} {pins : List (Addr × Obj)} {σ : L2.St} {H : Hp} {s : Shared} {k : Bool} {a : Addr} {xs ys : List V}
end
def zfp (n : Nat) : List Addr := [n, n + 1, n + 2, n + 3, n + 4]
end DL
set_option Elab.async false
set_option linter.all false
set_option maxRecDepth 100000
set_option maxHeartbeats 1000000
namespace DL
open PySem PySem.Spec PyProof.Rows L2 PySem.W
def LF (d : D) (xs : List D) : Prop := d = .lst xs ∨ d = .scr xs ∨ d = .tup xs
def EvZ (X : Cx) (ρ : Rho) (O : Sto) (e : Expr) (xs : List D) (T : String) : Prop :=
  ∀ (G : Wd) (tg : Expr) (pins : List (Addr × Obj)) (s : Shared) (σ : L2.St) (H : Hp) (R : It → Hp → Prop), L2.Inv X pins σ H s → SA X.K G H O → EnvR X.K G σ ρ → (∀ J G' H', Ext G G' → SA X.K G' H' O → Yields X.K G' J xs → R J H') →
    wpAny (model X.prog X.w) X.A (eval e X.env) (fun v s1 => PIE X pins σ tg R v s1 ∧ s1.TypeIs v T) X.xe s
def zipD (xs ys : List D) : List D := List.zipWith (fun a b => .tup [a, b]) xs ys
section
variable {X : Cx} {ρ : Rho} {O : Sto} {e a b c : Expr} {es : List Expr} {d da db : D} {ds : List D} {R : D → Sto → Prop} {pos p : Pos} {x : Str} {xs ys : List D}
end
def Cx.wA (X : Cx) (A : Around) : Cx := { X with A := A }
end DL
set_option Elab.async false
set_option linter.all false
set_option maxRecDepth 100000
set_option maxHeartbeats 1000000
namespace DL
open PySem PySem.Spec PyProof.Rows L2 PySem.W
def kBd {α : Type} (n : Nat) (P : α → Prop) : KasT α → Prop
  | .ret a => P a
  | .ask i j k => i < n ∧ j < n ∧ ∀ b, kBd n P (k b)
def In (n : Nat) (p : Array Nat) : Prop := ∀ k, p.getD k 0 < n
section
variable (key : Nat → Int)
end
def rankOf {α : Type} (lt : α → α → Bool) (l : List α) (x : α) : Int := ((l.filter fun z => lt z x).length : Nat)
end DL
set_option Elab.async false
set_option linter.all false
set_option maxRecDepth 100000
set_option maxHeartbeats 1000000
namespace DL
open PySem PySem.Spec PyProof.Rows L2 PySem.W
abbrev inSort (h : Heap) (a : Addr) (vs : List Value) : Heap := ((h.update a (Obj.mapSeq fun _ => (#[] : Array Value))).push (seqObj "tuple" vs.toArray 0)).push (seqObj "list" #[] 0)
section
variable {prog : Program} {w : World} {A : Around} {E : Value → Shared → Prop} {s : Shared}
def outOf (p : Array Nat) (vs : List Value) : List Value := p.toList.map fun i => vs.getD i Value.none
def Runs (prog : Program) (w : World) (A : Around) (vs : List Value) (s : Shared) (G : SortSt → Prop) : Prop :=
  ∀ E : Value → Shared → Prop, wpAny (model prog w) A (if vs.toArray.size < 2 then pure general' else keyKind' vs.toArray)
    (fun κ s1 => wpAny (model prog w) A ((if vs.toArray.size < 2 then pure () else sortRuns').run (SortSt.mk' κ (vs.toArray.zip vs.toArray) #[] 7 none)) (fun r s2 => s2 = s ∧ failedOf r.2 = none ∧ G r.2) E s1) E s
def Cmp (prog : Program) (w : World) (A : Around) (vs : List Value) (key : Nat → Int) (s : Shared) : Prop :=
  ∃ κ, (∀ (E : Value → Shared → Prop) (Q : SortKind → Shared → Prop), Q κ s → wpAny (model prog w) A (keyKind' vs.toArray) Q E s) ∧ ∀ i j (C : Bool → Shared → Prop), i < vs.length → j < vs.length → C (decide (key i < key j)) s → wpAny (model prog w) A (keyLt' κ (vs.getD i Value.none) (vs.getD j Value.none)) C (fun _ _ => False) s
def Sortd (vs : List Value) (key : Nat → Int) (st : SortSt) : Prop := ∃ p : Array Nat, p.Perm (List.toArray (List.range vs.length)) ∧ p.size = vs.length ∧ Srt key p vs.length ∧ (arrOf st).map (·.2) = List.toArray (outOf p vs)
end
end DL
set_option Elab.async false
set_option linter.all false
set_option maxRecDepth 100000
set_option maxHeartbeats 1000000
namespace DL
open PySem PySem.Spec PyProof.Rows L2 PySem.W
abbrev lsC (its : List Value) (c : Nat) : Obj := { cls := .type "list", dict := none, data := .seq its.toArray c, slots := #[] }
structure Got (X : Cx) (pins : List (Addr × Obj)) (σ : L2.St) (O : Sto) (G1 : Wd) (xs : List D) (S : Addr) (i : Nat) (s : Shared) (H : Hp) (G : Wd) (vs : List V) (its : List Value) (c : Nat) : Prop where
  inv : L2.Inv X ((S, lsC its c) :: pins) σ H s
  ext : Ext G1 G
  sa : SA X.K G H O
  iss : Iss X.K G (xs.take i) vs
  vals : Vals vs its
section
variable {X : Cx} {A : Around} {tg : Expr} {J : It} {fp : List Addr} {it : Addr} {tn : Nat → Heap → Prop} {pins : List (Addr × Obj)} {σ : L2.St} {O : Sto} {G1 : Wd} {xs : List D} {S : Addr} {res : Value} {R : Result → Shared → Prop}
end
structure NoLen (T : String) : Prop where
  len : typeLookup (.type T) "__len__" = pure none
  hint : typeLookup (.type T) "__length_hint__" = pure none
  nl : (Value.type T == Value.type "list") = false
  nt : (Value.type T == Value.type "tuple") = false
end DL
set_option Elab.async false
set_option linter.all false
set_option maxRecDepth 100000
set_option maxHeartbeats 1000000
namespace DL
open PySem PySem.Spec PyProof.Rows L2 PySem.W
structure Ord {α : Type} (lt : α → α → Bool) : Prop where
  irr : ∀ a, lt a a = false
  tr : ∀ a b c, lt a b = true → lt b c = true → lt a c = true
  tot : ∀ a b, lt a b = false → lt b a = false → a = b
def srt {α : Type} (lt : α → α → Bool) (l : List α) : List α := l.mergeSort fun a b => !lt b a
def ltI (a b : Int) : Bool := decide (a < b)
def ltP (a b : Int × Int) : Bool := decide (a.1 < b.1 ∨ (a.1 = b.1 ∧ a.2 < b.2))
abbrev pD (p : Int × Int) : D := .tup [.int p.1, .int p.2]
def CmpD {α : Type} [Inhabited α] (X : Cx) (lt : α → α → Bool) (f : α → D) : Prop :=
  ∀ (A : Around) (G : Wd) (H : Hp) (pins : List (Addr × Obj)) (σ : L2.St) (s : Shared) (s' : Shared) (O : Sto) (ps : List α) (vs : List V) (its : List Value), L2.Inv X pins σ H s → SA X.K G H O → Iss X.K G (ps.map f) vs → Vals vs its → 2 ≤ ps.length → (∀ b o, s.heap.get? b = some o → s'.heap.get? b = some o) →
    Cmp X.prog X.w A its (fun i => rankOf lt ps (ps.getD i default)) s'
end DL
set_option Elab.async false
set_option linter.all false
set_option maxRecDepth 100000
set_option maxHeartbeats 1000000
namespace DL
open PySem PySem.Spec PyProof.Rows L2 PySem.W
section
variable {X : Cx} {ρ : Rho} {O : Sto} {e a b c : Expr} {es : List Expr} {d da db : D} {ds : List D} {R : D → Sto → Prop} {pos p : Pos} {x : Str} {xs ys : List D} {α : Type} [Inhabited α] {lt : α → α → Bool} {f : α → D} {ps : List α}
end
end DL
set_option Elab.async false
set_option linter.all false
set_option maxRecDepth 100000
set_option maxHeartbeats 1000000
namespace DL
open PySem PySem.Spec PyProof.Rows L2 PySem.W
mutual
def toPy : D → PyData
  | .non => .none | .bl b => .bool b | .int i => .int i | .str x => .str x | .tup xs => .tuple (toPys xs) | .lst xs => .list (toPys xs) | .scr xs => .list (toPys xs) | .ptr _ => .none | .ty _ => .none
def toPys : List D → List PyData
  | [] => []
  | x :: xs => toPy x :: toPys xs
end
mutual
def plD : D → Bool
  | .non => true | .bl _ => true | .int _ => true | .str x => PyData.strOk x | .tup xs => plDs xs | .lst xs => plDs xs | .scr xs => plDs xs | .ptr _ => false | .ty _ => false
def plDs : List D → Bool
  | [] => true
  | x :: xs => plD x && plDs xs
end
mutual
def dpD : D → Nat
  | .tup xs => dpDs xs + 1 | .lst xs => dpDs xs + 1 | .scr xs => dpDs xs + 1 | .non => 0 | .bl _ => 0 | .int _ => 0 | .str _ => 0 | .ptr _ => 0 | .ty _ => 0
def dpDs : List D → Nat
  | [] => 0
  | x :: xs => max (dpD x) (dpDs xs)
end
def eqD (a b : D) : Bool := PyData.eqv (toPy a) (toPy b)
def eqDs (a b : List D) : Bool := PyData.eqvAll (toPys a) (toPys b)
mutual
theorem dp_py : ∀ d : D, (toPy d).depth = dpD d
  | .non => rfl | .bl _ => rfl | .int _ => rfl | .str _ => rfl | .ptr _ => rfl | .ty _ => rfl
  | .tup xs => by simp only [toPy, PyData.depth, dpD]; rw [dp_pys xs]
  | .lst xs => by simp only [toPy, PyData.depth, dpD]; rw [dp_pys xs]
  | .scr xs => by simp only [toPy, PyData.depth, dpD]; rw [dp_pys xs]
theorem dp_pys : ∀ xs : List D, PyData.depthAll (toPys xs) = dpDs xs
  | [] => rfl
  | x :: xs => by simp only [toPys, PyData.depthAll, dpDs]; rw [dp_py x, dp_pys xs]
end
mutual
theorem pl_lay : ∀ d : D, plD d = true → (toPy d).canLay0 = true
  | .non, _ => rfl | .bl _, _ => rfl | .int _, _ => rfl | .str x, h => by simp only [plD] at h; simp only [toPy, PyData.canLay0]; exact h | .ptr _, h => nomatch h | .ty _, h => nomatch h
  | .tup xs, h => pl_lays xs h
  | .lst xs, h => pl_lays xs h
  | .scr xs, h => pl_lays xs h
theorem pl_lays : ∀ xs : List D, plDs xs = true → PyData.canLayAll0 (toPys xs) = true
  | [], _ => rfl
  | x :: xs, h => by
    have h : (plD x && plDs xs) = true := h
    rw [Bool.and_eq_true] at h
    show (PyData.canLay0 (toPy x) && PyData.canLayAll0 (toPys xs)) = true
    rw [pl_lay x h.1, pl_lays xs h.2]; rfl
end
section
variable {X : Cx} {pins : List (Addr × Obj)} {σ : L2.St} {H : Hp} {s : Shared} {G : Wd}
mutual
theorem rd_of (I : L2.Inv X pins σ H s) (sub : Same G.g H) : ∀ {d : D} {v : V} {u : Value}, Is X.K G d v → RelV v u → plD d = true → ∃ as, Reads s.heap u (toPy d) as
  | _, _, _, .non, r, _ => by cases r; exact ⟨[], .none⟩
  | _, _, _, .bl b, r, _ => by cases r; exact ⟨[], .bool b⟩
  | _, _, _, .int i, r, _ => by obtain ⟨t, rfl⟩ := r; exact ⟨[], .int i t⟩
  | _, _, _, .str x, r, _ => by obtain ⟨t, rfl⟩ := r; exact ⟨[], .str x t⟩
  | _, _, _, .tup h q, r, p => by
    cases r
    obtain ⟨its, va, ⟨o, g1, g2, n, g3⟩, _⟩ := I.tuple (sqT_same sub h)
    obtain ⟨as, ra⟩ := rds_of I sub q va p
    exact ⟨as, .tuple g1 g2 g3 (by simpa using ra)⟩
  | _, _, _, .lst h q, r, p => by
    cases r
    obtain ⟨its, va, pl, _⟩ := I.list (SqL.of (sub _ _ h))
    obtain ⟨o, g1, g2, n, g3⟩ := pl.isList
    obtain ⟨as, ra⟩ := rds_of I sub q va p
    exact ⟨_, .list g1 g2 g3 (by simpa using ra)⟩
  | _, _, _, .scr h q, r, p => by
    cases r
    obtain ⟨its, va, pl, _⟩ := I.list (sub.seq h)
    obtain ⟨o, g1, g2, n, g3⟩ := pl.isList
    obtain ⟨as, ra⟩ := rds_of I sub q va p
    exact ⟨_, .list g1 g2 g3 (by simpa using ra)⟩
theorem rds_of (I : L2.Inv X pins σ H s) (sub : Same G.g H) : ∀ {ds : List D} {vs : List V} {us : List Value}, Iss X.K G ds vs → Vals vs us → plDs ds = true → ∃ as, ReadsAll s.heap us (toPys ds) as
  | _, _, _, .nil, .nil, _ => ⟨[], .nil⟩
  | d :: ds, _, _, .cons i is, .cons r rs, p => by
    have p : (plD d && plDs ds) = true := p
    rw [Bool.and_eq_true] at p
    obtain ⟨as, ra⟩ := rd_of I sub i r p.1
    obtain ⟨bs, rb⟩ := rds_of I sub is rs p.2
    exact ⟨_, .cons ra rb⟩
end
end
def RD (O : Sto) (d e : D) : Prop := e = d ∨ ∃ n xs, d = .ptr n ∧ O[n]? = some (some (.lst xs)) ∧ e = .lst xs
theorem RD.reads {X : Cx} {pins : List (Addr × Obj)} {σ : L2.St} {H : Hp} {s : Shared} {G : Wd} {O : Sto} {d e : D} {v : V} {u : Value} (h : RD O d e) (I : L2.Inv X pins σ H s) (sa : SA X.K G H O) (i : Is X.K G d v) (r : RelV v u) (p : plD e = true) : ∃ as, Reads s.heap u (toPy e) as := by
  rcases h with rfl | ⟨n, xs, rfl, h, rfl⟩
  · exact rd_of I sa.sub i r p
  · cases i with | ptr _ ha =>
    cases r
    obtain ⟨a, g0, _, vs, g1, g2⟩ := sa.mt n _ h
    have := Option.some.inj (ha.symm.trans g0)
    subst this
    obtain ⟨its, va, pl, _⟩ := I.list (SqL.of g1)
    obtain ⟨o, q1, q2, k, q3⟩ := pl.isList
    obtain ⟨as, ra⟩ := rds_of I sa.sub g2 va p
    exact ⟨_, .list q1 q2 q3 (by simpa using ra)⟩
section
variable {X : Cx} {ρ : Rho} {O : Sto} {e a b c : Expr} {es : List Expr} {d da db ea eb : D} {ds xs ys : List D} {R : D → Sto → Prop} {pos p : Pos} {x : Str} {k : Nat}
theorem cmp_eqD (hr : Room k X.A) (ha : RD O da ea) (hb : RD O db eb) (pa : plD ea = true) (pb : plD eb = true) (hd : min (dpD ea) (dpD eb) ≤ 60) : Op2 X O (compareOp .Eq) da db (.bl (eqD ea eb)) := fun G pins s σ H x y v u Q I rx ry ⟨h1, h2, h3, h4⟩ => by
  obtain ⟨as, ra⟩ := ha.reads I h1 h2 rx pa
  obtain ⟨bs, rb⟩ := hb.reads I h1 h3 ry pb
  have hu := hr.units
  exact PySem.SeqAt.compareEq_reads ra rb (pl_lay _ pa) (pl_lay _ pb) (by rw [dp_py, dp_py]; omega) ⟨.bl _, H, I, rfl, h4 _ G H (Ext.refl _) h1 (.bl _)⟩
end
end DL
set_option Elab.async false
set_option linter.all false
set_option maxRecDepth 100000
set_option maxHeartbeats 1000000
namespace DL
open PySem PySem.Spec PyProof.Rows L2 PySem.W
section
variable {X : Cx} {ρ : Rho} {O : Sto} {e a b c : Expr} {es : List Expr} {d da db ea eb : D} {ds xs ys : List D} {R : D → Sto → Prop} {pos p : Pos} {x : Str} {k : Nat}
def rSlW (K : PySem.W.Frag) : V → Option Int → Option Int → Hp → VK → Prop := fun x lo hi H Q => ∃ a xs, x = .ref a ∧ SqT K H a xs ∧ (HT.sIx xs.length 0 lo = 0 ∧ HT.sIx xs.length xs.length hi = xs.length) ∧ Q (.ref a) H
end
end DL
set_option Elab.async false
set_option linter.all false
set_option maxRecDepth 100000
namespace DL
open PySem PySem.Spec PyProof.Rows L2
mutual
def npD : D → Bool
  | .ptr _ => false
  | .tup xs => npDs xs
  | .lst xs => npDs xs
  | .scr xs => npDs xs
  | _ => true
def npDs : List D → Bool
  | [] => true
  | d :: ds => npD d && npDs ds
end
section
variable {K : PySem.W.Frag} {G G' : Wd} {t : List Addr}
mutual
theorem Is.cut : ∀ {d : D} {v : V}, Is K G' d v → npD d = true → ∀ l, Is K ⟨G'.g, l⟩ d v
  | _, _, .non, _, l => .non
  | _, _, .bl b, _, l => .bl b
  | _, _, .int i, _, l => .int i
  | _, _, .str x, _, l => .str x
  | _, _, .tup h r, e, l => .tup h (Iss.cut r e l)
  | _, _, .lst h r, e, l => .lst h (Iss.cut r e l)
  | _, _, .scr h r, e, l => .scr h (Iss.cut r e l)
  | _, _, .ptr n h, e, l => by cases e
  | _, _, .ty n, _, l => .ty n
theorem Iss.cut : ∀ {ds : List D} {vs : List V}, Iss K G' ds vs → npDs ds = true → ∀ l, Iss K ⟨G'.g, l⟩ ds vs
  | _, _, .nil, _, l => .nil
  | _, _, .cons h r, e, l => by
    have e := (Bool.and_eq_true _ _).mp e
    exact .cons (Is.cut h e.1 l) (Iss.cut r e.2 l)
end
mutual
theorem Is.back (e : G'.l = G.l ++ t) : ∀ {d : D} {v v0 : V}, Is K G d v0 → Is K G' d v → Is K ⟨G'.g, G.l⟩ d v
  | _, _, _, .non, h => by cases h; exact .non
  | _, _, _, .bl b, h => by cases h; exact .bl b
  | _, _, _, .int i, h => by cases h; exact .int i
  | _, _, _, .str x, h => by cases h; exact .str x
  | _, _, _, .tup _ r0, h => by cases h with | tup h r => exact .tup h (Iss.back e r0 r)
  | _, _, _, .lst _ r0, h => by cases h with | lst h r => exact .lst h (Iss.back e r0 r)
  | _, _, _, .scr _ r0, h => by cases h with | scr h r => exact .scr h (Iss.back e r0 r)
  | _, _, _, .ptr n q, h => by
    cases h with
    | ptr _ h =>
      refine .ptr n ?_
      rw [e, List.getElem?_append_left (List.getElem?_eq_some_iff.mp q).1] at h
      exact h
  | _, _, _, .ty n, h => by cases h; exact .ty n
theorem Iss.back (e : G'.l = G.l ++ t) : ∀ {ds : List D} {vs v0 : List V}, Iss K G ds v0 → Iss K G' ds vs → Iss K ⟨G'.g, G.l⟩ ds vs
  | _, _, _, .nil, h => by cases h; exact .nil
  | _, _, _, .cons q r, h => by cases h with | cons h1 h2 => exact .cons (Is.back e q h1) (Iss.back e r h2)
end
theorem FsIs.back (e : G'.l = G.l ++ t) : ∀ {fs : List (Str × D)} {vs v0 : List (Str × V)}, FsIs K G fs v0 → FsIs K G' fs vs → FsIs K ⟨G'.g, G.l⟩ fs vs
  | _, _, _, .nil, h => by cases h; exact .nil
  | _, _, _, .cons q r, h => by cases h with | cons h1 h2 => exact .cons (Is.back e q h1) (FsIs.back e r h2)
theorem SA.cut {H H' : Hp} {O O2 : Sto} (s : SA K G H O) (e : Ext G G') (s' : SA K G' H' (O ++ O2)) : Ext G ⟨G'.g, G.l⟩ ∧ SA K ⟨G'.g, G.l⟩ H' O := by
  obtain ⟨t, et⟩ := e.l
  refine ⟨⟨e.g, [], (List.append_nil _).symm⟩, ⟨s'.sub, s.len, s.nd, fun a ha => s'.liv a (by rw [et]; exact List.mem_append_left _ ha), fun n m h => ?_⟩⟩
  have hn := (List.getElem?_eq_some_iff.mp h).1
  obtain ⟨a, q1, q2, q3⟩ := s'.mt n m (by rw [List.getElem?_append_left hn]; exact h)
  obtain ⟨a0, p1, p2, p3⟩ := s.mt n m h
  rw [et, List.getElem?_append_left (by rw [s.len]; exact hn)] at q1
  refine ⟨a, q1, q2, ?_⟩
  cases m with
  | lst xs =>
    obtain ⟨vs, g1, g2⟩ := q3
    obtain ⟨v0, h1, h2⟩ := p3
    exact ⟨vs, g1, Iss.back et h2 g2⟩
  | ins C fs =>
    obtain ⟨dx, vs, g1, g2⟩ := q3
    obtain ⟨dx0, v0, h1, h2⟩ := p3
    exact ⟨dx, vs, g1, FsIs.back et h2 g2⟩
  | exc C fs =>
    obtain ⟨ob, g1, g2, g3⟩ := q3
    obtain ⟨ob0, h1, h2, h3⟩ := p3
    refine ⟨ob, g1, g2, ?_⟩
    rcases h3 with h3 | ⟨dx0, v0, b1, b2, b3⟩
    · exact .inl h3
    · refine g3.imp id ?_
      rintro ⟨dx, vs, a1, a2, a3⟩
      exact ⟨dx, vs, a1, a2, FsIs.back et b3 a3⟩
end
section
variable {X : Cx} {ρ : Rho} {O : Sto} {e a b c : Expr} {es : List Expr} {d da db : D} {ds : List D} {R : D → Sto → Prop} {pos p : Pos} {x : Str} {rest : List Stmt} {P : Post}
theorem xs_keep (h : Exs X ρ O rest { nx := fun _ _ => False, rt := fun d O' => (∃ O2, O' = O ++ O2) ∧ npD d = true ∧ P.rt d O }) : Exs X ρ O rest P := fun G pins s σ H E I ⟨q1, q2, q3⟩ => by
  refine h G pins s σ H E I ⟨q1, q2, ⟨fun σ' ρ' O' G3 H3 e3 s3 n3 q => q.elim, fun v d O' G3 H3 e3 s3 i3 r => ?_, fun σ' ρ' O' G3 H3 e3 s3 n3 q => q.elim, fun σ' ρ' O' G3 H3 e3 s3 n3 q => q.elim⟩⟩
  obtain ⟨⟨O2, rfl⟩, r2, r3⟩ := r
  obtain ⟨e4, s4⟩ := q1.cut e3 s3
  exact q3.rt v d O _ H3 e4 s4 (i3.cut r2 _) r3
def relSp (pre : List D → Prop) (f : List D → D → Prop) : SpD := fun ds O R => pre ds ∧ ∀ d, f ds d → R d O
theorem st0 {m : Option MO} {O2 : Sto} : (O ++ m :: O2)[O.length]? = some m := by
  rw [List.getElem?_append_right (Nat.le_refl _), Nat.sub_self]; rfl
section
variable {α : Type} {ps : List α} {f g : α → D} {h : α → Option D} {tg iter elt : Expr} {ifs : List Expr} {scope : Scope}
end
end
end DL
set_option Elab.async false
set_option linter.all false
set_option maxRecDepth 100000
namespace DL
open PySem PySem.Spec PyProof.Rows L2
def cutA {α : Type} (a : List α) (lo hi : Option Int) : List α := (a.drop (HT.sIx a.length 0 lo)).take (HT.sIx a.length a.length hi - HT.sIx a.length 0 lo)
section
variable {X : Cx} {ρ : Rho} {O : Sto} {e a b c : Expr} {es : List Expr} {d da db : D} {ds : List D} {R : D → Sto → Prop} {pos p : Pos} {x : Str} {rest : List Stmt} {P : Post}
end
theorem atI_map {α : Type} {f : α → D} {a : List α} {i : Int} {v : α} (h0 : 0 ≤ i) (h : a[i.toNat]? = some v) : atI (a.map f) i = some (f v) := by
  obtain ⟨k, rfl⟩ := Int.eq_ofNat_of_zero_le h0
  rw [Int.toNat_natCast] at h
  exact atI_nat (by rw [List.getElem?_map, h]; rfl)
def sm {α : Type} (g : α → Int) : List α → Int
  | [] => 0
  | a :: l => g a + sm g l
section
variable {α β : Type} {g h : α → Int} {l m : List α}
end
end DL
set_option Elab.async false
set_option linter.all false
set_option maxRecDepth 100000
namespace DL
open PySem PySem.Spec PyProof.Rows L2
section
variable {prog : Program} {w : World} {A : Around} {E : Value → Shared → Prop} {s : Shared}
end
section
variable {X : Cx} {ρ : Rho} {O : Sto} {e a b c st : Expr} {es : List Expr} {d da db : D} {ds xs : List D} {R : D → Sto → Prop} {pos p p2 : Pos} {x : Str} {rest : List Stmt} {P : Post}
theorem reps {K : PySem.W.Frag} {G : Wd} {vs : List V} (r : Iss K G xs vs) (k : Nat) : Iss K G (List.replicate k xs).flatten (List.replicate k vs).flatten := by
  induction k with
  | zero => exact .nil
  | succ k ih => rw [List.replicate_succ, List.replicate_succ, List.flatten_cons, List.flatten_cons]; exact r.append ih
theorem rep1 {d : D} (n : Nat) : (List.replicate n [d]).flatten = List.replicate n d := by
  induction n with
  | zero => rfl
  | succ n ih => rw [List.replicate_succ, List.flatten_cons, ih]; rfl
end
end DL
set_option Elab.async false
set_option linter.all false
set_option maxRecDepth 100000
namespace DL
open PySem PySem.Spec PyProof.Rows L2
section
variable {prog : Program} {w : World} {A : Around} {E : Value → Shared → Prop} {s : Shared}
theorem noFill_tup_mul : fillsNumberSlot (.type "tuple") "mul" = pure false :=
  PySem.fillsNumberSlot_seq (id := "tuple.__mul__") (r := some (.builtin "tuple.__rmul__")) F.slot_tuple_mul.lookup (by decide +kernel) F.slot_tuple_rmul.lookup (by decide +kernel)
theorem rep_tup : seqRepeat? (.type "tuple") = pure (some (.builtin "tuple.__mul__")) := by
  unfold seqRepeat?
  rw [PySem.seqSlot_of (T := "tuple") (name := "__mul__") F.slot_tuple_mul.lookup (by decide +kernel), PySem.seqSlot_of (T := "tuple") (name := "__rmul__") F.slot_tuple_rmul.lookup (by decide +kernel)]
  rfl
theorem rmul_int_tup {a : Int} {t : Tok} {l : Addr} {its : List Value} {Q : Value → Shared → Prop} (ht : IsTup s.heap l its.toArray) (h : Q .notImplemented s) : wpAny (model prog w) A (call (.builtin "int.__rmul__") [.int a t, .ref l]) Q E s := by
  refine wpAny_call_entry F.slot_int_rmul (typeIs_int s a t) F.entry_int_rmul ?_ (F.args_int_rmul_2 _ _)
  obtain ⟨o, ho, hc, n, hd⟩ := ht
  show wpAny (model prog w) _ (asInt? (.ref l) >>= _) _ _ s
  refine wpAny_bind ?_
  unfold asInt?
  refine wpAny_bind (wpAny_load ho ?_)
  rw [hd]
  refine wpAny_pure ?_
  exact wpAny_bind (wpAny_rule (wpAny_pure ⟨_, rfl, h⟩))
theorem mul_tup {k : Int} {t : Tok} {l : Addr} {its : List Value} {Q : Value → Shared → Prop} (ht : IsTup s.heap l its.toArray) (h1 : 1 ≤ k) (h2 : k < 2 ^ 62) (hn : its ≠ []) (hz : its.length * k.toNat ≤ sizeLine)
    (hq1 : k = 1 → Q (.ref l) s) (hq2 : k ≠ 1 → Q (.ref s.heap.objs.size) { s with heap := s.heap.push { cls := .type "tuple", data := .seq (List.replicate k.toNat its).flatten.toArray } }) : wpAny (model prog w) A (call (.builtin "tuple.__mul__") [.ref l, .int k t]) Q E s := by
  refine wpAny_call_entry F.slot_tuple_mul ht.typeIs F.entry_tuple_mul ?_ (F.args_tuple_mul_2 _ _)
  show wpAny (model prog w) _ (asIndex (.int k t) >>= _) _ _ s
  refine wpAny_bind ?_
  show wpAny (model prog w) _ (pure k) _ _ s
  refine wpAny_pure ?_
  rw [if_neg (by rw [Bool.or_eq_true, decide_eq_true_eq, decide_eq_true_eq]; omega)]
  refine wpAny_bind (tupleItemsOf_ ht ?_)
  have he : its.toArray.isEmpty = false := by cases its with | nil => exact absurd rfl hn | cons a l => rfl
  by_cases hk : k = 1
  · rw [if_pos (by rw [hk, Bool.or_eq_true]; exact Or.inr rfl)]
    unfold Builtin.Tuple.tupleIsExact
    refine wpAny_bind (wpAny_bind (wpAny_typeOf ht.typeIs (wpAny_pure ?_)))
    rw [if_pos (by decide)]
    exact wpAny_bind (wpAny_rule (wpAny_pure ⟨_, rfl, hq1 hk⟩))
  · have hk2 : (k == 1) = false := by simpa using hk
    rw [if_neg (by rw [he, hk2]; exact Bool.false_ne_true)]
    rw [if_neg (by rw [he, Bool.or_false, decide_eq_true_eq]; omega)]
    have hs : ((its.toArray.size : Nat) : Int) * k ≤ (sizeLine : Nat) := by
      rw [List.size_toArray]
      have e : k = ((k.toNat : Nat) : Int) := by omega
      rw [e]
      exact_mod_cast hz
    have hl := sizeLine_eq
    rw [hl] at hs
    rw [if_neg (by omega)]
    have ht2 : Builtin.Tuple.tupleTooMany (((its.toArray.size : Nat) : Int) * k) = false := by
      unfold Builtin.Tuple.tupleTooMany
      rw [hl]
      exact decide_eq_false (by omega)
    rw [if_neg (by rw [ht2]; exact Bool.false_ne_true)]
    have e : List.foldl (fun x1 x2 => x1 ++ x2) #[] (List.replicate k.toNat its.toArray) = (List.replicate k.toNat its).flatten.toArray := by
      have := foldl_rep its k.toNat []
      rw [List.nil_append] at this
      exact this
    rw [e]
    exact wpAny_bind (m := Builtin.Tuple.tupleExact _) (wpAny_newObj_type (wpAny_pure ⟨_, rfl, hq2 hk⟩) (by
      show (List.replicate k.toNat its).flatten.toArray.size ≤ sizeLine
      rw [List.size_toArray, len_rep, Nat.mul_comm]
      exact hz))
end
section
variable {X : Cx} {O : Sto} {xs : List D}
theorem o_repT {i : Int} (h1 : 1 ≤ i) (h2 : i < 2 ^ 62) (hn : xs ≠ []) (hz : xs.length * i.toNat ≤ sizeLine) : Op2 X O (binaryOp .Mult) (.tup xs) (.int i) (.tup (List.replicate i.toNat xs).flatten) := fun G pins s σ H x y v u Q I rx ry ⟨sa, j1, j2, k⟩ => by
  cases j2
  have j := j1
  obtain ⟨q, vs, rfl, g, r⟩ := tup_sq sa j1
  cases rx
  obtain ⟨t, rfl⟩ := ry
  obtain ⟨its, rr, ht, hzz⟩ := I.tuple g
  have hlen := rr.length
  have hn2 : its ≠ [] := by
    rintro rfl
    have := r.length
    rw [hlen] at this
    exact hn (List.eq_nil_of_length_eq_zero this)
  refine wpAny_binaryOp_repeat_ref (T := "tuple") (U := "int") (by decide) ht.typeIs (fun s' => typeIs_int s' i t) noFill_tup_mul F.fills_int_mul F.slot_int_rmul rep_tup F.slot_int_index.lookup
    (rmul_int_tup ht ⟨rfl, ht.typeIs, mul_tup ht h1 h2 hn2 (by rw [← hlen, ← r.length]; exact hz) (fun e => ?_) (fun e => ?_)⟩)
  · subst e
    refine ⟨.ref q, H, I, rfl, k _ G H (Ext.refl _) sa ?_⟩
    have : (List.replicate (1 : Int).toNat xs).flatten = xs := by show (xs ++ []) = xs; rw [List.append_nil]
    rw [this]
    exact j
  · obtain ⟨e4, s4⟩ := sa.laid (o := .tup (List.replicate i.toNat vs).flatten) (p := s.heap.objs.size) (I.hok.fresh (Nat.le_refl _))
    refine ⟨.ref _, _, I.laid (t' := s.toks) (o := .tup (List.replicate i.toNat vs).flatten) (fun b ob q => Heap.get?_push_of_some _ q) (Nat.le_refl _) ?_, rfl, k _ _ _ e4 s4 (.tup (SqT.of upd_same) ((reps r _).ext e4))⟩
    exact ⟨by rw [len_rep, Nat.mul_comm, ← r.length]; exact hz, _, rr.rep i.toNat, IsTup.new _ _⟩
end
end DL
set_option Elab.async false
set_option linter.all false
set_option maxRecDepth 100000
namespace DL
open PySem PySem.Spec PyProof.Rows L2
def putD (f : Str) (d : D) : List (Str × D) → List (Str × D)
  | [] => [(f, d)]
  | (g, x) :: r => if g = f then (g, d) :: r else (g, x) :: putD f d r
section
variable {K : PySem.W.Frag} {G : Wd}
theorem FsIs.look {f : Str} {d : D} : ∀ {fs : List (Str × D)} {vs : List (Str × V)}, FsIs K G fs vs → fs.lookup f = some d → ∃ v, vs.lookup f = some v ∧ Is K G d v
  | _, _, .nil, e => by cases e
  | _, _, .cons (f := g) h r, e => by
    rw [List.lookup_cons] at e
    cases hc : f == g with
    | true =>
      rw [hc] at e
      cases e
      exact ⟨_, by rw [List.lookup_cons, hc], h⟩
    | false =>
      rw [hc] at e
      obtain ⟨v, e1, e2⟩ := FsIs.look r e
      exact ⟨v, by rw [List.lookup_cons, hc]; exact e1, e2⟩
theorem FsIs.put {f : Str} {d : D} {v : V} (i : Is K G d v) : ∀ {fs : List (Str × D)} {vs : List (Str × V)}, FsIs K G fs vs → FsIs K G (putD f d fs) (putF f v vs)
  | _, _, .nil => .cons i .nil
  | _, _, .cons (f := g) h r => by
    unfold putD putF
    by_cases e : g = f
    · rw [if_pos e, if_pos e]; exact .cons i r
    · rw [if_neg e, if_neg e]; exact .cons h (FsIs.put i r)
theorem FsIs.len : ∀ {fs : List (Str × D)} {vs : List (Str × V)}, FsIs K G fs vs → fs.length = vs.length
  | _, _, .nil => rfl
  | _, _, .cons _ r => by rw [List.length_cons, List.length_cons, r.len]
end
theorem SA.ins {K : PySem.W.Frag} {G : Wd} {H : Hp} {O : Sto} {q : Nat} {C : Addr} {fs : List (Str × D)} {v : V} (s : SA K G H O) (i : Is K G (.ptr q) v) (h : O[q]? = some (some (.ins C fs))) : ∃ a dx vs, v = .ref a ∧ G.l[q]? = some a ∧ H a = some (.ins C dx vs) ∧ FsIs K G fs vs := by
  cases i with
  | ptr _ ha =>
    obtain ⟨a, h1, h2, dx, vs, h3, h4⟩ := s.mt q _ h
    cases Option.some.inj (ha.symm.trans h1)
    exact ⟨_, dx, vs, rfl, h1, h3, h4⟩
section
variable {X : Cx} {ρ : Rho} {O : Sto} {e a b c o value : Expr} {es : List Expr} {d da db : D} {ds : List D} {R : D → Sto → Prop} {pos p apos pos' : Pos} {x f m : Str} {rest : List Stmt} {P : Post} {q : Nat} {C : Addr} {fs : List (Str × D)}
theorem ev_fld (he : EvP X ρ O e (.ptr q)) (hq : O[q]? = some (some (.ins C fs))) (c : Cls X.K C) (n : NoAttr X.K C f) (hl : fs.lookup f = some d) (hb : attributeBase e f X.env (eval e X.env) = eval e X.env := by rfl) : EvP X ρ O (.Attribute e f pos) d := fun G =>
  PE.imp (pe_fld (he G) hb) fun σ H Q ⟨h1, h2, h3⟩ => ⟨h1, h2, fun v G1 H1 e1 s1 i1 => by
    obtain ⟨a, dx, vs, rfl, g1, g2, g3⟩ := s1.ins i1 hq
    obtain ⟨v, l, iv⟩ := g3.look hl
    exact ⟨a, C, dx, vs, v, rfl, g2, c, n, l, h3 v G1 H1 e1 s1 iv⟩⟩
theorem x_fld (hv : EvP X ρ O value d) (ho : EvP X ρ O o (.ptr q)) (hq : O[q]? = some (some (.ins C fs))) (c : Cls X.K C) (n : NoAttr X.K C f) (hz : fs.length < 1000) (h : P.nx ρ (O.set q (some (.ins C (putD f d fs))))) (hs : swapsWith value (some (.Attribute o f pos')) pos.line X.env = pure false := by rfl) :
    Ex X ρ O (.Assign [.Attribute o f pos'] value pos) P := fun G pins s σ H E I ⟨h1, h2, h3⟩ => by
  refine plainObj_wpAny_Assign_Attribute (thn (hv G pins s σ H (fun v H1 => ∃ G1, Ext G G1 ∧ SA X.K G1 H1 O ∧ Is X.K G1 d v) I ⟨h1, h2, fun v G' H' e s i => ⟨G', e, s, i⟩⟩) fun u s1 ⟨y, H1, I1, ry, G1, e1, sa1, i1⟩ =>
    thn (ho G1 pins s1 σ H1 (fun v H2 => ∃ G2, Ext G1 G2 ∧ SA X.K G2 H2 O ∧ Is X.K G2 (.ptr q) v) I1 ⟨sa1, h2.ext e1, fun v G' H' e s i => ⟨G', e, s, i⟩⟩) fun ov s2 ⟨x, H2, I2, rx, G2, e2, sa2, i2⟩ => ?_) hs
  obtain ⟨a, dx, vs, rfl, g1, g2, g3⟩ := sa2.ins i2 hq
  obtain rfl : ov = Value.ref a := rx
  refine setattr_ok I2 g2 c n (by rw [← g3.len]; exact hz) ry fun s3 I3 => ⟨σ, _, I3, ?_⟩
  exact h3.nx σ ρ _ G2 _ (e1.trans e2) (sa2.put (m' := .ins C (putD f d fs)) hq g1 ⟨dx, _, upd_same, g3.put (i1.ext e2)⟩) (h2.ext (e1.trans e2)) h
structure MethOk (P : Program) (w : World) (K : PySem.W.Frag) (mg : Str → Option Value) (base : Heap) (C : Addr) (k : Nat) (m : Str) (sp : SpD) : Prop where
  ex : ∃ f fd ps, FnOk P w K mg base CX0 k f fd ps (toSp K sp) ∧ Meth K C m f ∧ Binds K fd ps []
  cls : Cls K C
structure MakeOk (P : Program) (w : World) (K : PySem.W.Frag) (mg : Str → Option Value) (base : Heap) (C : Addr) (k : Nat) (x : Str) (sp : SpD) : Prop where
  ex : ∃ f fd ps, FnOk P w K mg base CX0 k f fd ps (toSp K sp) ∧ Mk K C f ∧ Binds K fd ps []
  at_ : mg x = some (.ref C)
theorem made {K : PySem.W.Frag} {G : Wd} {H : Hp} {y dx : Addr} (s : SA K G H O) (h1 : H y = none) (h2 : H dx = none) (h3 : dx ≠ y) : Ext G ⟨G.g, G.l ++ [y]⟩ ∧ SA K ⟨G.g, G.l ++ [y]⟩ (upd (upd H dx (.own y)) y (.ins C dx [])) (O ++ [some (.ins C [])]) :=
  (s.grow (same_upd h2)).new (by rw [upd_ne]; exact h1; exact fun e => h3 e.symm) ⟨dx, [], upd_same, .nil⟩
end
end DL
set_option Elab.async false
set_option linter.all false
set_option maxRecDepth 100000
namespace DL
open PySem PySem.Spec PyProof.Rows L2
section
variable {X : Cx} {ρ : Rho} {O : Sto} {e a b c o ix value : Expr} {es : List Expr} {d da db : D} {ds xs : List D} {R : D → Sto → Prop} {pos p apos tpos : Pos} {x f m : Str} {rest : List Stmt} {P : Post} {q j : Nat} {i : Int}
end
end DL
set_option Elab.async false
set_option linter.all false
set_option maxRecDepth 100000
set_option maxHeartbeats 1000000
namespace DL
open PySem PySem.Spec PyProof.Rows L2 PySem.W
structure EW (n : Nat) (k : Bool) (l i : Nat) (j : Int) (xs : Array Value) (f0 f1 old : Value) (h : Heap) : Prop where
  z : h.get? (n + 1) = some { cls := .type "enumerate", dict := none, data := .fields #[f0, f1, .ref n, .int j 0, .none, old], slots := #[] }
  w : SIt k h n l i
  s : SSq k h l xs
  b : l < n
def Oth2 (n : Nat) (h h' : Heap) : Prop := ∀ c o, c ≠ n → c ≠ n + 1 → h.get? c = some o → h'.get? c = some o
section
variable {prog : Program} {w : World} {A : Around} {E : Value → Shared → Prop} {s : Shared} {n l i : Nat} {j : Int} {k : Bool} {xs : Array Value} {f0 f1 old v : Value}
def etn (k : Bool) (n l i : Nat) (h : Heap) : Prop := ∃ f0 f1 old, ZF f0 ∧ h.get? (n + 1) = some { cls := .type "enumerate", dict := none, data := .fields #[f0, f1, .ref n, .int i 0, .none, old], slots := #[] } ∧ SIt k h n l i
end
end DL
set_option Elab.async false
set_option linter.all false
set_option maxRecDepth 100000
set_option maxHeartbeats 1000000
namespace DL
open PySem PySem.Spec PyProof.Rows L2 PySem.W
def Ite (k : Bool) (K : PySem.W.Frag) (l : Addr) : It :=
  ⟨fun i H => ∃ as a, Sq k K H l as ∧ as[i]? = some a,
   fun i H x H' => ∃ T a, H T = none ∧ H' = upd H T (.tup [.int (i : Nat), a]) ∧ x = .ref T ∧ ∀ as, Sq k K H l as → as[i]? = some a,
   fun i H => ∃ as, Sq k K H l as ∧ as.length ≤ i⟩
def efp (n : Nat) : List Addr := [n, n + 1]
section
variable {X : Cx} {ρ : Rho} {O : Sto} {e a b c : Expr} {es : List Expr} {d da db : D} {ds : List D} {R : D → Sto → Prop} {pos p : Pos} {x : Str} {xs ys : List D}
end
end DL
set_option Elab.async false
set_option linter.all false
set_option maxRecDepth 100000
set_option maxHeartbeats 1000000
namespace DL
open PySem PySem.Spec PyProof.Rows L2
section
variable {X : Cx} {ρ : Rho} {O : Sto} {e a b c o value : Expr} {es : List Expr} {d da db : D} {ds : List D} {R : D → Sto → Prop} {pos p p2 apos pos' : Pos} {x y f m : Str} {rest : List Stmt} {P : Post} {q : Nat} {C C2 : Addr} {fs : List (Str × D)}
theorem ev_gint {i : Int} {t : Tok} (hm : X.mg x = some (.int i t)) (hg : Gl X x := by rfl) (hd : (x == ("__debug__" : Str)) = false := by decide) : EvP X ρ O (.Name x pos) (.int i) := fun G =>
  PE.imp (pe_glob (v := .int i) hg hm ⟨t, rfl⟩ hd) fun σ H Q ⟨h1, h2, h3⟩ => h3 _ G H (Ext.refl _) h1 (.int i)
structure ClsTy (K : PySem.W.Frag) (C : Addr) : Prop where
  cls : Cls K C
  ha : PySem.W.findIn K (.ref C) "__class__" = some (some (.builtin "object.__class__"))
  hn : PySem.W.specialIn K (.builtin "object.__class__") "__get__" = some (some (.builtin "getset_descriptor.__get__"))
  htk : PySem.W.takesIn K (.builtin "object.__class__") = some true
  hm : PySem.W.mroIn K C (.type "object") = some true
structure OfCls (P : Program) (w : World) (K : PySem.W.Frag) (mg : Str → Option Value) (base : Heap) (x : Str) (k : Nat) (m : Str) (sp : SpD) : Prop where
  ex : ∃ C mc f fd ps, mg x = some (.ref C) ∧ PySem.W.specialIn K (.ref C) "__getattribute__" = some (some (.builtin "type.__getattribute__")) ∧ PySem.W.readsIn K C mc = true ∧ PySem.W.findCls K (.ref C) mc m = some (.val (.ref f)) ∧ PySem.W.handedIn (.ref f) = true ∧
    FnOk P w K mg base CX0 k f fd ps (toSp K sp) ∧ PySem.W.keepIn K (.ref f) = true ∧ Binds K fd ps []
end
end DL
set_option Elab.async false
set_option linter.all false
set_option maxRecDepth 100000
set_option maxHeartbeats 1000000
namespace DL
open PySem PySem.Spec PyProof.Rows L2
def EvTE (X : Cx) (ρ : Rho) (O : Sto) (e : Expr) (R : Bool → Sto → Prop) : Prop :=
  ∀ G, PT X e (fun σ H Q => SA X.K G H O ∧ EnvR X.K G σ ρ ∧ ∀ k O' G' H', Ext G G' → SA X.K G' H' O' → R k O' → Q k H')
section
variable {X : Cx} {ρ : Rho} {O : Sto} {e a b c : Expr} {body orelse : List Stmt} {d da db : D} {pos : Pos} {P : Post}
end
end DL
set_option Elab.async false
set_option linter.all false
set_option maxRecDepth 100000
set_option maxHeartbeats 1000000
namespace DL
open PySem PySem.Spec PyProof.Rows L2
section
variable {X : Cx} {ρ : Rho} {O : Sto} {a b : Expr} {pos : Pos} {R : D → Sto → Prop} {xs : List D}
end
end DL
set_option Elab.async false
set_option linter.all false
set_option maxRecDepth 100000
set_option maxHeartbeats 1000000
namespace DL
open PySem PySem.Spec PyProof.Rows L2 PySem.W
section
variable {X : Cx} {ρ : Rho} {O : Sto} {d : D} {xs ys : List D}
def lstI (ns : List Int) : Int := ns.getD (argBest (fun i j => decide (ns.getD i 0 < ns.getD j 0)) (ns.length - 1)) 0
def grtI (ns : List Int) : Int := ns.getD (argBest (fun i j => decide (ns.getD i 0 > ns.getD j 0)) (ns.length - 1)) 0
end
end DL
set_option Elab.async false
set_option linter.all false
set_option maxRecDepth 100000
set_option maxHeartbeats 1000000
namespace DL
open PySem PySem.Spec PyProof.Rows L2 PySem.W
structure FunD (K : PySem.W.Frag) (x qual : Str) (st : Stmt) (f : Addr) (fd : FuncData) (dv : List Value) : Prop where
  ex : ∃ (T : Addr) (cT : Value) (dT : Option Addr) (nT : Nat) (sT : Array (Option Value)) (oc : Value) (od : Option Addr) (kV doc pm : Value) (an : Option Addr) (cdv ct : Value) (osl : Array (Option Value)),
    fd = PySem.W.fnOf x qual (defArgs st) (defBody st) (defScope st) (.ref T) kV doc pm an cdv ct ∧ K.lookup f = some ⟨oc, od, .func fd, osl⟩ ∧ PySem.W.codeIn K cdv qual = true ∧ K.lookup T = some ⟨cT, dT, .seq dv.toArray nT, sT⟩
  kp : PySem.W.keepIn K (.ref f) = true
section
variable {P : Program} {w : World} {K : PySem.W.Frag} {mg : Str → Option Value} {base : Heap}
end
section
variable {X : Cx} {ρ : Rho} {O : Sto} {a : Expr} {pos p : Pos} {R : D → Sto → Prop} {xs : List D} {d : D}
end
end DL
set_option Elab.async false
set_option linter.all false
set_option maxRecDepth 100000
set_option maxHeartbeats 1000000
namespace DL
open PySem PySem.Spec PyProof.Rows L2 PySem.W
def minP (ps : List (Int × Int)) : Int × Int := ps.getD (argBest (fun i j => ltP (ps.getD i (0, 0)) (ps.getD j (0, 0))) (ps.length - 1)) (0, 0)
def PairAt (h : Heap) (v : Value) (p : Int × Int) : Prop := ∃ a o n t u, v = .ref a ∧ h.get? a = some o ∧ o.cls = .type "tuple" ∧ o.data = .seq #[.int p.1 t, .int p.2 u] n
section
variable {prog : Program} {w : World} {A : Around} {E : Value → Shared → Prop} {s : Shared}
end
section
variable {X : Cx} {O : Sto} {d : D} {k : Nat}
end
end DL
set_option Elab.async false
set_option linter.all false
set_option maxRecDepth 100000
set_option maxHeartbeats 1000000
namespace DL
open PySem PySem.Spec PyProof.Rows L2 PySem.W
section
variable {X : Cx} {ρ : Rho} {O : Sto} {e : Expr} {p p2 pos pos2 : Pos}
end
end DL
set_option Elab.async false
set_option linter.all false
set_option maxRecDepth 100000
set_option maxHeartbeats 1000000
namespace DL
open PySem PySem.Spec PyProof.Rows L2 PySem.W
structure MakeOkN (P : Program) (w : World) (K : PySem.W.Frag) (mg : Str → Option Value) (base : Heap) (C : Addr) (k : Nat) (x : Str) (sp : SpD) : Prop where
  ex : ∃ f fd ps, FnOk P w K mg base CX0 k f fd ps (toSp K sp) ∧ Mk K C f ∧ Binds K fd ps [.none]
  at_ : mg x = some (.ref C)
section
variable {X : Cx} {ρ : Rho} {O : Sto} {e : Expr} {es : List Expr} {ds : List D} {R : D → Sto → Prop} {pos p : Pos} {x : Str} {C : Addr}
end
end DL
set_option Elab.async false
set_option linter.all false
set_option maxRecDepth 100000
set_option maxHeartbeats 1000000
namespace DL
open PySem PySem.Spec PyProof.Rows L2
end DL
set_option Elab.async false
set_option linter.all false
set_option maxRecDepth 100000
set_option maxHeartbeats 1000000
namespace DL
open PySem PySem.Spec PyProof.Rows L2
section
variable {X : Cx} {ρ : Rho} {O : Sto} {a b : Expr} {pos : Pos}
end
end DL
set_option Elab.async false
set_option linter.all false
set_option maxRecDepth 100000
set_option maxHeartbeats 1000000
namespace DL
open PySem PySem.Spec PyProof.Rows L2
section
variable {X : Cx} {ρ : Rho} {O : Sto} {a e : Expr} {d : D}
def rCnt (K : PySem.W.Frag) : V → List V → Hp → VK → Prop := fun x vs H Q => ∃ (p : Addr) (ns : List Int) (k : Int), x = .ref p ∧ vs = [.int k] ∧ SqL K H p (ns.map V.int) ∧ Q (.int ((ns.count k : Nat) : Int)) H
end
section
variable {prog : Program} {w : World} {A : Around} {E : Value → Shared → Prop} {s : Shared}
end
section
variable {X : Cx} {O : Sto} {xs : List D}
end
end DL
set_option Elab.async false
set_option linter.all false
set_option maxRecDepth 100000
set_option maxHeartbeats 1000000
namespace DL
open PySem PySem.Spec PyProof.Rows L2
section
variable {X : Cx} {ρ : Rho} {O : Sto} {a b : Expr} {d : D} {pos : Pos}
end
end DL
set_option Elab.async false
set_option linter.all false
set_option maxRecDepth 100000
set_option maxHeartbeats 1000000
namespace DL
open PySem PySem.Spec PyProof.Rows L2
def stepL {α : Type} (l : List α) (lo : Nat) : List α := (List.range ((l.length - lo + 1) / 2)).filterMap fun k => l[lo + 2 * k]?
def LoIs (o : Option Int) (lo : Nat) : Prop := (o = none ∧ lo = 0) ∨ (o = some 1 ∧ lo = 1)
section
variable {X : Cx} {ρ : Rho} {O : Sto} {e a b c st : Expr} {d da db : D} {xs ys : List D} {R : D → Sto → Prop} {pos p p2 : Pos} {P : Post} {q : Nat}
end
end DL
set_option Elab.async false
set_option linter.all false
set_option maxRecDepth 100000
set_option maxHeartbeats 1000000
namespace DL
open PySem PySem.Spec PyProof.Rows L2
section
variable {prog : Program} {w : World} {A : Around} {E : Value → Shared → Prop} {s : Shared}
end
section
variable {X : Cx} {ρ : Rho} {O : Sto} {a st lo : Expr} {xs : List D} {pos p2 : Pos}
end
end DL
set_option Elab.async false
set_option linter.all false
set_option maxRecDepth 100000
set_option maxHeartbeats 1000000
namespace DL
open PySem PySem.Spec PyProof.Rows L2
section
variable {X : Cx} {ρ : Rho} {O : Sto} {e : Expr} {C C2 : Addr} {x : Str} {p p2 pos : Pos} {R : D → Sto → Prop}
end
end DL
set_option Elab.async false
set_option linter.all false
set_option maxRecDepth 100000
set_option maxHeartbeats 1000000
namespace DL
open PySem PySem.Spec PyProof.Rows L2
section
variable {X : Cx} {ρ : Rho} {O : Sto} {o ix e : Expr} {pos tpos : Pos} {P : Post} {q : Nat}
def rGetL : V → V → Hp → VK → Prop := fun x y H Q => ∃ (p : Addr) (xs : List V) (i : Nat) (v : V), x = .ref p ∧ y = .int (i : Int) ∧ i < 1000000 ∧ H p = some (.lst xs) ∧ xs[i]? = some v ∧ Q v H
end
end DL
set_option Elab.async false
set_option linter.all false
set_option maxRecDepth 100000
set_option maxHeartbeats 1000000
namespace DL
open PySem PySem.Spec PyProof.Rows L2 PySem.W
section
variable {prog : Program} {w : World} {A : Around} {E : Value → Shared → Prop} {s : Shared} {n l : Nat} {j : Int} {xs : Array Value} {v : Value}
def RV (n l : Nat) (j : Int) (h : Heap) : Prop := h.get? n = some { cls := .type "reversed", dict := none, data := .fields #[.ref l, rawInt j], slots := #[] }
end
def Itv (K : PySem.W.Frag) (l : Addr) : It :=
  ⟨fun i H => ∃ xs x, SqT K H l xs ∧ xs.reverse[i]? = some x, fun i H x H' => H' = H ∧ ∀ xs, SqT K H l xs → xs.reverse[i]? = some x, fun i H => ∃ xs, SqT K H l xs ∧ xs.length ≤ i⟩
section
variable {X : Cx} {ρ : Rho} {O : Sto} {a : Expr} {pos p : Pos} {xs : List D}
end
end DL
set_option Elab.async false
set_option linter.all false
set_option maxRecDepth 100000
set_option maxHeartbeats 1000000
namespace DL
open PySem PySem.Spec PyProof.Rows L2 PySem.W
section
variable {prog : Program} {w : World} {A : Around} {E : Value → Shared → Prop} {s : Shared} {l : Nat} {k : Int} {t : Tok} {vs : List Value} {ns : List Int}
end
section
variable {X : Cx} {ρ : Rho} {O : Sto} {a e : Expr}
def rIdx (K : PySem.W.Frag) : V → List V → Hp → VK → Prop := fun x vs H Q => ∃ (p : Addr) (ns : List Int) (k : Int), x = .ref p ∧ vs = [.int k] ∧ SqT K H p (ns.map V.int) ∧ k ∈ ns ∧ Q (.int ((ns.idxOf k : Nat) : Int)) H
end
end DL
set_option Elab.async false
set_option linter.all false
set_option maxRecDepth 100000
set_option maxHeartbeats 1000000
namespace L2
open PySem PySem.Spec PyProof.Rows
def Mild {α : Type} : Sem α → Prop
  | .pure _ => True
  | .raise _ => True
  | .unsupported _ => True
  | .finish _ => True
  | .rule _ k => Mild (k ())
  | .at _ k => Mild (k ())
  | .load _ _ k => ∀ o, Mild (k o)
  | .update _ _ f k => (∀ o : Obj, (f o).dict = o.dict ∧ (o.data ≠ .freed → (f o).data ≠ .freed)) ∧ Mild (k ())
  | .alloc _ k => ∀ a, Mild (k a)
  | .loadIfAlive _ k => ∀ o, Mild (k o)
  | .point _ k => Mild (k ())
  | .fresh k => ∀ t, Mild (k t)
  | .ask k => ∀ t, Mild (k t)
  | .handled _ k => ∀ t, Mild (k t)
  | .stack k => ∀ t, Mild (k t)
  | .thread k => ∀ t, Mild (k t)
  | _ => False
theorem Mild.bind {α β : Type} {t : Sem α} {k : α → Sem β} (h : Mild t) (g : ∀ a, Mild (k a)) : Mild (t >>= k) := by
  show Mild (Sem.bind t k)
  induction t with
  | pure a => exact g a
  | raise _ => trivial
  | unsupported _ => trivial
  | finish _ => trivial
  | rule _ _ ih => exact ih () h
  | «at» _ _ ih => exact ih () h
  | load _ _ _ ih => exact fun o => ih o (h o)
  | update _ _ _ _ ih => exact ⟨h.1, ih () h.2⟩
  | alloc _ _ ih => exact fun o => ih o (h o)
  | loadIfAlive _ _ ih => exact fun o => ih o (h o)
  | point _ _ ih => exact ih () h
  | fresh _ ih => exact fun o => ih o (h o)
  | ask _ ih => exact fun o => ih o (h o)
  | handled _ _ ih => exact fun o => ih o (h o)
  | stack _ ih => exact fun o => ih o (h o)
  | thread _ ih => exact fun o => ih o (h o)
  | _ => exact h.elim
def DK (h h' : Heap) : Prop := ∀ b o, h.get? b = some o → ∃ o', h'.get? b = some o' ∧ o'.dict = o.dict
theorem DK.refl (h : Heap) : DK h h := fun _ o e => ⟨o, e, rfl⟩
theorem DK.trans {h h1 h2 : Heap} (x : DK h h1) (y : DK h1 h2) : DK h h2 := fun b o e => by
  obtain ⟨o1, e1, d1⟩ := x b o e
  obtain ⟨o2, e2, d2⟩ := y b o1 e1
  exact ⟨o2, e2, d2.trans d1⟩
theorem DK.push {h : Heap} (o : Obj) : DK h (h.push o) := fun b o' e => ⟨o', Heap.get?_push_of_some _ e, rfl⟩
theorem DK.update {h : Heap} {a : Addr} {f : Obj → Obj} (hf : ∀ o : Obj, (f o).dict = o.dict ∧ (o.data ≠ .freed → (f o).data ≠ .freed)) : DK h (h.update a f) := fun b o e => by
  by_cases hb : a = b
  · subst hb
    have hn : o.data ≠ .freed := fun z => by
      unfold Heap.get? at e
      split at e
      · cases e
      · rename_i hx
        obtain ⟨c, d, x, l⟩ := o
        subst z
        exact hx _ _ _ e
    refine ⟨f o, Heap.get?_update_self f e ?_, (hf o).1⟩
    have := (hf o).2 hn
    revert this
    generalize f o = z
    obtain ⟨c, d, y, l⟩ := z
    intro this
    cases y <;> first | rfl | exact absurd rfl this
  · exact ⟨o, (Heap.get?_update_other _ _ hb).trans e, rfl⟩
theorem Mild.wp {α : Type} {M : Model} {Γ : PySem.Ctx} {t : Sem α} (h : Mild t) : ∀ {Q : α → Pos → Shared → Prop} {E : Value → Pos → Shared → Prop} {p : Pos} {s : Shared} {h0 : Heap}, DK h0 s.heap → Sem.wp M Γ t Q E p s → Sem.wp M Γ t (fun a p' s' => Q a p' s' ∧ DK h0 s'.heap) (fun e p' s' => E e p' s' ∧ DK h0 s'.heap) p s := by
  induction t with
  | pure a => exact fun d q => ⟨q, d⟩
  | raise _ => exact fun d q => ⟨q, d⟩
  | unsupported _ => exact fun d q => q.elim
  | finish _ => exact fun d q => q.elim
  | rule _ _ ih => exact fun d q => ih () h d q
  | «at» _ _ ih => exact fun d q => ih () h d q
  | load _ _ _ ih => exact fun d ⟨o, e, q⟩ => ⟨o, e, ih o (h o) d q⟩
  | update _ _ _ _ ih => exact fun d ⟨e, q⟩ => ⟨e, ih () h.2 (d.trans (DK.update h.1)) q⟩
  | alloc _ _ ih => exact fun d q => ih _ (h _) (d.trans (DK.push _)) q
  | loadIfAlive _ _ ih => exact fun d q => ih _ (h _) d q
  | point _ _ ih => exact fun d q => ih () h d q
  | fresh _ ih => exact fun d q => ih _ (h _) d q
  | ask _ ih => exact fun d q => ih _ (h _) d q
  | handled _ _ ih => exact fun d q => ih _ (h _) d q
  | stack _ ih => exact fun d q => ih _ (h _) d q
  | thread _ ih => exact fun d q => ih _ (h _) d q
  | _ => exact h.elim
theorem Mild.any {α : Type} {M : Model} {A : Around} {t : Sem α} {Q : α → Shared → Prop} {E : Value → Shared → Prop} {s : Shared} (h : Mild t) (q : wpAny M A t Q E s) : wpAny M A t (fun a s' => Q a s' ∧ DK s.heap s'.heap) (fun e s' => E e s' ∧ DK s.heap s'.heap) s :=
  fun Γ p hi => h.wp (DK.refl _) (q Γ p hi)
theorem mild_field {v : Value} {i : Nat} : Mild (field v i) := by
  unfold field fieldsOf
  refine Mild.bind ?_ fun vs => ?_
  · cases v with
    | ref a =>
      refine Mild.bind (fun _ => trivial) fun o => ?_
      split <;> trivial
    | _ => trivial
  · split <;> trivial
theorem mild_setField {v x : Value} {i : Nat} : Mild (setField v i x) := by
  unfold setField
  cases v with
  | ref a =>
    show Mild (updateField a i x)
    unfold updateField
    refine Mild.bind (fun _ => trivial) fun o => ?_
    split
    · split
      · refine ⟨fun o => ?_, trivial⟩
        obtain ⟨c, d, y, l⟩ := o
        cases y <;> exact ⟨rfl, fun z => by first | exact z | (intro q; cases q)⟩
      · trivial
    · trivial
  | _ => trivial
theorem mild_setFlight {e : Value} {f : Option Addr} : Mild (setFlight e f) := by
  unfold setFlight
  refine Mild.bind mild_field fun tb => ?_
  split
  · exact mild_setField
  · trivial
theorem mild_stack : Mild stack := fun _ => trivial
theorem mild_ready : ∀ l : List Env, Mild (readyFrames l)
  | [] => trivial
  | env :: outer => by
    unfold readyFrames
    split
    · refine Mild.bind (fun _ => trivial) fun o => ?_
      split
      · trivial
      · refine Mild.bind ?_ fun im => Mild.bind ?_ fun back => Mild.bind ⟨fun o => ⟨rfl, id⟩, trivial⟩ fun _ => mild_ready outer
        · unfold behindIsImport
          split
          · trivial
          · split
            · trivial
            · exact Mild.bind mild_field fun _ => trivial
        · unfold keptBack underTheClaimsCaller
          split
          · split
            · trivial
            · exact Mild.bind (Mild.bind mild_stack fun _ => trivial) fun _ => trivial
          · trivial
    · trivial
theorem mild_frameOf {env : Env} : Mild (PySem.frameOf env) := by
  unfold PySem.frameOf frameEnvs
  refine Mild.bind (Mild.bind mild_stack fun _ => trivial) fun es => Mild.bind ?_ fun o => ?_
  · unfold frameObject
    split
    · trivial
    · exact Mild.bind (mild_ready _) fun _ => trivial
  · split <;> trivial
theorem mild_place {f : Addr} {b : Bool} : Mild (entryPlaceOf f b) := by
  unfold entryPlaceOf
  refine Mild.bind mild_stack fun a => ?_
  split <;> trivial
theorem mild_newEntry {a b c d e : Value} {l : List Value} : Mild (EntryCells.newEntry a b c d e l) := by
  unfold EntryCells.newEntry newFields newObj newObjAsIs
  dsimp only
  split <;> split <;> first | trivial | exact fun _ => trivial
theorem mild_note {e : Value} {env : Env} : Mild (noteFrame e env) := by
  unfold noteFrame
  split
  · refine Mild.bind mild_field fun hd => ?_
    have rest : ∀ (f : Addr) (hd : Value), Mild (do setField e 1 (← EntryCells.newEntry hd (← PySem.frameOf env) .none (rawInt f) .none (← entryPlaceOf f (hd != .none)))) := fun f hd =>
      Mild.bind mild_frameOf fun _ => Mild.bind mild_place fun _ => Mild.bind mild_newEntry fun _ => mild_setField
    split
    · refine Mild.bind mild_field fun x => ?_
      split
      · trivial
      · exact Mild.bind mild_setField fun _ => rest _ _
    · exact rest _ _
  · trivial
theorem mild_leaving {e : Value} {env : Env} : Mild (leaving env e) := Mild.bind mild_note fun _ => mild_setFlight
def Flies (B : Heap) (l : List Env) (a C : Addr) (od : Option Addr) (h : Heap) : Prop :=
  (∃ t, Heap.FlyingW B l a (.ref C) (.ref t) h) ∧ ∃ oe, h.get? a = some oe ∧ oe.dict = od
structure Gone (P : Program) (w : World) (outer : List Env) (H H' : Hp) (s s' : Shared) (a C : Addr) (od : Option Addr) (B : Heap) : Prop where
  os : s'.os = s.os
  bare : AllBare s'.gens
  fly : Flies B outer a C od s'.heap
  un : Un (frs outer) [] H H' s.heap s'.heap
  hok : HOk P w H' s'.heap
  old : ∀ b o, s.heap.get? b = some o → b ∉ frs outer → ∃ o', B.get? b = some o'
  trk : ∀ b u, H' b = some u → ∃ o', B.get? b = some o'
def CX1 (P : Program) (w : World) : CXT := fun outer H s E e s' => ∃ a C od B H', e = .ref a ∧ Gone P w outer H H' s s' a C od B ∧ E (.ref C) od H'
section
variable {P : Program} {w : World}
theorem hok_in {H : Hp} {h h' B : Heap} (ok : HOk P w H h) (k1 : B.StaysIn h) (k2 : B.StaysIn h') (t : ∀ b u, H b = some u → ∃ o', B.get? b = some o') : HOk P w H h' := fun a o e =>
  (ok a o e).stay (fun b u hb q => by
    have hb' : ∃ v, H b = some v := by
      rcases hb with rfl | hb
      · exact ⟨o, e⟩
      · exact ⟨_, hb⟩
    obtain ⟨v, hv⟩ := hb'
    obtain ⟨o', h1⟩ := t b v hv
    have h2 := k1 b o' h1
    rw [q] at h2
    cases h2
    exact k2 b _ h1) (fun _ q => q) fun _ _ q => q
theorem HOk.get {H : Hp} {h : Heap} {a : Addr} {o : HO} (x : HOk P w H h) (e : H a = some o) : ∃ ob, h.get? a = some ob := by
  have x := x a o e
  induction o with
  | lst xs => obtain ⟨_, _, _, _, e⟩ := x; exact ⟨_, e⟩
  | tup xs => obtain ⟨_, _, _, _, e, _⟩ := x; exact ⟨_, e⟩
  | dK kvs => obtain ⟨_, _, _, _, o, _, _, e, _⟩ := x; exact ⟨_, e⟩
  | dT kvs => obtain ⟨_, _, _, _, o, _, _, e, _⟩ := x; exact ⟨_, e⟩
  | set S n => obtain ⟨o, _, _, _, e, _⟩ := x; exact ⟨_, e⟩
  | ins C dx fs => obtain ⟨_, _, _, e, _⟩ := x; exact ⟨_, e⟩
  | own y => exact x
  | xd fs => obtain ⟨_, ⟨_, _, _, e, _⟩, _⟩ := x; exact ⟨_, e⟩
  | rng lo hi => obtain ⟨_, _, _, e⟩ := x; exact ⟨_, e⟩
  | frz ob u => obtain ⟨e, _⟩ := x; exact ⟨_, e⟩
  | tbl ps => exact ⟨_, show h.get? a = some _ from x⟩
  | met f y => exact ⟨_, show h.get? a = some _ from x⟩
  | ext φ => obtain ⟨_, q, _⟩ := x; exact q
theorem hide_get {h : Heap} {as : List Addr} {b : Addr} {o : Obj} (e : h.get? b = some o) (n : b ∉ as) : (PySem.W.hideAll h as).get? b = some o := PySem.W.hideAll_get _ e n
end
section
variable {CX : CXT} {P : Program} {w : World} {K : PySem.W.Frag} {mg : Str → Option Value} {base : Heap} {N : List Str} {qual : Str} {scope : Scope} {f : Addr} {cd : Value} {A : Around} {outer : List Env} {s : Shared} {H : Hp} {E : XK}
theorem pass1 : Passes (CX1 P w) (cxOf (CX1 P w) P w K mg base N qual scope f cd A outer s H E) E := fun pins σ H1 s1 e s2 I hc => by
  obtain ⟨a, C, od, B, H2, rfl, g, he⟩ := hc
  obtain ⟨⟨t, fl⟩, hd⟩ := g.fly
  show wpAny _ _ (leaving _ _) _ _ s2
  have hne : ∀ b o, s.heap.get? b = some o → b ≠ s.heap.objs.size := fun b o e z => Nat.lt_irrefl _ (z ▸ Heap.lt_size e)
  have hst : ∀ b o, s.heap.get? b = some o → b ∉ frs outer → b ∉ frs (envOfC qual scope s.heap.objs.size f cd :: outer) := fun b o e n z => by
    unfold frs at z n
    rw [List.filterMap_cons] at z
    have z : b ∈ s.heap.objs.size :: List.filterMap (fun x : Env => x.frame) outer := z
    rcases List.mem_cons.mp z with z | z
    · exact hne b o e z
    · exact n z
  have hin : ∀ b, b ∈ frs outer → b ∈ frs (envOfC qual scope s.heap.objs.size f cd :: outer) := fun b z => by
    unfold frs at z ⊢
    rw [List.filterMap_cons]
    exact List.mem_cons_of_mem _ z
  obtain ⟨oe, ho0, ho1⟩ := hd
  refine wpAny_mono (mild_leaving.any (wpAny_leaves_onW (E := fun _ _ => False) (Q := fun _ s' => ∃ h', s' = { s2 with heap := h' } ∧ Heap.FlyingW B outer a (.ref C) (.ref t) h' ∧ s2.heap.UpToSlots h') I.ok.frames rfl fl fun h' fl' sm => ⟨h', rfl, fl', sm⟩)) (fun _ s3 ⟨⟨h', e3, fl', sm⟩, dk⟩ => ?_) fun _ _ z => z.1.elim
  subst e3
  obtain ⟨oe', ho2, ho3⟩ := dk a oe ho0
  refine ⟨a, C, od, B, H2, rfl, ⟨g.os.trans I.os, g.bare, ⟨⟨t, fl'⟩, oe', ho2, ho3.trans ho1⟩, ?_, hok_in g.hok fl.1 fl'.1 g.trk, ?_, g.trk⟩, he⟩
  · have hu : Un (frs outer) [] H H1 s.heap s1.heap := I.base
    refine ⟨fun b o q n hb _ => ?_, fun b o q n hb _ => ?_, fun b o q n _ => ?_, fun b o q _ => ?_, fun b xs q => g.un.tups b xs (hu.tups b xs q), fun b o u q => g.un.frzs b o u (hu.frzs b o u q), fun b ps q => ?_⟩
    · have q1 := hu.keep b o q n hb (by simp)
      have n1 := hu.free b o q n (by simp)
      have q2 := g.un.keep b o q1 n1 (hst b o q hb) (by simp)
      obtain ⟨o', ho⟩ := g.old b o q1 (hst b o q hb)
      have h2 := fl.1 b o' ho
      rw [q2] at h2
      cases h2
      exact fl'.1 b _ ho
    · obtain ⟨sl, q1⟩ := hu.slot b o q n hb (by simp)
      have n1 := hu.free b o q n (by simp)
      obtain ⟨sl2, q2⟩ := g.un.slot b _ q1 n1 (hin b hb) (by simp)
      obtain ⟨_, oo, ho, hnf⟩ := fl.2.2.1.mem (hin b hb)
      rw [q2] at ho
      cases ho
      obtain ⟨sl3, q3⟩ := sm b _ q2 hnf
      exact ⟨sl3, q3⟩
    · obtain ⟨o1, q1⟩ := hu.there b o q (by simp)
      exact g.un.free b o1 q1 (hu.free b o q n (by simp)) (by simp)
    · obtain ⟨o1, q1⟩ := hu.there b o q (by simp)
      by_cases hb : b ∈ frs outer
      · obtain ⟨_, oo, ho, hnf⟩ := fl.2.2.1.mem (hin b hb)
        obtain ⟨sl3, q3⟩ := sm b _ ho hnf
        exact ⟨_, q3⟩
      · obtain ⟨o', ho⟩ := g.old b o1 q1 (hst b o q hb)
        exact ⟨o', fl'.1 b _ ho⟩
    · obtain ⟨m1, e1⟩ := hu.tbls b ps q
      obtain ⟨m2, e2⟩ := g.un.tbls b _ e1
      exact ⟨m1 ++ m2, by rw [e2, Array.append_assoc]⟩
  · intro b o q hb
    have hu : Un (frs outer) [] H H1 s.heap s1.heap := I.base
    obtain ⟨o1, q1⟩ := hu.there b o q (by simp)
    exact g.old b o1 q1 (hst b o q hb)
theorem raise2 {pins : List (Addr × Obj)} {σ : St} {H1 : Hp} {s1 : Shared} {a C t : Addr} {oe : Obj} {vs : Array Value} (I : Inv (cxOf (CX1 P w) P w K mg base N qual scope f cd A outer s H E) pins σ H1 s1) (n1 : H1 a = none) (n0 : s.heap.get? a = none)
    (ho : s1.heap.get? a = some oe) (hc : oe.cls = .ref C) (hv : oe.data = .fields vs) (h1 : vs[1]? = some .none) (h0 : vs[0]? = some (.ref t)) (he : E (.ref C) oe.dict H1) : (cxOf (CX1 P w) P w K mg base N qual scope f cd A outer s H E).xe (.ref a) s1 := by
  show wpAny _ _ (leaving _ _) _ _ _
  have hu : Un (frs outer) [] H H1 s.heap s1.heap := I.base
  have hne : ∀ b o, s.heap.get? b = some o → b ≠ s.heap.objs.size := fun b o e z => Nat.lt_irrefl _ (z ▸ Heap.lt_size e)
  have hst : ∀ b o, s.heap.get? b = some o → b ∉ frs outer → b ∉ frs (envOfC qual scope s.heap.objs.size f cd :: outer) := fun b o e n z => by
    unfold frs at z n
    rw [List.filterMap_cons] at z
    have z : b ∈ s.heap.objs.size :: List.filterMap (fun x : Env => x.frame) outer := z
    rcases List.mem_cons.mp z with z | z
    · exact hne b o e z
    · exact n z
  have hsub : ∀ b, b ∈ frs outer → b ∈ frs (envOfC qual scope s.heap.objs.size f cd :: outer) := fun b z => by
    unfold frs at z ⊢
    rw [List.filterMap_cons]
    exact List.mem_cons_of_mem _ z
  generalize hB : PySem.W.hideAll s1.heap (a :: frs (envOfC qual scope s.heap.objs.size f cd :: outer)) = B
  have hin : ∀ env ∈ (envOfC qual scope s.heap.objs.size f cd :: outer), ∀ b, env.frame = some b → b ∈ a :: frs (envOfC qual scope s.heap.objs.size f cd :: outer) := fun env he b hb => List.mem_cons_of_mem _ (List.mem_filterMap.mpr ⟨env, he, hb⟩)
  have ff : s1.heap.FunFrames B (envOfC qual scope s.heap.objs.size f cd :: outer) := hB ▸ PySem.W.funFrames_hide I.stack hin
  have of : ∀ b o, B.get? b = some o → s1.heap.get? b = some o := fun b o q => PySem.W.of_hideAll _ (hB ▸ q)
  have to : ∀ b o, s1.heap.get? b = some o → b ≠ a → b ∉ frs (envOfC qual scope s.heap.objs.size f cd :: outer) → B.get? b = some o := fun b o q n1 n2 => hB ▸ hide_get q (fun z => by
    rcases List.mem_cons.mp z with z | z
    · exact n1 z
    · exact n2 z)
  have ba : B.get? a = none := hB ▸ PySem.W.hideAll_none _ List.mem_cons_self
  have trk : ∀ b u, H1 b = some u → ∃ o', B.get? b = some o' := fun b u q => by
    have hb : b ∉ frs (envOfC qual scope s.heap.objs.size f cd :: outer) := fun z => by
      have := I.stkFree b z
      rw [q] at this
      cases this
    obtain ⟨o, ho⟩ : ∃ o, s1.heap.get? b = some o := I.hok.get q
    exact ⟨o, to b o ho (ne_of_none q n1) hb⟩
  refine wpAny_mono (mild_leaving.any (wpAny_leaving_firstW (E := fun _ _ => False) (Q := fun _ s' => ∃ h', s' = { s1 with heap := h' } ∧ Heap.LeftW B (envOfC qual scope s.heap.objs.size f cd :: outer) a oe.cls (.ref t) s1.heap h') I.ok.frames ff rfl ho of ba hv h1 h0 fun h' l => ⟨h', rfl, l⟩)) (fun _ s3 ⟨⟨h', e3, k1, ⟨_, _, k2⟩, k3, sm⟩, dk⟩ => ?_) fun _ _ z => z.1.elim
  subst e3
  obtain ⟨oe', ho2, ho3⟩ := dk a oe ho
  have na : ∀ b o, s.heap.get? b = some o → b ≠ a := fun b o q z => by rw [z, n0] at q; cases q
  refine ⟨a, C, oe.dict, B, H1, rfl, ⟨I.os, I.bare, ⟨⟨t, k1, ba, k2, hc ▸ k3⟩, oe', ho2, ho3⟩, ?_, hok_in I.hok of k1 trk, ?_, trk⟩, he⟩
  · refine ⟨fun b o q n hb _ => ?_, fun b o q n hb _ => ?_, fun b o q n _ => hu.free b o q n (by simp), fun b o q _ => ?_, hu.tups, hu.frzs, hu.tbls⟩
    · exact k1 b o (to b o (hu.keep b o q n hb (by simp)) (na b o q) (hst b o q hb))
    · obtain ⟨sl, q1⟩ := hu.slot b o q n hb (by simp)
      obtain ⟨_, oo, ho, hnf⟩ := ff.mem (hsub b hb)
      rw [q1] at ho
      cases ho
      obtain ⟨sl3, q3⟩ := sm b _ q1 hnf
      exact ⟨sl3, q3⟩
    · obtain ⟨o1, q1⟩ := hu.there b o q (by simp)
      by_cases hb : b ∈ frs outer
      · obtain ⟨_, oo, ho, hnf⟩ := ff.mem (hsub b hb)
        obtain ⟨sl3, q3⟩ := sm b _ ho hnf
        exact ⟨_, q3⟩
      · exact ⟨o1, k1 b _ (to b o1 q1 (na b o q) (hst b o q hb))⟩
  · intro b o q hb
    obtain ⟨o1, q1⟩ := hu.there b o q (by simp)
    exact ⟨o1, to b o1 q1 (na b o q) (hst b o q hb)⟩
end
end L2
set_option Elab.async false
set_option linter.all false
set_option maxRecDepth 100000
set_option maxHeartbeats 1000000
namespace DL
open PySem PySem.Spec PyProof.Rows L2
def Fds (K : PySem.W.Frag) (G : Wd) (od : Option Addr) (fs : List (Str × D)) : Prop := fs = [] ∨ ∃ dx vs, od = some dx ∧ G.g dx = some (.xd vs) ∧ FsIs K G fs vs
abbrev XR := Addr → List (Str × D) → Sto → Prop
abbrev SpX := List D → Sto → (D → Sto → Prop) → XR → Prop
def toSpX (K : PySem.W.Frag) (sp : SpX) : Sp := fun vs H Q E => ∃ G O ds R RX, SA K G H O ∧ Iss K G ds vs ∧ sp ds O R RX ∧ (∀ v d O' G' H', Ext G G' → SA K G' H' O' → Is K G' d v → R d O' → Q v H') ∧
  ∀ C fs od O' G' H', Ext G G' → SA K G' H' O' → Fds K G' od fs → RX C fs O' → E (.ref C) od H'
def Thr (X : Cx) (C : Addr) (od : Option Addr) (σ : L2.St) (H' : Hp) : Prop := ∀ pins H1 s1 a B s2, L2.Inv X pins σ H1 s1 → Gone X.prog X.w X.stack H1 H' s1 s2 a C od B → X.xe (.ref a) s2
def ThrM (X : Cx) (C : Addr) (od : Option Addr) (σ : L2.St) (H' : Hp) : Prop := ∀ pins s1 a t oe vs, L2.Inv X pins σ H' s1 → H' a = none → X.s₀.heap.get? a = none → s1.heap.get? a = some oe → oe.cls = .ref C → oe.data = .fields vs → vs[1]? = some .none → vs[0]? = some (.ref t) → oe.dict = od → X.xe (.ref a) s1
abbrev XC := Addr → List (Str × D) → Rho → Sto → Prop
def ContX (X : Cx) (mk : Prop) (G : Wd) (RX : XC) : Prop := ∀ C fs od σ ρ O' G' H', Ext G G' → SA X.K G' H' O' → EnvR X.K G' σ ρ → Fds X.K G' od fs → RX C fs ρ O' → Thr X C od σ H' ∧ (mk → ThrM X C od σ H')
theorem ContX.ext {X : Cx} {mk : Prop} {G G' : Wd} {RX : XC} (h : ContX X mk G RX) (e : Ext G G') : ContX X mk G' RX := fun C fs od σ ρ O' G2 H' e2 => h C fs od σ ρ O' G2 H' (e.trans e2)
def EvX (X : Cx) (mk : Prop) (ρ : Rho) (O : Sto) (e : Expr) (R : D → Sto → Prop) (RX : XC) : Prop :=
  ∀ G, PE X e (fun σ H Q => SA X.K G H O ∧ EnvR X.K G σ ρ ∧ (∀ v d O' G' H', Ext G G' → SA X.K G' H' O' → Is X.K G' d v → R d O' → Q v H') ∧ ContX X mk G RX)
def ExX (X : Cx) (mk : Prop) (ρ : Rho) (O : Sto) (st : Stmt) (P : Post) (RX : XC) : Prop := ∀ G, PS X st (fun E σ H => SA X.K G H O ∧ EnvR X.K G σ ρ ∧ Conts X.K G P E ∧ ContX X mk G RX)
def ExsX (X : Cx) (mk : Prop) (ρ : Rho) (O : Sto) (st : List Stmt) (P : Post) (RX : XC) : Prop := ∀ G, PSs X st (fun E σ H => SA X.K G H O ∧ EnvR X.K G σ ρ ∧ Conts X.K G P E ∧ ContX X mk G RX)
section
variable {X : Cx} {mk : Prop} {ρ : Rho} {O : Sto} {e a b c o : Expr} {es : List Expr} {d da db : D} {ds : List D} {R : D → Sto → Prop} {RX : XC} {pos p apos : Pos} {x m : Str} {st : Stmt} {rest body orelse : List Stmt} {P : Post} {C : Addr} {q : Nat} {fs : List (Str × D)}
theorem _root_.DL.Exs.x_ (h : Exs X ρ O rest P) : ExsX X mk ρ O rest P RX := fun G => PSs.imp (h G) fun E σ H ⟨h1, h2, h3, _⟩ => ⟨h1, h2, h3⟩
theorem xX_nil (h : P.nx ρ O) : ExsX X mk ρ O [] P RX := Exs.x_ (xs_nil h)
theorem xX_cons (h : ExX X mk ρ O st { P with nx := fun ρ' O' => ExsX X mk ρ' O' rest P RX } RX) : ExsX X mk ρ O (st :: rest) P RX := fun G =>
  PSs.imp (pss_cons (h G) (u := fun E σ H => ∃ G1 ρ1 O1, SA X.K G1 H O1 ∧ EnvR X.K G1 σ ρ1 ∧ ExsX X mk ρ1 O1 rest P RX ∧ Conts X.K G1 P E ∧ ContX X mk G1 RX) (fun pins s σ H E I ⟨G1, ρ1, O1, q1, q2, q3, q4, q5⟩ => q3 G1 pins s σ H E I ⟨q1, q2, q4, q5⟩)) fun E σ H ⟨h1, h2, h3, h4⟩ =>
    ⟨h1, h2, ⟨fun σ1 ρ1 O1 G1 H1 e1 s1 n1 q1 => ⟨G1, ρ1, O1, s1, n1, q1, h3.ext e1, h4.ext e1⟩, h3.rt, h3.bk, h3.ct⟩, h4⟩
theorem xX_if {k : Bool} (hc : EvT X ρ O c k) (h1 : k = true → ExsX X mk ρ O body P RX) (h2 : k = false → ExsX X mk ρ O orelse P RX) : ExX X mk ρ O (.If c body orelse pos) P RX := fun G =>
  PS.imp (ps_if (hc G) (t := fun E σ H => ∃ G1, k = true ∧ SA X.K G1 H O ∧ EnvR X.K G1 σ ρ ∧ Conts X.K G1 P E ∧ ContX X mk G1 RX) (fun pins s σ H E I ⟨G1, z, q⟩ => h1 z G1 pins s σ H E I q)
    (u := fun E σ H => ∃ G1, k = false ∧ SA X.K G1 H O ∧ EnvR X.K G1 σ ρ ∧ Conts X.K G1 P E ∧ ContX X mk G1 RX) (fun pins s σ H E I ⟨G1, z, q⟩ => h2 z G1 pins s σ H E I q)) fun E σ H ⟨q1, q2, q3, q4⟩ =>
    ⟨q1, q2, fun G' H' e1 s1 => by
      cases k with
      | true => exact iteT ⟨G', rfl, s1, q2.ext e1, q3.ext e1, q4.ext e1⟩
      | false => exact iteF ⟨G', rfl, s1, q2.ext e1, q3.ext e1, q4.ext e1⟩⟩
theorem xX_expr (h : EvX X mk ρ O e (fun _ O' => P.nx ρ O') RX) (hs : swapsWith e none pos.line X.env = pure false := by rfl) : ExX X mk ρ O (.Expr e pos) P RX := fun G => PS.imp (ps_expr (h G) hs) fun E σ H ⟨h1, h2, h3, h4⟩ =>
  ⟨h1, h2, fun v d O' G' H' e1 s1 i1 r1 => h3.nx σ ρ O' G' H' e1 s1 (h2.ext e1) r1, h4⟩
theorem xX_set (i : Nat) (he : EvX X mk ρ O e (fun d O' => P.nx (ρ.set i (some d)) O') RX) (hN : X.N.Nodup) (hi : X.N[i]? = some x := by rfl) (hx : Loc X.env.scope x := by first | exact Or.inl rfl | exact Or.inr rfl) {p : Pos}
    (hs : swapsWith e (some (.Name x p)) pos.line X.env = pure false := by rfl) (hf : X.fn x = true ∨ X.env.scope.names.lookup x = some .local := by first | exact .inl rfl | exact .inr rfl | assumption) : ExX X mk ρ O (.Assign [.Name x p] e pos) P RX := fun G =>
  PS.imp (ps_set hN hi hx (he G) hs hf) fun E σ H ⟨h1, h2, h3, h4⟩ => ⟨h1, h2, fun v d O' G' H' e1 s1 i1 r1 => h3.nx _ _ O' G' H' e1 s1 ((h2.ext e1).set i i1) r1, h4⟩
theorem run_fnX {CX : CXT} {k : Nat} {f : Addr} {fd : FuncData} {ps : List Str} {sp : Sp} {E : XK} {pins : List (Addr × Obj)} {σ : L2.St} {H : Hp} {s : Shared} {Q : VK} {us : List Value} {vs : List V} (F : FnOk X.prog X.w X.K X.mg X.base CX k f fd ps sp) (hr : Room k X.A) (hb : Binds X.K fd ps [])
    (I : L2.Inv X pins σ H s) (r : Vals vs us) (h : sp vs H Q E) (hx : ∀ e s', CX X.stack H s E e s' → X.xe e s') : wpAny (model X.prog X.w) X.A (call (.ref f) us) (EP X pins σ Q) X.xe s := by
  have hl : us.length = ps.length := by rw [← r.length]; exact F.len _ _ _ _ h
  have hb' := hb s us I.kIn (by rw [List.append_nil]; exact hl)
  rw [List.append_nil] at hb'
  refine wpAny_call (codeAny_mono (F.run X.A X.stack s H ⟨us, []⟩ us vs Q E hr I.env0 hb' r h) fun r s' hq => ?_)
  match r, hq with
  | .error e, hq => exact hx e s' hq
  | .ok (.ret u), hq => exact I.after hq
theorem thr_of {G : Wd} {H' H1 : Hp} {σ : L2.St} {pins : List (Addr × Obj)} {s1 s2 : Shared} {e : Value} {E : XK} (I : L2.Inv X pins σ H1 s1) (k : ∀ C od H2, E (.ref C) od H2 → Thr X C od σ H2) (h : CX1 X.prog X.w X.stack H1 s1 E e s2) : X.xe e s2 := by
  obtain ⟨a, C, od, B, H2, rfl, g, he⟩ := h
  exact k C od H2 he pins H1 s1 a B s2 I g
def EOf (X : Cx) (σ : L2.St) : XK := fun c od H' => ∀ C, c = .ref C → Thr X C od σ H'
theorem eof_thr {σ : L2.St} : ∀ C od H2, EOf X σ (.ref C) od H2 → Thr X C od σ H2 := fun C od H2 h => h C rfl
structure DefX (P : Program) (w : World) (K : PySem.W.Frag) (mg : Str → Option Value) (base : Heap) (k : Nat) (x : Str) (sp : SpX) : Prop where
  ex : ∃ f fd ps, FnOk P w K mg base (CX1 P w) k f fd ps (toSpX K sp) ∧ mg x = some (.ref f) ∧ PySem.W.keepIn K (.ref f) = true ∧ Binds K fd ps []
theorem evX_call {k : Nat} {sp : SpX} (F : DefX X.prog X.w X.K X.mg X.base k x sp) (hr : Room k X.A) (ha : EvPs X ρ O (e :: es) ds) (hs : sp ds O R fun C fs O' => RX C fs ρ O') (hg : Gl X x := by rfl) (hdb : (x == ("__debug__" : Str)) = false := by decide)
    (he : starEach (e :: es) X.env = (false, eval e X.env) :: starEach es X.env := by rfl) (hpl : (backTo pos (starEach es X.env)).any (·.1) = false := by rfl) : EvX X mk ρ O (.Call (.Name x p) (e :: es) [] pos) R RX := fun G pins s σ H Q I ⟨h1, h2, h3, h4⟩ => by
  obtain ⟨f, fd, ps, g1, g2, g3, g4⟩ := F.ex
  refine wpAny_Call_Name_kw (ld_glob I hg g2 ?_ hdb)
  refine PySem.W.callWith_K (h₀ := X.base) I.ok.mod.kin g3 (thn (ha G pos pins s σ H (fun vs H' => ∃ G', Ext G G' ∧ SA X.K G' H' O ∧ Iss X.K G' ds vs) I ⟨h1, h2, fun vs G' H' e1 s1 i1 => ⟨G', e1, s1, i1⟩⟩) fun us s1 ⟨vs, H1, I1, r, G1, e1, sa, i1⟩ => ⟨I1.kIn, ?_⟩) he hpl
  refine run_fnX (E := EOf X σ) g1 hr g4 I1 r ⟨G1, O, ds, R, _, sa, i1, hs, fun v d O' G' H' e2 s2 i2 r2 => h3 v d O' G' H' (e1.trans e2) s2 i2 r2, fun C fs od O' G' H' e2 s2 f2 r2 => ?_⟩ fun e s' hx => thr_of (G := G) (H' := H) I1 eof_thr hx
  intro C' hC
  cases hC
  exact (h4 _ fs od σ ρ O' G' H' (e1.trans e2) s2 (h2.ext (e1.trans e2)) f2 r2).1
structure MethX (P : Program) (w : World) (K : PySem.W.Frag) (mg : Str → Option Value) (base : Heap) (C : Addr) (k : Nat) (m : Str) (sp : SpX) : Prop where
  ex : ∃ f fd ps, FnOk P w K mg base (CX1 P w) k f fd ps (toSpX K sp) ∧ Meth K C m f ∧ Binds K fd ps []
  cls : Cls K C
structure OfClsX (P : Program) (w : World) (K : PySem.W.Frag) (mg : Str → Option Value) (base : Heap) (x : Str) (k : Nat) (m : Str) (sp : SpX) : Prop where
  ex : ∃ C mc f fd ps, mg x = some (.ref C) ∧ PySem.W.specialIn K (.ref C) "__getattribute__" = some (some (.builtin "type.__getattribute__")) ∧ PySem.W.readsIn K C mc = true ∧ PySem.W.findCls K (.ref C) mc m = some (.val (.ref f)) ∧ PySem.W.handedIn (.ref f) = true ∧
    FnOk P w K mg base (CX1 P w) k f fd ps (toSpX K sp) ∧ PySem.W.keepIn K (.ref f) = true ∧ Binds K fd ps []
theorem evX_ofCls {k : Nat} {sp : SpX} {pl : Sem Bool} (M : OfClsX X.prog X.w X.K X.mg X.base x k m sp) (hr : Room k X.A) (ha : EvPs X ρ O (e :: es) ds) (hs : sp ds O R fun C fs O' => RX C fs ρ O') (hg : Gl X x := by rfl) (hdb : (x == ("__debug__" : Str)) = false := by decide)
    (hst : starEach (e :: es) X.env = (false, eval e X.env) :: starEach es X.env := by rfl) (hpl : (backTo pos (starEach es X.env)).any (·.1) = false := by rfl)
    (ht : eval (.Call (.Attribute (.Name x p) m apos) (e :: es) [] pos) X.env = (do
      let ov ← eval (.Name x p) X.env
      standAt apos.atName
      let (f, first) ← holding [ov] (getMethod ov m pl)
      callWith pos f first (backTo pos (starEach (e :: es) X.env)) (backToKw pos (keywordEach [] X.env))) := by rfl) : EvX X mk ρ O (.Call (.Attribute (.Name x p) m apos) (e :: es) [] pos) R RX := fun G pins s σ H Q I ⟨h1, h2, h3, h4⟩ => by
  obtain ⟨C, mc, f, fd, ps, g1, g2, g3, g4, g5, g6, g7, g8⟩ := M.ex
  refine PySem.W.methodCall_KW (pl := pl) (ld_glob I hg g1 (PySem.W.method_cls I.kIn g2 (PySem.W.cls_value I.kIn g3 g4 g5 ?_)) hdb) ht
  have I1 : L2.Inv X pins σ H { s with toks := s.toks + 1 } := I.kept fun _ _ e => e
  refine PySem.W.callWith_K (first := []) (h₀ := X.base) I.ok.mod.kin g7 (thn (ha G pos pins _ σ H (fun vs H' => ∃ G', Ext G G' ∧ SA X.K G' H' O ∧ Iss X.K G' ds vs) I1 ⟨h1, h2, fun vs G' H' e1 s1 i1 => ⟨G', e1, s1, i1⟩⟩) fun us s2 ⟨vs, H2, I2, r, G1, e1, s1, i1⟩ => ⟨I2.kIn, ?_⟩) hst hpl
  refine run_fnX (E := EOf X σ) g6 hr g8 I2 r ⟨G1, O, ds, R, _, s1, i1, hs, fun v d O' G' H' e2 s2 i2 r2 => h3 v d O' G' H' (e1.trans e2) s2 i2 r2, fun C fs od O' G' H' e2 s2 f2 r2 => ?_⟩ fun e s' hx => thr_of (G := G) (H' := H) I2 eof_thr hx
  intro C' hC
  cases hC
  exact (h4 _ fs od σ ρ O' G' H' (e1.trans e2) s2 (h2.ext (e1.trans e2)) f2 r2).1
structure MakeX (P : Program) (w : World) (K : PySem.W.Frag) (mg : Str → Option Value) (base : Heap) (C : Addr) (k : Nat) (x : Str) (sp : SpX) : Prop where
  ex : ∃ f fd ps, FnOk P w K mg base (CX1 P w) k f fd ps (toSpX K sp) ∧ Mk K C f ∧ Binds K fd ps []
  at_ : mg x = some (.ref C)
theorem evX_make {k : Nat} {sp : SpX} (M : MakeX X.prog X.w X.K X.mg X.base C k x sp) (hr : Room (k + 1) X.A) (ha : EvPs X ρ O (e :: es) ds)
    (hs : sp (.ptr O.length :: ds) (O ++ [some (.ins C [])]) (fun d O' => d = .non ∧ R (.ptr O.length) O') fun C fs O' => RX C fs ρ O')
    (hg : Gl X x := by rfl) (hdb : (x == ("__debug__" : Str)) = false := by decide) (he : starEach (e :: es) X.env = (false, eval e X.env) :: starEach es X.env := by rfl) (hpl : (backTo pos (starEach es X.env)).any (·.1) = false := by rfl) :
    EvX X mk ρ O (.Call (.Name x p) (e :: es) [] pos) R RX := fun G pins s σ H Q I ⟨h1, h2, h3, h4⟩ => by
  obtain ⟨f, fd, ps, g1, g2, g3⟩ := M.ex
  refine wpAny_Call_Name_kw (ld_glob I hg M.at_ ?_ hdb)
  refine PySem.W.callWith_K (h₀ := X.base) I.ok.mod.kin g2.kp (thn (ha G pos pins s σ H (fun vs H' => ∃ G', Ext G G' ∧ SA X.K G' H' O ∧ Iss X.K G' ds vs) I ⟨h1, h2, fun vs G' H' e1 s1 i1 => ⟨G', e1, s1, i1⟩⟩) fun us s1 ⟨vs, H1, I1, r, G1, e1, sa, i1⟩ => ⟨I1.kIn, ?_⟩) he hpl
  obtain ⟨e2, sa2⟩ := made (C := C) sa (I1.hok.fresh (Nat.le_succ _)) (I1.hok.fresh (Nat.le_refl _)) (Nat.ne_of_lt (Nat.lt_succ_self _))
  have I2 := L2.Inv.made (C := C) I1
  have e12 := e1.trans e2
  have iy : Is X.K ⟨G1.g, G1.l ++ [s1.heap.objs.size + 1]⟩ (.ptr O.length) (.ref (s1.heap.objs.size + 1)) := .ptr _ (by rw [← sa.len, List.getElem?_append_right (Nat.le_refl _), Nat.sub_self]; rfl)
  have hsp : toSpX X.K sp (V.ref (s1.heap.objs.size + 1) :: vs) (upd (upd H1 s1.heap.objs.size (.own (s1.heap.objs.size + 1))) (s1.heap.objs.size + 1) (.ins C s1.heap.objs.size [])) (fun v H2 => v = .non ∧ Q (.ref (s1.heap.objs.size + 1)) H2) (EOf X σ) := by
    refine ⟨_, _, .ptr O.length :: ds, _, _, sa2, .cons iy (i1.ext e2), hs, fun v d O' G' H' e3 s3 i3 r3 => ?_, fun C fs od O' G' H' e3 s3 f3 r3 => ?_⟩
    · obtain ⟨rfl, r⟩ := r3
      cases i3
      exact ⟨rfl, h3 _ _ O' G' H' (e12.trans e3) s3 (iy.ext e3) r⟩
    · intro C' hC
      cases hC
      exact (h4 _ fs od σ ρ O' G' H' (e12.trans e3) s3 (h2.ext (e12.trans e3)) f3 r3).1
  have r2 : Vals (V.ref (s1.heap.objs.size + 1) :: vs) (Value.ref (s1.heap.objs.size + 1) :: us) := .cons rfl r
  have hl : (Value.ref (s1.heap.objs.size + 1) :: us).length = ps.length := by rw [← r2.length]; exact g1.len _ _ _ _ hsp
  have hb := g3 { s1 with heap := _ } (Value.ref (s1.heap.objs.size + 1) :: us) I2.kIn (by rw [List.append_nil]; exact hl)
  rw [List.append_nil] at hb
  refine wpAny_call (make_map (f := f) I1.kIn g2.makes g2.init (beq_iff_eq.mp g2.fn) (codeAny_mono (g1.run _ X.stack _ _ ⟨Value.ref (s1.heap.objs.size + 1) :: us, []⟩ _ _ _ (EOf X σ) (hr.make C us []) (I2.env0.make C us []) hb r2 hsp) fun r s' hq' => ?_))
  match r, hq' with
  | .error e, hq' => exact thr_of (G := G) (H' := H) I2 eof_thr hq'
  | .ok (.ret u), hq' =>
    obtain ⟨v, H', I3, rv, ev, q3⟩ := I2.after hq'
    subst ev
    exact ⟨rv, ⟨V.ref (s1.heap.objs.size + 1), H', I3, rfl, q3⟩⟩
end
section
variable {P : Program} {w : World} {K : PySem.W.Frag} {mg : Str → Option Value} {base : Heap}
theorem okX {x qual : Str} {st : Stmt} {f : Addr} {fd : FuncData} {N ps : List Str} {k : Nat} {sp : SpX} (F : Fun K x qual st f fd) (S : FnScope N ps (defScope st)) (len : ∀ ds O R RX, sp ds O R RX → ds.length = ps.length)
    (hbody : ∀ (cdv : Value) (A : Around) (outer : List Env) (s : Shared) (H : Hp) (E : XK) (ds : List D) (O : Sto) (R : D → Sto → Prop) (RX : XR), Room k (A.deeper (envOfC qual (defScope st) s.heap.objs.size f cdv)) → sp ds O R RX →
      ExsX (cxOf (CX1 P w) P w K mg base N qual (defScope st) f cdv A outer s H E) True (startD N ds) O (defBody st) { nx := fun _ O' => R .non O', rt := R } fun C fs _ O' => RX C fs O') : FnOk P w K mg base (CX1 P w) (k + 1) f fd ps (toSpX K sp) := by
  obtain ⟨oc, od, kV, doc, pm, an, cdv, ct, osl, rfl, lk, hcd⟩ := F.ex
  refine fn_of lk hcd S (fun vs H Q E h => ?_) fun A outer s H vs Q E hr h => ?_
  · obtain ⟨G, O, ds, R, RX, h1, h2, h3, h4⟩ := h
    rw [← h2.length]
    exact len _ _ _ _ h3
  · obtain ⟨G, O, ds, R, RX, h1, h2, h3, h4, h5⟩ := h
    refine ⟨_, hbody cdv A outer s H E ds O R RX hr h3 G, h1, start_env h2, ⟨fun σ ρ O' G' H' e1 s1 n1 q => h4 _ _ O' G' H' e1 s1 .non q, fun v d O' G' H' e1 s1 i1 q => h4 v d O' G' H' e1 s1 i1 q, fun σ ρ O' G' H' e1 s1 n1 q => q.elim, fun σ ρ O' G' H' e1 s1 n1 q => q.elim⟩, ?_⟩
    intro C fs od σ ρ O' G' H' e1 s1 n1 f1 r1
    have hE := h5 C fs od O' G' H' e1 s1 f1 r1
    refine ⟨fun pins H1 s1 a B s2 I g => pass1 pins σ H1 s1 (.ref a) s2 I ⟨a, C, od, B, H', rfl, g, hE⟩, fun _ pins s1 a t oe vs I x1 x2 x3 x4 x5 x6 x7 x8 => raise2 I x1 x2 x3 x4 x5 x6 x7 (x8 ▸ hE)⟩
end
end DL
set_option Elab.async false
set_option linter.all false
set_option maxRecDepth 100000
set_option maxHeartbeats 1000000
namespace L2
open PySem PySem.Spec PyProof.Rows
theorem exc_cls {K : PySem.W.Frag} {h : Heap} {C : Addr} {bmB : List Value} {newId : String} (X : K.In h) (q : PySem.W.excIn K C bmB newId = true) : OwnCls "e" C bmB newId (fun _ => some (.ref C)) h := by
  unfold PySem.W.excIn at q
  split at q
  · rename_i dd cd sl ho
    split at q
    · rename_i C' bm k0 k1 k2 k3 n k5 hm hs
      have e := X _ _ ho
      obtain ⟨nm, bs, mro, ns, qn, hd, sn, sub, ab, col, del⟩ := cd
      obtain ⟨l⟩ := sl
      simp only [Bool.and_eq_true, beq_iff_eq, Bool.not_eq_true'] at q hm hs
      obtain ⟨⟨⟨⟨⟨q1, q2⟩, q3⟩, q4⟩, q5⟩, q6⟩ := q
      subst q1 q2 hm hs
      subst q3
      exact ⟨rfl, bm, ns, nm, qn, bs, hd, sn, sub, ab, col, dd, k0, k1, k2, k3, k5, _, e, .of_isNs (PySem.W.isNs_of_in X q5), PySem.W.nsMap_none_of_in X q5 q6, PySem.W.tail_of_in X q4⟩
    · cases q
  · cases q
section
variable {X : Cx} {pins : List (Addr × Obj)} {σ : St} {H : Hp} {s : Shared}
theorem name_goes {M : Model} {A : Around} {E : Value → Shared → Prop} {i : Nat} {n : Str} {pos : Pos} {Q : Unit → Shared → Prop} (I : Inv X pins σ H s) (hN : X.N.Nodup) (hi : X.N[i]? = some n) (hl : X.env.kindOf n = some .local)
    (h : ∀ s', Inv X pins (σ.set i none) H s' → Q () s') : wpAny M A (do bindName X.env n .none; unbindBehindTheSuite X.env n pos) Q E s := by
  refine wpAny_bind (wpAny_bindName (store_ok I hN hi (.inl hl) (v := .non) (u := .none) rfl (fun s1 I1 => ?_) (.inr hl)))
  have hiσ : i < σ.length := by rw [I.len]; exact (List.getElem?_eq_some_iff.mp hi).1
  obtain ⟨m, hn, hk⟩ := id I1.loc
  obtain ⟨u, ru, lu⟩ := hk i n .non hi (List.getElem?_set_self hiσ) (.inl hl)
  have hv : m n = some u := by
    rcases lu with ⟨_, e⟩ | ⟨k | k, _⟩
    · exact e
    · rw [hl] at k; cases k
    · rw [hl] at k; cases k
  unfold unbindBehindTheSuite
  refine wpAny_onRaise (wpAny_unbindName_local hl hn hv (by rw [I.ok.kind]; rfl) fun h' u' hn' hs => h _ ?_)
  have ne : ∀ b o, X.s₀.heap.get? b = some o → b ≠ X.env.locals := fun b o e => Nat.ne_of_lt (Nat.lt_of_lt_of_le (Heap.lt_size e) I.ok.above)
  refine ⟨I1.ok, I1.os, I1.bare, ⟨fun b o e n hb hx => (hs.2 b (ne b o e)).trans (I1.base.keep b o e n hb hx), fun b o e n hb hx => ?_, I1.base.free, fun b o e hx => ?_, I1.base.tups, I1.base.frzs, I1.base.tbls⟩, ⟨_, hn', fun j y v' e1 e2 e3 => ?_⟩, fun y c e => ?_, I1.free, I1.freeC, fun p hp => ?_, fun b ob e => ?_, by simpa using I.len⟩
  · obtain ⟨sl, q⟩ := I1.base.slot b o e n hb hx
    exact ⟨sl, (hs.2 b (ne b o e)).trans q⟩
  · obtain ⟨o', q⟩ := I1.base.there b o e hx
    exact ⟨o', (hs.2 b (ne b o e)).trans q⟩
  · have hj : j ≠ i := by
      rintro rfl
      rw [List.getElem?_set_self hiσ] at e2
      cases e2
    rw [List.getElem?_set_ne (Ne.symm hj)] at e2
    obtain ⟨u2, r2, q⟩ := hk j y v' e1 (by rw [List.getElem?_set_ne (Ne.symm hj)]; exact e2) e3
    refine ⟨u2, r2, ?_⟩
    rcases q with ⟨k, e⟩ | ⟨k, c, e, z⟩
    · refine .inl ⟨k, ?_⟩
      have : y ≠ n := fun e => hj (nodup_ix hN e1 (e ▸ hi))
      simp [this, e]
    · exact .inr ⟨k, c, e, z.sameBut hs (I.cne y c e)⟩
  · obtain ⟨w', z⟩ := I1.cell y c e
    exact ⟨w', z.sameBut hs (I.cne y c e)⟩
  · obtain ⟨e, n, ne, nf, d⟩ := I1.pin p hp
    exact ⟨(hs.2 p.1 ne).trans e, n, ne, nf, d⟩
  · refine (I1.hok b ob e).stay (fun c w' hc q => (hs.2 c ?_).trans q) (fun _ q => q) fun _ _ q => q
    intro z
    subst z
    rcases hc with hc | hc
    · rw [← hc, I1.free] at e; cases e
    · rw [I1.free] at hc; cases hc
theorem Gone.on {P : Program} {w : World} {l : List Env} {H H' : Hp} {s s' : Shared} {a C t : Addr} {od : Option Addr} {B h' : Heap} (g : Gone P w l H H' s s' a C od B) (fl' : Heap.FlyingW B l a (.ref C) (.ref t) h') (sm : s'.heap.UpToSlots h') (dk : DK s'.heap h') :
    Gone P w l H H' s { s' with heap := h' } a C od B := by
  obtain ⟨⟨t0, fl⟩, oe, ho0, ho1⟩ := g.fly
  obtain ⟨oe', ho2, ho3⟩ := dk a oe ho0
  refine ⟨g.os, g.bare, ⟨⟨t, fl'⟩, oe', ho2, ho3.trans ho1⟩, ⟨fun b o q n hb _ => ?_, fun b o q n hb _ => ?_, fun b o q n hx => g.un.free b o q n hx, fun b o q _ => ?_, g.un.tups, g.un.frzs, g.un.tbls⟩, hok_in g.hok fl.1 fl'.1 g.trk, g.old, g.trk⟩
  · obtain ⟨o', ho⟩ := g.old b o q hb
    have h2 := fl.1 b o' ho
    rw [g.un.keep b o q n hb (by simp)] at h2
    cases h2
    exact fl'.1 b _ ho
  · obtain ⟨sl, q1⟩ := g.un.slot b o q n hb (by simp)
    obtain ⟨_, oo, ho, hnf⟩ := fl.2.2.1.mem hb
    rw [q1] at ho
    cases ho
    obtain ⟨sl3, q3⟩ := sm b _ q1 hnf
    exact ⟨sl3, q3⟩
  · by_cases hb : b ∈ frs l
    · obtain ⟨_, oo, ho, hnf⟩ := fl.2.2.1.mem hb
      obtain ⟨sl3, q3⟩ := sm b _ ho hnf
      exact ⟨_, q3⟩
    · obtain ⟨o', ho⟩ := g.old b o q hb
      exact ⟨o', fl'.1 b _ ho⟩
theorem Gone.new {P : Program} {w : World} {l : List Env} {H H' : Hp} {s s' : Shared} {a C : Addr} {od : Option Addr} {B : Heap} (g : Gone P w l H H' s s' a C od B) : s.heap.get? a = none ∧ a ∉ frs l ∧ H' a = none := by
  obtain ⟨⟨t, fl⟩, hd⟩ := g.fly
  have hn : a ∉ frs l := fun z => by
    obtain ⟨_, o, ho, hnf⟩ := fl.2.2.1.mem z
    obtain ⟨oe, vs, h1, h2, h3, h4⟩ := fl.first
    rw [h1] at ho
    cases ho
    exact hnf _ h3
  have hb := fl.2.1
  refine ⟨?_, hn, ?_⟩
  · cases q : s.heap.get? a with
    | none => rfl
    | some o =>
      obtain ⟨o', ho⟩ := g.old a o q hn
      rw [hb] at ho
      cases ho
  · cases q : H' a with
    | none => rfl
    | some u =>
      obtain ⟨o', ho⟩ := g.trk a u q
      rw [hb] at ho
      cases ho
abbrev Cx.as (X : Cx) (A : Around) (calm : Bool) (pn : List (Addr × Obj)) (E : Value → Shared → Prop) : Cx := { X with A := A, calm := calm, pn := pn, xe := E }
theorem Inv.as {A : Around} {calm : Bool} {pn pins' : List (Addr × Obj)} {E : Value → Shared → Prop} (I : Inv X pins σ H s) (hd : calm = true → A.handled = none) (hf : A.frames = some X.stack) (hp : ∀ p ∈ pn ++ pins', p ∈ X.pn ++ pins) : Inv (X.as A calm pn E) pins' σ H s :=
  ⟨⟨I.ok.mod, I.ok.kind, I.ok.glob, I.ok.blt, I.ok.above, I.ok.inj, I.ok.has, I.ok.cab, hd, hf, I.ok.stk, I.ok.exf, I.ok.bs, I.ok.bsz, I.ok.noex, I.ok.exfs, I.ok.funs, I.ok.frf⟩, I.os, I.bare, I.base, I.loc, I.cell, I.free, I.freeC, fun p q => I.pin p (hp p q), I.hok, I.len⟩
theorem Inv.asI {A : Around} {calm : Bool} {pn pins' : List (Addr × Obj)} {E : Value → Shared → Prop} (I : Inv (X.as A calm pn E) pins' σ H s) (hd : X.calm = true → X.A.handled = none) (hf : X.A.frames = some X.stack) (hp : ∀ p ∈ X.pn ++ pins, p ∈ pn ++ pins') : Inv X pins σ H s :=
  ⟨⟨I.ok.mod, I.ok.kind, I.ok.glob, I.ok.blt, I.ok.above, I.ok.inj, I.ok.has, I.ok.cab, hd, hf, I.ok.stk, I.ok.exf, I.ok.bs, I.ok.bsz, I.ok.noex, I.ok.exfs, I.ok.funs, I.ok.frf⟩, I.os, I.bare, I.base, I.loc, I.cell, I.free, I.freeC, fun p q => I.pin p (hp p q), I.hok, I.len⟩
theorem Inv.tracked {a : Addr} {ob : Obj} (I : Inv X pins σ H s) (hx : X.ex = []) (h1 : s.heap.get? a = some ob) (h2 : H a = none) (h3 : X.s₀.heap.get? a = none) (h4 : a ≠ X.env.locals) (h5 : ∀ x c, X.env.cells.lookup x = some c → c ≠ a) (h6 : ∀ p ∈ X.pn ++ pins, p.1 ≠ a) :
    Inv X pins σ (upd H a (.ext fun h => h.get? a = some ob)) s := by
  refine ⟨I.ok, I.os, I.bare, ⟨I.base.keep, I.base.slot, fun b o q n hb => ?_, I.base.there, fun b xs q => ?_, fun b o u q => ?_, fun b ps q => ?_⟩, I.loc, I.cell, by rw [upd_ne (Ne.symm h4)]; exact I.free, fun x c q => by rw [upd_ne (h5 x c q)]; exact I.freeC x c q, fun p hp => ?_, fun b u q => ?_, I.len⟩
  · rw [upd_ne]
    · exact I.base.free b o q n hb
    · rintro rfl; rw [h3] at q; cases q
  · have := I.base.tups b xs q
    rw [upd_ne (ne_of_none this h2)]; exact this
  · have := I.base.frzs b o u q
    rw [upd_ne (ne_of_none this h2)]; exact this
  · obtain ⟨m, this⟩ := I.base.tbls b ps q
    exact ⟨m, by rw [upd_ne (ne_of_none this h2)]; exact this⟩
  · obtain ⟨e, n, r⟩ := I.pin p hp
    exact ⟨e, by rw [upd_ne (h6 p hp)]; exact n, r⟩
  · by_cases hb : b = a
    · subst hb
      rw [upd_same] at q
      cases q
      exact ⟨h1, ⟨ob, h1⟩, fun x y e k => k ob e⟩
    · rw [upd_ne hb] at q
      exact (I.hok b u q).stay (fun _ _ _ e => e) (fun c e => by rw [upd_ne (ne_of_none e h2)]; exact e) fun c xs e => by rw [upd_ne (ne_of_none e h2)]; exact e
end
end L2
namespace DL
open PySem PySem.Spec PyProof.Rows L2
abbrev bmV : List Value := [.type "ValueError", .type "Exception", .type "BaseException", .type "object"]
section
variable {X : Cx} {mk : Prop} {ρ : Rho} {O : Sto} {e a b c o : Expr} {es : List Expr} {d da db : D} {ds : List D} {R : D → Sto → Prop} {RX : XC} {pos p np cpos hpos : Pos} {x y n : Str} {st b₀ : Stmt} {rest body suite : List Stmt} {P : Post} {C CB : Addr} {fs : List (Str × D)}
theorem ev_fstr {p1 p2 p3 : Pos} {j : Nat} (he : EvP X ρ O e (.str x)) (hz : (Str.empty ++ x ++ y).length ≤ sizeLine) (hx : x.length ≤ sizeLine) (h1 : (Str.empty ++ x).length ≤ sizeLine) : EvP X ρ O (.JoinedStr [.FormattedValue e (-1) none p1, .Constant (.str y) j p2] p3) (.str (Str.empty ++ x ++ y)) := fun G pins s σ H Q I ⟨h1', h2, h3⟩ => by
  refine JoinedStr_many (joinParts_cons (FormattedValue_plain (thn (he G pins s σ H (fun v H' => ∃ G', Ext G G' ∧ SA X.K G' H' O ∧ Is X.K G' (.str x) v) I ⟨h1', h2, fun v G' H' e s i => ⟨G', e, s, i⟩⟩) fun u s1 ⟨v, H1, I1, r, G1, e1, sa1, i1⟩ => ?_)))
  cases i1
  obtain ⟨t, rfl⟩ := (show ∃ t, u = Value.str x t from r)
  refine formatField_str (fun t' tk => ⟨h1, joinParts_cons ?_⟩) hx
  refine thn (ev_str (X := X) (ρ := ρ) (O := O) (x := y) (j := j) (pos := p2) G1 pins _ σ H1 (fun v H' => ∃ G', Ext G1 G' ∧ SA X.K G' H' O ∧ Is X.K G' (.str y) v) (I1.tok tk) ⟨sa1, h2.ext e1, fun v G' H' e s i => ⟨G', e, s, i⟩⟩) fun u2 s2 ⟨v2, H2, I2, r2, G2, e2, sa2, i2⟩ => ?_
  cases i2
  obtain ⟨t2, rfl⟩ := (show ∃ t, u2 = Value.str y t from r2)
  exact ⟨hz, joinParts_nil ⟨.str (Str.empty ++ x ++ y), H2, I2.tok _, ⟨_, rfl⟩, h3 _ G2 H2 (e1.trans e2) sa2 (.str _)⟩ hz⟩
theorem xX_raise (hx : PySem.W.excIn X.K C bmV "ValueError.__new__" = true) (hm : X.mg x = some (.ref C)) (ha : EvPs X ρ O (e :: es) ds) (hr : RX C [] ρ O) (hmk : mk) (hz : ds.length ≤ 1000 := by simp) (hc : X.calm = true := by rfl) (hex : X.ex = [] := by rfl) (hg : Gl X x := by rfl)
    (hdb : (x == ("__debug__" : Str)) = false := by decide) (he : starEach (e :: es) X.env = (false, eval e X.env) :: starEach es X.env := by rfl) (hpl : (backTo cpos (starEach es X.env)).any (·.1) = false := by rfl) :
    ExX X mk ρ O (.Raise (some (.Call (.Name x np) (e :: es) [] cpos)) none pos) P RX := fun G pins s σ H E I ⟨h1, h2, h3, h4⟩ => by
  obtain ⟨tl, N, nm, q, bs, hdct, sn, sub, ab, col, dd, k0, k1, k2, k3, k5, mN, hC, hN, hni, T⟩ := (exc_cls I.mod.kin hx).obj
  have ha' := ha G cpos pins s σ H (fun vs H' => ∃ G', Ext G G' ∧ SA X.K G' H' O ∧ Iss X.K G' ds vs) I ⟨h1, h2, fun vs G' H' e1 s1 i1 => ⟨G', e1, s1, i1⟩⟩
  refine wpAny_Raise_call_subU (k5 := k5) (k3 := k3) (k2 := k2) (k1 := k1) (k0 := k0) (dd := dd) (col := col) (ab := ab) (sub := sub) (sn := sn) (hdct := hdct) (bs := bs) (N := N) (q := q) (nm := nm) (C := C) (bm := tl) (mN := mN) PySem.F.excBase_ValueError (by decide +kernel) PySem.F.excBase_ValueError (T.hasType PySem.F.excBase_ValueError.hasBase) (I.ok.hd hc) (by rw [he]; exact hpl) hni (ld_glob I hg hm ⟨rfl, ?_⟩ hdb)
  rw [he] at ha' ⊢
  refine Calls.evalArgs_plain (thn ha' fun us s2 ⟨vs, H2, I2, r, G2, e2, sa, i2⟩ => ⟨rfl, ?_, I2.bk _ _ hC, hN.keeps I2.bk, T.keeps I2.bk, fun h' a' hx => ?_⟩)
  · show us.length ≤ sizeLine
    rw [← r.length, ← i2.length]
    exact Nat.le_of_lt (small1000 hz)
  · obtain ⟨t, he', _, _⟩ := hx.there
    refine (h4 C [] none σ ρ O G2 H2 e2 sa (h2.ext e2) (.inl rfl) hr).2 hmk pins { s2 with heap := h' } a' t _ _ (I2.kept (t' := s2.toks) hx.keeps) ?_ ?_ he' rfl rfl rfl rfl rfl
    · cases z : H2 a' with
      | none => rfl
      | some u =>
        obtain ⟨o, z'⟩ := I2.hok.get z
        rw [hx.new] at z'
        cases z'
    · cases z : X.s₀.heap.get? a' with
      | none => rfl
      | some o =>
        have hu : Un X.fs X.ex X.H₀ H2 X.s₀.heap s2.heap := I2.base
        obtain ⟨o', z'⟩ := hu.there a' o z (by rw [hex]; simp)
        rw [hx.new] at z'
        cases z'
abbrev _root_.L2.Cx.tried (X : Cx) (pn : List (Addr × Obj)) (E : Value → Shared → Prop) : Cx := X.as X.A X.calm pn E
abbrev _root_.L2.Cx.held (X : Cx) (v : Value) : Cx := X.as (X.A.mark (some v)) false X.pn fun _ _ => False
abbrev catchW (X : Cx) (pins : List (Addr × Obj)) (E : Ends) (x n : Str) (np hpos : Pos) (b₀ : Stmt) (suite : List Stmt) : Value → Shared → Prop := fun e s₁ => wpAny (model X.prog X.w) X.A (noteFrame e X.env) (fun _ s₂ => wpAny (model X.prog X.w) X.A (setFlight e none) (fun _ s₃ => wpAny (model X.prog X.w) X.A (handleBy e X.env [.ExceptHandler (some (.Name x np)) (some n) (b₀ :: suite) hpos]) (SP X pins E) X.xe s₃) X.xe s₂) X.xe s₁
theorem x_try (i : Nat) (hN : X.N.Nodup) (hm : X.mg x = some (.ref CB)) (hb : ∀ pn E, ExsX (X.tried pn E) False ρ O body P RX)
    (hh : ∀ v C fs ρ' O', RX C fs ρ' O' → PySem.W.exmOne X.K (.ref C) (.ref CB) = some true ∧
      Exs (X.held v) (ρ'.set i (some (.ptr O'.length))) (O' ++ [some (.exc C fs)]) (b₀ :: suite) { nx := fun ρ2 O2 => P.nx (ρ2.set i none) O2, rt := P.rt, bk := fun ρ2 O2 => P.bk (ρ2.set i none) O2, ct := fun ρ2 O2 => P.ct (ρ2.set i none) O2 })
    (hi : X.N[i]? = some n := by rfl) (hl : X.env.kindOf n = some .local := by rfl) (hg : Gl X x := by rfl) (hst : X.stack = X.env :: X.outer := by rfl) (hfr : X.env.frame = some X.env.locals := by rfl) (hex : X.ex = [] := by rfl) (hdb : (x == ("__debug__" : Str)) = false := by decide) :
    Ex X ρ O (.Try body [.ExceptHandler (some (.Name x np)) (some n) (b₀ :: suite) hpos] [] [] pos) P := fun G pins s σ H E I ⟨h1, h2, h3⟩ => by
  refine wpAny_Try_except ?_
  have I0 : L2.Inv (X.tried (X.pn ++ pins) (catchW X pins E x n np hpos b₀ suite)) [] σ H s :=
    I.as I.ok.hd I.ok.frames fun p q => by simpa using q
  refine wpAny_mono (hb (X.pn ++ pins) (catchW X pins E x n np hpos b₀ suite) G [] s σ H E I0 ⟨h1, h2, h3, fun C fs od σ2 ρ2 O2 G2 H2 e2 sa2 n2 f2 r2 => ⟨fun pins2 H1 s1 a' B s2 I1 g => ?_, fun z => z.elim⟩⟩) (fun f s1 hs => ?_) fun e s1 z => z
  · obtain ⟨hq, hsu⟩ := hh (.ref a') C fs ρ2 O2 r2
    have hg1 : Gone X.prog X.w (X.env :: X.outer) H1 H2 s1 s2 a' C od B := hst ▸ g
    obtain ⟨⟨t, fl⟩, hd⟩ := hg1.fly
    obtain ⟨n1, n3, n4⟩ := hg1.new
    have hfrm : X.A.frames = some (X.env :: X.outer) := hst ▸ I.ok.frames
    show wpAny (model X.prog X.w) X.A (noteFrame _ X.env) _ _ s2
    refine wpAny_mono (mild_note.any (wpAny_looks_onW (E := fun _ _ => False) (Q := fun _ s' => ∃ h', s' = { s2 with heap := h' } ∧ Heap.HeldW B (X.env :: X.outer) a' (.ref C) (.ref t) X.env.locals h' ∧ s2.heap.UpToSlots h') hfrm hfr fl fun h4 held4 sm4 => ⟨h4, rfl, held4, sm4⟩)) (fun _ s4 ⟨⟨h4, e4, held4, sm4⟩, dk4⟩ => ?_) fun _ _ z => z.1.elim
    subst e4
    refine wpAny_mono (mild_setFlight.any (wpAny_landsW (E := fun _ _ => False) (s := { s2 with heap := h4 }) (Q := fun _ s' => ∃ h', s' = { s2 with heap := h' } ∧ Heap.FlyingW B (X.env :: X.outer) a' (.ref C) (.ref t) h' ∧ h4.UpToSlots h') held4 fun h5 fl5 sm5 => ⟨h5, rfl, fl5, sm5⟩)) (fun _ s5 ⟨⟨h5, e5, fl5, sm5⟩, dk5⟩ => ?_) fun _ _ z => z.1.elim
    subst e5
    have g5 := hg1.on fl5 (sm4.trans sm5) (dk4.trans dk5)
    have J : ∀ (s' : Shared), Gone X.prog X.w (X.env :: X.outer) H1 H2 s1 s' a' C od B → L2.Inv X pins σ2 H2 s' := fun s' g' => by
      have := I1.call' (ch := []) g'.os (by show Un (frs X.stack) _ _ _ _ _; rw [hst]; exact g'.un) g'.hok g'.bare (fun b z => absurd z (by simp))
      exact this.asI I.ok.hd I.ok.frames fun p q => List.mem_append_left _ q
    have hmark : (X.A.mark (some (.ref a'))).frames = some X.stack := I.ok.frames
    have I5 := J _ g5
    have I5h : L2.Inv (X.held (.ref a')) pins σ2 H2 _ := I5.as (by intro z; cases z) hmark fun p q => q
    refine wpAny_handleBy_cons (codeAny_handlers_test (ld_glob (X := X.held (.ref a')) I5h hg hm ?_ hdb)) (by intro q; cases q)
    obtain ⟨ob, ho1, ho2⟩ := fl5.there
    have LT : PySem.W.Looks (model X.prog X.w) h5 (typeOf (.ref a')) (.ref C) := ho2 ▸ (PySem.W.Looks.ld ho1).andThen .now
    refine (PySem.W.exm_one I5.kIn LT hq).here (codeAny_handlers_suite_as ?_)
    refine wpAny_mono (mild_setFlight.any (lands_againW (E := fun _ _ => False) (Q := fun _ s' => ∃ h', s' = { s2 with heap := h' } ∧ Heap.FlyingW B (X.env :: X.outer) a' (.ref C) (.ref t) h' ∧ h5.UpToSlots h') fl5 fun h6 fl6 sm6 => ⟨h6, rfl, fl6, sm6⟩)) (fun _ s6 ⟨⟨h6, e6, fl6, sm6⟩, dk6⟩ => ?_) fun _ _ z => z.1.elim
    subst e6
    have g6 := g5.on fl6 sm6 dk6
    have I6 := J _ g6
    obtain ⟨ob6, ws, u1, u2, u3, u4⟩ := fl6.first
    obtain ⟨_, ob6', u1', hd6⟩ := g6.fly
    cases Option.some.inj (u1.symm.trans u1')
    have hloc : a' ≠ X.env.locals := fun z => n3 (List.mem_filterMap.mpr ⟨X.env, List.mem_cons_self, by rw [hfr, z]⟩)
    have hs0 : X.s₀.heap.get? a' = none := by
      cases z : X.s₀.heap.get? a' with
      | none => rfl
      | some o =>
        have hu : Un X.fs X.ex X.H₀ H1 X.s₀.heap s1.heap := I1.base
        obtain ⟨o', z'⟩ := hu.there a' o z (by rw [hex]; simp)
        rw [n1] at z'
        cases z'
    have I7 := I6.tracked hex u1 n4 hs0 hloc (fun y c q z => by
      obtain ⟨v, o, z', _⟩ := I1.cell y c q
      rw [z, n1] at z'
      cases z') (fun p hp z => by
      obtain ⟨z', _⟩ := I1.pin p (List.mem_append_left _ hp)
      rw [z, n1] at z'
      cases z')
    have I7h : L2.Inv (X.held (.ref a')) pins σ2 _ _ := I7.as (by intro z; cases z) hmark fun p q => q
    have eG : Ext G2 ⟨G2.g, G2.l ++ [a']⟩ := ⟨Same.refl _, [a'], rfl⟩
    have hfd : fs = [] ∨ ∃ dx vs, ob6.dict = some dx ∧ G2.g dx = some (.xd vs) ∧ FsIs X.K ⟨G2.g, G2.l ++ [a']⟩ fs vs := by
      rcases f2 with z | ⟨dx, vs, z1, z2, z3⟩
      · exact .inl z
      · exact .inr ⟨dx, vs, hd6.trans z1, z2, FsIs.ext eG z3⟩
    obtain ⟨e3, sa3⟩ := sa2.new (p := a') (o := .ext fun h => h.get? a' = some ob6) (m := .exc C fs) n4 ⟨ob6, upd_same, ⟨u2, ws, u3⟩, hfd⟩
    have ia : Is X.K ⟨G2.g, G2.l ++ [a']⟩ (.ptr O2.length) (.ref a') := .ptr _ (by rw [← sa2.len, List.getElem?_append_right (Nat.le_refl _), Nat.sub_self]; rfl)
    refine store_ok (X := X.held (.ref a')) I7h hN hi (.inl hl) (v := .ref a') rfl (fun s8 I8 => ?_) (.inr hl)
    have e23 := e2.trans e3
    refine wpAny_mono (hsu _ pins s8 _ _ { nx := fun σ3 H3 => E.nx (σ3.set i none) H3, rt := E.rt, bk := fun σ3 H3 => E.bk (σ3.set i none) H3, ct := fun σ3 H3 => E.ct (σ3.set i none) H3 } I8 ⟨sa3, (n2.ext e3).set i ia, ?_⟩) (fun f s9 hs => ?_) fun _ _ z => z.elim
    · have dr : ∀ {K : PySem.W.Frag} {G : Wd} {σ : L2.St} {ρ : Rho}, EnvR K G σ ρ → EnvR K G (σ.set i none) (ρ.set i none) := fun {K G σ ρ} h => ⟨by simp [h.len], fun j d' hj => by
        by_cases hij : i = j
        · subst hij
          rw [List.getElem?_set] at hj
          simp at hj
        · rw [List.getElem?_set_ne hij] at hj ⊢
          exact h.get j d' hj⟩
      exact ⟨fun σ3 ρ3 O3 G3 H3 e4 s4 n4 q => h3.nx _ _ O3 G3 H3 (e23.trans e4) s4 (dr n4) q, fun v d' O3 G3 H3 e4 s4 i4 q => h3.rt v d' O3 G3 H3 (e23.trans e4) s4 i4 q, fun σ3 ρ3 O3 G3 H3 e4 s4 n4 q => h3.bk _ _ O3 G3 H3 (e23.trans e4) s4 (dr n4) q, fun σ3 ρ3 O3 G3 H3 e4 s4 n4 q => h3.ct _ _ O3 G3 H3 (e23.trans e4) s4 (dr n4) q⟩
    · have fin : ∀ {σ3 : L2.St} {H3 : Hp}, L2.Inv (X.held (.ref a')) pins σ3 H3 s9 → L2.Inv X pins σ3 H3 s9 := fun I9 => I9.asI I.ok.hd I.ok.frames fun p q => q
      cases f with
      | next =>
        obtain ⟨σ3, H3, I9, q⟩ := hs
        exact name_goes (fin I9) hN hi hl fun s' I' => ⟨_, _, I', q⟩
      | ret u =>
        obtain ⟨v, σ3, H3, I9, r, q⟩ := hs
        exact name_goes (fin I9) hN hi hl fun s' I' => ⟨v, _, _, I', r, q⟩
      | brk =>
        obtain ⟨σ3, H3, I9, q⟩ := hs
        exact name_goes (fin I9) hN hi hl fun s' I' => ⟨_, _, I', q⟩
      | cont =>
        obtain ⟨σ3, H3, I9, q⟩ := hs
        exact name_goes (fin I9) hN hi hl fun s' I' => ⟨_, _, I', q⟩
  · have fin : ∀ {σ3 : L2.St} {H3 : Hp}, L2.Inv (X.tried (X.pn ++ pins) (catchW X pins E x n np hpos b₀ suite)) [] σ3 H3 s1 → L2.Inv X pins σ3 H3 s1 :=
      fun I9 => I9.asI I.ok.hd I.ok.frames fun p q => by simpa using q
    cases f with
    | next =>
      obtain ⟨σ3, H3, I9, q⟩ := hs
      exact pss_nil pins s1 σ3 H3 E (fin I9) q
    | ret u =>
      obtain ⟨v, σ3, H3, I9, r, q⟩ := hs
      exact ⟨v, σ3, H3, fin I9, r, q⟩
    | brk =>
      obtain ⟨σ3, H3, I9, q⟩ := hs
      exact ⟨σ3, H3, fin I9, q⟩
    | cont =>
      obtain ⟨σ3, H3, I9, q⟩ := hs
      exact ⟨σ3, H3, fin I9, q⟩
end
end DL
set_option Elab.async false
set_option linter.all false
set_option maxRecDepth 100000
set_option maxHeartbeats 1000000
namespace L2
open PySem PySem.Spec PyProof.Rows Builtin.ObjectAttr Builtin.Getset_descriptor
structure ExcTy (K : PySem.W.Frag) (C : Addr) : Prop where
  ga : PySem.W.findIn K (.ref C) "__getattribute__" = some (some (.builtin "BaseException.__getattribute__"))
  hk : PySem.W.findIn K (.ref C) "__getattr__" = some none
  mb : PySem.W.mroIn K C (.type "BaseException") = some true
  mo : PySem.W.mroIn K C (.type "object") = some true
  ca : PySem.W.findIn K (.ref C) "__class__" = some (some (.builtin "object.__class__"))
  gn : PySem.W.specialIn K (.builtin "object.__class__") "__get__" = some (some (.builtin "getset_descriptor.__get__"))
  gt : PySem.W.takesIn K (.builtin "object.__class__") = some true
  hd : PySem.W.hasDictIn K C = true
section
variable {prog : Program} {w : World} {A : Around} {E : Value → Shared → Prop} {s : Shared} {K : PySem.W.Frag} {x C : Addr} {n : Str}
theorem exc_check {nv : Value} {Q : Unit → Shared → Prop} (T : ExcTy K C) (X : K.In s.heap) (LT : PySem.W.Looks (model prog w) s.heap (typeOf (.ref x)) (.ref C)) (h : Q () s) : wpAny (model prog w) A (checkBuiltinCall "BaseException.__getattribute__" ⟨[.ref x, nv], []⟩) Q E s := by
  have LI : PySem.W.Looks (model prog w) s.heap (isInstance (.ref x) (.type "BaseException")) true := LT.andThen (PySem.W.looks_mroIn X T.mb)
  exact @PySem.W.check_slot (model prog w) _ _ s "BaseException.__getattribute__" "BaseException" "__getattribute__" (.ref x) [nv] [] _ (by decide +kernel) (by decide +kernel) LI (F.args_bexc_ga (.ref x) nv) h
theorem exc_find (T : ExcTy K C) {h : Heap} {M : Model} (X : K.In h) : PySem.W.Looks M h (find (.ref x) (.ref C) "__class__") (.bind (.builtin "getset_descriptor.__get__") (.builtin "object.__class__")) := by
  have L1 := PySem.W.looks_findIn (M := M) X T.ca
  have L2 := PySem.W.looks_specialIn (M := M) X T.gn
  have L3 := PySem.W.looks_takesIn (M := M) X T.gt
  refine L1.andThen (PySem.W.Looks.andThen (t := getOf _) L2 ?_)
  refine PySem.W.Looks.andThen (t := dataDescriptor? _ _) (L3.andThen .now) ?_
  exact PySem.W.Looks.tag .now
theorem exc_cget {R : Result → Shared → Prop} {tp : Value} (T : ExcTy K C) (X : K.In s.heap) (LT : PySem.W.Looks (model prog w) s.heap (typeOf (.ref x)) (.ref C)) (h : R (.ok (.ret (.ref C))) s) :
    codeAny (model prog w) A (.call (.builtin "getset_descriptor.__get__") ⟨[.builtin "object.__class__", .ref x, tp], []⟩) R s := by
  have LS := PySem.W.looks_mroIn (M := model prog w) X T.mo
  cases s
  refine codeAny_call_builtin PySem.W.KF.slot_gs.plain PySem.W.KF.entry_gs (PySem.W.KF.slot_gs.check _ _ _ _ _ _ _ _ PySem.W.KF.type_class (PySem.W.KF.args_gs _ _ _) ?_)
  unfold Builtin.«getset_descriptor.__get__» descrGet descrGetter descrCheckInstance descrNameAndClass isInstance; rw [PySem.W.dga_obj]
  refine wpAny_bind (wpAny_pure ?_); simp only [PySem.W.KF.owner_class]; repeat lk
  refine ⟨Code.quiet_builtin _ (by decide +kernel), codeAny_builtin PySem.W.KF.entry_class ?_⟩; unfold Builtin.«object.__class__» shownTypeOf; repeat lk
  exact h
theorem exc_entry {tk : Tok} {P : Value → Shared → Prop} (T : ExcTy K C) (X : K.In s.heap) (LT : PySem.W.Looks (model prog w) s.heap (typeOf (.ref x)) (.ref C)) (h : P (.ref C) s) :
    wpAny (model prog w) A (Builtin.«object.__getattribute__» ⟨[.ref x, .str "__class__" tk], []⟩) (fun fin s' => match fin with | .done (.ret v) => P v s' | _ => False) E s := by
  have LF := exc_find (x := x) (M := model prog w) T X
  obtain ⟨hh, gg, d, t, os⟩ := s
  unfold Builtin.«object.__getattribute__» slotArgs
  refine wpAny_bind (wpAny_bind (wpAny_pure (wpAny_bind (wpAny_pure (wpAny_pure ?_)))))
  refine wpAny_bind (wpAny_pure (wpAny_bind (LT.at (wpAny_bind (LF.at ?_)))))
  show wpAny _ _ (holding [_] (call _ [_, .ref x, .ref C]) >>= ret) _ _ _
  exact wpAny_bind (wpAny_holding (wpAny_call (exc_cget T X LT (wpAny_pure h))))
theorem exc_class {Q : Option Value → Shared → Prop} (T : ExcTy K C) (X : K.In s.heap) (LT : PySem.W.Looks (model prog w) s.heap (typeOf (.ref x)) (.ref C)) (h : Q (some (.ref C)) { s with toks := s.toks + 1 }) :
    wpAny (model prog w) A (getAttr? (.ref x) "__class__") Q E s := by
  have LG := PySem.W.looks_findIn (M := model prog w) X T.ga
  have LH := PySem.W.looks_findIn (M := model prog w) X T.hk
  unfold getAttr? getAttrBy? getAttrBy
  refine wpAny_bind (wpAny_mkText (wpAny_bind (wpAny_attempt (wpAny_holding (wpAny_bind (LT.at (wpAny_bind (LG.at ?_))))))))
  show wpAny _ _ (getAttrByItsOwn _ _ _ _ _ _) _ _ _
  unfold getAttrByItsOwn
  refine wpAny_bind (LH.at (wpAny_bind (wpAny_attempt (wpAny_holding ?_))))
  show wpAny _ _ (boundAndCalled _ _ _) _ _ _
  unfold boundAndCalled
  rw [F.excAttr_ValueError.ga.bind]
  refine wpAny_bind (wpAny_pure (wpAny_call (codeAny_call_builtin F.excAttr_ValueError.ga.plain F.entry_bexc_ga (exc_check T X LT (wpAny_mono (exc_entry (s := { s with toks := s.toks + 1 }) (P := fun v s' => v = .ref C ∧ s' = { s with toks := s.toks + 1 }) T X LT ⟨rfl, rfl⟩) (fun fin s' z => ?_) fun _ _ z => z)))))
  rcases fin with (v | _ | _ | _) | _ <;> first | exact z.elim | skip
  obtain ⟨rfl, rfl⟩ := z
  exact PySem.W.handed_on rfl (wpAny_pure h)
theorem kitx_exc (T : ExcTy K C) : PySem.W.KitX K (.ref x) (.ref C) (fun h => ∀ M, PySem.W.Looks M h (typeOf (.ref x)) (.ref C)) where
  ty := fun M _ _ L => L M
  it := fun _ _ X _ => by
    obtain ⟨cd, hc, _⟩ := PySem.W.any_some T.hd
    unfold PySem.W.clsIn at hc; split at hc
    · rename_i ho
      intro _ _ _ _ k q
      exact wpAny_bind (wpAny_loadPart (k _ _ (X _ _ ho)) (wpAny_pure q))
    · cases hc
  ne := fun h tp dd its n sl X ht => by
    obtain ⟨cd, hc, _⟩ := PySem.W.any_some T.hd
    unfold PySem.W.clsIn at hc; split at hc
    · rename_i ho
      by_cases e : C = tp
      · subst e; cases (X _ _ ho).symm.trans ht
      · exact Bool.eq_false_iff.mpr fun q => e (Value.ref.inj (beq_iff_eq.mp q))
    · cases hc
  ca := fun X L k => exc_class T X (L _) k
end
end L2
namespace DL
open PySem PySem.Spec PyProof.Rows L2
section
variable {X : Cx} {ρ : Rho} {O : Sto} {e : Expr} {es : List Expr} {p p2 pos : Pos} {x : Str} {C C2 : Addr} {q : Nat} {fs : List (Str × D)} {k : Bool} {x1 : Nat}
theorem exc_looks {pins : List (Addr × Obj)} {σ : L2.St} {H : Hp} {s : Shared} {a : Addr} {ob : Obj} (I : L2.Inv X pins σ H s) (h : H a = some (.ext fun h => h.get? a = some ob)) (hc : ob.cls = .ref C) : ∀ M, PySem.W.Looks M s.heap (typeOf (.ref a)) (.ref C) := fun M => by
  obtain ⟨ho, _⟩ := I.hok a _ h
  exact hc ▸ (PySem.W.Looks.ld ho).andThen .now
def ExcAt (C : Addr) (v : V) (H : Hp) : Prop := ∃ a ob, v = .ref a ∧ H a = some (.ext fun h => h.get? a = some ob) ∧ ob.cls = .ref C
theorem exc_at {K : PySem.W.Frag} {G : Wd} {H : Hp} {v : V} (s : SA K G H O) (i : Is K G (.ptr q) v) (hq : O[q]? = some (some (.exc C fs))) : ExcAt C v H := by
  cases i with
  | ptr _ ha =>
    obtain ⟨a, h1, h2, ob, h3, ⟨h4, _⟩, _⟩ := s.mt q _ hq
    cases Option.some.inj (ha.symm.trans h1)
    exact ⟨_, ob, rfl, h3, h4⟩
theorem ev_isX (hm : X.mg "isinstance" = none) (he : EvP X ρ O e (.ptr q)) (hq : O[q]? = some (some (.exc C fs))) (T : ExcTy X.K C) (hx : X.mg x = some (.ref C2)) (hk : PySem.W.kitOne X.K (.ref C) (.ref C2) = some k)
    (hg : Gl X "isinstance" := by rfl) (hgx : Gl X x := by rfl) (hdx : (x == ("__debug__" : Str)) = false := by decide) (hs : starEach [e, .Name x p2] X.env = (false, eval e X.env) :: starEach [.Name x p2] X.env := by rfl) (hpl : (backTo pos (starEach [.Name x p2] X.env)).any (·.1) = false := by rfl) :
    EvP X ρ O (.Call (.Name "isinstance" p) [e, .Name x p2] [] pos) (.bl k) := fun G => by
  refine PE.imp (pe_callB (id := "isinstance") (r := fun vs H Q => ∃ v, vs = [v, .ref C2] ∧ ExcAt C v H ∧ Q (.bl k) H) (fun pins s σ H xs us Q I r h => ?_) hg hm (by first | rfl | decide +kernel) (pa_cons (he G) (pa_cons (pe_glob (v := .ref C2) hgx hx rfl hdx) pa_nil rfl) hs) (by decide) (by decide) hs hpl) fun σ H Q ⟨h1, h2, h3⟩ => ?_
  · obtain ⟨v, rfl, ⟨a, ob, rfl, ha, hc⟩, hQ⟩ := h
    obtain ⟨u, u', rfl, ru, ru'⟩ := vals2 r
    cases ru'; cases ru
    exact PySem.W.kia_one (kitx_exc T) I.kIn (exc_looks I ha hc) hk (by intro z; cases z) fun tk => ⟨.bl k, H, I.kept fun _ _ e => e, rfl, hQ⟩
  · exact ⟨h1, h2, fun v G1 H1 e1 s1 i1 => ⟨v, rfl, exc_at s1 i1 hq, h3 _ G1 H1 e1 s1 (.bl k)⟩⟩
theorem ev_isXB {U : String} (hm : X.mg "isinstance" = none) (he : EvP X ρ O e (.ptr q)) (hq : O[q]? = some (some (.exc C fs))) (T : ExcTy X.K C) (hx : X.mg x = none) (hk : PySem.W.kitOne X.K (.ref C) (.type U) = some k) (hv : bootBuiltins x = some (.type U) := by first | rfl | decide +kernel)
    (hg : Gl X "isinstance" := by rfl) (hgx : Gl X x := by rfl) (hn : x ≠ "__name__" := by decide) (hdx : (x == ("__debug__" : Str)) = false := by decide) (hs : starEach [e, .Name x p2] X.env = (false, eval e X.env) :: starEach [.Name x p2] X.env := by rfl) (hpl : (backTo pos (starEach [.Name x p2] X.env)).any (·.1) = false := by rfl) :
    EvP X ρ O (.Call (.Name "isinstance" p) [e, .Name x p2] [] pos) (.bl k) := fun G => by
  refine PE.imp (pe_callB (id := "isinstance") (r := fun vs H Q => ∃ v, vs = [v, .ty U] ∧ ExcAt C v H ∧ Q (.bl k) H) (fun pins s σ H xs us Q I r h => ?_) hg hm (by first | rfl | decide +kernel) (pa_cons (he G) (pa_cons (pe_bltn (v := .ty U) hgx hx hv rfl hn hdx) pa_nil rfl) hs) (by decide) (by decide) hs hpl) fun σ H Q ⟨h1, h2, h3⟩ => ?_
  · obtain ⟨v, rfl, ⟨a, ob, rfl, ha, hc⟩, hQ⟩ := h
    obtain ⟨u, u', rfl, ru, ru'⟩ := vals2 r
    cases ru'; cases ru
    exact PySem.W.kia_one (kitx_exc T) I.kIn (exc_looks I ha hc) hk (by intro z; cases z) fun tk => ⟨.bl k, H, I.kept fun _ _ e => e, rfl, hQ⟩
  · exact ⟨h1, h2, fun v G1 H1 e1 s1 i1 => ⟨v, rfl, exc_at s1 i1 hq, h3 _ G1 H1 e1 s1 (.bl k)⟩⟩
abbrev EvCs (X : Cx) (es : List Expr) (cs : List Addr) : Prop := PA X es fun σ H Q => Q (cs.map V.ref) H
theorem cs_nil : EvCs X [] [] := pa_nil
theorem cs_cons {cs : List Addr} (hx : X.mg x = some (.ref C2)) (h : EvCs X es cs) (hgx : Gl X x := by rfl) (hdx : (x == ("__debug__" : Str)) = false := by decide)
    (hs : starEach (.Name x p2 :: es) X.env = (false, eval (.Name x p2) X.env) :: starEach es X.env := by rfl) : EvCs X (.Name x p2 :: es) (C2 :: cs) := pa_cons (pe_glob (v := .ref C2) hgx hx rfl hdx) h hs
theorem vals_refs {cs : List Addr} {us : List Value} (r : Vals (cs.map V.ref) us) : us = cs.map Value.ref := by
  induction cs generalizing us with
  | nil => cases r; rfl
  | cons c cs ih =>
    cases r with
    | cons r1 r2 => cases r1; rw [ih r2]; rfl
theorem ev_isXT {cs : List Addr} (hm : X.mg "isinstance" = none) (he : EvP X ρ O e (.ptr q)) (hq : O[q]? = some (some (.exc C fs))) (T : ExcTy X.K C) (hcs : EvCs X es cs) (hk : PySem.W.kitAny X.K (.ref C) (cs.map Value.ref) = some k) (hz : cs.length ≤ sizeLine := by exact Nat.le_of_ble_eq_true rfl)
    (hg : Gl X "isinstance" := by rfl) (hs : starEach [e, .Tuple es x1 p2] X.env = (false, eval e X.env) :: starEach [.Tuple es x1 p2] X.env := by rfl) (hs2 : starEach [.Tuple es x1 p2] X.env = (false, eval (.Tuple es x1 p2) X.env) :: starEach [] X.env := by rfl) (hpl : (backTo pos (starEach [.Tuple es x1 p2] X.env)).any (·.1) = false := by rfl) :
    EvP X ρ O (.Call (.Name "isinstance" p) [e, .Tuple es x1 p2] [] pos) (.bl k) := fun G => by
  refine PE.imp (pe_callB (id := "isinstance") (r := fun vs H Q => ∃ v tp, vs = [v, .ref tp] ∧ ExcAt C v H ∧ H tp = some (.tup (cs.map V.ref)) ∧ Q (.bl k) H) (fun pins s σ H xs us Q I r h => ?_) hg hm (by first | rfl | decide +kernel) (pa_cons (he G) (pa_cons (pe_tup hcs) pa_nil hs2) hs) (by decide) (by decide) hs hpl) fun σ H Q ⟨h1, h2, h3⟩ => ?_
  · obtain ⟨v, tp, rfl, ⟨a, ob, rfl, ha, hc⟩, ht, hQ⟩ := h
    obtain ⟨u, u', rfl, ru, ru'⟩ := vals2 r
    cases ru'; cases ru
    obtain ⟨_, us, rv, o, ho, hcl, n, hd⟩ := I.hok tp _ ht
    obtain ⟨c0, d0, dt0, sl0⟩ := o
    subst hcl hd
    rw [vals_refs rv] at ho
    exact PySem.W.kia_tup (kitx_exc T) I.kIn (exc_looks I ha hc) ho hk (by intro z; cases z) fun tk => ⟨.bl k, H, I.kept fun _ _ e => e, rfl, hQ⟩
  · refine ⟨h1, h2, fun v G1 H1 e1 s1 i1 => ⟨by rw [List.length_map]; exact hz, fun p hp => ?_⟩⟩
    obtain ⟨e2, s2⟩ := s1.laid (o := .tup (cs.map V.ref)) hp
    exact ⟨v, p, rfl, exc_at s2 (i1.ext e2) hq, upd_same, h3 _ _ _ (e1.trans e2) s2 (.bl k)⟩
end
end DL
set_option Elab.async false
set_option linter.all false
set_option maxRecDepth 100000
set_option maxHeartbeats 1000000
namespace L2
open PySem PySem.Spec PyProof.Rows
def ItrS (lo : Int) (n : Nat) : It := ⟨fun i _ => i < n, fun i H x H' => H' = H ∧ x = .int (lo + (i : Nat) * 2), fun i _ => n ≤ i⟩
theorem turn_rangeS {P : Program} {w : World} {K : PySem.W.Frag} {tg : Expr} (it : Addr) (lo : Int) (n : Nat) : Turn P w K tg (ItrS lo n) [it] it (fun i h => IsRangeIter h it (lo + (i : Nat) * 2) ((n : Int) - (i : Nat)) 2) where
  mem := by simp
  obj := fun i h st b hb => by
    obtain rfl : b = it := by simpa using hb
    exact ⟨_, st, fun v z => by
      have z' : Data.fields _ = Data.cell v := z
      cases z'⟩
  keep := fun i h h' st k => k it (by simp) _ st
  item := by
    intro X hP hw hK hc i pins s σ H E I hf st hg
    subst hP hw hK
    obtain ⟨f0, f1, f2, f3, f4, f5⟩ := hf it (by simp)
    refine (Walks.range (prog := X.prog) (w := X.w) (I.ok.hd hc) it lo 2 n).item i s _ _ hg st fun v h' tk hv st' kk => ?_
    obtain ⟨t, rfl⟩ := hv
    have I1 : Inv X pins σ H { s with heap := h', toks := tk } := I.turned (fun b o hb e => kk b o (by simpa using hb) e) f0 f1 f3 f4 f5
    exact ⟨_, rfl, go_of (s := { s with heap := h', toks := tk }) (n := "range_iterator") st' rfl rfl (by decide) ⟨.int (lo + (i : Nat) * 2), H, I1, ⟨t, rfl⟩, ⟨rfl, rfl⟩, st', fun b hb => (hf b hb).1⟩⟩
  done := by
    intro X hP hw hK hc i pins s σ H E I hf st hg
    subst hP hw hK
    obtain ⟨f0, f1, f2, f3, f4, f5⟩ := hf it (by simp)
    exact wpAny_pyNext_range_end (I.ok.hd hc) st (by have : n ≤ i := hg; omega) fun h' eb => ⟨rfl, I.turned (t' := s.toks) (fun b o hb e => eb b o hb e) f0 f1 f3 f4 f5⟩
  self := fun _ _ _ _ _ st h => wpAny_pyIter_rangeiter st h
def halfUp (d : Int) : Int := if 0 < d then (d - 1) / 2 + 1 else 0
theorem rangeSize_two (a b : Int) : Builtin.Range.rangeSize a b 2 = halfUp (b - a) := by
  unfold Builtin.Range.rangeSize halfUp
  simp only [show (2 : Int) > 0 by decide, if_true]
  split <;> split <;> omega
theorem small_two {a b : Int} (h : (-(2 ^ 60) ≤ a ∧ a < 2 ^ 60) ∧ -(2 ^ 60) ≤ b ∧ b < 2 ^ 60) : Builtin.Range.small a b 2 = true := by
  have hz : 0 ≤ halfUp (b - a) ∧ halfUp (b - a) < 2 ^ 62 := by unfold halfUp; split <;> omega
  unfold Builtin.Range.small
  rw [rangeSize_two]
  generalize halfUp (b - a) = z at hz
  simp only [Builtin.Range.rangeFitsLong, Bool.and_eq_true, Bool.or_eq_true, decide_eq_true_eq, beq_iff_eq, show (2 : Int) > 0 by decide, if_true]
  omega
section
variable {X : Cx} {tg a b c : Expr} {p pos : Pos}
theorem pi_rangeS {ta : TA} (hg : Gl X "range") (hm : X.mg "range" = none) (ha : PA X [a, b, c] ta) (hs : starEach [a, b, c] X.env = (false, eval a X.env) :: starEach [b, c] X.env) (hs2 : (backTo pos (starEach [b, c] X.env)).any (·.1) = false) :
    PI X tg (.Call (.Name "range" p) [a, b, c] [] pos) (fun σ H R => ta σ H fun vs H1 => ∃ i j : Int, vs = [.int i, .int j, .int 2] ∧ ((-(2 ^ 60) ≤ i ∧ i < 2 ^ 60) ∧ -(2 ^ 60) ≤ j ∧ j < 2 ^ 60) ∧ R (ItrS i (halfUp (j - i)).toNat) H1) := by
  intro pins s σ H R I h
  refine Call_ (ld_blt I hg hm boot_range (PyProof.Rows.callWith_type1 (thn (ha pos pins s σ H _ I h) fun us s1 ⟨vs, H1, I1, r1, q1⟩ => ?_) hs hs2))
  obtain ⟨i, j, rfl, hij, q⟩ := q1
  cases r1 with
  | cons r rr => cases rr with
    | cons r' rr => cases rr with
      | cons r'' rr =>
        cases rr
        obtain ⟨t, rfl⟩ := r
        obtain ⟨t', rfl⟩ := r'
        obtain ⟨t'', rfl⟩ := r''
        refine call_range_3 (by decide) (wpAny_pyIter_range (IsRange.new ..) (small_two hij) ?_) (Or.inl (PyProof.noPylong_small (by decide)))
        have I2 : Inv X pins σ H1 { s1 with heap := s1.heap.push { cls := .type "range", data := .fields #[.int i t, .int j t', .int 2 t''] } } := I1.kept (t' := s1.toks) fun _ _ e => Heap.get?_push_of_some _ e
        refine ⟨_, [_], _, _, H1, rfl, I2.kept (t' := s1.toks) fun _ _ e => Heap.get?_push_of_some _ e, turn_rangeS _ i (halfUp (j - i)).toNat, ?_, fun b hb => ?_, q⟩
        · show IsRangeIter _ _ (i + ((0 : Nat) : Int) * 2) ((((halfUp (j - i)).toNat : Nat) : Int) - ((0 : Nat) : Int)) 2
          have e1 : i + ((0 : Nat) : Int) * 2 = i := by simp
          have e2 : (((halfUp (j - i)).toNat : Nat) : Int) - ((0 : Nat) : Int) = Builtin.Range.rangeSize i j 2 := by rw [rangeSize_two]; unfold halfUp; split <;> omega
          rw [e1, e2]
          exact Heap.get?_push_size _ rfl
        · obtain rfl := List.mem_singleton.mp hb
          exact I2.fpOk (Nat.le_refl _) (I2.hok.fresh (Nat.le_refl _))
end
end L2
namespace DL
open PySem PySem.Spec PyProof.Rows L2
section
variable {X : Cx} {ρ : Rho} {O : Sto} {a b c : Expr} {p pos : Pos} {P : Post} {st : Stmt} {rest : List Stmt}
def rangeS (lo : Int) (n : Nat) : List D := (List.range n).map fun i => .int (lo + (i : Nat) * 2)
theorem rangeS_at {lo : Int} {n i : Nat} {x : D} (h : (rangeS lo n)[i]? = some x) : i < n ∧ x = .int (lo + (i : Nat) * 2) := by
  unfold rangeS at h
  rw [List.getElem?_map] at h
  by_cases hi : i < n
  · rw [List.getElem?_range hi] at h
    exact ⟨hi, (Option.some.inj h).symm⟩
  · rw [List.getElem?_eq_none (by rw [List.length_range]; omega)] at h
    cases h
theorem itrS_yields {K : PySem.W.Frag} {G : Wd} {lo : Int} {n : Nat} : Yields K G (ItrS lo n) (rangeS lo n) where
  go := fun i H _ hi => show i < n by simpa [rangeS] using hi
  stop := fun i H _ hi => show n ≤ i by simpa [rangeS] using hi
  yld := fun i v H H' G2 O2 e s y hi => by
    obtain ⟨rfl, rfl⟩ := y
    have hn : i < n := by simpa [rangeS] using hi
    exact ⟨_, G2, by unfold rangeS; rw [List.getElem?_map, List.getElem?_range hn]; rfl, Ext.refl _, s, .int _⟩
theorem ei_rangeS {tg : Expr} {m n : Int} (ha : EvP X ρ O a (.int m)) (hb : EvP X ρ O b (.int n)) (hc : EvP X ρ O c (.int 2)) (hm : X.mg "range" = none) (hmn : (-(2 ^ 60) ≤ m ∧ m < 2 ^ 60) ∧ -(2 ^ 60) ≤ n ∧ n < 2 ^ 60) (hg : Gl X "range" := by rfl)
    (hs : starEach [a, b, c] X.env = (false, eval a X.env) :: starEach [b, c] X.env := by rfl) (hs2 : starEach [b, c] X.env = (false, eval b X.env) :: starEach [c] X.env := by rfl) (hs3 : starEach [c] X.env = (false, eval c X.env) :: starEach [] X.env := by rfl)
    (hpl : (backTo pos (starEach [b, c] X.env)).any (·.1) = false := by rfl) : EvI X ρ O tg (.Call (.Name "range" p) [a, b, c] [] pos) (rangeS m (halfUp (n - m)).toNat) := fun G =>
  PI.imp (pi_rangeS hg hm (es_cons ha (es_cons hb (es_cons hc es_nil hs3) hs2) hs G) hs hpl) fun σ H R ⟨q1, q2, q3⟩ => ⟨q1, q2, fun vs G1 H1 e1 s1 i1 => by
    cases i1 with | cons i r => cases r with | cons i' r => cases r with | cons i'' r => cases r; cases i; cases i'; cases i''; exact ⟨m, n, rfl, hmn, q3 _ G1 H1 e1 s1 itrS_yields⟩⟩
theorem xs_mid (Q : Rho → Sto → Prop) (h : Ex X ρ O st { P with nx := Q }) (k : ∀ ρ' O', Q ρ' O' → Exs X ρ' O' rest P) : Exs X ρ O (st :: rest) P :=
  xs_cons fun G => PS.imp (h G) fun E σ H ⟨h1, h2, h3⟩ => ⟨h1, h2, ⟨fun σ1 ρ1 O1 G1 H1 e1 s1 n1 q1 => h3.nx σ1 ρ1 O1 G1 H1 e1 s1 n1 (k _ _ q1), h3.rt, h3.bk, h3.ct⟩⟩
end
end DL
set_option Elab.async false
set_option linter.all false
set_option maxRecDepth 100000
set_option maxHeartbeats 4000000
namespace My
open PySem PySem.Spec PyProof.Rows L2 DL
def top (i : Nat) : Stmt := PySem.Challenge.pw_heedwise_k23_no_hands.main.body.getD i (.Pass ⟨0, 0, 0, 0⟩)
abbrev s_is_whole : Stmt := top 10
abbrev N_is_whole : List Str := ["value"]
theorem sc_is_whole : FnScope N_is_whole ["value"] (defScope s_is_whole) := ⟨rfl, rfl, rfl, by decide +kernel, rfl, by decide +kernel, by decide +kernel⟩
abbrev s_check_within : Stmt := top 15
abbrev N_check_within : List Str := ["what", "value", "least", "most"]
theorem sc_check_within : FnScope N_check_within ["what", "value", "least", "most"] (defScope s_check_within) := ⟨rfl, rfl, rfl, by decide +kernel, rfl, by decide +kernel, by decide +kernel⟩
abbrev s_check_scale : Stmt := top 16
abbrev N_check_scale : List Str := ["scale"]
theorem sc_check_scale : FnScope N_check_scale ["scale"] (defScope s_check_scale) := ⟨rfl, rfl, rfl, by decide +kernel, rfl, by decide +kernel, by decide +kernel⟩
abbrev s_check_making : Stmt := top 17
abbrev N_check_making : List Str := ["many", "scale"]
theorem sc_check_making : FnScope N_check_making ["many", "scale"] (defScope s_check_making) := ⟨rfl, rfl, rfl, by decide +kernel, rfl, by decide +kernel, by decide +kernel⟩
abbrev s_check_fraction : Stmt := top 18
abbrev N_check_fraction : List Str := ["top", "bottom"]
theorem sc_check_fraction : FnScope N_check_fraction ["top", "bottom"] (defScope s_check_fraction) := ⟨rfl, rfl, rfl, by decide +kernel, rfl, by decide +kernel, by decide +kernel⟩
abbrev s_Hand___init__ : Stmt := inClass (top 20) 0
abbrev N_Hand___init__ : List Str := ["self", "many", "scale"]
theorem sc_Hand___init__ : FnScope N_Hand___init__ ["self", "many", "scale"] (defScope s_Hand___init__) := ⟨rfl, rfl, rfl, by decide +kernel, rfl, by decide +kernel, by decide +kernel⟩
abbrev s_Weigher___init__ : Stmt := inClass (top 22) 0
abbrev N_Weigher___init__ : List Str := ["self", "many", "scale", "top", "bottom"]
theorem sc_Weigher___init__ : FnScope N_Weigher___init__ ["self", "many", "scale", "top", "bottom"] (defScope s_Weigher___init__) := ⟨rfl, rfl, rfl, by decide +kernel, rfl, by decide +kernel, by decide +kernel⟩
abbrev s_l_cell_at : Stmt := top 24
abbrev N_l_cell_at : List Str := ["_law_script", "_law_k"]
theorem sc_l_cell_at : FnScope N_l_cell_at ["_law_script", "_law_k"] (defScope s_l_cell_at) := ⟨rfl, rfl, rfl, by decide +kernel, rfl, by decide +kernel, by decide +kernel⟩
abbrev s_l_draw : Stmt := top 25
abbrev N_l_draw : List Str := ["_law_cell", "_law_j", "_law_number_here"]
theorem sc_l_draw : FnScope N_l_draw ["_law_cell", "_law_j"] (defScope s_l_draw) := ⟨rfl, rfl, rfl, by decide +kernel, rfl, by decide +kernel, by decide +kernel⟩
abbrev s_l_number : Stmt := top 26
abbrev N_l_number : List Str := ["_law_cell", "_law_most", "_law_way"]
theorem sc_l_number : FnScope N_l_number ["_law_cell", "_law_most"] (defScope s_l_number) := ⟨rfl, rfl, rfl, by decide +kernel, rfl, by decide +kernel, by decide +kernel⟩
abbrev s_l_is_from : Stmt := top 27
abbrev N_l_is_from : List Str := ["_law_thing", "_law_low", "_law_high"]
theorem sc_l_is_from : FnScope N_l_is_from ["_law_thing", "_law_low", "_law_high"] (defScope s_l_is_from) := ⟨rfl, rfl, rfl, by decide +kernel, rfl, by decide +kernel, by decide +kernel⟩
abbrev s_l_class : Stmt := top 28
abbrev N_l_class : List Str := ["_law_error"]
theorem sc_l_class : FnScope N_l_class ["_law_error"] (defScope s_l_class) := ⟨rfl, rfl, rfl, by decide +kernel, rfl, by decide +kernel, by decide +kernel⟩
abbrev s_l_made : Stmt := top 29
abbrev N_l_made : List Str := ["_law_many", "_law_scale", "_law_fraction", "_law_caught", "_law_hand", "e"]
theorem sc_l_made : FnScope N_l_made ["_law_many", "_law_scale", "_law_fraction"] (defScope s_l_made) := ⟨rfl, rfl, rfl, by decide +kernel, rfl, by decide +kernel, by decide +kernel⟩
abbrev s_law : Stmt := top 30
abbrev N_law : List Str := ["_law_script", "_law_k", "_law_cell", "_law_other", "_law_many", "_law_scale", "_law_fraction", "_law_good"]
theorem sc_law : FnScope N_law ["_law_script"] (defScope s_law) := ⟨rfl, rfl, rfl, by decide +kernel, rfl, by decide +kernel, by decide +kernel⟩
structure Txt (K : PySem.W.Frag) (mg : Str → Option Value) (C_Hand C_Weigher C_HeedError C_NoRule C_NoName C_NoRow C_NoTurn C_NoWay C_Twice : Addr) : Prop where
  b_len : mg "len" = none
  b_range : mg "range" = none
  b_isinstance : mg "isinstance" = none
  b_int : mg "int" = none
  b_bool : mg "bool" = none
  b_min : mg "min" = none
  b_ValueError : mg "ValueError" = none
  g_MOST_ADVISERS : ∃ t, mg "MOST_ADVISERS" = some (.int 24 t)
  g_MOST_SCALE : ∃ t, mg "MOST_SCALE" = some (.int 10 t)
  g_MOST_BOTTOM : ∃ t, mg "MOST_BOTTOM" = some (.int 100 t)
  c_Hand : ClsTy K C_Hand
  m_Hand : mg "Hand" = some (.ref C_Hand)
  n_Hand_many : NoAttr K C_Hand "many"
  n_Hand_scale : NoAttr K C_Hand "scale"
  c_Weigher : ClsTy K C_Weigher
  m_Weigher : mg "Weigher" = some (.ref C_Weigher)
  n_Weigher_many : NoAttr K C_Weigher "many"
  n_Weigher_scale : NoAttr K C_Weigher "scale"
  n_Weigher_top : NoAttr K C_Weigher "top"
  n_Weigher_bottom : NoAttr K C_Weigher "bottom"
  n_Weigher_tops : NoAttr K C_Weigher "tops"
  n_Weigher_under : NoAttr K C_Weigher "under"
  m_HeedError : mg "HeedError" = some (.ref C_HeedError)
  m_NoRule : mg "NoRule" = some (.ref C_NoRule)
  e_NoRule : PySem.W.excIn K C_NoRule bmV "ValueError.__new__" = true
  t_NoRule : ExcTy K C_NoRule
  x_NoRule_HeedError : PySem.W.exmOne K (.ref C_NoRule) (.ref C_HeedError) = some true
  i_NoRule_NoRule : PySem.W.kitOne K (.ref C_NoRule) (.ref C_NoRule) = some true
  i_NoRule_ValueError : PySem.W.kitOne K (.ref C_NoRule) (.type "ValueError") = some true
  a_NoRule_0 : PySem.W.kitAny K (.ref C_NoRule) [.ref C_NoName, .ref C_NoRow, .ref C_NoTurn, .ref C_NoWay, .ref C_Twice] = some false
  m_NoName : mg "NoName" = some (.ref C_NoName)
  m_NoRow : mg "NoRow" = some (.ref C_NoRow)
  m_NoTurn : mg "NoTurn" = some (.ref C_NoTurn)
  m_NoWay : mg "NoWay" = some (.ref C_NoWay)
  m_Twice : mg "Twice" = some (.ref C_Twice)
def cnt (ws : List Int) : List Int := if ws.sum = 0 then ws.map (fun _ => 1) else ws
def Wok (ws : List Int) : Prop := ∀ w ∈ ws, 0 ≤ w
def go (W : Int) : Int → List (Int × Int) → Int
  | _, [] => 0
  | r, p :: l => if W ≤ 2 * (r + p.2) then p.1 else go W (r + p.2) l
def mid (ns ws : List Int) : Int := go (cnt ws).sum 0 (srt ltP (ns.zip (cnt ws)))
def Two (ns ws : List Int) : Prop := ns.length = ws.length ∧ ws.length ≤ 63 ∧ Wok ws
def spCounted : List D → D → Prop := fun ds d => ∃ ws : List Int, ds = [.tup (ws.map D.int)] ∧ ws.length ≤ 63 ∧ d = .lst ((cnt ws).map D.int)
def spMiddle : List D → D → Prop := fun ds d => ∃ ns ws : List Int, ds = [.tup (ns.map D.int), .tup (ws.map D.int)] ∧ Two ns ws ∧ d = .int (mid ns ws)
def cellAt (ns : List Int) (k : Int) : Int := (ns[k.toNat]?).getD 0
def spCell : List D → D → Prop := fun ds d => ∃ (ns : List Int) (k : Int), ds = [.scr (ns.map D.int), .int k] ∧ 0 ≤ k ∧ d = .int (cellAt ns k)
def below (f : Int) (ns ws : List Int) : Int := sm (fun q => if q.1 < f then q.2 else 0) (ns.zip ws)
def there (f : Int) (ns ws : List Int) : Int := sm (fun q => if q.1 = f then q.2 else 0) (ns.zip ws)
def rightB (f : Int) (ns ws : List Int) : Bool := if ns = [] then decide (f = 0) else (decide (f ∈ ns) && (decide (2 * below f ns (cnt ws) < (cnt ws).sum) && decide ((cnt ws).sum ≤ 2 * (below f ns (cnt ws) + there f ns (cnt ws)))))
def od : Option Int → D
  | none => .non
  | some i => .int i
abbrev Tn := List (Option Int) × Int
def tD (t : Tn) : D := .tup [.tup (t.1.map od), .int t.2]
def ab (i : Int) : Int := if i < 0 then -i else i
def chg : Option Int → Int → Int
  | none, _ => 0
  | some w, z => ab (w - z)
def sat (t : Tn) (k : Nat) : Option Int := (t.1[k]?).getD none
def chgAt (k : Nat) (t : Tn) : Int := chg (sat t k) t.2
def drawF (c j : Int) : Int := (((c % 2147483647 * 48271 + 7919 * j * j + 101 * j + 11) % 2147483629) * 69621 + 7 * j) % 2147483587 + 2147483587 * (c / (j + 2) % 10 ^ (61 : Int).toNat)
def spDraw : List D → D → Prop := fun ds d => ∃ c j : Int, ds = [.int c, .int j] ∧ (0 ≤ j ∧ j ≤ 100) ∧ d = .int (drawF c j)
def frB (c : Int) : Int := if c % 8 = 0 then 1 else if c % 8 = 1 then 2 else if c % 8 = 2 then 2 else if c % 8 = 3 then 3 else if c % 8 = 4 then 5 else if c % 8 = 5 then 10 else if c % 8 = 6 then 100 else 1 + c / 8 % 100
def preFr : List D → Prop := fun ds => ∃ c : Int, ds = [.int c]
def relFr : List D → D → Prop := fun _ d => ∃ t b : Int, d = .tup [.int t, .int b] ∧ 0 ≤ t ∧ t < b ∧ b ≤ 100
def sat2 (said : List (Option Int)) (k : Nat) : Option Int := (said[k]?).getD none
def ax (said : List (Option Int)) : List Nat := (List.range said.length).filter fun k => (sat2 said k).isSome
def nsA (said : List (Option Int)) : List Int := (ax said).map fun k => (sat2 said k).getD 0
def wsA (said : List (Option Int)) (ws : List Int) : List Int := (ax said).map fun k => ws.getD k 0
def midA (said : List (Option Int)) (ws : List Int) : Int := mid (nsA said) (wsA said ws)
theorem at_ws {ws : List Int} {k : Nat} (h : k < ws.length) : atI (ws.map D.int) (k : Int) = some (.int (ws.getD k 0)) := by
  refine atI_nat ?_
  rw [List.getElem?_map, List.getElem?_eq_getElem h]
  simp [List.getD, h]
def onS (s : Int) : Option Int → Bool
  | none => false
  | some i => decide (0 ≤ i) && decide (i ≤ s)
def SaidOk (m s : Int) (said : List (Option Int)) : Prop := (said.length : Int) = m ∧ m ≤ 24 ∧ ∀ w ∈ said, w = none ∨ onS s w = true
def spIsWhole : List D → D → Prop := fun ds d => ∃ w : Option Int, ds = [od w] ∧ d = .bl w.isSome
def spOnS : List D → D → Prop := fun ds d => ∃ (s : Int) (w : Option Int), ds = [.int s, od w] ∧ d = .bl (onS s w)
def spIsSaid : List D → D → Prop := fun ds d => ∃ (m s : Int) (said : List (Option Int)), ds = [.int m, .int s, .tup (said.map od)] ∧ SaidOk m s said ∧ d = .bl true
def spCheckSaid : List D → D → Prop := fun ds d => ∃ (m s : Int) (said : List (Option Int)), ds = [.int m, .int s, .tup (said.map od)] ∧ SaidOk m s said ∧ d = .non
def spWithin : List D → D → Prop := fun ds d => ∃ (x : Str) (v l h : Int), ds = [.str x, .int v, .int l, .int h] ∧ (l ≤ v ∧ v ≤ h) ∧ d = .non
def spMaking : List D → D → Prop := fun ds d => ∃ m s : Int, ds = [.int m, .int s] ∧ (1 ≤ m ∧ m ≤ 24) ∧ (1 ≤ s ∧ s ≤ 10) ∧ d = .non
def spScale : List D → D → Prop := fun ds d => ∃ s : Int, ds = [.int s] ∧ (1 ≤ s ∧ s ≤ 10) ∧ d = .non
def spFraction : List D → D → Prop := fun ds d => ∃ t b : Int, ds = [.int t, .int b] ∧ (0 ≤ t ∧ t < b ∧ b ≤ 100) ∧ d = .non
def spAwake : List D → D → Prop := fun ds d => ∃ said : List (Option Int), ds = [.tup (said.map od)] ∧ said.length ≤ 24 ∧ d = .lst ((ax said).map fun k => D.int (k : Nat))
def spMA : List D → D → Prop := fun ds d => ∃ (said : List (Option Int)) (ws : List Int), ds = [.tup (said.map od), .tup (ws.map D.int)] ∧ said.length ≤ 24 ∧ ws.length = said.length ∧ Wok ws ∧ d = .int (midA said ws)
def handF (m s : Int) : List (Str × D) := [("many", .int m), ("scale", .int s)]
def weigF (m s t b : Int) (ws : List Int) (u : Int) : List (Str × D) := [("many", .int m), ("scale", .int s), ("top", .int t), ("bottom", .int b), ("tops", .tup (ws.map D.int)), ("under", .int u)]
theorem put_ne {f g : Str} {d x : D} {r : List (Str × D)} (h : (g = f) → False) : putD f d ((g, x) :: r) = (g, x) :: putD f d r := by
  show (if g = f then (g, d) :: r else (g, x) :: putD f d r) = _
  rw [if_neg h]
theorem put_hand (m s : Int) : putD "scale" (.int s) (putD "many" (.int m) []) = handF m s := by
  show putD "scale" (.int s) [("many", .int m)] = _
  rw [put_ne (by decide +kernel)]
  rfl
def f3 (m s t : Int) : List (Str × D) := [("many", .int m), ("scale", .int s), ("top", .int t)]
def f4 (m s t b : Int) : List (Str × D) := [("many", .int m), ("scale", .int s), ("top", .int t), ("bottom", .int b)]
def f5 (m s t b : Int) (d : D) : List (Str × D) := [("many", .int m), ("scale", .int s), ("top", .int t), ("bottom", .int b), ("tops", d)]
theorem put_top (m s t : Int) : putD "top" (.int t) (handF m s) = f3 m s t := by
  unfold handF
  rw [put_ne (by decide +kernel), put_ne (by decide +kernel)]
  rfl
theorem put_bottom (m s t b : Int) : putD "bottom" (.int b) (f3 m s t) = f4 m s t b := by
  unfold f3
  rw [put_ne (by decide +kernel), put_ne (by decide +kernel), put_ne (by decide +kernel)]
  rfl
theorem put_tops (m s t b : Int) (d : D) : putD "tops" d (f4 m s t b) = f5 m s t b d := by
  unfold f4
  rw [put_ne (by decide +kernel), put_ne (by decide +kernel), put_ne (by decide +kernel), put_ne (by decide +kernel)]
  rfl
theorem put_under (m s t b u : Int) (ws : List Int) : putD "under" (.int u) (f5 m s t b (.tup (ws.map D.int))) = weigF m s t b ws u := by
  unfold f5
  rw [put_ne (by decide +kernel), put_ne (by decide +kernel), put_ne (by decide +kernel), put_ne (by decide +kernel), put_ne (by decide +kernel)]
  rfl
theorem lk_eq {f : Str} {d : D} {r : List (Str × D)} : List.lookup f ((f, d) :: r) = some d := by rw [List.lookup_cons, beq_self_eq_true]
theorem lk_ne {f g : Str} {d : D} {r : List (Str × D)} (h : (f == g) = false) : List.lookup f ((g, d) :: r) = List.lookup f r := by rw [List.lookup_cons, h]
section
variable (m s t b u : Int) (ws : List Int)
theorem hl_many : (handF m s).lookup ("many" : Str) = some (.int m) := lk_eq
theorem hl_scale : (handF m s).lookup ("scale" : Str) = some (.int s) := by unfold handF; rw [lk_ne (by decide +kernel), lk_eq]
theorem wl_many : (weigF m s t b ws u).lookup ("many" : Str) = some (.int m) := lk_eq
theorem wl_scale : (weigF m s t b ws u).lookup ("scale" : Str) = some (.int s) := by unfold weigF; rw [lk_ne (by decide +kernel), lk_eq]
end
def HandAt (C_Hand C_Weigher : Addr) (O : Sto) (q : Nat) (m s : Int) (ws : List Int) : Prop :=
  (O[q]? = some (some (.ins C_Hand (handF m s))) ∧ ws = List.replicate m.toNat 1) ∨ ∃ t b u, O[q]? = some (some (.ins C_Weigher (weigF m s t b ws u)))
def spInitH (C_Hand C_Weigher : Addr) : SpD := fun ds O R => ∃ (q : Nat) (m s : Int) (C : Addr), ds = [.ptr q, .int m, .int s] ∧ (C = C_Hand ∨ C = C_Weigher) ∧ O[q]? = some (some (.ins C [])) ∧ (1 ≤ m ∧ m ≤ 24) ∧ (1 ≤ s ∧ s ≤ 10) ∧ R .non (O.set q (some (.ins C (handF m s))))
def spHeedH (C_Hand : Addr) : SpD := fun ds O R => ∃ (q : Nat) (m s : Int), ds = [.ptr q] ∧ O[q]? = some (some (.ins C_Hand (handF m s))) ∧ (1 ≤ m ∧ m ≤ 24) ∧ R (.tup ((List.replicate m.toNat (1 : Int)).map D.int)) O
def spHeedW (C_Weigher : Addr) : SpD := fun ds O R => ∃ (q : Nat) (m s t b u : Int) (ws : List Int), ds = [.ptr q] ∧ O[q]? = some (some (.ins C_Weigher (weigF m s t b ws u))) ∧ R (.tup (ws.map D.int)) O
def spWeights (C_Weigher : Addr) : SpD := fun ds O R => ∃ (q : Nat) (m s t b u : Int) (ws : List Int), ds = [.ptr q] ∧ O[q]? = some (some (.ins C_Weigher (weigF m s t b ws u))) ∧ R (.tup [.tup (ws.map D.int), .int u]) O
def spSay (C_Hand C_Weigher : Addr) : SpD := fun ds O R => ∃ (q : Nat) (m s : Int) (ws : List Int) (said : List (Option Int)), ds = [.ptr q, .tup (said.map od)] ∧ HandAt C_Hand C_Weigher O q m s ws ∧ (1 ≤ m ∧ m ≤ 24) ∧ SaidOk m s said ∧ (ws.length : Int) = m ∧ Wok ws ∧ R (.int (midA said ws)) O
def spInitW (C_Weigher : Addr) : SpD := fun ds O R => ∃ (q : Nat) (m s t b : Int), ds = [.ptr q, .int m, .int s, .int t, .int b] ∧ O[q]? = some (some (.ins C_Weigher [])) ∧ (1 ≤ m ∧ m ≤ 24) ∧ (1 ≤ s ∧ s ≤ 10) ∧ (0 ≤ t ∧ t < b ∧ b ≤ 100) ∧ R .non (O.set q (some (.ins C_Weigher (weigF m s t b (List.replicate m.toNat 1) 1))))
theorem set_at {O : Sto} {q : Nat} {x y : Option MO} (h : O[q]? = some x) : (O.set q y)[q]? = some y := by
  have := (List.getElem?_eq_some_iff.mp h).1
  rw [List.getElem?_set_self this]
theorem ones (n : Nat) : (List.replicate n [D.int 1]).flatten = (List.replicate n (1 : Int)).map D.int := by rw [rep1, List.map_replicate]
def preHand : List D → Prop := fun ds => ∃ c : Int, ds = [.int c]
def relHand : List D → D → Prop := fun _ d => ∃ (m : Nat) (s : Int), d = .tup [.int (m : Nat), .int s] ∧ 1 ≤ m ∧ m ≤ 24 ∧ 1 ≤ s ∧ s ≤ 10
def offG (sl : Bool) (n y : Int) : Option Int := if (sl && decide (n / 37 % 4 = 0)) = true then none else some y
def whatG (s : Int) (sl : Bool) (so n : Int) : Option Int := offG sl n (if n / 11 % 3 = 0 then so else n % (s + 1))
def turnG (m : Nat) (s : Int) (sl : Bool) (c : Int) : Tn := ((List.range m).map fun k => whatG s sl (drawF c 0 % (s + 1)) (drawF c (0 + (k : Nat) + 1)), drawF c 0 % (s + 1))
def spTurn : List D → D → Prop := fun ds d => ∃ (c : Int) (m : Nat) (s : Int) (sl : Bool), ds = [.int c, .int (m : Nat), .int s, .bl sl] ∧ m ≤ 24 ∧ 1 ≤ s ∧ d = tD (turnG m s sl c)
def cellsG (ns : List Int) : List Int := if cellAt ns 2 % 8 = 5 then (List.range 60).map fun k => drawF (cellAt ns 2) (40 + (0 + (k : Nat))) else cutA ns (some 3) (some 63)
def spTurns : List D → D → Prop := fun ds d => ∃ (ns : List Int) (m : Nat) (s : Int) (sl : Bool), ds = [.scr (ns.map D.int), .int (m : Nat), .int s, .bl sl] ∧ ns.length ≤ 63 ∧ m ≤ 24 ∧ 1 ≤ s ∧ d = .tup (((cellsG ns).map (turnG m s sl)).map tD)
def TnOk (m : Nat) (s : Int) (t : Tn) : Prop := t.1.length = m ∧ (∀ w ∈ t.1, w = none ∨ onS s w = true) ∧ 0 ≤ t.2 ∧ t.2 ≤ s
def spLMid : List D → D → Prop := fun ds d => ∃ (said : List (Option Int)) (ws : List Int) (dw : D), ds = [.tup (said.map od), dw] ∧ (dw = .tup (ws.map D.int) ∨ dw = .lst (ws.map D.int)) ∧ said.length ≤ 24 ∧ ws.length = said.length ∧ Wok ws ∧ d = .int (midA said ws)
def upto (f : Int) (ps : List (Int × Int)) : Int := sm (fun q => if q.1 ≤ f then q.2 else 0) ps
def prA (said : List (Option Int)) (ws : List Int) : List (Int × Int) := (ax said).map fun k => ((sat2 said k).getD 0, ws.getD k 0)
inductive Nb where
  | i (n : Int)
  | b (t : Bool)
def nb : Nb → D
  | .i n => .int n
  | .b t => .bl t
def isI : Nb → Bool
  | .i _ => true
  | .b _ => false
def inR : Nb → Int → Int → Bool
  | .i n, l, h => decide (l ≤ n) && decide (n ≤ h)
  | .b _, _, _ => false
theorem inR_i {v : Nb} {l h : Int} (e : inR v l h = true) : ∃ n, v = .i n ∧ l ≤ n ∧ n ≤ h := by
  cases v with
  | b t => cases e
  | i n =>
    simp only [inR, Bool.and_eq_true, decide_eq_true_eq] at e
    exact ⟨n, rfl, e.1, e.2⟩
def mkOk (m s : Nb) : Bool := inR m 1 24 && inR s 1 10
def lessOf : Nb → Int
  | .i n => n - 1
  | .b _ => 0
def frOk (t b : Nb) : Bool := inR b 1 100 && inR t 0 (lessOf b)
abbrev tail0 : Str := " is no whole number that may stand there"
def Sh (x : Str) : Prop := (Str.empty ++ x ++ tail0).length ≤ sizeLine ∧ x.length ≤ sizeLine ∧ (Str.empty ++ x).length ≤ sizeLine
theorem sh_of {x : Str} {n : Nat} (h : ((Str.empty ++ x ++ tail0).length, x.length, (Str.empty ++ x).length) = (n + 40, n, n)) (hn : n ≤ 20) : Sh x := by
  simp only [Prod.mk.injEq] at h
  obtain ⟨h1, h2, h3⟩ := h
  unfold Sh
  rw [sizeLine_eq]
  omega
theorem sh_many : Sh "many" := sh_of (n := 4) (by decide +kernel) (by decide)
theorem sh_scale : Sh "scale" := sh_of (n := 5) (by decide +kernel) (by decide)
theorem sh_top : Sh "top" := sh_of (n := 3) (by decide +kernel) (by decide)
theorem sh_bottom : Sh "bottom" := sh_of (n := 6) (by decide +kernel) (by decide)
def spIsWholeB : List D → D → Prop := fun ds d => ∃ v : Nb, ds = [nb v] ∧ d = .bl (isI v)
def spWithinX (C_NoRule : Addr) : SpX := fun ds O R RX => ∃ (x : Str) (v : Nb) (l h : Int), ds = [.str x, nb v, .int l, .int h] ∧ Sh x ∧ (inR v l h = true → R .non O) ∧ (inR v l h = false → RX C_NoRule [] O)
def spScaleX (C_NoRule : Addr) : SpX := fun ds O R RX => ∃ v : Nb, ds = [nb v] ∧ (inR v 1 10 = true → R .non O) ∧ (inR v 1 10 = false → RX C_NoRule [] O)
def spMakingX (C_NoRule : Addr) : SpX := fun ds O R RX => ∃ m s : Nb, ds = [nb m, nb s] ∧ (mkOk m s = true → R .non O) ∧ (mkOk m s = false → RX C_NoRule [] O)
def spFractionX (C_NoRule : Addr) : SpX := fun ds O R RX => ∃ t b : Nb, ds = [nb t, nb b] ∧ (frOk t b = true → R .non O) ∧ (frOk t b = false → RX C_NoRule [] O)
def spInitHX (C_Hand C_Weigher C_NoRule : Addr) : SpX := fun ds O R RX => ∃ (q : Nat) (m s : Nb) (C : Addr), ds = [.ptr q, nb m, nb s] ∧ (C = C_Hand ∨ C = C_Weigher) ∧ O[q]? = some (some (.ins C [])) ∧
  (∀ a b : Int, m = .i a → s = .i b → mkOk m s = true → (1 ≤ a ∧ a ≤ 24) → (1 ≤ b ∧ b ≤ 10) → R .non (O.set q (some (.ins C (handF a b))))) ∧ (mkOk m s = false → RX C_NoRule [] O)
def spInitWX (C_Weigher C_NoRule : Addr) : SpX := fun ds O R RX => ∃ (q : Nat) (m s t b : Nb), ds = [.ptr q, nb m, nb s, nb t, nb b] ∧ O[q]? = some (some (.ins C_Weigher [])) ∧
  (∀ m' s' t' b' : Int, m = .i m' → s = .i s' → (mkOk m s && frOk t b) = true → R .non (O.set q (some (.ins C_Weigher (weigF m' s' t' b' (List.replicate m'.toNat 1) 1))))) ∧ ((mkOk m s && frOk t b) = false → ∀ O', (∃ Y, O' = O.set q Y) → RX C_NoRule [] O')
def spClass (C_NoRule : Addr) : SpD := fun ds O R => (ds = [.non] ∧ R (.int 0) O) ∨ ∃ q, ds = [.ptr q] ∧ O[q]? = some (some (.exc C_NoRule [])) ∧ R (.int 1) O
def spIsFrom : List D → D → Prop := fun ds d => ∃ (v : Nb) (l h : Int), ds = [nb v, .int l, .int h] ∧ d = .bl (inR v l h)
def frD : Option (Nb × Nb) → D
  | none => .tup []
  | some (t, b) => .tup [nb t, nb b]
def allOk (m s : Nb) : Option (Nb × Nb) → Bool
  | none => mkOk m s
  | some (t, b) => mkOk m s && frOk t b
def badI (k : Bool) : Int := if k = true then 0 else 1
def spMade : List D → D → Prop := fun ds d => ∃ (m s : Nb) (f : Option (Nb × Nb)), ds = [nb m, nb s, frD f] ∧ d = .int (badI (allOk m s f))
def numF (c m : Int) : Nb := if c % 8 < 3 then .i (c / 8 % (m + 3) - 1) else if c % 8 = 3 then .b (decide (c / 8 % 2 = 0)) else if c % 8 = 4 then .i (c / 8 % (2 * 10 ^ (59 : Int).toNat) - 10 ^ (59 : Int).toNat) else if c % 8 = 5 then .i (if c / 8 % 4 = 0 then 0 else if c / 8 % 4 = 1 then 1 else if c / 8 % 4 = 2 then m else m + 1) else .i (1 + c / 8 % m)
def spNumber : List D → D → Prop := fun ds d => ∃ c m : Int, ds = [.int c, .int m] ∧ (1 ≤ m ∧ m ≤ 100) ∧ d = nb (numF c m)
theorem ixB (c : Int) : atI [D.bl true, .bl false] (c % 2) = some (.bl (decide (c % 2 = 0))) := by
  have h : c % 2 = 0 ∨ c % 2 = 1 := by omega
  rcases h with h | h <;> rw [h] <;> rfl
theorem ix4 (c m : Int) : atI [D.int 0, .int 1, .int m, .int (m + 1)] (c % 4) = some (.int (if c % 4 = 0 then 0 else if c % 4 = 1 then 1 else if c % 4 = 2 then m else m + 1)) := by
  have h : c % 4 = 0 ∨ c % 4 = 1 ∨ c % 4 = 2 ∨ c % 4 = 3 := by omega
  rcases h with h | h | h | h <;> rw [h] <;> rfl
theorem mk_i {m s : Nb} (h : mkOk m s = true) : ∃ a b : Int, m = .i a ∧ s = .i b ∧ (1 ≤ a ∧ a ≤ 24) ∧ (1 ≤ b ∧ b ≤ 10) := by
  unfold mkOk at h
  rw [Bool.and_eq_true] at h
  obtain ⟨a, rfl, h1⟩ := inR_i h.1
  obtain ⟨b, rfl, h2⟩ := inR_i h.2
  exact ⟨a, b, rfl, rfl, h1, h2⟩
theorem sto_set {O : Sto} {x y : Option MO} : (O ++ [x]).set O.length y = O ++ [y] := by
  rw [List.set_append_right _ _ (Nat.le_refl _), Nat.sub_self]; rfl
theorem pl_nb (t b : Nb) : plD (.tup [nb t, nb b]) = true := by cases t <;> cases b <;> rfl
def toM (ns : List Int) : Int := if (((ns.map D.int).length : Nat) : Int) < 60 then (((ns.map D.int).length : Nat) : Int) else 60
theorem toM_le (ns : List Int) : 0 ≤ toM ns ∧ toM ns ≤ 60 ∧ toM ns ≤ (ns.length : Nat) := by
  unfold toM; rw [List.length_map]; split <;> omega
theorem cell2 {ns : List Int} {i : Nat} (h : i < (halfUp (toM ns - 0)).toNat) : atI (ns.map D.int) (0 + (i : Nat) * 2) = some (.int (ns.getD (i * 2) 0)) := by
  have h1 := toM_le ns
  have h2 : i * 2 < ns.length := by
    unfold halfUp at h
    split at h <;> omega
  have e : (0 + (i : Nat) * 2 : Int) = ((i * 2 : Nat) : Int) := by omega
  rw [e]
  exact at_ws h2
theorem bad_int (k : Bool) : (!decide (badI k = if (!k) = true then 1 else 0)) = false := by cases k <;> rfl
seal EvP Ev EvPs Ex Exs EvT EvI EvX ExX ExsX
section
variable {P : Program} {w : World} {K : PySem.W.Frag} {mg : Str → Option Value} {base : Heap} {C_Hand C_Weigher C_HeedError C_NoRule C_NoName C_NoRow C_NoTurn C_NoWay C_Twice : Addr}
theorem ok_is_whole {f : Addr} {fd : FuncData} (T : Txt K mg C_Hand C_Weigher C_HeedError C_NoRule C_NoName C_NoRow C_NoTurn C_NoWay C_Twice) (Fn : Fun K "is_whole" "is_whole" s_is_whole f fd) (hm : mg "is_whole" = some (.ref f)) (hb : Binds K fd ["value"] []) : DefOk P w K mg base 1 "is_whole" (pureSp spIsWholeB) := by
  refine okD (k := 0) Fn sc_is_whole hm hb (fun ds O R h => ?_) (fun cdv A outer s H E ds O R hr h => ?_)
  · obtain ⟨_, ⟨_, rfl, _⟩, _⟩ := h; rfl
  · obtain ⟨d, ⟨w, rfl, rfl⟩, hR⟩ := h
    cases w with
    | b t =>
      refine xs_cons (x_ret (EvP.ev (ev_and (ev_callB T.b_isinstance (es_cons (ev_var 0) (es_cons (ev_type T.b_int) es_nil)) (c_isi_int rfl)) (fun hbb => (ev_one (ev_not (ev_callB T.b_isinstance (es_cons (ev_var 0) (es_cons (ev_type T.b_bool) es_nil)) (c_isi_bool rfl)))))) ?_))
      exact hR
    | i n =>
      refine xs_cons (x_ret (EvP.ev (ev_and (ev_callB T.b_isinstance (es_cons (ev_var 0) (es_cons (ev_type T.b_int) es_nil)) (c_isi_int rfl)) (fun hbb => (ev_one (ev_not (ev_callB T.b_isinstance (es_cons (ev_var 0) (es_cons (ev_type T.b_bool) es_nil)) (c_isi_bool rfl)))))) ?_))
      exact hR
theorem ok_check_within {f : Addr} {fd : FuncData} (T : Txt K mg C_Hand C_Weigher C_HeedError C_NoRule C_NoName C_NoRow C_NoTurn C_NoWay C_Twice) (Fn : Fun K "check_within" "check_within" s_check_within f fd) (hm : mg "check_within" = some (.ref f)) (hb : Binds K fd ["what", "value", "least", "most"] []) (F_is_whole : DefOk P w K mg base 1 "is_whole" (pureSp spIsWholeB)) : DefX P w K mg base 2 "check_within" (spWithinX C_NoRule) := by
  refine ⟨f, fd, _, okX (k := 1) Fn sc_check_within (fun ds O R RX h => ?_) (fun cdv A outer s H E ds O R RX hr h => ?_), hm, Fn.kp, hb⟩
  · obtain ⟨_, _, _, _, rfl, _⟩ := h; rfl
  · obtain ⟨x, v, l, u, rfl, ⟨hx1, hx2, hx3⟩, h1, h2⟩ := h
    cases v with
    | b t =>
      refine xX_cons (xX_if (EvW.t (ew_or (l := false) (et_not (et_bl (ev_callP F_is_whole (hr.mono (by decide)) (es_cons (ev_var 1) es_nil) ⟨.b t, rfl, rfl⟩))) (fun hbb => by cases hbb))) (fun hk => ?_) (fun hk => by cases hk))
      exact xX_cons (xX_raise T.e_NoRule T.m_NoRule (es_cons (ev_fstr (ev_var 0) hx1 hx2 hx3) es_nil) (h2 rfl) trivial)
    | i n =>
      refine xX_cons (xX_if (EvW.t (ew_or (et_not (et_bl (ev_callP F_is_whole (hr.mono (by decide)) (es_cons (ev_var 1) es_nil) ⟨.i n, rfl, rfl⟩))) (fun hbb => (ew_or1 (et_not (et_chain (ev_var 2) (ev_var 1) (ev_var 3) cmp_le (fun hbb => cmp_le))))))) (fun hk => ?_) (fun hk => xX_nil (xX_nil (h1 ?_))))
      · refine xX_cons (xX_raise T.e_NoRule T.m_NoRule (es_cons (ev_fstr (ev_var 0) hx1 hx2 hx3) es_nil) (h2 ?_) trivial)
        have hk : (!true || !(decide (l ≤ n) && decide (n ≤ u))) = true := hk
        show (decide (l ≤ n) && decide (n ≤ u)) = false
        revert hk
        cases (decide (l ≤ n) && decide (n ≤ u)) <;> simp
      · have hk : (!true || !(decide (l ≤ n) && decide (n ≤ u))) = false := hk
        show (decide (l ≤ n) && decide (n ≤ u)) = true
        revert hk
        cases (decide (l ≤ n) && decide (n ≤ u)) <;> simp
theorem ok_check_scale {f : Addr} {fd : FuncData} (T : Txt K mg C_Hand C_Weigher C_HeedError C_NoRule C_NoName C_NoRow C_NoTurn C_NoWay C_Twice) (Fn : Fun K "check_scale" "check_scale" s_check_scale f fd) (hm : mg "check_scale" = some (.ref f)) (hb : Binds K fd ["scale"] []) (F_check_within : DefX P w K mg base 2 "check_within" (spWithinX C_NoRule)) : DefX P w K mg base 3 "check_scale" (spScaleX C_NoRule) := by
  refine ⟨f, fd, _, okX (k := 2) Fn sc_check_scale (fun ds O R RX h => ?_) (fun cdv A outer s H E ds O R RX hr h => ?_), hm, Fn.kp, hb⟩
  · obtain ⟨_, rfl, _⟩ := h; rfl
  · obtain ⟨v, rfl, h1, h2⟩ := h
    exact xX_cons (xX_expr (evX_call F_check_within (hr.mono (by decide)) (es_cons ev_str (es_cons (ev_var 0) (es_cons ev_int (es_cons (ev_gint T.g_MOST_SCALE.choose_spec) es_nil)))) ⟨"scale", v, 1, 10, rfl, sh_scale, fun e => xX_nil (h1 e), fun e => h2 e⟩))
theorem ok_check_making {f : Addr} {fd : FuncData} (T : Txt K mg C_Hand C_Weigher C_HeedError C_NoRule C_NoName C_NoRow C_NoTurn C_NoWay C_Twice) (Fn : Fun K "check_making" "check_making" s_check_making f fd) (hm : mg "check_making" = some (.ref f)) (hb : Binds K fd ["many", "scale"] []) (F_check_within : DefX P w K mg base 2 "check_within" (spWithinX C_NoRule)) (F_check_scale : DefX P w K mg base 3 "check_scale" (spScaleX C_NoRule)) : DefX P w K mg base 4 "check_making" (spMakingX C_NoRule) := by
  refine ⟨f, fd, _, okX (k := 3) Fn sc_check_making (fun ds O R RX h => ?_) (fun cdv A outer s H E ds O R RX hr h => ?_), hm, Fn.kp, hb⟩
  · obtain ⟨_, _, rfl, _⟩ := h; rfl
  · obtain ⟨m, s, rfl, h1, h2⟩ := h
    refine xX_cons (xX_expr (evX_call F_check_within (hr.mono (by decide)) (es_cons ev_str (es_cons (ev_var 0) (es_cons ev_int (es_cons (ev_gint T.g_MOST_ADVISERS.choose_spec) es_nil)))) ⟨"many", m, 1, 24, rfl, sh_many, fun e => ?_, fun e => h2 (by unfold mkOk; rw [e]; rfl)⟩))
    exact xX_cons (xX_expr (evX_call F_check_scale (hr.mono (by decide)) (es_cons (ev_var 1) es_nil) ⟨s, rfl, fun e' => xX_nil (h1 (by unfold mkOk; rw [e, e']; rfl)), fun e' => h2 (by unfold mkOk; rw [e, e']; rfl)⟩))
theorem ok_check_fraction {f : Addr} {fd : FuncData} (T : Txt K mg C_Hand C_Weigher C_HeedError C_NoRule C_NoName C_NoRow C_NoTurn C_NoWay C_Twice) (Fn : Fun K "check_fraction" "check_fraction" s_check_fraction f fd) (hm : mg "check_fraction" = some (.ref f)) (hb : Binds K fd ["top", "bottom"] []) (F_check_within : DefX P w K mg base 2 "check_within" (spWithinX C_NoRule)) : DefX P w K mg base 3 "check_fraction" (spFractionX C_NoRule) := by
  refine ⟨f, fd, _, okX (k := 2) Fn sc_check_fraction (fun ds O R RX h => ?_) (fun cdv A outer s H E ds O R RX hr h => ?_), hm, Fn.kp, hb⟩
  · obtain ⟨_, _, rfl, _⟩ := h; rfl
  · obtain ⟨t, b, rfl, h1, h2⟩ := h
    refine xX_cons (xX_expr (evX_call F_check_within (hr.mono (by decide)) (es_cons ev_str (es_cons (ev_var 1) (es_cons ev_int (es_cons (ev_gint T.g_MOST_BOTTOM.choose_spec) es_nil)))) ⟨"bottom", b, 1, 100, rfl, sh_bottom, fun e => ?_, fun e => h2 (by unfold frOk; rw [e]; rfl)⟩))
    obtain ⟨n, rfl, hn⟩ := inR_i e
    exact xX_cons (xX_expr (evX_call F_check_within (hr.mono (by decide)) (es_cons ev_str (es_cons (ev_var 0) (es_cons ev_int (es_cons (ev_bin (ev_var 1) ev_int o_sub) es_nil)))) ⟨"top", t, 0, n - 1, rfl, sh_top, fun e' => xX_nil (h1 (by unfold frOk lessOf; rw [e, e']; rfl)), fun e' => h2 (by unfold frOk lessOf; rw [e, e']; rfl)⟩))
theorem ok_Hand___init__ {f : Addr} {fd : FuncData} (T : Txt K mg C_Hand C_Weigher C_HeedError C_NoRule C_NoName C_NoRow C_NoTurn C_NoWay C_Twice) (Fn : Fun K "__init__" "Hand.__init__" s_Hand___init__ f fd) (F_check_making : DefX P w K mg base 4 "check_making" (spMakingX C_NoRule)) : FnOk P w K mg base (CX1 P w) 5 f fd ["self", "many", "scale"] (toSpX K (spInitHX C_Hand C_Weigher C_NoRule)) := by
  refine okX (k := 4) Fn sc_Hand___init__ (fun ds O R RX h => ?_) (fun cdv A outer s H E ds O R RX hr h => ?_)
  · obtain ⟨_, _, _, _, rfl, _⟩ := h; rfl
  · obtain ⟨q, m, s, C, rfl, hC, hq, h1, h2⟩ := h
    have hc : Cls K C := by rcases hC with rfl | rfl; exact T.c_Hand.cls; exact T.c_Weigher.cls
    have n1 : NoAttr K C "many" := by rcases hC with rfl | rfl; exact T.n_Hand_many; exact T.n_Weigher_many
    have n2 : NoAttr K C "scale" := by rcases hC with rfl | rfl; exact T.n_Hand_scale; exact T.n_Weigher_scale
    refine xX_cons (xX_expr (evX_call F_check_making (hr.mono (by decide)) (es_cons (ev_var 1) (es_cons (ev_var 2) es_nil)) ⟨m, s, rfl, fun e => ?_, fun e => h2 e⟩))
    obtain ⟨a, b, rfl, rfl, ha, hb⟩ := mk_i e
    refine Exs.x_ ?_
    refine xs_cons (x_fld (ev_var 1) (ev_var 0) hq hc n1 (by decide) ?_)
    refine xs_cons (x_fld (ev_var 2) (ev_var 0) (set_at hq) hc n2 (by show 1 < 1000; decide) ?_)
    refine xs_nil ?_
    have z := h1 a b rfl rfl e ha hb
    rw [List.set_set]
    exact (put_hand a b).symm ▸ z
theorem ok_Weigher___init__ {f : Addr} {fd : FuncData} (T : Txt K mg C_Hand C_Weigher C_HeedError C_NoRule C_NoName C_NoRow C_NoTurn C_NoWay C_Twice) (Fn : Fun K "__init__" "Weigher.__init__" s_Weigher___init__ f fd) (F_check_fraction : DefX P w K mg base 3 "check_fraction" (spFractionX C_NoRule)) (O_Hand___init__ : OfClsX P w K mg base "Hand" 5 "__init__" (spInitHX C_Hand C_Weigher C_NoRule)) : FnOk P w K mg base (CX1 P w) 6 f fd ["self", "many", "scale", "top", "bottom"] (toSpX K (spInitWX C_Weigher C_NoRule)) := by
  refine okX (k := 5) Fn sc_Weigher___init__ (fun ds O R RX h => ?_) (fun cdv A outer s H E ds O R RX hr h => ?_)
  · obtain ⟨_, _, _, _, _, rfl, _⟩ := h; rfl
  · obtain ⟨q, m, s, t, b, rfl, hq, h1, h2⟩ := h
    have hself : O = O.set q (some (.ins C_Weigher [])) := by
      refine (List.ext_getElem? fun j => ?_)
      by_cases hj : q = j
      · subst hj; rw [set_at hq, hq]
      · rw [List.getElem?_set_ne hj]
    refine xX_cons (xX_expr (evX_call F_check_fraction (hr.mono (by decide)) (es_cons (ev_var 3) (es_cons (ev_var 4) es_nil)) ⟨t, b, rfl, fun e => ?_, fun e => h2 (by rw [e, Bool.and_false]) O ⟨_, hself⟩⟩))
    refine xX_cons (xX_expr (evX_ofCls O_Hand___init__ (hr.mono (by decide)) (es_cons (ev_var 0) (es_cons (ev_var 1) (es_cons (ev_var 2) es_nil))) ⟨q, m, s, C_Weigher, rfl, .inr rfl, hq, fun a c em es ek ha hc => ?_, fun e' => h2 (by rw [e']; rfl) O ⟨_, hself⟩⟩))
    subst em es
    have e0 := e
    unfold frOk at e
    rw [Bool.and_eq_true] at e
    obtain ⟨b', rfl, hb⟩ := inR_i e.1
    obtain ⟨t', rfl, ht⟩ := inR_i e.2
    have z := h1 a c t' b' rfl rfl (by rw [ek, e0]; rfl)
    refine Exs.x_ ?_
    have q1 := set_at (y := some (.ins C_Weigher (handF a c))) hq
    refine xs_cons (x_fld (ev_var 3) (ev_var 0) q1 T.c_Weigher.cls T.n_Weigher_top (by show 2 < 1000; decide) ?_)
    rw [List.set_set]
    refine (put_top a c t').symm ▸ ?_
    refine xs_cons (x_fld (ev_var 4) (ev_var 0) (set_at hq) T.c_Weigher.cls T.n_Weigher_bottom (by show 3 < 1000; decide) ?_)
    rw [List.set_set]
    refine (put_bottom a c t' b').symm ▸ ?_
    refine xs_cons (x_fld (ev_bin (ev_tup (es_cons ev_int es_nil)) (ev_var 1) (o_repT ha.1 (by omega) (by simp) (by rw [sizeLine_eq]; show 1 * a.toNat ≤ _; omega))) (ev_var 0) (set_at hq) T.c_Weigher.cls T.n_Weigher_tops (by show 4 < 1000; decide) ?_)
    rw [List.set_set, put_tops, ones]
    refine xs_cons (x_fld ev_int (ev_var 0) (set_at hq) T.c_Weigher.cls T.n_Weigher_under (by show 5 < 1000; decide) ?_)
    rw [List.set_set, put_under]
    exact xs_nil z
theorem ok_l_cell_at {f : Addr} {fd : FuncData} (T : Txt K mg C_Hand C_Weigher C_HeedError C_NoRule C_NoName C_NoRow C_NoTurn C_NoWay C_Twice) (Fn : Fun K "_law_cell_at" "_law_cell_at" s_l_cell_at f fd) (hm : mg "_law_cell_at" = some (.ref f)) (hb : Binds K fd ["_law_script", "_law_k"] []) : DefOk P w K mg base 1 "_law_cell_at" (pureSp spCell) := by
  refine okD (k := 0) Fn sc_l_cell_at hm hb (fun ds O R h => ?_) (fun cdv A outer s H E ds O R hr h => ?_)
  · obtain ⟨_, ⟨_, _, rfl, _⟩, _⟩ := h; rfl
  · obtain ⟨d, ⟨ns, k, rfl, hk0, rfl⟩, hR⟩ := h
    refine xs_cons (x_if (et_cmp (ev_var 1) (ev_callB T.b_len (es_cons (ev_var 0) es_nil) (c_len (by first | exact Or.inr rfl | exact Or.inl (Or.inl rfl) | exact Or.inl (Or.inr (Or.inl rfl)) | exact Or.inl (Or.inr (Or.inr ⟨_, rfl, by first | assumption | rfl⟩))))) cmp_lt) (fun hk => ?_) (fun hk => ?_))
    · have hk := of_decide_eq_true hk
      rw [List.length_map] at hk
      have hi : k.toNat < ns.length := by omega
      have hz : atI (ns.map D.int) k = some (.int ns[k.toNat]) := atI_map hk0 (List.getElem?_eq_getElem hi)
      refine xs_cons (x_ret (EvP.ev (ev_ixL (ev_var 0) (by first | exact Or.inl rfl | exact Or.inr (Or.inl rfl) | exact Or.inr (Or.inr ⟨_, rfl, by first | assumption | rfl⟩)) (ev_var 1) hz) ?_))
      unfold cellAt at hR
      rw [List.getElem?_eq_getElem hi] at hR
      exact hR
    · have hk := of_decide_eq_false hk
      rw [List.length_map] at hk
      refine xs_nil ?_
      refine xs_cons (x_ret (EvP.ev ev_int ?_))
      unfold cellAt at hR
      rw [List.getElem?_eq_none (by omega)] at hR
      exact hR
theorem ok_l_draw {f : Addr} {fd : FuncData} (T : Txt K mg C_Hand C_Weigher C_HeedError C_NoRule C_NoName C_NoRow C_NoTurn C_NoWay C_Twice) (Fn : Fun K "_law_draw" "_law_draw" s_l_draw f fd) (hm : mg "_law_draw" = some (.ref f)) (hb : Binds K fd ["_law_cell", "_law_j"] []) : DefOk P w K mg base 1 "_law_draw" (pureSp spDraw) := by
  refine okD (k := 0) Fn sc_l_draw hm hb (fun ds O R h => ?_) (fun cdv A outer s H E ds O R hr h => ?_)
  · obtain ⟨_, ⟨_, _, rfl, _⟩, _⟩ := h; rfl
  · obtain ⟨d, ⟨c, j, rfl, hj, rfl⟩, hR⟩ := h
    refine xs_cons (x_set 2 (EvP.ev (ev_bin (ev_bin (ev_bin (ev_bin (ev_bin (ev_bin (ev_var 0) ev_int (o_mod (by first | decide | omega))) ev_int (o_mul (by first | assumption | exact CMul.ok (Or.inl ⟨by omega, by omega⟩) | exact CMul.ok (Or.inr ⟨by omega, by omega⟩)))) (ev_bin (ev_bin ev_int (ev_var 1) (o_mul (by first | assumption | exact CMul.ok (Or.inl ⟨by omega, by omega⟩) | exact CMul.ok (Or.inr ⟨by omega, by omega⟩)))) (ev_var 1) (o_mul (by first | assumption | exact CMul.ok (Or.inl ⟨by omega, by omega⟩) | exact CMul.ok (Or.inr ⟨by omega, by omega⟩)))) o_add) (ev_bin ev_int (ev_var 1) (o_mul (by first | assumption | exact CMul.ok (Or.inl ⟨by omega, by omega⟩) | exact CMul.ok (Or.inr ⟨by omega, by omega⟩)))) o_add) ev_int o_add) ev_int (o_mod (by first | decide | omega))) ?_) sc_l_draw.nd)
    refine xs_cons (x_set 2 (EvP.ev (ev_bin (ev_bin (ev_bin (ev_var 2) ev_int (o_mul (by first | assumption | exact CMul.ok (Or.inl ⟨by omega, by omega⟩) | exact CMul.ok (Or.inr ⟨by omega, by omega⟩)))) (ev_bin ev_int (ev_var 1) (o_mul (by first | assumption | exact CMul.ok (Or.inl ⟨by omega, by omega⟩) | exact CMul.ok (Or.inr ⟨by omega, by omega⟩)))) o_add) ev_int (o_mod (by first | decide | omega))) ?_) sc_l_draw.nd)
    exact xs_cons (x_ret (EvP.ev (ev_bin (ev_var 2) (ev_bin ev_int (ev_bin (ev_bin (ev_var 0) (ev_bin (ev_var 1) ev_int o_add) (o_div ⟨(by first | decide | omega), (by first | decide | omega)⟩)) (ev_bin ev_int ev_int (o_pow ⟨(by first | decide | omega), (by first | decide | omega), by decide⟩)) (o_mod (by first | decide | omega))) (o_mul (by first | assumption | exact CMul.ok (Or.inl ⟨by omega, by omega⟩) | exact CMul.ok (Or.inr ⟨by omega, by omega⟩)))) o_add) hR))
theorem ok_l_number {f : Addr} {fd : FuncData} (T : Txt K mg C_Hand C_Weigher C_HeedError C_NoRule C_NoName C_NoRow C_NoTurn C_NoWay C_Twice) (Fn : Fun K "_law_number" "_law_number" s_l_number f fd) (hm : mg "_law_number" = some (.ref f)) (hb : Binds K fd ["_law_cell", "_law_most"] []) : DefOk P w K mg base 1 "_law_number" (pureSp spNumber) := by
  refine okD (k := 0) Fn sc_l_number hm hb (fun ds O R h => ?_) (fun cdv A outer s H E ds O R hr h => ?_)
  · obtain ⟨_, ⟨_, _, rfl, _⟩, _⟩ := h; rfl
  · obtain ⟨d, ⟨c, m, rfl, hm, rfl⟩, hR⟩ := h
    refine xs_cons (x_set 2 (EvP.ev (ev_bin (ev_var 0) ev_int (o_mod (by first | decide | omega))) ?_) sc_l_number.nd)
    unfold numF at hR
    refine xs_cons (x_if (et_cmp (ev_var 2) ev_int cmp_lt) (fun hk => ?_) (fun hk => xs_nil ?_))
    · have hk := of_decide_eq_true hk
      rw [if_pos hk] at hR
      exact xs_cons (x_ret (EvP.ev (ev_bin (ev_bin (ev_bin (ev_var 0) ev_int (o_div ⟨(by first | decide | omega), (by first | decide | omega)⟩)) (ev_bin (ev_var 1) ev_int o_add) (o_mod (by first | decide | omega))) ev_int o_sub) hR))
    have hk := of_decide_eq_false hk
    rw [if_neg hk] at hR
    refine xs_cons (x_if (et_cmp (ev_var 2) ev_int cmp_eqI) (fun hk => ?_) (fun hk => xs_nil ?_))
    · have hk := of_decide_eq_true hk
      rw [if_pos hk] at hR
      exact xs_cons (x_ret (EvP.ev (ev_ixL (ev_lst (es_cons ev_bl (es_cons ev_bl es_nil))) (by first | exact Or.inl rfl | exact Or.inr (Or.inl rfl) | exact Or.inr (Or.inr ⟨_, rfl, by first | assumption | rfl⟩)) (ev_bin (ev_bin (ev_var 0) ev_int (o_div ⟨(by first | decide | omega), (by first | decide | omega)⟩)) ev_int (o_mod (by first | decide | omega))) (ixB _)) hR))
    have hk2 := of_decide_eq_false hk
    rw [if_neg hk2] at hR
    refine xs_cons (x_if (et_cmp (ev_var 2) ev_int cmp_eqI) (fun hk => ?_) (fun hk => xs_nil ?_))
    · have hk := of_decide_eq_true hk
      rw [if_pos hk] at hR
      exact xs_cons (x_ret (EvP.ev (ev_bin (ev_bin (ev_bin (ev_var 0) ev_int (o_div ⟨(by first | decide | omega), (by first | decide | omega)⟩)) (ev_bin ev_int (ev_bin ev_int ev_int (o_pow ⟨(by first | decide | omega), (by first | decide | omega), by decide⟩)) (o_mul (by first | assumption | exact CMul.ok (Or.inl ⟨by omega, by omega⟩) | exact CMul.ok (Or.inr ⟨by omega, by omega⟩)))) (o_mod (by decide))) (ev_bin ev_int ev_int (o_pow ⟨(by first | decide | omega), (by first | decide | omega), by decide⟩)) o_sub) hR))
    have hk3 := of_decide_eq_false hk
    rw [if_neg hk3] at hR
    refine xs_cons (x_if (et_cmp (ev_var 2) ev_int cmp_eqI) (fun hk => ?_) (fun hk => xs_nil ?_))
    · have hk := of_decide_eq_true hk
      rw [if_pos hk] at hR
      exact xs_cons (x_ret (EvP.ev (ev_ixL (ev_lst (es_cons ev_int (es_cons ev_int (es_cons (ev_var 1) (es_cons (ev_bin (ev_var 1) ev_int o_add) es_nil))))) (by first | exact Or.inl rfl | exact Or.inr (Or.inl rfl) | exact Or.inr (Or.inr ⟨_, rfl, by first | assumption | rfl⟩)) (ev_bin (ev_bin (ev_var 0) ev_int (o_div ⟨(by first | decide | omega), (by first | decide | omega)⟩)) ev_int (o_mod (by first | decide | omega))) (ix4 _ _)) hR))
    have hk4 := of_decide_eq_false hk
    rw [if_neg hk4] at hR
    exact xs_cons (x_ret (EvP.ev (ev_bin ev_int (ev_bin (ev_bin (ev_var 0) ev_int (o_div ⟨(by first | decide | omega), (by first | decide | omega)⟩)) (ev_var 1) (o_mod (by first | decide | omega))) o_add) hR))
theorem ok_l_is_from {f : Addr} {fd : FuncData} (T : Txt K mg C_Hand C_Weigher C_HeedError C_NoRule C_NoName C_NoRow C_NoTurn C_NoWay C_Twice) (Fn : Fun K "_law_is_from" "_law_is_from" s_l_is_from f fd) (hm : mg "_law_is_from" = some (.ref f)) (hb : Binds K fd ["_law_thing", "_law_low", "_law_high"] []) : DefOk P w K mg base 1 "_law_is_from" (pureSp spIsFrom) := by
  refine okD (k := 0) Fn sc_l_is_from hm hb (fun ds O R h => ?_) (fun cdv A outer s H E ds O R hr h => ?_)
  · obtain ⟨_, ⟨_, _, _, rfl, _⟩, _⟩ := h; rfl
  · obtain ⟨d, ⟨v, l, u, rfl, rfl⟩, hR⟩ := h
    cases v with
    | b t =>
      refine xs_cons (x_ret (EvP.ev (ev_and (l := false) (ev_not (ev_callB T.b_isinstance (es_cons (ev_var 0) (es_cons (ev_type T.b_bool) es_nil)) (c_isi_bool rfl))) (fun hbb => by cases hbb)) ?_))
      exact hR
    | i n =>
      refine xs_cons (x_ret (EvP.ev (ev_and (ev_not (ev_callB T.b_isinstance (es_cons (ev_var 0) (es_cons (ev_type T.b_bool) es_nil)) (c_isi_bool rfl))) (fun hbb => (ev_one (ev_chain (ev_var 1) (ev_var 0) (ev_var 2) cmp_le (fun hbb => cmp_le))))) ?_))
      exact hR
theorem ok_l_class {f : Addr} {fd : FuncData} (T : Txt K mg C_Hand C_Weigher C_HeedError C_NoRule C_NoName C_NoRow C_NoTurn C_NoWay C_Twice) (Fn : Fun K "_law_class" "_law_class" s_l_class f fd) (hm : mg "_law_class" = some (.ref f)) (hb : Binds K fd ["_law_error"] []) : DefOk P w K mg base 1 "_law_class" (spClass C_NoRule) := by
  refine okD (k := 0) Fn sc_l_class hm hb (fun ds O R h => ?_) (fun cdv A outer s H E ds O R hr h => ?_)
  · rcases h with ⟨rfl, _⟩ | ⟨_, rfl, _⟩ <;> rfl
  · rcases h with ⟨rfl, hR⟩ | ⟨q, rfl, hq, hR⟩
    · refine xs_cons (x_if (et_cmp (ev_var 0) ev_non cmp_is) (fun hk => ?_) (fun hk => by cases hk))
      exact xs_cons (x_ret (EvP.ev ev_int hR))
    · refine xs_cons (x_if (et_cmp (ev_var 0) ev_non cmp_is) (fun hk => by cases hk) (fun hk => xs_nil ?_))
      refine xs_cons (x_if (EvW.t (ew_or (et_bl (ev_isXT T.b_isinstance (ev_var 0) hq T.t_NoRule (cs_cons T.m_NoName (cs_cons T.m_NoRow (cs_cons T.m_NoTurn (cs_cons T.m_NoWay (cs_cons T.m_Twice cs_nil))))) T.a_NoRule_0)) (fun hbb => ew_or1 (et_not (et_bl (ev_isXB T.b_isinstance (ev_var 0) hq T.t_NoRule T.b_ValueError T.i_NoRule_ValueError)))))) (fun hk => by cases hk) (fun hk => xs_nil ?_))
      exact xs_cons (x_ret (EvP.ev (ev_callTy T.b_int (es_cons (ev_isX T.b_isinstance (ev_var 0) hq T.t_NoRule T.m_NoRule T.i_NoRule_NoRule) es_nil) c_intB) hR))
theorem ok_l_made {f : Addr} {fd : FuncData} (T : Txt K mg C_Hand C_Weigher C_HeedError C_NoRule C_NoName C_NoRow C_NoTurn C_NoWay C_Twice) (Fn : Fun K "_law_made" "_law_made" s_l_made f fd) (hm : mg "_law_made" = some (.ref f)) (hb : Binds K fd ["_law_many", "_law_scale", "_law_fraction"] []) (K_Hand : MakeX P w K mg base C_Hand 5 "Hand" (spInitHX C_Hand C_Weigher C_NoRule)) (K_Weigher : MakeX P w K mg base C_Weigher 6 "Weigher" (spInitWX C_Weigher C_NoRule)) (F_l_class : DefOk P w K mg base 1 "_law_class" (spClass C_NoRule)) : DefOk P w K mg base 8 "_law_made" (pureSp spMade) := by
  refine okD (k := 7) Fn sc_l_made hm hb (fun ds O R h => ?_) (fun cdv A outer s H E ds O R hr h => ?_)
  · obtain ⟨_, ⟨_, _, _, rfl, _⟩, _⟩ := h; rfl
  · obtain ⟨d, ⟨m, s, f, rfl, rfl⟩, hR⟩ := h
    refine xs_keep ?_
    refine xs_cons (x_set 3 (EvP.ev ev_non ?_) sc_l_made.nd)
    refine xs_cons (x_set 4 (EvP.ev ev_non ?_) sc_l_made.nd)
    refine xs_cons (x_try 5 sc_l_made.nd T.m_HeedError (RX := fun C fs ρ O' => C = C_NoRule ∧ fs = [] ∧ ρ = [some (nb m), some (nb s), some (frD f), some .non, some .non, none] ∧ (∃ Y, O' = O ++ Y) ∧ allOk m s f = false) (fun pn E => ?_) (fun v C fs ρ' O' hx => ?_))
    · cases f with
      | none =>
        refine xX_cons (xX_if (et_cmp (ev_var 2) (ev_tup es_nil) (cmp_eqD hr (Or.inl rfl) (Or.inl rfl) rfl rfl (Nat.le_trans (Nat.min_le_right _ _) (by decide)))) (fun hk => ?_) (fun hk => by cases hk))
        refine xX_cons (xX_set 4 (evX_make K_Hand (hr.mono (by decide)) (es_cons (ev_var 0) (es_cons (ev_var 1) es_nil)) ⟨O.length, m, s, C_Hand, rfl, .inl rfl, st0, fun a b ea eb hk ha hb => ⟨rfl, ?_⟩, fun hk => ⟨rfl, rfl, rfl, ⟨_, rfl⟩, hk⟩⟩) sc_l_made.nd)
        rw [sto_set]
        subst ea eb
        have hk0 : allOk (.i a) (.i b) none = true := hk
        refine xX_nil (xX_nil ?_)
        refine xs_cons (x_if (EvW.t (ew_and (et_cmp (ev_var 3) ev_non cmp_is) (fun hbb => (ew_and1 (EvW.t (ew_or (et_cmp (ev_fld (ev_var 4) st0 T.c_Hand.cls T.n_Hand_many (hl_many _ _)) (ev_var 0) cmp_neI) (fun hbb => (ew_or1 (et_cmp (ev_fld (ev_var 4) st0 T.c_Hand.cls T.n_Hand_scale (hl_scale _ _)) (ev_var 1) cmp_neI))))))))) (fun hk => ?_) (fun hk => xs_nil ?_))
        · exfalso
          have hk : (true && (!decide (_ = _) || !decide (_ = _))) = true := hk
          rw [decide_eq_true rfl, decide_eq_true rfl] at hk
          cases hk
        refine xs_cons (x_ret (ev_call F_l_class (hr.mono (by decide)) (es_cons (ev_var 3) es_nil) (.inl ⟨rfl, ⟨_, rfl⟩, rfl, ?_⟩)))
        rw [hk0] at hR
        exact hR
      | some tb =>
        obtain ⟨t, b⟩ := tb
        refine xX_cons (xX_if (et_cmp (ev_var 2) (ev_tup es_nil) (cmp_eqD hr (Or.inl rfl) (Or.inl rfl) (pl_nb t b) rfl (Nat.le_trans (Nat.min_le_right _ _) (by decide)))) (fun hk => by cases hk) (fun hk => ?_))
        refine xX_cons (xX_set 4 (evX_make K_Weigher (hr.mono (by decide)) (es_cons (ev_var 0) (es_cons (ev_var 1) (es_cons (ev_ixT (ev_var 2) ev_int rfl) (es_cons (ev_ixT (ev_var 2) ev_int rfl) es_nil)))) ⟨O.length, m, s, t, b, rfl, st0, fun m' s' t' b' ea eb hk => ⟨rfl, ?_⟩, fun hk O' hO' => ⟨rfl, rfl, rfl, ?_, hk⟩⟩) sc_l_made.nd)
        · rw [sto_set]
          subst ea eb
          have hk0 : allOk (.i m') (.i s') (some (t, b)) = true := hk
          refine xX_nil (xX_nil ?_)
          refine xs_cons (x_if (EvW.t (ew_and (et_cmp (ev_var 3) ev_non cmp_is) (fun hbb => (ew_and1 (EvW.t (ew_or (et_cmp (ev_fld (ev_var 4) st0 T.c_Weigher.cls T.n_Weigher_many (wl_many _ _ _ _ _ _)) (ev_var 0) cmp_neI) (fun hbb => (ew_or1 (et_cmp (ev_fld (ev_var 4) st0 T.c_Weigher.cls T.n_Weigher_scale (wl_scale _ _ _ _ _ _)) (ev_var 1) cmp_neI))))))))) (fun hk => ?_) (fun hk => xs_nil ?_))
          · exfalso
            have hk : (true && (!decide (_ = _) || !decide (_ = _))) = true := hk
            rw [decide_eq_true rfl, decide_eq_true rfl] at hk
            cases hk
          refine xs_cons (x_ret (ev_call F_l_class (hr.mono (by decide)) (es_cons (ev_var 3) es_nil) (.inl ⟨rfl, ⟨_, rfl⟩, rfl, ?_⟩)))
          rw [hk0] at hR
          exact hR
        · obtain ⟨Y, rfl⟩ := hO'
          exact ⟨_, sto_set⟩
    · obtain ⟨rfl, rfl, rfl, ⟨Y, rfl⟩, hk⟩ := hx
      refine ⟨T.x_NoRule_HeedError, ?_⟩
      refine xs_cons (x_set 3 (EvP.ev (ev_var 5) ?_) sc_l_made.nd)
      refine xs_nil ?_
      refine xs_cons (x_if (EvW.t (ew_and (l := false) (et_cmp (ev_var 3) ev_non cmp_is) (fun hbb => by cases hbb))) (fun hk => by cases hk) (fun hk' => xs_nil ?_))
      refine xs_cons (x_ret (ev_call F_l_class (hr.mono (by decide)) (es_cons (ev_var 3) es_nil) (.inr ⟨_, rfl, st0, ⟨_, List.append_assoc ..⟩, rfl, ?_⟩)))
      rw [hk] at hR
      exact hR
theorem ok_law {f : Addr} {fd : FuncData} (T : Txt K mg C_Hand C_Weigher C_HeedError C_NoRule C_NoName C_NoRow C_NoTurn C_NoWay C_Twice) (Fn : Fun K "law" "law" s_law f fd)  (F_l_cell_at : DefOk P w K mg base 1 "_law_cell_at" (pureSp spCell)) (F_l_draw : DefOk P w K mg base 1 "_law_draw" (pureSp spDraw)) (F_l_number : DefOk P w K mg base 1 "_law_number" (pureSp spNumber)) (F_l_is_from : DefOk P w K mg base 1 "_law_is_from" (pureSp spIsFrom)) (F_l_made : DefOk P w K mg base 8 "_law_made" (pureSp spMade)) : FnOk P w K mg base CX0 10 f fd ["_law_script"] (toSp K spLaw) := by
  refine okF (k := 9) Fn sc_law (fun ds O R h => ?_) (fun cdv A outer s H E ds O R hr h => ?_)
  · obtain ⟨_, rfl, _⟩ := h; rfl
  · obtain ⟨ns, rfl, hl, hR⟩ := h
    have hM := toM_le ns
    refine xs_cons (x_for (ei_rangeS ev_int (n := toM ns) (ev_callB T.b_min (es_cons ev_int (es_cons (ev_callB T.b_len (es_cons (ev_var 0) es_nil) (c_len (by first | exact Or.inr rfl | exact Or.inl (Or.inl rfl) | exact Or.inl (Or.inr (Or.inl rfl)) | exact Or.inl (Or.inr (Or.inr ⟨_, rfl, by first | assumption | rfl⟩))))) es_nil)) c_min) ev_int T.b_range ⟨by decide, by omega, by omega⟩) (fun i ρ O' => ∃ u1 u2 u3 u4 u5 u6 u7, ρ = [some (.scr (ns.map D.int)), u1, u2, u3, u4, u5, u6, u7] ∧ O' = O) ⟨_, _, _, _, _, _, _, rfl, rfl⟩ ?_ ?_)
    · rintro i x ρ O' hx ⟨u1, u2, u3, u4, u5, u6, u7, rfl, rfl⟩
      obtain ⟨hi, rfl⟩ := rangeS_at hx
      refine ⟨_, tg_name 1 sc_law.nd, ?_⟩
      refine xs_cons (x_set 2 (EvP.ev (ev_ixL (ev_var 0) (by first | exact Or.inl rfl | exact Or.inr (Or.inl rfl) | exact Or.inr (Or.inr ⟨_, rfl, by first | assumption | rfl⟩)) (ev_var 1) (cell2 hi)) ?_) sc_law.nd)
      refine xs_cons (x_set 3 (EvP.ev (ev_callP F_l_cell_at (hr.mono (by decide)) (es_cons (ev_var 0) (es_cons (ev_bin (ev_var 1) ev_int o_add) es_nil)) ⟨_, _, rfl, by first | decide | omega, rfl⟩) ?_) sc_law.nd)
      generalize cellAt ns _ = o
      generalize ns.getD _ 0 = c
      refine xs_cons (x_set 4 (EvP.ev (ev_callP F_l_number (hr.mono (by decide)) (es_cons (ev_callP F_l_draw (hr.mono (by decide)) (es_cons (ev_var 2) (es_cons ev_int es_nil)) ⟨_, _, rfl, by first | decide | omega, rfl⟩) (es_cons ev_int es_nil)) ⟨_, _, rfl, by decide, rfl⟩) ?_) sc_law.nd)
      refine xs_cons (x_set 5 (EvP.ev (ev_callP F_l_number (hr.mono (by decide)) (es_cons (ev_callP F_l_draw (hr.mono (by decide)) (es_cons (ev_var 2) (es_cons ev_int es_nil)) ⟨_, _, rfl, by first | decide | omega, rfl⟩) (es_cons ev_int es_nil)) ⟨_, _, rfl, by decide, rfl⟩) ?_) sc_law.nd)
      refine xs_cons (x_set 6 (EvP.ev (ev_tup (es_cons (ev_callP F_l_number (hr.mono (by decide)) (es_cons (ev_callP F_l_draw (hr.mono (by decide)) (es_cons (ev_var 3) (es_cons ev_int es_nil)) ⟨_, _, rfl, by first | decide | omega, rfl⟩) (es_cons ev_int es_nil)) ⟨_, _, rfl, by decide, rfl⟩) (es_cons (ev_callP F_l_number (hr.mono (by decide)) (es_cons (ev_callP F_l_draw (hr.mono (by decide)) (es_cons (ev_var 3) (es_cons ev_int es_nil)) ⟨_, _, rfl, by first | decide | omega, rfl⟩) (es_cons ev_int es_nil)) ⟨_, _, rfl, by decide, rfl⟩) es_nil))) ?_) sc_law.nd)
      generalize numF (drawF c 1) 24 = m
      generalize numF (drawF c 2) 10 = s
      generalize numF (drawF o 3) 100 = t
      generalize numF (drawF o 4) 100 = b
      refine xs_mid (fun ρ O'' => ∃ m : Nb, ρ = [some (.scr (ns.map D.int)), some (.int (0 + (i : Nat) * 2)), some (.int c), some (.int o), some (nb m), some (nb s), some (.tup [nb t, nb b]), u7] ∧ O'' = O') (x_if (et_cmp (ev_bin (ev_var 2) ev_int (o_mod (by first | decide | omega))) ev_int cmp_eqI) (fun hk => ?_) (fun hk => ?_)) ?_
      · refine xs_cons (x_set 4 (EvP.ev (ev_bin ev_int (ev_bin (ev_bin (ev_var 2) ev_int (o_div ⟨(by first | decide | omega), (by first | decide | omega)⟩)) ev_int (o_mod (by first | decide | omega))) o_add) ?_) sc_law.nd)
        exact xs_nil ⟨.i _, rfl, rfl⟩
      · exact xs_nil ⟨m, rfl, rfl⟩
      clear m
      rintro ρ O'' ⟨m, rfl, rfl⟩
      refine xs_mid (fun ρ O' => ∃ s : Nb, ρ = [some (.scr (ns.map D.int)), some (.int (0 + (i : Nat) * 2)), some (.int c), some (.int o), some (nb m), some (nb s), some (.tup [nb t, nb b]), u7] ∧ O' = O'') (x_if (et_cmp (ev_bin (ev_var 2) ev_int (o_mod (by first | decide | omega))) ev_int cmp_eqI) (fun hk => ?_) (fun hk => ?_)) ?_
      · refine xs_cons (x_set 5 (EvP.ev (ev_bin ev_int (ev_bin (ev_bin (ev_var 2) ev_int (o_div ⟨(by first | decide | omega), (by first | decide | omega)⟩)) ev_int (o_mod (by first | decide | omega))) o_add) ?_) sc_law.nd)
        exact xs_nil ⟨.i _, rfl, rfl⟩
      · exact xs_nil ⟨s, rfl, rfl⟩
      clear s
      rintro ρ O' ⟨s, rfl, rfl⟩
      refine xs_mid (fun ρ O'' => ∃ m s : Nb, ρ = [some (.scr (ns.map D.int)), some (.int (0 + (i : Nat) * 2)), some (.int c), some (.int o), some (nb m), some (nb s), some (.tup [nb t, nb b]), u7] ∧ O'' = O') (x_if (et_cmp (ev_bin (ev_bin (ev_var 2) ev_int (o_div ⟨(by first | decide | omega), (by first | decide | omega)⟩)) ev_int (o_mod (by first | decide | omega))) ev_int cmp_eqI) (fun hk => ?_) (fun hk => ?_)) ?_
      · refine xs_cons (x_set 4 (EvP.ev (ev_bin ev_int (ev_bin (ev_bin (ev_var 2) ev_int (o_div ⟨(by first | decide | omega), (by first | decide | omega)⟩)) ev_int (o_mod (by first | decide | omega))) o_add) ?_) sc_law.nd)
        refine xs_cons (x_set 5 (EvP.ev (ev_bin ev_int (ev_bin (ev_bin (ev_var 2) ev_int (o_div ⟨(by first | decide | omega), (by first | decide | omega)⟩)) ev_int (o_mod (by first | decide | omega))) o_add) ?_) sc_law.nd)
        exact xs_nil ⟨.i _, .i _, rfl, rfl⟩
      · exact xs_nil ⟨m, s, rfl, rfl⟩
      clear m s
      rintro ρ O'' ⟨m, s, rfl, rfl⟩
      refine xs_cons (x_set 7 (EvP.ev (d := .bl (mkOk m s)) (ev_and (ev_callP F_l_is_from (hr.mono (by decide)) (es_cons (ev_var 4) (es_cons ev_int (es_cons ev_int es_nil))) ⟨m, 1, 24, rfl, rfl⟩) (fun hbb => (ev_one (ev_callP F_l_is_from (hr.mono (by decide)) (es_cons (ev_var 5) (es_cons ev_int (es_cons ev_int es_nil))) ⟨s, 1, 10, rfl, rfl⟩)))) ?_) sc_law.nd)
      refine xs_cons (x_if (et_cmp (ev_callP F_l_made (hr.mono (by decide)) (es_cons (ev_var 4) (es_cons (ev_var 5) (es_cons (ev_tup es_nil) es_nil))) ⟨m, s, none, rfl, rfl⟩) (ev_callTy T.b_int (es_cons (ev_not (ev_var 7)) es_nil) c_intB) cmp_neI) (fun hk => ?_) (fun hk => xs_nil ?_))
      · exact absurd ((bad_int (mkOk m s)).symm.trans hk) Bool.false_ne_true
      refine xs_cons (x_set 7 (EvP.ev (d := .bl (mkOk m s && frOk t b)) ?_ ?_) sc_law.nd)
      · cases b with
        | b y => exact EvP.cast (ev_and (ev_var 7) (fun _ => ev_and (l := false) (ev_callP F_l_is_from (hr.mono (by decide)) (es_cons (ev_ixT (ev_var 6) ev_int rfl) (es_cons ev_int (es_cons ev_int es_nil))) ⟨.b y, 1, 100, rfl, rfl⟩) (fun hbb => by cases hbb))) rfl
        | i n => exact (ev_and (ev_var 7) (fun hbb => (ev_and (ev_callP F_l_is_from (hr.mono (by decide)) (es_cons (ev_ixT (ev_var 6) ev_int rfl) (es_cons ev_int (es_cons ev_int es_nil))) ⟨.i n, 1, 100, rfl, rfl⟩) (fun hbb => (ev_one (ev_callP F_l_is_from (hr.mono (by decide)) (es_cons (ev_ixT (ev_var 6) ev_int rfl) (es_cons ev_int (es_cons (ev_bin (ev_ixT (ev_var 6) ev_int rfl) ev_int o_sub) es_nil))) ⟨t, 0, n - 1, rfl, rfl⟩))))))
      refine xs_cons (x_if (et_cmp (ev_callP F_l_made (hr.mono (by decide)) (es_cons (ev_var 4) (es_cons (ev_var 5) (es_cons (ev_var 6) es_nil))) ⟨m, s, some (t, b), rfl, rfl⟩) (ev_callTy T.b_int (es_cons (ev_not (ev_var 7)) es_nil) c_intB) cmp_neI) (fun hk => ?_) (fun hk => xs_nil (xs_nil ⟨_, _, _, _, _, _, _, rfl, rfl⟩)))
      · exact absurd ((bad_int (mkOk m s && frOk t b)).symm.trans hk) Bool.false_ne_true
    · rintro ρ O' ⟨u1, u2, u3, u4, u5, u6, u7, rfl, rfl⟩
      refine xs_cons (x_ret (EvP.ev (ev_and (ev_cmp (ev_callP F_l_made (hr.mono (by decide)) (es_cons ev_int (es_cons ev_int (es_cons (ev_tup (es_cons ev_int (es_cons ev_int es_nil))) es_nil))) ⟨.i 1, .i 1, some (.i 0, .i 1), rfl, rfl⟩) ev_int cmp_eqI) (fun hbb => (ev_and (ev_cmp (ev_callP F_l_made (hr.mono (by decide)) (es_cons ev_int (es_cons ev_int (es_cons (ev_tup (es_cons ev_int (es_cons ev_int es_nil))) es_nil))) ⟨.i 24, .i 10, some (.i 99, .i 100), rfl, rfl⟩) ev_int cmp_eqI) (fun hbb => (ev_one (ev_cmp (ev_callP F_l_made (hr.mono (by decide)) (es_cons ev_int (es_cons ev_int (es_cons (ev_tup es_nil) es_nil))) ⟨.i 25, .i 10, none, rfl, rfl⟩) ev_int cmp_eqI)))))) ?_))
      exact hR
end
theorem len1 {α : Type} {us : List α} (h : us.length = 1) : ∃ x0, us = [x0] := by
  match us, h with
  | [x0], _ => exact ⟨_, rfl⟩
theorem len2 {α : Type} {us : List α} (h : us.length = 2) : ∃ x0 x1, us = [x0, x1] := by
  match us, h with
  | [x0, x1], _ => exact ⟨_, _, rfl⟩
theorem len3 {α : Type} {us : List α} (h : us.length = 3) : ∃ x0 x1 x2, us = [x0, x1, x2] := by
  match us, h with
  | [x0, x1, x2], _ => exact ⟨_, _, _, rfl⟩
theorem len4 {α : Type} {us : List α} (h : us.length = 4) : ∃ x0 x1 x2 x3, us = [x0, x1, x2, x3] := by
  match us, h with
  | [x0, x1, x2, x3], _ => exact ⟨_, _, _, _, rfl⟩
theorem len5 {α : Type} {us : List α} (h : us.length = 5) : ∃ x0 x1 x2 x3 x4, us = [x0, x1, x2, x3, x4] := by
  match us, h with
  | [x0, x1, x2, x3, x4], _ => exact ⟨_, _, _, _, _, rfl⟩
theorem all_mk {l : PySem.W.OpenLaw} {w : World} {K : PySem.W.Frag} {h : Heap} {mg : Str → Option Value} {fa : Addr} (X : K.In h) (G : h.Ns mainGlobals mg) (hfa : mg "law" = some (.ref fa)) {f0 : Addr} {od0 an0 : Option Addr} {sl0 : Array (Option Value)} {oc0 kV0 dc0 pm0 cd0 ct0 : Value} {f1 : Addr} {od1 an1 : Option Addr} {sl1 : Array (Option Value)} {oc1 kV1 dc1 pm1 cd1 ct1 : Value} {f2 : Addr} {od2 an2 : Option Addr} {sl2 : Array (Option Value)} {oc2 kV2 dc2 pm2 cd2 ct2 : Value} {f3 : Addr} {od3 an3 : Option Addr} {sl3 : Array (Option Value)} {oc3 kV3 dc3 pm3 cd3 ct3 : Value} {f4 : Addr} {od4 an4 : Option Addr} {sl4 : Array (Option Value)} {oc4 kV4 dc4 pm4 cd4 ct4 : Value} {f5 : Addr} {od5 an5 : Option Addr} {sl5 : Array (Option Value)} {oc5 kV5 dc5 pm5 cd5 ct5 : Value} {f6 : Addr} {od6 an6 : Option Addr} {sl6 : Array (Option Value)} {oc6 kV6 dc6 pm6 cd6 ct6 : Value} {f7 : Addr} {od7 an7 : Option Addr} {sl7 : Array (Option Value)} {oc7 kV7 dc7 pm7 cd7 ct7 : Value} {f8 : Addr} {od8 an8 : Option Addr} {sl8 : Array (Option Value)} {oc8 kV8 dc8 pm8 cd8 ct8 : Value} {f9 : Addr} {od9 an9 : Option Addr} {sl9 : Array (Option Value)} {oc9 kV9 dc9 pm9 cd9 ct9 : Value} {f10 : Addr} {od10 an10 : Option Addr} {sl10 : Array (Option Value)} {oc10 kV10 dc10 pm10 cd10 ct10 : Value} {f11 : Addr} {od11 an11 : Option Addr} {sl11 : Array (Option Value)} {oc11 kV11 dc11 pm11 cd11 ct11 : Value} {f12 : Addr} {od12 an12 : Option Addr} {sl12 : Array (Option Value)} {oc12 kV12 dc12 pm12 cd12 ct12 : Value} {f13 : Addr} {od13 an13 : Option Addr} {sl13 : Array (Option Value)} {oc13 kV13 dc13 pm13 cd13 ct13 : Value} {C_Hand C_Weigher C_HeedError C_NoRule C_NoName C_NoRow C_NoTurn C_NoWay C_Twice : Addr} {tk0 : Tok} {tk1 : Tok} {tk2 : Tok}
    (aC0 : PySem.W.nsIn K mainGlobals "Hand" = some (some (.ref C_Hand)))
    (aC1 : PySem.W.nsIn K mainGlobals "Weigher" = some (some (.ref C_Weigher)))
    (a0 : PySem.W.nsIn K mainGlobals "is_whole" = some (some (.ref f0)))
    (l0 : K.lookup f0 = some ⟨oc0, od0, .func (PySem.W.fnOf "is_whole" "is_whole" (defArgs s_is_whole) (defBody s_is_whole) (defScope s_is_whole) .none kV0 dc0 pm0 an0 cd0 ct0), sl0⟩)
    (c0 : PySem.W.codeIn K cd0 "is_whole" = true)
    (k0 : PySem.W.keepIn K (.ref f0) = true)
    (a1 : PySem.W.nsIn K mainGlobals "check_within" = some (some (.ref f1)))
    (l1 : K.lookup f1 = some ⟨oc1, od1, .func (PySem.W.fnOf "check_within" "check_within" (defArgs s_check_within) (defBody s_check_within) (defScope s_check_within) .none kV1 dc1 pm1 an1 cd1 ct1), sl1⟩)
    (c1 : PySem.W.codeIn K cd1 "check_within" = true)
    (k1 : PySem.W.keepIn K (.ref f1) = true)
    (a2 : PySem.W.nsIn K mainGlobals "check_scale" = some (some (.ref f2)))
    (l2 : K.lookup f2 = some ⟨oc2, od2, .func (PySem.W.fnOf "check_scale" "check_scale" (defArgs s_check_scale) (defBody s_check_scale) (defScope s_check_scale) .none kV2 dc2 pm2 an2 cd2 ct2), sl2⟩)
    (c2 : PySem.W.codeIn K cd2 "check_scale" = true)
    (k2 : PySem.W.keepIn K (.ref f2) = true)
    (a3 : PySem.W.nsIn K mainGlobals "check_making" = some (some (.ref f3)))
    (l3 : K.lookup f3 = some ⟨oc3, od3, .func (PySem.W.fnOf "check_making" "check_making" (defArgs s_check_making) (defBody s_check_making) (defScope s_check_making) .none kV3 dc3 pm3 an3 cd3 ct3), sl3⟩)
    (c3 : PySem.W.codeIn K cd3 "check_making" = true)
    (k3 : PySem.W.keepIn K (.ref f3) = true)
    (a4 : PySem.W.nsIn K mainGlobals "check_fraction" = some (some (.ref f4)))
    (l4 : K.lookup f4 = some ⟨oc4, od4, .func (PySem.W.fnOf "check_fraction" "check_fraction" (defArgs s_check_fraction) (defBody s_check_fraction) (defScope s_check_fraction) .none kV4 dc4 pm4 an4 cd4 ct4), sl4⟩)
    (c4 : PySem.W.codeIn K cd4 "check_fraction" = true)
    (k4 : PySem.W.keepIn K (.ref f4) = true)
    (a5 : PySem.W.findIn K (.ref C_Hand) "__init__" = some (some (.ref f5)))
    (i5 : PySem.W.isFn K (.ref f5) = true)
    (l5 : K.lookup f5 = some ⟨oc5, od5, .func (PySem.W.fnOf "__init__" "Hand.__init__" (defArgs s_Hand___init__) (defBody s_Hand___init__) (defScope s_Hand___init__) .none kV5 dc5 pm5 an5 cd5 ct5), sl5⟩)
    (c5 : PySem.W.codeIn K cd5 "Hand.__init__" = true)
    (k5 : PySem.W.keepIn K (.ref f5) = true)
    (a6 : PySem.W.findIn K (.ref C_Weigher) "__init__" = some (some (.ref f6)))
    (i6 : PySem.W.isFn K (.ref f6) = true)
    (l6 : K.lookup f6 = some ⟨oc6, od6, .func (PySem.W.fnOf "__init__" "Weigher.__init__" (defArgs s_Weigher___init__) (defBody s_Weigher___init__) (defScope s_Weigher___init__) .none kV6 dc6 pm6 an6 cd6 ct6), sl6⟩)
    (c6 : PySem.W.codeIn K cd6 "Weigher.__init__" = true)
    (k6 : PySem.W.keepIn K (.ref f6) = true)
    (a7 : PySem.W.nsIn K mainGlobals "_law_cell_at" = some (some (.ref f7)))
    (l7 : K.lookup f7 = some ⟨oc7, od7, .func (PySem.W.fnOf "_law_cell_at" "_law_cell_at" (defArgs s_l_cell_at) (defBody s_l_cell_at) (defScope s_l_cell_at) .none kV7 dc7 pm7 an7 cd7 ct7), sl7⟩)
    (c7 : PySem.W.codeIn K cd7 "_law_cell_at" = true)
    (k7 : PySem.W.keepIn K (.ref f7) = true)
    (a8 : PySem.W.nsIn K mainGlobals "_law_draw" = some (some (.ref f8)))
    (l8 : K.lookup f8 = some ⟨oc8, od8, .func (PySem.W.fnOf "_law_draw" "_law_draw" (defArgs s_l_draw) (defBody s_l_draw) (defScope s_l_draw) .none kV8 dc8 pm8 an8 cd8 ct8), sl8⟩)
    (c8 : PySem.W.codeIn K cd8 "_law_draw" = true)
    (k8 : PySem.W.keepIn K (.ref f8) = true)
    (a9 : PySem.W.nsIn K mainGlobals "_law_number" = some (some (.ref f9)))
    (l9 : K.lookup f9 = some ⟨oc9, od9, .func (PySem.W.fnOf "_law_number" "_law_number" (defArgs s_l_number) (defBody s_l_number) (defScope s_l_number) .none kV9 dc9 pm9 an9 cd9 ct9), sl9⟩)
    (c9 : PySem.W.codeIn K cd9 "_law_number" = true)
    (k9 : PySem.W.keepIn K (.ref f9) = true)
    (a10 : PySem.W.nsIn K mainGlobals "_law_is_from" = some (some (.ref f10)))
    (l10 : K.lookup f10 = some ⟨oc10, od10, .func (PySem.W.fnOf "_law_is_from" "_law_is_from" (defArgs s_l_is_from) (defBody s_l_is_from) (defScope s_l_is_from) .none kV10 dc10 pm10 an10 cd10 ct10), sl10⟩)
    (c10 : PySem.W.codeIn K cd10 "_law_is_from" = true)
    (k10 : PySem.W.keepIn K (.ref f10) = true)
    (a11 : PySem.W.nsIn K mainGlobals "_law_class" = some (some (.ref f11)))
    (l11 : K.lookup f11 = some ⟨oc11, od11, .func (PySem.W.fnOf "_law_class" "_law_class" (defArgs s_l_class) (defBody s_l_class) (defScope s_l_class) .none kV11 dc11 pm11 an11 cd11 ct11), sl11⟩)
    (c11 : PySem.W.codeIn K cd11 "_law_class" = true)
    (k11 : PySem.W.keepIn K (.ref f11) = true)
    (a12 : PySem.W.nsIn K mainGlobals "_law_made" = some (some (.ref f12)))
    (l12 : K.lookup f12 = some ⟨oc12, od12, .func (PySem.W.fnOf "_law_made" "_law_made" (defArgs s_l_made) (defBody s_l_made) (defScope s_l_made) .none kV12 dc12 pm12 an12 cd12 ct12), sl12⟩)
    (c12 : PySem.W.codeIn K cd12 "_law_made" = true)
    (k12 : PySem.W.keepIn K (.ref f12) = true)
    (a13 : PySem.W.nsIn K mainGlobals "law" = some (some (.ref f13)))
    (l13 : K.lookup f13 = some ⟨oc13, od13, .func (PySem.W.fnOf "law" "law" (defArgs s_law) (defBody s_law) (defScope s_law) .none kV13 dc13 pm13 an13 cd13 ct13), sl13⟩)
    (c13 : PySem.W.codeIn K cd13 "law" = true)
    (k13 : PySem.W.keepIn K (.ref f13) = true)
    (pg0 : PySem.W.plainGet K C_Hand Str.empty = true)
    (hd0 : PySem.W.hasDictIn K C_Hand = true)
    (po0 : PySem.W.plainOver K C_Hand = true)
    (sa0 : PySem.W.findIn K (.ref C_Hand) "__setattr__" = some (some (.builtin "object.__setattr__")))
    (ca0 : PySem.W.findIn K (.ref C_Hand) "__class__" = some (some (.builtin "object.__class__")))
    (cm0 : PySem.W.mroIn K C_Hand (.type "object") = some true)
    (n0_many : PySem.W.findIn K (.ref C_Hand) "many" = some none)
    (n0_scale : PySem.W.findIn K (.ref C_Hand) "scale" = some none)
    (mk0 : PySem.W.makesIn K C_Hand = true)
    (kc0 : PySem.W.keepIn K (.ref C_Hand) = true)
    (so0___init__ : PySem.W.specialIn K (.ref C_Hand) "__getattribute__" = some (some (.builtin "type.__getattribute__")))
    (rd0___init__ : PySem.W.readsIn K C_Hand (.type "type") = true)
    (fc0___init__ : PySem.W.findCls K (.ref C_Hand) (.type "type") "__init__" = some (.val (.ref f5)))
    (pg1 : PySem.W.plainGet K C_Weigher Str.empty = true)
    (hd1 : PySem.W.hasDictIn K C_Weigher = true)
    (po1 : PySem.W.plainOver K C_Weigher = true)
    (sa1 : PySem.W.findIn K (.ref C_Weigher) "__setattr__" = some (some (.builtin "object.__setattr__")))
    (ca1 : PySem.W.findIn K (.ref C_Weigher) "__class__" = some (some (.builtin "object.__class__")))
    (cm1 : PySem.W.mroIn K C_Weigher (.type "object") = some true)
    (n1_many : PySem.W.findIn K (.ref C_Weigher) "many" = some none)
    (n1_scale : PySem.W.findIn K (.ref C_Weigher) "scale" = some none)
    (n1_top : PySem.W.findIn K (.ref C_Weigher) "top" = some none)
    (n1_bottom : PySem.W.findIn K (.ref C_Weigher) "bottom" = some none)
    (n1_tops : PySem.W.findIn K (.ref C_Weigher) "tops" = some none)
    (n1_under : PySem.W.findIn K (.ref C_Weigher) "under" = some none)
    (mk1 : PySem.W.makesIn K C_Weigher = true)
    (kc1 : PySem.W.keepIn K (.ref C_Weigher) = true)
    (aE_HeedError : PySem.W.nsIn K mainGlobals "HeedError" = some (some (.ref C_HeedError)))
    (aE_NoRule : PySem.W.nsIn K mainGlobals "NoRule" = some (some (.ref C_NoRule)))
    (Tga_NoRule : PySem.W.findIn K (.ref C_NoRule) "__getattribute__" = some (some (.builtin "BaseException.__getattribute__")))
    (Thk_NoRule : PySem.W.findIn K (.ref C_NoRule) "__getattr__" = some none)
    (Tmb_NoRule : PySem.W.mroIn K C_NoRule (.type "BaseException") = some true)
    (Tmo_NoRule : PySem.W.mroIn K C_NoRule (.type "object") = some true)
    (Tca_NoRule : PySem.W.findIn K (.ref C_NoRule) "__class__" = some (some (.builtin "object.__class__")))
    (Thd_NoRule : PySem.W.hasDictIn K C_NoRule = true)
    (aE_NoName : PySem.W.nsIn K mainGlobals "NoName" = some (some (.ref C_NoName)))
    (aE_NoRow : PySem.W.nsIn K mainGlobals "NoRow" = some (some (.ref C_NoRow)))
    (aE_NoTurn : PySem.W.nsIn K mainGlobals "NoTurn" = some (some (.ref C_NoTurn)))
    (aE_NoWay : PySem.W.nsIn K mainGlobals "NoWay" = some (some (.ref C_NoWay)))
    (aE_Twice : PySem.W.nsIn K mainGlobals "Twice" = some (some (.ref C_Twice)))
    (Ee_NoRule : PySem.W.excIn K C_NoRule bmV "ValueError.__new__" = true)
    (Ex_NoRule_HeedError : PySem.W.exmOne K (.ref C_NoRule) (.ref C_HeedError) = some true)
    (Ei_NoRule_NoRule : PySem.W.kitOne K (.ref C_NoRule) (.ref C_NoRule) = some true)
    (Ei_NoRule_ValueError : PySem.W.kitOne K (.ref C_NoRule) (.type "ValueError") = some true)
    (Ea_NoRule_0 : PySem.W.kitAny K (.ref C_NoRule) [.ref C_NoName, .ref C_NoRow, .ref C_NoTurn, .ref C_NoWay, .ref C_Twice] = some false)
    (gn : PySem.W.specialIn K (.builtin "object.__class__") "__get__" = some (some (.builtin "getset_descriptor.__get__")))
    (gt : PySem.W.takesIn K (.builtin "object.__class__") = some true)
    (z0 : PySem.W.nsIn K mainGlobals "len" = some none)
    (z1 : PySem.W.nsIn K mainGlobals "range" = some none)
    (z2 : PySem.W.nsIn K mainGlobals "isinstance" = some none)
    (z3 : PySem.W.nsIn K mainGlobals "int" = some none)
    (z4 : PySem.W.nsIn K mainGlobals "bool" = some none)
    (z5 : PySem.W.nsIn K mainGlobals "min" = some none)
    (z6 : PySem.W.nsIn K mainGlobals "ValueError" = some none)
    (y0 : PySem.W.nsIn K mainGlobals "MOST_ADVISERS" = some (some (.int 24 tk0)))
    (y1 : PySem.W.nsIn K mainGlobals "MOST_SCALE" = some (some (.int 10 tk1)))
    (y2 : PySem.W.nsIn K mainGlobals "MOST_BOTTOM" = some (some (.int 100 tk2))) :
    ∃ fd : FuncData, (∀ (s : Shared) (v : Value), BindsTo s fd ⟨[v], []⟩ [("_law_script", v)]) ∧ ∀ base : Heap, K.In base → base.Ns mainGlobals mg → FnOk l.prog w K mg base CX0 10 fa fd ["_law_script"] (toSp K spLaw) := by
  have e := hfa.symm.trans (PySem.W.mg_of X G a13)
  cases e
  have T : Txt K mg C_Hand C_Weigher C_HeedError C_NoRule C_NoName C_NoRow C_NoTurn C_NoWay C_Twice := ⟨PySem.W.mg_none_of X G z0, PySem.W.mg_none_of X G z1, PySem.W.mg_none_of X G z2, PySem.W.mg_none_of X G z3, PySem.W.mg_none_of X G z4, PySem.W.mg_none_of X G z5, PySem.W.mg_none_of X G z6, ⟨_, PySem.W.mg_of X G y0⟩, ⟨_, PySem.W.mg_of X G y1⟩, ⟨_, PySem.W.mg_of X G y2⟩, ⟨⟨pg0, hd0, po0, sa0⟩, ca0, gn, gt, cm0⟩, PySem.W.mg_of X G aC0, n0_many, n0_scale, ⟨⟨pg1, hd1, po1, sa1⟩, ca1, gn, gt, cm1⟩, PySem.W.mg_of X G aC1, n1_many, n1_scale, n1_top, n1_bottom, n1_tops, n1_under, PySem.W.mg_of X G aE_HeedError, PySem.W.mg_of X G aE_NoRule, Ee_NoRule, ⟨Tga_NoRule, Thk_NoRule, Tmb_NoRule, Tmo_NoRule, Tca_NoRule, gn, gt, Thd_NoRule⟩, Ex_NoRule_HeedError, Ei_NoRule_NoRule, Ei_NoRule_ValueError, Ea_NoRule_0, PySem.W.mg_of X G aE_NoName, PySem.W.mg_of X G aE_NoRow, PySem.W.mg_of X G aE_NoTurn, PySem.W.mg_of X G aE_NoWay, PySem.W.mg_of X G aE_Twice⟩
  have E0 := fun_mk (st := s_is_whole) l0 c0 k0
  have b0 := E0.binds (ps := ["value"]) fun _ _ _ _ _ _ us hl => by obtain ⟨_, rfl⟩ := len1 hl; rfl
  have E1 := fun_mk (st := s_check_within) l1 c1 k1
  have b1 := E1.binds (ps := ["what", "value", "least", "most"]) fun _ _ _ _ _ _ us hl => by obtain ⟨_, _, _, _, rfl⟩ := len4 hl; rfl
  have E2 := fun_mk (st := s_check_scale) l2 c2 k2
  have b2 := E2.binds (ps := ["scale"]) fun _ _ _ _ _ _ us hl => by obtain ⟨_, rfl⟩ := len1 hl; rfl
  have E3 := fun_mk (st := s_check_making) l3 c3 k3
  have b3 := E3.binds (ps := ["many", "scale"]) fun _ _ _ _ _ _ us hl => by obtain ⟨_, _, rfl⟩ := len2 hl; rfl
  have E4 := fun_mk (st := s_check_fraction) l4 c4 k4
  have b4 := E4.binds (ps := ["top", "bottom"]) fun _ _ _ _ _ _ us hl => by obtain ⟨_, _, rfl⟩ := len2 hl; rfl
  have E5 := fun_mk (st := s_Hand___init__) l5 c5 k5
  have b5 := E5.binds (ps := ["self", "many", "scale"]) fun _ _ _ _ _ _ us hl => by obtain ⟨_, _, _, rfl⟩ := len3 hl; rfl
  have E6 := fun_mk (st := s_Weigher___init__) l6 c6 k6
  have b6 := E6.binds (ps := ["self", "many", "scale", "top", "bottom"]) fun _ _ _ _ _ _ us hl => by obtain ⟨_, _, _, _, _, rfl⟩ := len5 hl; rfl
  have E7 := fun_mk (st := s_l_cell_at) l7 c7 k7
  have b7 := E7.binds (ps := ["_law_script", "_law_k"]) fun _ _ _ _ _ _ us hl => by obtain ⟨_, _, rfl⟩ := len2 hl; rfl
  have E8 := fun_mk (st := s_l_draw) l8 c8 k8
  have b8 := E8.binds (ps := ["_law_cell", "_law_j"]) fun _ _ _ _ _ _ us hl => by obtain ⟨_, _, rfl⟩ := len2 hl; rfl
  have E9 := fun_mk (st := s_l_number) l9 c9 k9
  have b9 := E9.binds (ps := ["_law_cell", "_law_most"]) fun _ _ _ _ _ _ us hl => by obtain ⟨_, _, rfl⟩ := len2 hl; rfl
  have E10 := fun_mk (st := s_l_is_from) l10 c10 k10
  have b10 := E10.binds (ps := ["_law_thing", "_law_low", "_law_high"]) fun _ _ _ _ _ _ us hl => by obtain ⟨_, _, _, rfl⟩ := len3 hl; rfl
  have E11 := fun_mk (st := s_l_class) l11 c11 k11
  have b11 := E11.binds (ps := ["_law_error"]) fun _ _ _ _ _ _ us hl => by obtain ⟨_, rfl⟩ := len1 hl; rfl
  have E12 := fun_mk (st := s_l_made) l12 c12 k12
  have b12 := E12.binds (ps := ["_law_many", "_law_scale", "_law_fraction"]) fun _ _ _ _ _ _ us hl => by obtain ⟨_, _, _, rfl⟩ := len3 hl; rfl
  have E13 := fun_mk (st := s_law) l13 c13 k13
  have b13 := E13.binds (ps := ["_law_script"]) fun _ _ _ _ _ _ us hl => by obtain ⟨_, rfl⟩ := len1 hl; rfl
  refine ⟨PySem.W.fnOf "law" "law" (defArgs s_law) (defBody s_law) (defScope s_law) .none kV13 dc13 pm13 an13 cd13 ct13, fun s v => .of_eq rfl, fun base _ _ => ?_⟩
  have F_is_whole : DefOk l.prog w K mg base 1 "is_whole" (pureSp spIsWholeB) := ok_is_whole T E0 (PySem.W.mg_of X G a0) b0
  have F_check_within : DefX l.prog w K mg base 2 "check_within" (spWithinX C_NoRule) := ok_check_within T E1 (PySem.W.mg_of X G a1) b1 F_is_whole
  have F_check_scale : DefX l.prog w K mg base 3 "check_scale" (spScaleX C_NoRule) := ok_check_scale T E2 (PySem.W.mg_of X G a2) b2 F_check_within
  have F_check_making : DefX l.prog w K mg base 4 "check_making" (spMakingX C_NoRule) := ok_check_making T E3 (PySem.W.mg_of X G a3) b3 F_check_within F_check_scale
  have F_check_fraction : DefX l.prog w K mg base 3 "check_fraction" (spFractionX C_NoRule) := ok_check_fraction T E4 (PySem.W.mg_of X G a4) b4 F_check_within
  have W_Hand___init__ : FnOk l.prog w K mg base (CX1 l.prog w) 5 f5 _ ["self", "many", "scale"] (toSpX K (spInitHX C_Hand C_Weigher C_NoRule)) := ok_Hand___init__ T E5 F_check_making
  have O_Hand___init__ : OfClsX l.prog w K mg base "Hand" 5 "__init__" (spInitHX C_Hand C_Weigher C_NoRule) := ⟨_, _, _, _, _, T.m_Hand, so0___init__, rd0___init__, fc0___init__, rfl, W_Hand___init__, k5, b5⟩
  have W_Weigher___init__ : FnOk l.prog w K mg base (CX1 l.prog w) 6 f6 _ ["self", "many", "scale", "top", "bottom"] (toSpX K (spInitWX C_Weigher C_NoRule)) := ok_Weigher___init__ T E6 F_check_fraction O_Hand___init__
  have F_l_cell_at : DefOk l.prog w K mg base 1 "_law_cell_at" (pureSp spCell) := ok_l_cell_at T E7 (PySem.W.mg_of X G a7) b7
  have F_l_draw : DefOk l.prog w K mg base 1 "_law_draw" (pureSp spDraw) := ok_l_draw T E8 (PySem.W.mg_of X G a8) b8
  have F_l_number : DefOk l.prog w K mg base 1 "_law_number" (pureSp spNumber) := ok_l_number T E9 (PySem.W.mg_of X G a9) b9
  have F_l_is_from : DefOk l.prog w K mg base 1 "_law_is_from" (pureSp spIsFrom) := ok_l_is_from T E10 (PySem.W.mg_of X G a10) b10
  have F_l_class : DefOk l.prog w K mg base 1 "_law_class" (spClass C_NoRule) := ok_l_class T E11 (PySem.W.mg_of X G a11) b11
  have K_Hand : MakeX l.prog w K mg base C_Hand 5 "Hand" (spInitHX C_Hand C_Weigher C_NoRule) := ⟨⟨_, _, _, W_Hand___init__, ⟨mk0, a5, i5, kc0⟩, b5⟩, T.m_Hand⟩
  have K_Weigher : MakeX l.prog w K mg base C_Weigher 6 "Weigher" (spInitWX C_Weigher C_NoRule) := ⟨⟨_, _, _, W_Weigher___init__, ⟨mk1, a6, i6, kc1⟩, b6⟩, T.m_Weigher⟩
  have F_l_made : DefOk l.prog w K mg base 8 "_law_made" (pureSp spMade) := ok_l_made T E12 (PySem.W.mg_of X G a12) b12 K_Hand K_Weigher F_l_class
  exact ok_law T E13 F_l_cell_at F_l_draw F_l_number F_l_is_from F_l_made
theorem walk {l : PySem.W.OpenLaw} {q : Program} {loose : List Str} {XP : (Str → Option Value) → Heap → Prop} {YP : World → Heap → Prop} {d : DefRec} {K : Params → PySem.W.Frag} (hn : l.most = some 63) (hdf : d.params.defaults = [])
    (hY : ∀ (w : World) (h : Heap), YP w h → (K w.params).In h)
    (F : ∀ (w : World) (mg : Str → Option Value) (fa : Addr) (h : Heap), (K w.params).In h → h.Ns mainGlobals mg → mg d.name = some (.ref fa) →
      ∃ fd : FuncData, (∀ (s : Shared) (u : Value), BindsTo s fd ⟨[u], []⟩ [("_law_script", u)]) ∧ ∀ base : Heap, (K w.params).In base → base.Ns mainGlobals mg → FnOk l.prog w (K w.params) mg base CX0 10 fa fd ["_law_script"] (toSp (K w.params) spLaw)) :
    PySem.W.WalkO q loose XP YP l.row.toRowW d [] (fun f vs => PySem.call f vs) :=
  L2.walk_of (n := 63) (k := 10) (x := "_law_script") (CX := fun _ => CX0) (sp := fun w => toSp (K w.params) spLaw) hn (by decide) hdf ⟨rfl, by decide, by decide⟩ hY F (fun _ _ a ns hl _ hS => law_start hl hS) fun _ _ _ _ _ z => z
end My
open PySem PySem.W PyProof.Rows
theorem My.walkZ {q : Program} {loose : List Str} {XP : (Str → Option Value) → Heap → Prop} {K : Params → PySem.W.Frag} {as : List Addr} {n t : Nat} {r : RowW} {d : DefRec} {kwd : List (Str × Expr)} {run : Value → List Value → Sem Value} (e : ∀ P, as = (K P).map (·.1))
    (h : WalkO q loose XP (fun w h => (K w.params).In h) r d kwd run) : WalkX q loose XP (X.obsZ as) (X.valZ K n t) r d kwd run := fun w s₀ s₁ mg mb G y a o pm cd doc dV kV ho hd hcd hD hmg hg args vals as' L hpre hlay hrd hwl hlo =>
  h w s₀ s₁ mg mb G (fun b o' e' => L.keeps _ _ ((X.z_facts e y).2.1 b o' e')) a o pm cd doc dV kV ho hd hcd hD hmg hg args vals as' hpre hlay hrd hwl hlo
open PySem PySem.W PyProof.Rows
set_option maxRecDepth 100000 in
set_option maxHeartbeats 0 in
theorem PySem.Challenge.cw_heedwise_k23_no_hands_holds : PySem.Challenge.rw_heedwise_k23_no_hands.Holds := by
  w_on; o_law; z_head; (case hw => w_witness2)
  k_fill
  refine My.walkZ (fun P => rfl) ?_
  refine My.walk (l := PySem.Challenge.rw_heedwise_k23_no_hands) rfl rfl (fun w h Y => Y) ?F
  case F =>
    intro w mg fa h KX G hmg
    refine' My.all_mk KX G hmg ?aC0 ?aC1 ?a0 ?l0 ?c0 ?k0 ?a1 ?l1 ?c1 ?k1 ?a2 ?l2 ?c2 ?k2 ?a3 ?l3 ?c3 ?k3 ?a4 ?l4 ?c4 ?k4 ?a5 ?i5 ?l5 ?c5 ?k5 ?a6 ?i6 ?l6 ?c6 ?k6 ?a7 ?l7 ?c7 ?k7 ?a8 ?l8 ?c8 ?k8 ?a9 ?l9 ?c9 ?k9 ?a10 ?l10 ?c10 ?k10 ?a11 ?l11 ?c11 ?k11 ?a12 ?l12 ?c12 ?k12 ?a13 ?l13 ?c13 ?k13 ?pg0 ?hd0 ?po0 ?sa0 ?ca0 ?cm0 ?n0_many ?n0_scale ?mk0 ?kc0 ?so0___init__ ?rd0___init__ ?fc0___init__ ?pg1 ?hd1 ?po1 ?sa1 ?ca1 ?cm1 ?n1_many ?n1_scale ?n1_top ?n1_bottom ?n1_tops ?n1_under ?mk1 ?kc1 ?aE_HeedError ?aE_NoRule ?Tga_NoRule ?Thk_NoRule ?Tmb_NoRule ?Tmo_NoRule ?Tca_NoRule ?Thd_NoRule ?aE_NoName ?aE_NoRow ?aE_NoTurn ?aE_NoWay ?aE_Twice ?Ee_NoRule ?Ex_NoRule_HeedError ?Ei_NoRule_NoRule ?Ei_NoRule_ValueError ?Ea_NoRule_0 ?gn ?gt ?z0 ?z1 ?z2 ?z3 ?z4 ?z5 ?z6 ?y0 ?y1 ?y2
    (case aC0 => k_is)
    (case aC1 => k_is)
    (case a0 => k_is)
    (case l0 => k_is)
    (case c0 => k_is)
    (case k0 => k_is)
    (case a1 => k_is)
    (case l1 => k_is)
    (case c1 => k_is)
    (case k1 => k_is)
    (case a2 => k_is)
    (case l2 => k_is)
    (case c2 => k_is)
    (case k2 => k_is)
    (case a3 => k_is)
    (case l3 => k_is)
    (case c3 => k_is)
    (case k3 => k_is)
    (case a4 => k_is)
    (case l4 => k_is)
    (case c4 => k_is)
    (case k4 => k_is)
    (case a5 => k_is)
    (case i5 => k_is)
    (case l5 => k_is)
    (case c5 => k_is)
    (case k5 => k_is)
    (case a6 => k_is)
    (case i6 => k_is)
    (case l6 => k_is)
    (case c6 => k_is)
    (case k6 => k_is)
    (case a7 => k_is)
    (case l7 => k_is)
    (case c7 => k_is)
    (case k7 => k_is)
    (case a8 => k_is)
    (case l8 => k_is)
    (case c8 => k_is)
    (case k8 => k_is)
    (case a9 => k_is)
    (case l9 => k_is)
    (case c9 => k_is)
    (case k9 => k_is)
    (case a10 => k_is)
    (case l10 => k_is)
    (case c10 => k_is)
    (case k10 => k_is)
    (case a11 => k_is)
    (case l11 => k_is)
    (case c11 => k_is)
    (case k11 => k_is)
    (case a12 => k_is)
    (case l12 => k_is)
    (case c12 => k_is)
    (case k12 => k_is)
    (case a13 => k_is)
    (case l13 => k_is)
    (case c13 => k_is)
    (case k13 => k_is)
    (case pg0 => k_is)
    (case hd0 => k_is)
    (case po0 => k_is)
    (case sa0 => k_is)
    (case ca0 => k_is)
    (case cm0 => k_is)
    (case n0_many => k_is)
    (case n0_scale => k_is)
    (case mk0 => k_is)
    (case kc0 => k_is)
    (case so0___init__ => k_is)
    (case rd0___init__ => k_is)
    (case fc0___init__ => k_is)
    (case pg1 => k_is)
    (case hd1 => k_is)
    (case po1 => k_is)
    (case sa1 => k_is)
    (case ca1 => k_is)
    (case cm1 => k_is)
    (case n1_many => k_is)
    (case n1_scale => k_is)
    (case n1_top => k_is)
    (case n1_bottom => k_is)
    (case n1_tops => k_is)
    (case n1_under => k_is)
    (case mk1 => k_is)
    (case kc1 => k_is)
    (case aE_HeedError => k_is)
    (case aE_NoRule => k_is)
    (case Tga_NoRule => k_is)
    (case Thk_NoRule => k_is)
    (case Tmb_NoRule => k_is)
    (case Tmo_NoRule => k_is)
    (case Tca_NoRule => k_is)
    (case Thd_NoRule => k_is)
    (case aE_NoName => k_is)
    (case aE_NoRow => k_is)
    (case aE_NoTurn => k_is)
    (case aE_NoWay => k_is)
    (case aE_Twice => k_is)
    (case Ee_NoRule => k_exc)
    (case Ex_NoRule_HeedError => exact Eq.refl _)
    (case Ei_NoRule_NoRule => kit_is)
    (case Ei_NoRule_ValueError => kit_is)
    (case Ea_NoRule_0 => exact Eq.refl _)
    (case gn => k_is)
    (case gt => k_is)
    (case z0 => k_is)
    (case z1 => k_is)
    (case z2 => k_is)
    (case z3 => k_is)
    (case z4 => k_is)
    (case z5 => k_is)
    (case z6 => k_is)
    (case y0 => k_is)
    (case y1 => k_is)
    (case y2 => k_is)
