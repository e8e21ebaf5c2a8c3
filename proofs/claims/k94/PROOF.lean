import PyProof.Rows.All
import Wide.All
import OpenK.AllK
import Wide.FinOn
import Lean
import PyProof.EqAt
import PyProof.EqKinds
import PyProof.TupleCall
import PyProof.NeData
import PyProof.WalkInts
import PyProof.ListRange
import KE.KIntText
import PyProof.DictWalks
import PyProof.DictItems
import KE.KDictList
import PyProof.Rows.SortKeyStr
import PyProof.NeKinds
import PySem.Challenge.RW_heedwise_k94_sorts_of_hands_refuse
theorem wB {p : Prop} (h : p := by first | exact Or.inl rfl | exact Or.inr (Or.inl rfl) | exact Or.inr (Or.inr rfl) | assumption) : p := h
theorem wC {p : Prop} (h : p := by first | decide | omega) : p := h
theorem wD {p : Prop} (h : p := by decide +kernel) : p := h
theorem wE {p : Prop} (h : p := by decide) : p := h
theorem wF {p : Prop} (h : p := by omega) : p := h
set_option Elab.async false
set_option linter.all false
set_option maxRecDepth 100000
namespace L2
open PySem PySem.Spec PyProof.Rows
abbrev A1:=Sum Int Str
def Qs:A1->Value->Bool
 | .inl k,v=>Value.isInt k v
 | .inr x,v=>Value.isStrOf x v
def YM (w:World):A1->Int
 | .inl k=>hashInt k
 | .inr x=>hashStr w x
theorem Ey:∀ {k:A1} {v:Value},Qs k v=true->(∃ i t,k=Sum.inl i/\v=Value.int i t)\/(∃ x t,k=Sum.inr x/\v=Value.str x t)
 | .inl i,v,h=>by
  obtain ⟨t,e⟩:=Value.isInt_shape (k:=i) (v:=v) h
  exact .inl ⟨i,t,rfl,e⟩
 | .inr x,v,h=>by
  obtain ⟨t,e⟩:=Value.isStrOf_shape (x:=x) (v:=v) h
  exact .inr ⟨x,t,rfl,e⟩
theorem YL (a b:Int):decide ((Sum.inl a:A1)=Sum.inl b)=(a==b):=by
 by_cases e:a=b
 ·subst e; simp
 ·have h:¬ (Sum.inl a:A1)=Sum.inl b:=λq=>e (Sum.inl.inj q)
  rw [decide_eq_false h]
  exact (beq_eq_false_iff_ne.mpr e).symm
theorem YI (a b:Str):decide ((Sum.inr a:A1)=Sum.inr b)=decide (a=b):=by
 by_cases e:a=b
 ·subst e; simp
 ·have h:¬ (Sum.inr a:A1)=Sum.inr b:=λq=>e (Sum.inr.inj q)
  rw [decide_eq_false h,decide_eq_false e]
theorem YK (a:Int) (b:Str):decide ((Sum.inl a:A1)=Sum.inr b)=false:=decide_eq_false (λq=>nomatch q)
theorem YJ (a:Str) (b:Int):decide ((Sum.inr a:A1)=Sum.inl b)=false:=decide_eq_false (λq=>nomatch q)
def Mg (prog:Program) (w:World):PySem.KeyKind prog w A1 where
 is:=Qs
 hash:=YM w
 inj:=λv a b ha hb=>by
  rcases Ey ha with ⟨i,t,rfl,rfl⟩ | ⟨x,t,rfl,rfl⟩
  ·rcases Ey hb with ⟨j,u,rfl,e⟩ | ⟨y,u,rfl,e⟩
   ·injection e with e1 _; rw [e1]
   ·exact nomatch e
  ·rcases Ey hb with ⟨j,u,rfl,e⟩ | ⟨y,u,rfl,e⟩
   ·exact nomatch e
   ·injection e with e1 _; rw [e1]
 byValue:=λk v h=>by
  rcases Ey h with ⟨i,t,rfl,rfl⟩ | ⟨x,t,rfl,rfl⟩ <;> rfl
 pyHash:=λhv h=>by
  rcases Ey hv with ⟨i,t,rfl,rfl⟩ | ⟨x,t,rfl,rfl⟩
  ·exact wpAny_pyHash_int h
  ·exact wpAny_pyHash_str h
 eqBool:=λhu hv h=>by
  rcases Ey hu with ⟨i,t,rfl,rfl⟩ | ⟨x,t,rfl,rfl⟩
  ·rcases Ey hv with ⟨j,u,rfl,rfl⟩ | ⟨y,u,rfl,rfl⟩
   ·rw [YL] at h; exact wpAny_eqBool_int h
   ·rw [YK] at h; exact SeqAt.EqAt.int_str i t y u _ _ _ _ h
  ·rcases Ey hv with ⟨j,u,rfl,rfl⟩ | ⟨y,u,rfl,rfl⟩
   ·rw [YJ] at h; exact SeqAt.EqAt.str_int x t j u _ _ _ _ h
   ·rw [YI] at h; exact wpAny_eqBool_str h
 «strs»:=λk x t v h=>by
  rcases Ey h with ⟨i,u,rfl,e⟩ | ⟨y,u,rfl,e⟩
  ·exact nomatch e
  ·injection e with e1 _
   subst e1
   cases v <;> rfl
end L2
namespace L2
open PySem PySem.Spec PyProof.Rows
inductive V where
 | non | bl (b:Bool) | int (i:Int) | str (x:Str) | byt (b:Array UInt8) | flt (b:UInt64) | ref (a:Addr) | ty (n:String)
 deriving DecidableEq
def AX:V->Value->Prop
 | .non,u=>u=Value.none
 | .bl b,u=>u=Value.bool b
 | .int i,u=>∃ t,u=Value.int i t
 | .str x,u=>∃ t,u=Value.str x t
 | .byt b,u=>∃ t,u=Value.bytes b t
 | .flt b,u=>∃ t,u=Value.float b t
 | .ref a,u=>u=Value.ref a
 | .ty n,u=>u=Value.type n
abbrev Ay:List V->List Value->Prop:=Paired AX
theorem Ay.length {xs:List V} {us:List Value} (r:Ay xs us):xs.length=us.length:=Paired.length r
theorem Ay.get:∀ {xs:List V} {us:List Value} {i:Nat} {x:V},Ay xs us->xs[i]?=some x->∃ u,us[i]?=some u/\AX x u
 | _,_,_,_,.nil,e=>by simp at e
 | _,_,0,_,.cons r _,e=>by simp at e; subst e; exact ⟨_,rfl,r⟩
 | _,_,i+1,x,.cons _ t,e=>by
  obtain ⟨u,h1,h2⟩:=Ay.get (i:=i) (x:=x) t (by simpa using e)
  exact ⟨u,by simpa using h1,h2⟩
theorem Ay.set {x:V} {u:Value} (r:AX x u):∀ {xs:List V} {us:List Value} (i:Nat),Ay xs us->Ay (xs.set i x) (us.set i u)
 | _,_,_,.nil=>.nil
 | _,_,0,.cons _ t=>.cons r t
 | _,_,i+1,.cons q t=>.cons q (Ay.set r i t)
theorem Ay.append:∀ {xs ys:List V} {us ws:List Value},Ay xs us->Ay ys ws->Ay (xs++ys) (us++ws)
 | _,_,_,_,.nil,s=>s
 | _,_,_,_,.cons r t,s=>.cons r (Ay.append t s)
theorem Ay.take:∀ {xs:List V} {us:List Value} (n:Nat),Ay xs us->Ay (xs.take n) (us.take n)
 | _,_,0,_=>.nil
 | _,_,_+1,.nil=>.nil
 | _,_,n+1,.cons r t=>.cons r (Ay.take n t)
theorem Ay.drop:∀ {xs:List V} {us:List Value} (n:Nat),Ay xs us->Ay (xs.drop n) (us.drop n)
 | _,_,0,r=>r
 | _,_,_+1,.nil=>.nil
 | _,_,n+1,.cons _ t=>Ay.drop n t
def DB:Option V->Option Value->Prop
 | some v,some u=>AX v u
 | none,none=>True
 | _,_=>False
def KV {κ:Type}:List (κ×V)->List (κ×Value)->Prop:=Paired λ(p:κ×V) (q:κ×Value)=>p.1=q.1/\AX p.2 q.2
def kV:A1->V
 | .inl i=>.int i
 | .inr x=>.str x
inductive HO where
 | lst (xs:List V)
 | tup (xs:List V)
 | dK (kvs:List (A1×V)) | dT (kvs:List (List A1×V))
 | set (S:Int->Bool) (n:Nat)
 | ins (C dx:Addr) (fs:List (Str×V))
 | own (x:Addr)
 | xd (fs:List (Str×V))
 | met (f x:Addr)
 | rng (lo hi:Int)
 | frz (o:Obj) (u:HO)
 | tbl (ps:Array Value)
 | ext (φ:Heap->Prop)
abbrev Hp:=Addr->Option HO
def Ao (H:Hp) (a:Addr) (o:HO):Hp:=λb=>if b=a then some o else H b
theorem A5 {H:Hp} {a:Addr} {o:HO}:Ao H a o a=some o:=by unfold Ao; rw [if_pos rfl]
theorem AJ {H:Hp} {a b:Addr} {o:HO} (h:b≠a):Ao H a o b=H b:=by unfold Ao; rw [if_neg h]
theorem SL {H:Hp} {a:Addr} {o u:HO}:Ao (Ao H a o) a u=Ao H a u:=by
 funext b; unfold Ao; split <;> rfl
theorem BT {H:Hp} {a b:Addr} {o:HO} (h:H a=some o) (h':H b=none):a≠b:=by
 intro e; subst e; rw [h] at h'; cases h'
def DY (h:Heap) (a:Addr) (items:Array Value):Prop:=∃ o,h.get? a=some o/\o.dict=none/\o.cls=.type "tuple" /\ ∃ n,o.data=.seq items n
theorem DY.t {h:Heap} {a:Addr} {items:Array Value} (x:DY h a items):IsTup h a items:=let ⟨o,e,_,r⟩:=x; ⟨o,e,r⟩
theorem DY.new (h:Heap) (items:Array Value):DY (h.push { cls:=.type "tuple",data:=.seq items }) h.objs.size items:=⟨_,Heap.get?_push_size _ rfl,rfl,rfl,_,rfl⟩
section
variable (P:Program) (w:World)
def BW (H:Hp) (h:Heap) (a:Addr):HO->Prop
 | .lst xs=>xs.length<=sizeLine/\∃ (its:List Value) (n:Nat),Ay xs its/\h.get? a=some { cls:=.type "list",data:=.seq its.toArray n }
 | .tup xs=>xs.length<=sizeLine/\∃ its:List Value,Ay xs its/\DY h a its.toArray
 | .dK kvs=>kvs.length<=sizeLine/\(a==sysModules)=false/\∃ vs,KV kvs vs/\h.DictOf (Mg P w) a vs
 | .dT kvs=>kvs.length<=sizeLine/\(a==sysModules)=false/\∃ xs:List (List A1×Addr×Value),
   Paired (λ(p:List A1×V) (q:List A1×Addr×Value)=>p.1=q.1/\H q.2.1=some (.tup (p.1.map kV))/\AX p.2 q.2.2) kvs xs /\
   ∃ o es ep,h.get? a=some o/\o.ExactDict/\o.data=.dict es ep/\es.toList=xs.map (entryOfKey (tupleKind (Mg P w)))/\(xs.map (·.1)).Nodup
 | .set S n=>h.SetOf (intKind P w) a S n
 | .ins C dx fs=>H dx=some (.own a)/\fs.length<=1000/\dx≠a/\h.get? a=some (PySem.W.instObj C dx) /\
   ∃ mA,h.Ns1 dx mA/\(∀ f,DB (fs.lookup f) (mA f))/\PySem.Within mA (fs.map (·.1))
 | .own _=>∃ o,h.get? a=some o
 | .xd fs=>∃ mA,h.Ns1 a mA/\∀ f,DB (fs.lookup f) (mA f)
 | .rng lo hi=>∃ t u v,h.get? a=some { cls:=.type "range",data:=.fields #[.int lo t,.int hi u,.int 1 v] }
 | .frz o u=>h.get? a=some o/\BW H h a u
 | .tbl ps=>h.get? a=some { cls:=.none,data:=.fields ps }
 | .met f x=>h.get? a=some (PySem.W.methodObj (.ref f) (.ref x))
 | .ext φ=>φ h/\(∃ o,h.get? a=some o)/\∀ h1 h2:Heap,φ h1->(∀ o,h1.get? a=some o->h2.get? a=some o)->φ h2
def Bn (H:Hp) (h:Heap):Prop:=∀ a o,H a=some o->BW P w H h a o
end
section
variable {P:Program} {w:World} {H H':Hp} {h h':Heap} {a:Addr} {o:HO}
theorem BW.lt (x:BW P w H h a o):a<h.objs.size:=by
 cases o with
 | lst xs=>obtain ⟨_,_,_,_,e⟩:=x; exact Heap.lt_size e
 | tup xs=>obtain ⟨_,_,_,p⟩:=x; exact p.t.lt
 | dK kvs=>obtain ⟨_,_,_,_,o,_,_,e,_⟩:=x; exact Heap.lt_size e
 | dT kvs=>obtain ⟨_,_,_,_,o,_,_,e,_⟩:=x; exact Heap.lt_size e
 | set S n=>obtain ⟨o,_,_,_,e,_⟩:=x; exact Heap.lt_size e
 | ins C dx fs=>obtain ⟨_,_,_,e,_⟩:=x; exact Heap.lt_size e
 | own y=>obtain ⟨_,e⟩:=x; exact Heap.lt_size e
 | xd fs=>obtain ⟨_,⟨_,_,_,e,_⟩,_⟩:=x; exact Heap.lt_size e
 | rng lo hi=>obtain ⟨_,_,_,e⟩:=x; exact Heap.lt_size e
 | frz ob u=>obtain ⟨e,_⟩:=x; exact Heap.lt_size e
 | tbl ps=>exact Heap.lt_size (show h.get? a=some _ from x)
 | met f y=>exact Heap.lt_size (show h.get? a=some _ from x)
 | ext φ=>obtain ⟨_,⟨_,e⟩,_⟩:=x; exact Heap.lt_size e
theorem Paired.mapP {α β:Type} {F G:α->β->Prop}:∀ {l₁:List α} {l₂:List β},Paired F l₁ l₂->(∀ a b,F a b->G a b)->Paired G l₁ l₂
 | _,_,.nil,_=>.nil
 | _,_,.cons r t,f=>.cons (f _ _ r) (Paired.mapP t f)
theorem BW.stay (x:BW P w H h a o) (k:∀ b u,(b=a\/H b=some (.own a))->h.get? b=some u->h'.get? b=some u)
  (ho:∀ b,H b=some (.own a)->H' b=some (.own a)) (ht:∀ b xs,H b=some (.tup xs)->H' b=some (.tup xs)):BW P w H' h' a o:=by
 induction o with
 | lst xs=>obtain ⟨z,its,n,r,e⟩:=x; exact ⟨z,its,n,r,k _ _ (.inl rfl) e⟩
 | tup xs=>obtain ⟨z,its,r,ob,e,c⟩:=x; exact ⟨z,its,r,ob,k _ _ (.inl rfl) e,c⟩
 | dK kvs=>obtain ⟨z,y,vs,r,ob,es,ep,e,c⟩:=x; exact ⟨z,y,vs,r,ob,es,ep,k _ _ (.inl rfl) e,c⟩
 | dT kvs=>
  obtain ⟨z,y,xs,r,ob,es,ep,e,c⟩:=x
  exact ⟨z,y,xs,Paired.mapP r λp q z=>⟨z.1,ht _ _ z.2.1,z.2.2⟩,ob,es,ep,k _ _ (.inl rfl) e,c⟩
 | set S n=>obtain ⟨ob,es,ep,t,e,c⟩:=x; exact ⟨ob,es,ep,t,k _ _ (.inl rfl) e,c⟩
 | ins C dx fs=>
  obtain ⟨d,z,ne,e,mA,⟨od,es,ep,e2,c⟩,r⟩:=x
  exact ⟨ho _ d,z,ne,k _ _ (.inl rfl) e,mA,⟨od,es,ep,k _ _ (.inr d) e2,c⟩,r⟩
 | own y=>obtain ⟨ob,e⟩:=x; exact ⟨ob,k _ _ (.inl rfl) e⟩
 | xd fs=>obtain ⟨mA,⟨od,es,ep,e,c⟩,r⟩:=x; exact ⟨mA,⟨od,es,ep,k _ _ (.inl rfl) e,c⟩,r⟩
 | rng lo hi=>obtain ⟨t,u,v,e⟩:=x; exact ⟨t,u,v,k _ _ (.inl rfl) e⟩
 | frz ob u ih=>obtain ⟨e,q⟩:=x; exact ⟨k _ _ (.inl rfl) e,ih q⟩
 | tbl ps=>
  have e:h.get? a=some { cls:=.none,data:=.fields ps }:=x
  show h'.get? a=some { cls:=.none,data:=.fields ps }
  exact k a _ (.inl rfl) e
 | met f y=>
  have e:h.get? a=some (PySem.W.methodObj (.ref f) (.ref y)):=x
  show h'.get? a=some (PySem.W.methodObj (.ref f) (.ref y))
  exact k a _ (.inl rfl) e
 | ext φ=>obtain ⟨p,⟨o,e⟩,st⟩:=x; exact ⟨st _ _ p λo q=>k _ _ (.inl rfl) q,⟨o,k _ _ (.inl rfl) e⟩,st⟩
theorem Bn.lt (x:Bn P w H h) (e:H a=some o):a<h.objs.size:=(x a o e).lt
theorem Bn.fresh (x:Bn P w H h) (e:h.objs.size<=a):H a=none:=by
 cases q:H a with
 | none=>rfl
 | some u=>exact absurd (Nat.lt_of_lt_of_le (x.lt q) e) (Nat.lt_irrefl _)
theorem Bn.kept (x:Bn P w H h) (k:∀ b u,h.get? b=some u->h'.get? b=some u):Bn P w H h':=λa o e=>
 (x a o e).stay (λb u _ q=>k b u q) (λ_ q=>q) λ_ _ q=>q
theorem Bn.laid (x:Bn P w H h) (k:∀ b u,h.get? b=some u->h'.get? b=some u) (hp:h.objs.size<=a) (new:BW P w (Ao H a o) h' a o):Bn P w (Ao H a o) h':=λb u e=>by
 have hn:=x.fresh hp
 by_cases hb:b=a
 ·subst hb; rw [A5] at e; cases e; exact new
 ·rw [AJ hb] at e
  exact (x b u e).stay (λc v _ q=>k c v q) (λc q=>by rw [AJ (BT q hn)]; exact q) λc xs q=>by rw [AJ (BT q hn)]; exact q
end
def Rd (H:Hp) (a:Addr) (u:HO):Prop:=H a=some u\/∃ o,H a=some (.frz o u)
theorem Rd.ok {P:Program} {w:World} {H:Hp} {h:Heap} {a:Addr} {u:HO} (r:Rd H a u) (x:Bn P w H h):BW P w H h a u:=by
 rcases r with r | ⟨o,r⟩
 ·exact x a u r
 ·obtain ⟨_,q⟩:=x a _ r
  exact q
def JA:Option HO->Prop
 | some (.lst _)=>True
 | some (.dK _)=>True
 | some (.dT _)=>True
 | some (.set _ _)=>True
 | some (.ins _ _ _)=>True
 | some (.ext _)=>True
 | _=>False
section
variable {P:Program} {w:World} {H:Hp} {h h':Heap} {x e:Addr} {o':HO}
theorem Bn.write (ok:Bn P w H h) (mu:JA (H x)) (he:e=x\/H e=some (.own x)) (k:∀ b u,b≠e->h.get? b=some u->h'.get? b=some u) (heo:∃ u,h'.get? e=some u)
  (new:BW P w (Ao H x o') h' x o'):Bn P w (Ao H x o') h':=λb u q=>by
 have nown:∀ c y,H c=some (.own y)->c≠x:=λc y r z=>by subst z; rw [r] at mu; exact mu
 have ntup:∀ c xs,H c=some (.tup xs)->c≠x:=λc xs r z=>by subst z; rw [r] at mu; exact mu
 by_cases hb:b=x
 ·subst hb; rw [A5] at q; cases q; exact new
 ·rw [AJ hb] at q
  by_cases hbe:b=e
  ·have q':H b=some (.own x):=by
    rcases he with z | z
    ·exact absurd (hbe.trans z) hb
    ·rw [hbe]; exact z
   rw [q] at q'; cases q'
   obtain ⟨v,hv⟩:=heo
   exact ⟨v,by rw [hbe]; exact hv⟩
  ·refine (ok b u q).stay (λc v hc r=>k c v ?_ r) (λc r=>by rw [AJ (nown c b r)]; exact r) λc xs r=>by rw [AJ (ntup c xs r)]; exact r
   rcases hc with rfl | hc
   ·exact hbe
   ·rintro rfl
    rcases he with z | z
    ·exact nown c b hc z
    ·rw [hc] at z; cases z; exact hb rfl
end
structure Un (fs ex:List Addr) (H H':Hp) (h h':Heap):Prop where
 keep:∀ b o,h.get? b=some o->H b=none->b∉fs->b∉ex->h'.get? b=some o
 slot:∀ b o,h.get? b=some o->H b=none->b∈fs->b∉ex->∃ sl,h'.get? b=some { o with slots:=sl }
 free:∀ b o,h.get? b=some o->H b=none->b∉ex->H' b=none
 there:∀ b o,h.get? b=some o->b∉ex->∃ o',h'.get? b=some o'
 tups:∀ b xs,H b=some (.tup xs)->H' b=some (.tup xs)
 frzs:∀ b o u,H b=some (.frz o u)->H' b=some (.frz o u)
 tbls:∀ b ps,H b=some (.tbl ps)->∃ more,H' b=some (.tbl (ps++more))
section
variable {fs fs' ex ex':List Addr} {H H1 H2:Hp} {h h1 h2 h':Heap} {a x e:Addr} {o:HO}
theorem Un.any (u:Un fs ex H H1 h h1) {b:Addr} {ob:Obj} (q:h.get? b=some ob) (n:H b=none) (hx:b∉ex):∃ sl,h1.get? b=some { ob with slots:=sl }:=by
 by_cases hb:b∈fs
 ·exact u.slot b ob q n hb hx
 ·exact ⟨ob.slots,u.keep b ob q n hb hx⟩
theorem Un.kept (k:∀ b u,h.get? b=some u->h'.get? b=some u):Un fs ex H H h h':=
 ⟨λb ob q _ _ _=>k b ob q,λb ob q _ _ _=>⟨ob.slots,k b ob q⟩,λ_ _ _ n _=>n,λb ob q _=>⟨ob,k b ob q⟩,λ_ _ q=>q,λ_ _ _ q=>q,λ_ ps q=>⟨#[],by rw [q]; simp⟩⟩
theorem Un.refl:Un fs ex H H h h:=Un.kept λ_ _ q=>q
theorem Un.laid (k:∀ b u,h.get? b=some u->h'.get? b=some u) (hp:h.objs.size<=a) (hn:H a=none):Un fs ex H (Ao H a o) h h' where
 keep:=λb u q _ _ _=>k b u q
 slot:=λb u q _ _ _=>⟨u.slots,k b u q⟩
 free:=λb u q n _=>by rw [AJ (Nat.ne_of_lt (Nat.lt_of_lt_of_le (Heap.lt_size q) hp))]; exact n
 there:=λb u q _=>⟨u,k b u q⟩
 tups:=λb xs q=>by rw [AJ (BT q hn)]; exact q
 frzs:=λb u xs q=>by rw [AJ (BT q hn)]; exact q
 tbls:=λb ps q=>⟨#[],by rw [AJ (BT q hn),q]; simp⟩
theorem Un.write (mu:JA (H x)) (he:e=x\/H e=some (.own x)) (k:∀ b u,b≠e->h.get? b=some u->h'.get? b=some u) (heo:∃ u,h'.get? e=some u):Un fs ex H (Ao H x o) h h':=by
 have hx:∀ b,H b=none->b≠x:=λb n z=>by subst z; rw [n] at mu; exact mu
 have hb:∀ b,H b=none->b≠e:=λb n z=>by
  subst z
  rcases he with r | r
  ·exact hx b n r
  ·rw [n] at r; cases r
 have hm:∀ b u,H b=some u->¬ JA (some u)->b≠x:=λb u q nm z=>by subst z; rw [q] at mu; exact nm mu
 refine ⟨λb u q n _ _=>k b u (hb b n) q,λb u q n _ _=>⟨u.slots,k b u (hb b n) q⟩,λb u q n _=>by rw [AJ (hx b n)]; exact n,λb u q _=>?_,
  λb xs q=>by rw [AJ (hm b _ q λz=>z)]; exact q,λb u xs q=>by rw [AJ (hm b _ q λz=>z)]; exact q,λb ps q=>⟨#[],by rw [AJ (hm b _ q λz=>z),q]; simp⟩⟩
 by_cases hbe:b=e
 ·subst hbe; exact heo
 ·exact ⟨u,k b u hbe q⟩
end
def trk (h:Heap) (H:Hp):List Addr:=(List.range h.objs.size).filter λa=>(H a).isSome
def EA (h:Heap) (H:Hp):Heap:=PySem.W.hideAll h (trk h H)
theorem Zc (h:Heap) (H:Hp):(EA h H).objs.size=h.objs.size:=PySem.W.hideAll_size _ _
theorem Zd {h:Heap} {H:Hp} {b:Addr} {o:Obj} (e:h.get? b=some o) (n:H b=none):(EA h H).get? b=some o:=
 PySem.W.hideAll_get _ e λhm=>by
  have q:(H b).isSome=true:=(List.mem_filter.mp hm).2
  rw [n] at q; simp at q
theorem X5 {h:Heap} {H:Hp} {b:Addr} {o:Obj} (e:(EA h H).get? b=some o):h.get? b=some o/\H b=none:=by
 have e':h.get? b=some o:=PySem.W.of_hideAll (trk h H) e
 refine ⟨e',?_⟩
 cases q:H b with
 | none=>rfl
 | some x=>
  have hm:b∈trk h H:=List.mem_filter.mpr ⟨List.mem_range.mpr (Heap.lt_size e'),by simp [q]⟩
  have z:(EA h H).get? b=none:=PySem.W.hideAll_none (trk h H) hm
  rw [z] at e; cases e
def Q0R (g h:Heap) (L:Addr):List (Addr×Obj):=(List.range h.objs.size).filterMap λa=>if a=L\/(g.get? a).isSome=true then none else (h.get? a).map λo=>(a,o)
def rest (g h:Heap) (L d:Addr):List (Addr×Obj):=(Q0R g h L).filter λp=>decide (p.1≠d)
end L2
namespace L2
open PySem PySem.Spec PyProof.Rows
structure Mod (K:PySem.W.Frag) (mg:Str->Option Value) (base:Heap):Prop where
 kin:K.In base
 glob:base.Ns mainGlobals mg
 blt:∃ mb,base.Ns builtinsNs mb/\∀ x:Str,x ≠ "__name__" -> mb x=bootBuiltins x
 nolimit:base.NoLimit
structure Cx where
 prog:Program
 w:World
 K:PySem.W.Frag
 mg:Str->Option Value
 base:Heap
 A:Around
 N:List Str
 s₀:Shared
 H₀:Hp
 env:Env
 outer:List Env
 stack:List Env
 ex:List Addr
 fn:Str->Bool
 calm:Bool
 pn:List (Addr×Obj)
 xe:Value->Shared->Prop
def A3 (l:List Env):List Addr:=l.filterMap (·.frame)
abbrev Cx.fs (X:Cx):List Addr:=A3 X.outer
def C7 (sc:Scope) (x:Str):Prop:=sc.names.lookup x=some .local\/sc.names.lookup x=some .cell\/sc.names.lookup x=some .free
def DC (sc:Scope) (x:Str):Prop:=sc.names.lookup x=some .local\/sc.names.lookup x=some .cell
def Look (env:Env) (h:Heap) (m:Str->Option Value) (x:Str) (u:Value):Prop:=
 (env.kindOf x=some .local/\m x=some u)\/((env.kindOf x=some .cell\/env.kindOf x=some .free)/\∃ c,env.cells.lookup x=some c/\h.IsCell c (some u))
structure Cx.Ok (X:Cx):Prop where
 mod:Mod X.K X.mg X.base
 kind:X.env.scope.kind=.function
 glob:X.env.globals=mainGlobals
 blt:X.env.builtins=builtinsNs
 above:X.s₀.heap.objs.size<=X.env.locals
 inj:∀ x y c,X.env.cells.lookup x=some c->X.env.cells.lookup y=some c->x=y
 has:∀ x,(X.env.kindOf x=some .cell\/X.env.kindOf x=some .free)->∃ c,X.env.cells.lookup x=some c
 cab:∀ x c,X.fn x=true->X.env.cells.lookup x=some c->X.s₀.heap.objs.size<=c
 hd:X.calm=true->X.A.handled=none
 frames:X.A.frames=some X.stack
 stk:X.stack=X.outer\/(X.stack=X.env::X.outer/\X.env.frame=some X.env.locals)
 exf:∀ b∈X.ex,b≠X.env.locals/\∀ x c,X.env.cells.lookup x=some c->c≠b
 bs:∀ b o,X.base.get? b=some o->X.s₀.heap.get? b=some o/\X.H₀ b=none
 bsz:X.base.objs.size<=X.s₀.heap.objs.size
 noex:∀ b o,X.base.get? b=some o->b∉X.ex
 exfs:∀ b∈X.ex,b∉X.fs
 funs:X.s₀.heap.FunFrames X.base X.outer
 frf:∀ b∈X.fs,X.H₀ b=none
structure Inv (X:Cx) (pins:List (Addr×Obj)) (σ:List (Option V)) (H:Hp) (s:Shared):Prop where
 ok:X.Ok
 os:s.os=X.s₀.os
 bare:AllBare s.gens
 base:Un X.fs X.ex X.H₀ H X.s₀.heap s.heap
 loc:∃ m,s.heap.Ns X.env.locals m/\∀ (i:Nat) (x:Str) (v:V),X.N[i]?=some x->σ[i]?=some (some v)->C7 X.env.scope x->∃ u,AX v u/\Look X.env s.heap m x u
 cell:∀ x c,X.env.cells.lookup x=some c->∃ v,s.heap.IsCell c v
 free:H X.env.locals=none
 freeC:∀ x c,X.env.cells.lookup x=some c->H c=none
 pin:∀ p∈X.pn++pins,s.heap.get? p.1=some p.2/\H p.1=none/\p.1≠X.env.locals/\p.1∉X.fs/\∀ v,p.2.data≠.cell v
 hok:Bn X.prog X.w H s.heap
 len:σ.length=X.N.length
section
variable {X:Cx} {pins:List (Addr×Obj)} {σ:List (Option V)} {H H':Hp} {s:Shared} {h':Heap}
theorem Cx.Ok.nofr (ok:X.Ok) {b:Addr} {o:Obj} (e:X.base.get? b=some o):b∉X.fs:=λhb=>by
 have:=(ok.funs.mem hb).1
 rw [e] at this; cases this
theorem Inv.bs (I:Inv X pins σ H s):∀ b o,X.base.get? b=some o->s.heap.get? b=some o/\H b=none:=λb o e=>
 ⟨I.base.keep b o (I.ok.bs b o e).1 (I.ok.bs b o e).2 (I.ok.nofr e) (I.ok.noex b o e),I.base.free b o (I.ok.bs b o e).1 (I.ok.bs b o e).2 (I.ok.noex b o e)⟩
theorem Inv.bk (I:Inv X pins σ H s):∀ b o,X.base.get? b=some o->s.heap.get? b=some o:=λb o e=>(I.bs b o e).1
theorem Inv.mod (I:Inv X pins σ H s):Mod X.K X.mg X.base:=I.ok.mod
theorem Inv.kIn (I:Inv X pins σ H s):X.K.In s.heap:=I.ok.mod.kin.keeps I.bk
theorem Inv.lt (I:Inv X pins σ H s):X.env.locals<s.heap.objs.size:=let ⟨_,hn,_⟩:=I.loc; hn.lt
theorem Inv.sz (I:Inv X pins σ H s):X.s₀.heap.objs.size<=s.heap.objs.size:=Nat.le_trans I.ok.above (Nat.le_of_lt I.lt)
theorem Inv.nofs (I:Inv X pins σ H s) {a:Addr} (h:s.heap.objs.size<=a):a∉X.fs:=λhb=>by
 obtain ⟨_,o,ho,_⟩:=I.ok.funs.mem hb
 exact absurd (Nat.lt_of_lt_of_le (Heap.lt_size ho) (Nat.le_trans I.sz h)) (Nat.lt_irrefl _)
theorem Inv.cne (I:Inv X pins σ H s):∀ x c,X.env.cells.lookup x=some c->c≠X.env.locals:=λx c e z=>by
 obtain ⟨v,o,ho,hd⟩:=I.cell x c e
 obtain ⟨m,⟨o',es,ep,ho',hd',_⟩,_⟩:=I.loc
 rw [z,ho'] at ho; cases ho; rw [hd'] at hd; cases hd
theorem Inv.funs (I:Inv X pins σ H s):s.heap.FunFrames X.base X.outer:=by
 have all:∀ (l:List Env),(∀ b∈A3 l,b∈X.fs)->X.s₀.heap.FunFrames X.base l->s.heap.FunFrames X.base l:=by
  intro l
  induction l with
  | nil=>intro _ _; trivial
  | cons env r ih=>
   intro hs hl
   obtain ⟨hk,⟨L,o,hf,hn,ho,hd⟩,hr⟩:=hl
   have hL:L∈X.fs:=hs L (by unfold A3; rw [List.filterMap_cons,hf]; exact List.mem_cons_self)
   obtain ⟨sl,e⟩:=I.base.slot L o ho (I.ok.frf L hL) hL λz=>I.ok.exfs L z hL
   exact ⟨hk,⟨L,_,hf,hn,e,hd⟩,ih (λb hb=>hs b (by unfold A3; rw [List.filterMap_cons,hf]; exact List.mem_cons_of_mem _ hb)) hr⟩
 exact all X.outer (λ_ hb=>hb) I.ok.funs
theorem Inv.stack (I:Inv X pins σ H s):s.heap.FunFrames X.base X.stack:=by
 rcases I.ok.stk with e | ⟨e,hf⟩
 ·rw [e]; exact I.funs
 ·rw [e]
  obtain ⟨m,hn,_⟩:=I.loc
  refine .cons (by rw [I.ok.kind]; decide) hf hn ?_ I.funs
  exact Heap.get?_none_of_le (Nat.le_trans I.ok.bsz I.ok.above)
theorem Inv.stkSub (I:Inv X pins σ H s):∀ b∈A3 X.stack,b∈X.env.locals::X.fs:=λb hb=>by
 rcases I.ok.stk with e | ⟨e,hf⟩
 ·rw [e] at hb; exact List.mem_cons_of_mem _ hb
 ·rw [e] at hb
  unfold A3 at hb
  rw [List.filterMap_cons,hf] at hb
  exact hb
theorem Inv.stkFree (I:Inv X pins σ H s):∀ b∈A3 X.stack,H b=none:=λb hb=>by
 rcases List.mem_cons.mp (I.stkSub b hb) with e | hb
 ·rw [e]; exact I.free
 ·obtain ⟨_,o,ho,_⟩:=I.ok.funs.mem hb
  exact I.base.free b o ho (I.ok.frf b hb) λz=>I.ok.exfs b z hb
theorem Inv.step {g':Array GenState} {t':Nat} {d':Drawn} {ch:List Addr} (I:Inv X pins σ H s)
  (hch:∀ b∈ch,(b∈X.ex\/X.s₀.heap.objs.size<=b)/\b≠X.env.locals/\(∀ x c,X.env.cells.lookup x=some c->c≠b)/\∀ p∈X.pn++pins,p.1≠b)
  (keep:∀ b o,b≠X.env.locals->b∉X.fs->b∉ch->s.heap.get? b=some o->H b=none->h'.get? b=some o)
  (slot:∀ b o,b≠X.env.locals->b∈X.fs->b∉ch->s.heap.get? b=some o->H b=none->∃ sl,h'.get? b=some { o with slots:=sl }) (free:∀ b o,b∉ch->s.heap.get? b=some o->H b=none->H' b=none)
  (there:∀ b o,b∉ch->s.heap.get? b=some o->∃ o',h'.get? b=some o')
  (tups:∀ b xs,H b=some (.tup xs)->H' b=some (.tup xs)) (frzs:∀ b o u,H b=some (.frz o u)->H' b=some (.frz o u)) (tbls:∀ b ps,H b=some (.tbl ps)->∃ more,H' b=some (.tbl (ps++more)))
  (ns:∀ m,s.heap.Ns X.env.locals m->h'.Ns X.env.locals m) (hok:Bn X.prog X.w H' h') (hg:AllBare g') :
  Inv X pins σ H' { s with heap:=h',gens:=g',drawn:=d',toks:=t' }:=by
 have neL:∀ b o,X.s₀.heap.get? b=some o->b≠X.env.locals:=λb o e=>Nat.ne_of_lt (Nat.lt_of_lt_of_le (Heap.lt_size e) I.ok.above)
 have neC:∀ b o,X.s₀.heap.get? b=some o->b∉X.ex->b∉ch:=λb o e hx hb=>by
  rcases (hch b hb).1 with z | z
  ·exact hx z
  ·exact absurd (Nat.lt_of_lt_of_le (Heap.lt_size e) z) (Nat.lt_irrefl _)
 have cellK:∀ x c,X.env.cells.lookup x=some c->∀ v,s.heap.IsCell c v->h'.IsCell c v:=λx c e v ⟨o,ho,hd⟩=>by
  have nch:c∉ch:=λz=>(hch c z).2.2.1 x c e rfl
  by_cases hc:c∈X.fs
  ·obtain ⟨sl,q⟩:=slot c o (I.cne x c e) hc nch ho (I.freeC x c e)
   exact ⟨_,q,hd⟩
  ·exact ⟨o,keep c o (I.cne x c e) hc nch ho (I.freeC x c e),hd⟩
 refine ⟨I.ok,I.os,hg,⟨λb o e n hb hx=>?_,λb o e n hb hx=>?_,λb o e n hx=>?_,λb o e hx=>?_,λb xs e=>tups b xs (I.base.tups b xs e),λb o xs e=>frzs b o xs (I.base.frzs b o xs e),λb ps e=>?_⟩,?_,λx c e=>?_,?_,λx c e=>?_,λp hp=>?_,hok,I.len⟩
 ·exact keep b o (neL b o e) hb (neC b o e hx) (I.base.keep b o e n hb hx) (I.base.free b o e n hx)
 ·obtain ⟨sl,e1⟩:=I.base.slot b o e n hb hx
  obtain ⟨sl',e2⟩:=slot b _ (neL b o e) hb (neC b o e hx) e1 (I.base.free b o e n hx)
  exact ⟨sl',e2⟩
 ·obtain ⟨o',e1⟩:=I.base.there b o e hx
  exact free b o' (neC b o e hx) e1 (I.base.free b o e n hx)
 ·obtain ⟨o',e1⟩:=I.base.there b o e hx
  exact there b o' (neC b o e hx) e1
 ·obtain ⟨m1,e1⟩:=I.base.tbls b ps e
  obtain ⟨m2,e2⟩:=tbls b _ e1
  exact ⟨m1++m2,by rw [e2,Array.append_assoc]⟩
 ·obtain ⟨m,hn,hl⟩:=I.loc
  refine ⟨m,ns m hn,λi x v e1 e2 e3=>?_⟩
  obtain ⟨u,r,l⟩:=hl i x v e1 e2 e3
  refine ⟨u,r,?_⟩
  rcases l with l | ⟨k,c,e,z⟩
  ·exact .inl l
  ·exact .inr ⟨k,c,e,cellK x c e _ z⟩
 ·obtain ⟨v,z⟩:=I.cell x c e
  exact ⟨v,cellK x c e v z⟩
 ·obtain ⟨m,⟨o,_,_,ho,_⟩,_⟩:=I.loc
  exact free _ o (λz=>(hch _ z).2.1 rfl) ho I.free
 ·obtain ⟨v,o,ho,hd⟩:=I.cell x c e
  exact free c o (λz=>(hch c z).2.2.1 x c e rfl) ho (I.freeC x c e)
 ·obtain ⟨e,n,ne,nf,d⟩:=I.pin p hp
  have nch:p.1∉ch:=λz=>(hch p.1 z).2.2.2 p hp rfl
  exact ⟨keep p.1 p.2 ne nf nch e n,free p.1 p.2 nch e n,ne,nf,d⟩
theorem Inv.un {t':Nat} (I:Inv X pins σ H s) (u:Un X.fs [] H H' s.heap h') (hok:Bn X.prog X.w H' h'):Inv X pins σ H' { s with heap:=h',toks:=t' }:=by
 obtain ⟨m,⟨o,es,ep,ho,r⟩,_⟩:=id I.loc
 obtain ⟨sl,hL⟩:=u.any ho I.free (by simp)
 exact I.step (g':=s.gens) (d':=s.drawn) (ch:=[]) (λ_ z=>nomatch z) (λb o _ hb _ e n=>u.keep b o e n hb (by simp)) (λb o _ hb _ e n=>u.slot b o e n hb (by simp)) (λb o _ e n=>u.free b o e n (by simp)) (λb o _ e=>u.there b o e (by simp)) u.tups u.frzs u.tbls (λm' hm=>by
  obtain ⟨o',es',ep',ho',r'⟩:=hm
  rw [ho] at ho'; cases ho'
  exact ⟨_,es',ep',hL,r'⟩) hok I.bare
theorem Inv.call {g':Array GenState} {t':Nat} {d':Drawn} {ch:List Addr} (I:Inv X pins σ H s) (u:Un (A3 X.stack) ch H H' s.heap h') (hok:Bn X.prog X.w H' h') (hg:AllBare g')
  (hch:∀ b∈ch,(b∈X.ex\/X.s₀.heap.objs.size<=b)/\b≠X.env.locals/\(∀ x c,X.env.cells.lookup x=some c->c≠b)/\∀ p∈X.pn++pins,p.1≠b) :
  Inv X pins σ H' { s with heap:=h',gens:=g',drawn:=d',toks:=t' }:=by
 obtain ⟨m,⟨o,es,ep,ho,r⟩,_⟩:=id I.loc
 obtain ⟨sl,hL⟩:=u.any ho I.free λz=>(hch _ z).2.1 rfl
 exact I.step (ch:=ch) hch (λb o hL hb hc e n=>u.keep b o e n (λz=>(List.mem_cons.mp (I.stkSub b z)).elim hL hb) hc) (λb o _ _ hc e n=>u.any e n hc) (λb o hc e n=>u.free b o e n hc) (λb o hc e=>u.there b o e hc) u.tups u.frzs u.tbls (λm' hm=>by
  obtain ⟨o',es',ep',ho',r'⟩:=hm
  rw [ho] at ho'; cases ho'
  exact ⟨_,es',ep',hL,r'⟩) hok hg
theorem Inv.turned {t':Nat} {it:Addr} (I:Inv X pins σ H s) (k:∀ b o,b≠it->s.heap.get? b=some o->h'.get? b=some o) (hn:H it=none) (hL:it≠X.env.locals)
  (h1:it∈X.ex\/X.s₀.heap.objs.size<=it) (h2:∀ x c,X.env.cells.lookup x=some c->c≠it) (h3:∀ p∈X.pn++pins,p.1≠it):Inv X pins σ H { s with heap:=h',toks:=t' }:=by
 have nit:∀ b u,H b=some u->b≠it:=λb u e z=>by rw [z,hn] at e; cases e
 refine I.step (g':=s.gens) (d':=s.drawn) (ch:=[it]) (λb hb=>?_) (λb o _ _ hc e _=>k b o (λz=>hc (by simp [z])) e) (λb o _ _ hc e _=>⟨o.slots,k b o (λz=>hc (by simp [z])) e⟩) (λ_ _ _ _ n=>n)
  (λb o hc e=>⟨o,k b o (λz=>hc (by simp [z])) e⟩) (λ_ _ e=>e) (λ_ _ _ e=>e) (λb ps e=>⟨#[],by rw [e]; simp⟩) (λm hm=>?_) (λb u e=>?_) I.bare
 ·have e:b=it:=by simpa using hb
  subst e
  exact ⟨h1,hL,h2,h3⟩
 ·obtain ⟨o,es,ep,ho,r⟩:=hm
  exact ⟨o,es,ep,k _ o (Ne.symm hL) ho,r⟩
 ·refine (I.hok b u e).stay (λc v hc q=>k c v ?_ q) (λ_ q=>q) λ_ _ q=>q
  rcases hc with z | z
  ·rw [z]; exact nit b u e
  ·exact nit c _ z
theorem Inv.tok (I:Inv X pins σ H s) (t:Nat):Inv X pins σ H { s with toks:=t }:=I.un (h':=s.heap) (t':=t) Un.refl I.hok
theorem Inv.kept {t':Nat} (I:Inv X pins σ H s) (k:∀ b u,s.heap.get? b=some u->h'.get? b=some u):Inv X pins σ H { s with heap:=h',toks:=t' }:=I.un (Un.kept k) (I.hok.kept k)
theorem Inv.laid {a:Addr} {o:HO} {t':Nat} (I:Inv X pins σ H s) (k:∀ b u,s.heap.get? b=some u->h'.get? b=some u) (hp:s.heap.objs.size<=a) (new:BW X.prog X.w (Ao H a o) h' a o) :
  Inv X pins σ (Ao H a o) { s with heap:=h',toks:=t' }:=I.un (Un.laid k hp (I.hok.fresh hp)) (I.hok.laid k hp new)
theorem Inv.write {x e:Addr} {o:HO} {t':Nat} (I:Inv X pins σ H s) (mu:JA (H x)) (he:e=x\/H e=some (.own x)) (k:∀ b u,b≠e->s.heap.get? b=some u->h'.get? b=some u) (heo:∃ u,h'.get? e=some u)
  (new:BW X.prog X.w (Ao H x o) h' x o):Inv X pins σ (Ao H x o) { s with heap:=h',toks:=t' }:=I.un (Un.write mu he k heo) (I.hok.write mu he k heo new)
theorem Inv.pins_of {pins':List (Addr×Obj)} (I:Inv X pins σ H s) (h:∀ p∈pins',s.heap.get? p.1=some p.2/\H p.1=none/\p.1≠X.env.locals/\p.1∉X.fs/\∀ v,p.2.data≠.cell v):Inv X pins' σ H s:=
 ⟨I.ok,I.os,I.bare,I.base,I.loc,I.cell,I.free,I.freeC,λp hp=>(List.mem_append.mp hp).elim (λz=>I.pin p (List.mem_append_left _ z)) (h p),I.hok,I.len⟩
theorem Me {N:List Str} (hN:N.Nodup) {i j:Nat} {x:Str} (a:N[i]?=some x) (b:N[j]?=some x):i=j:=by
 obtain ⟨h1,e1⟩:=List.getElem?_eq_some_iff.mp a
 obtain ⟨h2,e2⟩:=List.getElem?_eq_some_iff.mp b
 exact (List.getElem_inj hN).mp (e1.trans e2.symm)
theorem J1 {M:Model} {A:Around} {E:Value->Shared->Prop} {i:Nat} {x:Str} {v:V} {u:Value} {Q:Unit->Shared->Prop} (I:Inv X pins σ H s) (hN:X.N.Nodup) (hi:X.N[i]?=some x) (hx:DC X.env.scope x) (r:AX v u)
  (h:∀ s',Inv X pins (σ.set i (some v)) H s'->(∃ a,Heap.SameBut a s.heap s'.heap/\(a=X.env.locals\/X.env.cells.lookup x=some a))->Q () s') (hf:X.fn x=true\/X.env.scope.names.lookup x=some .local:=by first | exact .inl rfl | exact .inr rfl | assumption):wpAny M A (storeName X.env x u) Q E s:=by
 obtain ⟨m,hn,hl⟩:=id I.loc
 have hcls:(X.env.scope.kind==.class||(X.env.scope.kind==.module&&X.env.locals != X.env.globals))=false:=by rw [I.ok.kind]; rfl
 have hiσ:i<σ.length:=by rw [I.len]; exact (List.getElem?_eq_some_iff.mp hi).1
 have cne:=I.cne
 have tracked:∀ {a:Addr} {h':Heap},(∃ o,s.heap.get? a=some o/\H a=none)->Heap.SameBut a s.heap h'->Bn X.prog X.w H h':=λ{a h'} ha hs b ob e=>by
  obtain ⟨_,_,hfree⟩:=ha
  refine (I.hok b ob e).stay (λc w' hc q=>(hs.2 c ?_).trans q) (λ_ q=>q) λ_ _ q=>q
  rintro rfl
  rcases hc with rfl | hc
  ·rw [hfree] at e; cases e
  ·rw [hfree] at hc; cases hc
 rcases hx with hk | hk
 ·refine wpAny_storeName_local hk hn (λh' hn' hs=>?_) hcls
  obtain ⟨oL,_,_,hoL,_⟩:=id hn
  refine h _ ⟨I.ok,I.os,I.bare,⟨λb o e n hb hx=>?_,λb o e n hb hx=>?_,I.base.free,λb o e hx=>?_,I.base.tups,I.base.frzs,I.base.tbls⟩,⟨_,hn',λj y v' e1 e2 e3=>?_⟩,λy c e=>?_,I.free,I.freeC,λp hp=>?_,tracked ⟨oL,hoL,I.free⟩ hs,by simpa using I.len⟩ ⟨_,hs,.inl rfl⟩
  ·exact (hs.2 b (Nat.ne_of_lt (Nat.lt_of_lt_of_le (Heap.lt_size e) I.ok.above))).trans (I.base.keep b o e n hb hx)
  ·obtain ⟨sl,e1⟩:=I.base.slot b o e n hb hx
   exact ⟨sl,(hs.2 b (Nat.ne_of_lt (Nat.lt_of_lt_of_le (Heap.lt_size e) I.ok.above))).trans e1⟩
  ·obtain ⟨o',e1⟩:=I.base.there b o e hx
   exact ⟨o',(hs.2 b (Nat.ne_of_lt (Nat.lt_of_lt_of_le (Heap.lt_size e) I.ok.above))).trans e1⟩
  ·by_cases hj:j=i
   ·subst hj
    rw [hi] at e1; cases e1
    rw [List.getElem?_set_self hiσ] at e2
    cases e2
    exact ⟨u,r,.inl ⟨hk,by simp⟩⟩
   ·rw [List.getElem?_set_ne (Ne.symm hj)] at e2
    obtain ⟨u',r',q⟩:=hl j y v' e1 e2 e3
    refine ⟨u',r',?_⟩
    rcases q with ⟨k,e⟩ | ⟨k,c,e,z⟩
    ·refine .inl ⟨k,?_⟩
     have:y≠x:=λe=>hj (Me hN e1 (e ▸ hi))
     simp [this,e]
    ·exact .inr ⟨k,c,e,z.sameBut hs (cne y c e)⟩
  ·obtain ⟨w',z⟩:=I.cell y c e
   exact ⟨w',z.sameBut hs (cne y c e)⟩
  ·obtain ⟨e,n,ne,nf,d⟩:=I.pin p hp
   exact ⟨(hs.2 p.1 ne).trans e,n,ne,nf,d⟩
 ·have hfn:X.fn x=true:=by
   rcases hf with z | z
   ·exact z
   ·rw [z] at hk; cases hk
  obtain ⟨c,hc⟩:=I.ok.has x (.inl hk)
  obtain ⟨w',z⟩:=I.cell x c hc
  refine wpAny_storeName_cell I.ok.kind hk hc z (λh' hc' hs=>?_)
  obtain ⟨oc,hoc,hocd⟩:=id z
  refine h { s with heap:=h' } ⟨I.ok,I.os,I.bare,⟨λb o e n hb hx=>?_,λb o e n hb hx=>?_,I.base.free,λb o e hx=>?_,I.base.tups,I.base.frzs,I.base.tbls⟩,⟨m,hn.sameBut hs (Ne.symm (cne x c hc)),λj y v' e1 e2 e3=>?_⟩,λy c' e=>?_,I.free,I.freeC,λp hp=>?_,tracked ⟨oc,hoc,I.freeC x c hc⟩ hs,by simpa using I.len⟩ ⟨c,hs,.inr hc⟩
  ·exact (hs.2 b (Nat.ne_of_lt (Nat.lt_of_lt_of_le (Heap.lt_size e) (I.ok.cab x c hfn hc)))).trans (I.base.keep b o e n hb hx)
  ·obtain ⟨sl,e1⟩:=I.base.slot b o e n hb hx
   exact ⟨sl,(hs.2 b (Nat.ne_of_lt (Nat.lt_of_lt_of_le (Heap.lt_size e) (I.ok.cab x c hfn hc)))).trans e1⟩
  ·obtain ⟨o',e1⟩:=I.base.there b o e hx
   exact ⟨o',(hs.2 b (Nat.ne_of_lt (Nat.lt_of_lt_of_le (Heap.lt_size e) (I.ok.cab x c hfn hc)))).trans e1⟩
  ·by_cases hj:j=i
   ·subst hj
    rw [hi] at e1; cases e1
    rw [List.getElem?_set_self hiσ] at e2
    cases e2
    exact ⟨u,r,.inr ⟨.inl hk,c,hc,hc'⟩⟩
   ·rw [List.getElem?_set_ne (Ne.symm hj)] at e2
    obtain ⟨u',r',q⟩:=hl j y v' e1 e2 e3
    refine ⟨u',r',?_⟩
    rcases q with q | ⟨k,c',e,z'⟩
    ·exact .inl q
    ·refine .inr ⟨k,c',e,z'.sameBut hs ?_⟩
     rintro rfl
     exact hj (Me hN e1 (I.ok.inj _ _ _ e hc ▸ hi))
  ·by_cases hcc:c'=c
   ·subst hcc; exact ⟨_,hc'⟩
   ·obtain ⟨w2,z2⟩:=I.cell y c' e
    exact ⟨w2,z2.sameBut hs hcc⟩
  ·obtain ⟨e,n,ne,nf,d⟩:=I.pin p hp
   refine ⟨(hs.2 p.1 ?_).trans e,n,ne,nf,d⟩
   intro q
   rw [q,hoc] at e
   have q':oc=p.2:=Option.some.inj e
   exact d w' (by rw [<- q']; exact hocd)
theorem HZ {M:Model} {A:Around} {E:Value->Shared->Prop} {i:Nat} {x:Str} {v:V} {u:Value} {Q:Unit->Shared->Prop} (I:Inv X pins σ H s) (hN:X.N.Nodup) (hi:X.N[i]?=some x) (hx:DC X.env.scope x) (r:AX v u)
  (h:∀ s',Inv X pins (σ.set i (some v)) H s'->Q () s') (hf:X.fn x=true\/X.env.scope.names.lookup x=some .local:=by first | exact .inl rfl | exact .inr rfl | assumption):wpAny M A (storeName X.env x u) Q E s:=
 J1 I hN hi hx r (λs' I' _=>h s' I') hf
theorem Inv.call' {s':Shared} {ch:List Addr} (I:Inv X pins σ H s) (ho:s'.os=s.os) (u:Un (A3 X.stack) ch H H' s.heap s'.heap) (hok:Bn X.prog X.w H' s'.heap) (hg:AllBare s'.gens)
  (hch:∀ b∈ch,(b∈X.ex\/X.s₀.heap.objs.size<=b)/\b≠X.env.locals/\(∀ x c,X.env.cells.lookup x=some c->c≠b)/\∀ p∈X.pn++pins,p.1≠b):Inv X pins σ H' s':=by
 obtain ⟨h',g',d',t',o'⟩:=s'
 have e:o'=s.os:=ho
 subst e
 exact I.call (g':=g') (t':=t') (d':=d') u hok hg hch
end
abbrev XK:=Value->Option Addr->Hp->Prop
abbrev St:=List (Option V)
abbrev VK:=V->Hp->Prop
abbrev TE:=St->Hp->VK->Prop
abbrev TT:=St->Hp->(Bool->Hp->Prop)->Prop
abbrev TA:=St->Hp->(List V->Hp->Prop)->Prop
structure Fj where
 nx:St->Hp->Prop
 rt:VK
 bk:St->Hp->Prop:=λ_ _=>False
 ct:St->Hp->Prop:=λ_ _=>False
abbrev TS:=Fj->St->Hp->Prop
def EP (X:Cx) (pins:List (Addr×Obj)) (σ:St) (Q:VK) (u:Value) (s':Shared):Prop:=∃ v H',Inv X pins σ H' s'/\AX v u/\Q v H'
def TP (X:Cx) (pins:List (Addr×Obj)) (σ:St) (Q:Bool->Hp->Prop) (b:Bool) (s':Shared):Prop:=∃ H',Inv X pins σ H' s'/\Q b H'
def AP (X:Cx) (pins:List (Addr×Obj)) (σ:St) (Q:List V->Hp->Prop) (us:List Value) (s':Shared):Prop:=∃ vs H',Inv X pins σ H' s'/\Ay vs us/\Q vs H'
def SP (X:Cx) (pins:List (Addr×Obj)) (D:Fj) (f:Flow) (s':Shared):Prop:=
 match f with
 | .next=>∃ σ' H',Inv X pins σ' H' s'/\D.nx σ' H'
 | .brk=>∃ σ' H',Inv X pins σ' H' s'/\D.bk σ' H'
 | .cont=>∃ σ' H',Inv X pins σ' H' s'/\D.ct σ' H'
 | .ret u=>∃ v σ' H',Inv X pins σ' H' s'/\AX v u/\D.rt v H'
def PE (X:Cx) (e:Expr) (t:TE):Prop:=
 ∀ (pins:List (Addr×Obj)) (s:Shared) (σ:St) (H:Hp) (Q:VK),Inv X pins σ H s->t σ H Q->wpAny (model X.prog X.w) X.A (eval e X.env) (EP X pins σ Q) X.xe s
def PT (X:Cx) (e:Expr) (t:TT):Prop:=
 ∀ (pins:List (Addr×Obj)) (s:Shared) (σ:St) (H:Hp) (Q:Bool->Hp->Prop),Inv X pins σ H s->t σ H Q->wpAny (model X.prog X.w) X.A (isTrue e X.env (eval e X.env)) (TP X pins σ Q) X.xe s
def PW (X:Cx) (e:Expr) (t:TT):Prop:=
 ∀ (whole:Sem Value) (pins:List (Addr×Obj)) (s:Shared) (σ:St) (H:Hp) (Q:Bool->Hp->Prop),Inv X pins σ H s->t σ H Q->wpAny (model X.prog X.w) X.A (isTrue e X.env whole) (TP X pins σ Q) X.xe s
theorem PW.pt {X:Cx} {e:Expr} {t:TT} (h:PW X e t):PT X e t:=h _
def PA (X:Cx) (es:List Expr) (t:TA):Prop:=
 ∀ (pos:Pos) (pins:List (Addr×Obj)) (s:Shared) (σ:St) (H:Hp) (Q:List V->Hp->Prop),Inv X pins σ H s->t σ H Q->wpAny (model X.prog X.w) X.A (spliced (backTo pos (starEach es X.env))) (AP X pins σ Q) X.xe s
def PS (X:Cx) (st:Stmt) (t:TS):Prop:=
 ∀ (pins:List (Addr×Obj)) (s:Shared) (σ:St) (H:Hp) (D:Fj),Inv X pins σ H s->t D σ H->wpAny (model X.prog X.w) X.A (exec st X.env) (SP X pins D) X.xe s
def PSs (X:Cx) (st:List Stmt) (t:TS):Prop:=
 ∀ (pins:List (Addr×Obj)) (s:Shared) (σ:St) (H:Hp) (D:Fj),Inv X pins σ H s->t D σ H->wpAny (model X.prog X.w) X.A (execs st X.env) (SP X pins D) X.xe s
theorem Aq {α:Type} {t:Sem α} {Q Q':α->Shared->Prop} {M:Model} {A:Around} {E:Value->Shared->Prop} {s:Shared} (h:wpAny M A t Q E s) (hQ:∀ a s,Q a s->Q' a s):wpAny M A t Q' E s:=wpAny_mono h hQ λ_ _ x=>x
end L2
namespace L2
open PySem PySem.Spec PyProof.Rows
section
variable {X:Cx}
def S9 (i:Nat):TE:=λσ H Q=>∃ v,σ[i]?=some (some v)/\Q v H
def tC (v:V):TE:=λ_ H Q=>Q v H
theorem L6 {i:Nat} {x:Str} {pos:Pos} (hN:X.N[i]?=some x) (hv:C7 X.env.scope x) (hd:(x==("__debug__" : Str))=false:=by decide) (hcd:(x==("__classdict__" : Str))=false:=by decide):PE X (.Name x pos) (S9 i):=by
 intro pins s σ H Q I h
 obtain ⟨v,e,h⟩:=h
 obtain ⟨m,hn,hl⟩:=I.loc
 obtain ⟨u,r,l⟩:=hl i x v hN e hv
 have fin:EP X pins σ Q u s:=⟨v,H,I,r,h⟩
 rcases l with ⟨hk,hm⟩ | ⟨hk,c,hc,hcell⟩
 ·exact wpAny_Name (wpAny_loadName_local I.ok.kind hk hn hm fin) hd
 ·rcases hk with hk | hk
  ·exact wpAny_Name (wpAny_loadName_cell I.ok.kind hk hc hcell fin) hd
  ·exact wpAny_Name (wpAny_loadName_free I.ok.kind hk hc hcell fin hcd) hd
theorem Wh {i j pos}:PE X (.Constant (.int i) j pos) (tC (.int i)):=λ_ _ _ H _ I h=>wpAny_Constant_int ⟨.int i,H,I.tok _,⟨_,rfl⟩,h⟩
theorem Wk {b j pos}:PE X (.Constant (.bool b) j pos) (tC (.bl b)):=λ_ _ _ H _ I h=>Constant_bool ⟨.bl b,H,I,rfl,h⟩
theorem Wc {j pos}:PE X (.Constant .none j pos) (tC .non):=λ_ _ _ H _ I h=>Constant_none ⟨.non,H,I,rfl,h⟩
theorem V9 {x j pos}:PE X (.Constant (.str x) j pos) (tC (.str x)):=λ_ _ _ H _ I h=>Calls.Constant_str ⟨.str x,H,I.tok _,⟨_,rfl⟩,h⟩
def Gl (X:Cx) (x:Str):Prop:=X.env.kindOf x=some .globalImplicit
theorem EU {E:Value->Shared->Prop} {pins:List (Addr×Obj)} {s:Shared} {σ:St} {H:Hp} {x:Str} {u:Value} {pos:Pos} {Q:Value->Shared->Prop} (I:Inv X pins σ H s) (hg:Gl X x) (hm:X.mg x=some u) (h:Q u s)
  (hd:(x==("__debug__" : Str))=false:=by decide):wpAny (model X.prog X.w) X.A (eval (.Name x pos) X.env) Q E s:=
 Calls.Name_function_global I.ok.kind hg (Calls.loadGlobal_global (by rw [I.ok.glob]; exact I.mod.glob.keeps I.bk) hm h) hd
theorem FH {E:Value->Shared->Prop} {pins:List (Addr×Obj)} {s:Shared} {σ:St} {H:Hp} {x:Str} {u:Value} {pos:Pos} {Q:Value->Shared->Prop} (I:Inv X pins σ H s) (hg:Gl X x) (hm:X.mg x=none) (hv:bootBuiltins x=some u) (h:Q u s)
  (hn:x ≠ "__name__" := by decide) (hd:(x==("__debug__" : Str))=false:=by decide):wpAny (model X.prog X.w) X.A (eval (.Name x pos) X.env) Q E s:=by
 obtain ⟨mb,h1,h2⟩:=I.mod.blt
 exact Calls.Name_function_global I.ok.kind hg (Calls.loadGlobal_builtin (by rw [I.ok.glob]; exact I.mod.glob.keeps I.bk) hm (by rw [I.ok.blt]; exact h1.keeps I.bk) ((h2 x hn).trans hv) h) hd
theorem L7 {x:Str} {v:V} {u:Value} {pos:Pos} (hg:Gl X x) (hm:X.mg x=some u) (r:AX v u) (hd:(x==("__debug__" : Str))=false:=by decide):PE X (.Name x pos) (tC v):=
 λ_ _ _ H _ I h=>EU I hg hm ⟨v,H,I,r,h⟩ hd
theorem PN {x:Str} {v:V} {u:Value} {pos:Pos} (hg:Gl X x) (hm:X.mg x=none) (hv:bootBuiltins x=some u) (r:AX v u) (hn:x ≠ "__name__" := by decide) (hd:(x==("__debug__" : Str))=false:=by decide):PE X (.Name x pos) (tC v):=
 λ_ _ _ H _ I h=>FH I hg hm hv ⟨v,H,I,r,h⟩ hn hd
variable {a b:Expr} {ta tb:TE} {pos:Pos}
variable {tA tB':TT} {rest:List Expr}
def Tl (t:TT):TT:=λσ H Q=>t σ H λc H1=>Q (!c) H1
theorem Vx (ha:PT X a tA):PW X (.BoolOp .And [a] pos) tA:=by
 intro wh pins s σ H Q I h
 refine isTrue_and (Aq (ha pins s σ H Q I h) λc s1 e=>?_)
 cases c with
 | true=>exact isTrue_and_nil e
 | false=>exact e
theorem Vw (ha:PT X a tA):PW X (.BoolOp .Or [a] pos) tA:=by
 intro wh pins s σ H Q I h
 refine isTrue_or (Aq (ha pins s σ H Q I h) λc s1 e=>?_)
 cases c with
 | false=>exact isTrue_or_nil e
 | true=>exact e
theorem VO (ha:PT X a tA):PT X (.UnaryOp .Not a pos) (Tl tA):=by
 intro pins s σ H Q I h
 exact isTrue_not (ha pins s σ H (λc H1=>Q (!c) H1) I h)
def Tk (ta:TE):TE:=λσ H Q=>ta σ H λx H1=>∃ c,x=.bl c/\Q (.bl (!c)) H1
theorem Wa {op} {t:TE} (h:PE X a t):PE X (.BoolOp op [a] pos) t:=λpins s σ H Q I hw=>BoolOp_one (h pins s σ H Q I hw)
theorem Wb (ha:PE X a ta):PE X (.UnaryOp .Not a pos) (Tk ta):=by
 intro pins s σ H Q I h
 refine UnaryOp_ (Aq (ha pins s σ H _ I h) λv s1 ⟨x,H1,I1,r1,q1⟩=>?_)
 obtain ⟨c,rfl,q1⟩:=q1
 cases r1
 exact not_of (wpAny_truthy_bool ⟨.bl (!c),H1,I1,rfl,q1⟩)
def tIf (t:TT) (ta tb:TE):TE:=λσ H Q=>t σ H λc H1=>if c=true then ta σ H1 Q else tb σ H1 Q
theorem PL {c:Expr} (hc:PT X c tA) (ha:PE X a ta) (hb:PE X b tb):PE X (.IfExp c a b pos) (tIf tA ta tb):=by
 intro pins s σ H Q I h
 refine wpAny_IfExp (Aq (hc pins s σ H _ I h) λd s1 ⟨H1,I1,q1⟩=>?_)
 cases d with
 | true=>exact ha pins s1 σ H1 Q I1 q1
 | false=>exact hb pins s1 σ H1 Q I1 q1
end
end L2
namespace L2
open PySem PySem.Spec PyProof.Rows
def A8 (K:PySem.W.Frag) (H:Hp) (a:Addr) (xs:List V):Prop:=
 Rd H a (.lst xs) \/
  ∃ (o:Obj) (its:Array Value) (n:Nat),K.lookup a=some o/\o.cls=.type "list" /\ o.dict=none/\o.data=.seq its n/\its.size<=sizeLine/\Ay xs its.toList
def Bc (K:PySem.W.Frag) (H:Hp) (a:Addr) (xs:List V):Prop:=
 Rd H a (.tup xs) \/
  ∃ (o:Obj) (its:Array Value) (n:Nat),K.lookup a=some o/\o.cls=.type "tuple" /\ o.dict=none/\o.data=.seq its n/\its.size<=sizeLine/\Ay xs its.toList
def absV:Value->Option V
 | .none=>some .non
 | .bool b=>some (.bl b)
 | .int i _=>some (.int i)
 | .str x _=>some (.str x)
 | .bytes b _=>some (.byt b)
 | .float b _=>some (.flt b)
 | .ref a=>some (.ref a)
 | .type n=>some (.ty n)
 | _=>none
theorem AX.abs {x:V} {u:Value} (r:AX x u):absV u=some x:=by
 cases x with
 | non=>cases r; rfl
 | bl _=>cases r; rfl
 | int _=>obtain ⟨t,rfl⟩:=r; rfl
 | str _=>obtain ⟨t,rfl⟩:=r; rfl
 | byt _=>obtain ⟨t,rfl⟩:=r; rfl
 | flt _=>obtain ⟨t,rfl⟩:=r; rfl
 | ref _=>cases r; rfl
 | ty _=>cases r; rfl
theorem AX.inj {x y:V} {u:Value} (r:AX x u) (q:AX y u):x=y:=Option.some.inj (r.abs.symm.trans q.abs)
theorem Ay.inj:∀ {xs ys:List V} {us:List Value},Ay xs us->Ay ys us->xs=ys
 | _,_,_,.nil,.nil=>rfl
 | _,_,_,.cons r t,.cons r' t'=>by rw [r.inj r',Ay.inj t t']
section
variable {X:Cx} {pins:List (Addr×Obj)} {σ:St} {H:Hp} {s:Shared} {a:Addr} {xs ys:List V}
theorem A8.of {K:PySem.W.Frag} (h:H a=some (.lst xs)):A8 K H a xs:=.inl (.inl h)
theorem Bc.of {K:PySem.W.Frag} (h:H a=some (.tup xs)):Bc K H a xs:=.inl (.inl h)
theorem Inv.list (I:Inv X pins σ H s) (h:A8 X.K H a xs):∃ its:List Value,Ay xs its/\PlainL s.heap a its.toArray/\xs.length<=sizeLine:=by
 rcases h with h | ⟨o,its,n,hk,hc,hd,hs,hz,r⟩
 ·obtain ⟨z,its,n,r,e⟩:=h.ok I.hok
  exact ⟨its,r,⟨_,n,e,rfl,rfl,rfl⟩,z⟩
 ·refine ⟨its.toList,r,⟨o,n,I.kIn a o hk,hc,hd,by simpa using hs⟩,?_⟩
  have e:=r.length
  simp only [Array.length_toList] at e
  omega
theorem Inv.tuple (I:Inv X pins σ H s) (h:Bc X.K H a xs):∃ its:List Value,Ay xs its/\IsTup s.heap a its.toArray/\xs.length<=sizeLine:=by
 rcases h with h | ⟨o,its,n,hk,hc,_,hs,hz,r⟩
 ·obtain ⟨z,its,r,p⟩:=h.ok I.hok
  exact ⟨its,r,p.t,z⟩
 ·refine ⟨its.toList,r,⟨o,I.kIn a o hk,hc,n,by simpa using hs⟩,?_⟩
  have e:=r.length
  simp only [Array.length_toList] at e
  omega
theorem Inv.tupN (I:Inv X pins σ H s) (h:Bc X.K H a xs):∃ its:List Value,Ay xs its/\DY s.heap a its.toArray/\xs.length<=sizeLine:=by
 rcases h with h | ⟨o,its,n,hk,hc,hd,hs,hz,r⟩
 ·obtain ⟨z,its,r,p⟩:=h.ok I.hok
  exact ⟨its,r,p,z⟩
 ·refine ⟨its.toList,r,⟨o,I.kIn a o hk,hd,hc,n,by simpa using hs⟩,?_⟩
  have e:=r.length
  simp only [Array.length_toList] at e
  omega
theorem Inv.list_inj (I:Inv X pins σ H s) (h:A8 X.K H a xs) (h':A8 X.K H a ys):xs=ys:=by
 obtain ⟨its,r,⟨o,n,e,_,_,d⟩,_⟩:=I.list h
 obtain ⟨its',r',⟨o',n',e',_,_,d'⟩,_⟩:=I.list h'
 rw [e] at e'; cases e'
 rw [d] at d'
 injection d' with d1 _
 have:its=its':=by simpa using congrArg Array.toList d1
 subst this
 exact r.inj r'
theorem Inv.tuple_inj (I:Inv X pins σ H s) (h:Bc X.K H a xs) (h':Bc X.K H a ys):xs=ys:=by
 obtain ⟨its,r,⟨o,e,_,n,d⟩,_⟩:=I.tuple h
 obtain ⟨its',r',⟨o',e',_,n',d'⟩,_⟩:=I.tuple h'
 rw [e] at e'; cases e'
 rw [d] at d'
 injection d' with d1 _
 have:its=its':=by simpa using congrArg Array.toList d1
 subst this
 exact r.inj r'
end
abbrev Cx.wish (X:Cx) (E:Value->Shared->Prop):Cx:={ X with xe:=E }
abbrev Cx.nox (X:Cx):Cx:=X.wish λ_ _=>False
theorem Cx.Ok.wish {X:Cx} (ok:X.Ok) (E:Value->Shared->Prop):(X.wish E).Ok:=
 ⟨ok.mod,ok.kind,ok.glob,ok.blt,ok.above,ok.inj,ok.has,ok.cab,ok.hd,ok.frames,ok.stk,ok.exf,ok.bs,ok.bsz,ok.noex,ok.exfs,ok.funs,ok.frf⟩
theorem Cx.Ok.unwish {X:Cx} {E:Value->Shared->Prop} (ok:(X.wish E).Ok):X.Ok:=
 ⟨ok.mod,ok.kind,ok.glob,ok.blt,ok.above,ok.inj,ok.has,ok.cab,ok.hd,ok.frames,ok.stk,ok.exf,ok.bs,ok.bsz,ok.noex,ok.exfs,ok.funs,ok.frf⟩
section
variable {X:Cx} {pins:List (Addr×Obj)} {σ:St} {H:Hp} {s:Shared} {E:Value->Shared->Prop}
theorem Inv.wish (I:Inv X pins σ H s) (E:Value->Shared->Prop):Inv (X.wish E) pins σ H s:=⟨I.ok.wish E,I.os,I.bare,I.base,I.loc,I.cell,I.free,I.freeC,I.pin,I.hok,I.len⟩
theorem Inv.unwish (I:Inv (X.wish E) pins σ H s):Inv X pins σ H s:=⟨I.ok.unwish,I.os,I.bare,I.base,I.loc,I.cell,I.free,I.freeC,I.pin,I.hok,I.len⟩
theorem SP.unwish {D:Fj} {f:Flow} {s':Shared} (h:SP (X.wish E) pins D f s'):SP X pins D f s':=by
 cases f with
 | next=>obtain ⟨σ',H',I,q⟩:=h; exact ⟨σ',H',I.unwish,q⟩
 | brk=>obtain ⟨σ',H',I,q⟩:=h; exact ⟨σ',H',I.unwish,q⟩
 | cont=>obtain ⟨σ',H',I,q⟩:=h; exact ⟨σ',H',I.unwish,q⟩
 | ret u=>obtain ⟨v,σ',H',I,r,q⟩:=h; exact ⟨v,σ',H',I.unwish,r,q⟩
theorem PSs.nox {st:List Stmt} {t:TS} (h:PSs X.nox st t):PSs X st t:=λpins s σ H D I hw=>
 wpAny_mono (h pins s σ H D (I.wish _) hw) (λ_ _ q=>q.unwish) λ_ _ z=>False.elim z
end
section
variable {X:Cx} {st:Stmt} {rest:List Stmt} {t u:TS} {e:Expr} {te:TE} {pos:Pos}
def Tp:TS:=λD σ H=>D.nx σ H
def Tf (t u:TS):TS:=λD σ H=>t { D with nx:=u D } σ H
theorem LU:PSs X [] Tp:=λ_ _ σ H _ I h=>wpAny_execs_nil ⟨σ,H,I,h⟩
theorem LW (h1:PS X st t) (h2:PSs X rest u):PSs X (st::rest) (Tf t u):=by
 intro pins s σ H D I h
 refine wpAny_execs_cons (Aq (h1 pins s σ H { D with nx:=u D } I h) λf s1 q=>?_)
 cases f with
 | next=>
  obtain ⟨σ',H',I',q⟩:=q
  exact h2 pins s1 σ' H' D I' q
 | ret v=>exact q
 | brk=>exact q
 | cont=>exact q
theorem Inv.quiet {pins:List (Addr×Obj)} {σ:St} {H:Hp} {s:Shared} (I:Inv X pins σ H s):interactive X.env=false:=by simp [interactive,I.ok.kind]
def Tx (te:TE):TS:=λD σ H=>te σ H λ_ H1=>D.nx σ H1
theorem IG (he:PE X e te) (hs:swapsWith e none pos.line X.env=pure false:=by rfl):PS X (.Expr e pos) (Tx te):=by
 intro pins s σ H D I h
 exact wpAny_Expr_any (Aq (he pins s σ H _ I h) λv s1 ⟨x,H1,I1,r1,q1⟩=>⟨σ,H1,I1,q1⟩) I.quiet hs
def Th (te:TE):TS:=λD σ H=>te σ H D.rt
theorem VP (he:PE X e te):PS X (.Return (some e) pos) (Th te):=by
 intro pins s σ H D I h
 exact wpAny_Return_some (Aq (he pins s σ H _ I h) λv s1 ⟨x,H1,I1,r1,q1⟩=>⟨x,σ,H1,I1,r1,q1⟩)
def Ts (c:TT) (t u:TS):TS:=λD σ H=>c σ H λb H1=>if b=true then t D σ H1 else u D σ H1
theorem Py {c:Expr} {a b:List Stmt} {tc:TT} (hc:PT X c tc) (ha:PSs X a t) (hb:PSs X b u):PS X (.If c a b pos) (Ts tc t u):=by
 intro pins s σ H D I h
 refine wpAny_If (Aq (hc pins s σ H _ I h) λd s1 ⟨H1,I1,q1⟩=>?_)
 cases d with
 | true=>exact ha pins s1 σ H1 D I1 q1
 | false=>exact hb pins s1 σ H1 D I1 q1
end
abbrev TG:=V->St->Hp->(St->Hp->Prop)->Prop
abbrev FO:=List V->St->Hp->(St->Hp->Prop)->Prop
def PG (X:Cx) (target:Expr) (t:TG):Prop:=
 ∀ (pins:List (Addr×Obj)) (s:Shared) (σ:St) (H:Hp) (v:V) (u:Value) (Q:St->Hp->Prop),Inv X pins σ H s->AX v u->t v σ H Q->
  wpAny (model X.prog X.w) X.A (assign target X.env u) (λ_ s'=>∃ σ' H',Inv X pins σ' H' s'/\Q σ' H') X.xe s
def HF (X:Cx) (ts:List Expr) (t:FO):Prop:=
 ∀ (pins:List (Addr×Obj)) (s:Shared) (σ:St) (H:Hp) (vs:List V) (us:List Value) (Q:St->Hp->Prop),Inv X pins σ H s->Ay vs us->t vs σ H Q->
  wpAny (model X.prog X.w) X.A (assignInOrder ((assignEach ts X.env).map (·.2)) us) (λ_ s'=>∃ σ' H',Inv X pins σ' H' s'/\Q σ' H') X.xe s
abbrev Nd:=V->V->V->Hp->(Hp->Prop)->Prop
def RS (X:Cx) (t:Nd):Prop:=
 ∀ (pins:List (Addr×Obj)) (s:Shared) (σ:St) (H:Hp) (o i v:V) (ov iv u:Value) (Q:Hp->Prop),Inv X pins σ H s->AX o ov->AX i iv->AX v u->t o i v H Q->
  wpAny (model X.prog X.w) X.A (setItem ov iv u) (λ_ s'=>∃ H',Inv X pins σ H' s'/\Q H') X.xe s
section
variable {X:Cx} {pos:Pos}
def QH (i:Nat):TG:=λv σ H Q=>Q (σ.set i (some v)) H
theorem V6 {i:Nat} {x:Str} (hN:X.N.Nodup) (hi:X.N[i]?=some x) (hx:DC X.env.scope x) (hf:X.fn x=true\/X.env.scope.names.lookup x=some .local:=by first | exact .inl rfl | exact .inr rfl | assumption):PG X (.Name x pos) (QH i):=by
 intro pins s σ H v u Q I r h
 exact wpAny_assign_Name (HZ I hN hi hx r (λs' I'=>⟨_,H,I',h⟩) hf)
def Zm:FO:=λvs σ H Q=>vs=[]/\Q σ H
def Zn (t:TG) (u:FO):FO:=λvs σ H Q=>∃ v r,vs=v::r/\t v σ H λσ' H'=>u r σ' H' Q
theorem V2:HF X [] Zm:=by
 intro pins s σ H vs us Q I r h
 obtain ⟨e,h⟩:=h
 subst e
 cases r
 exact assignInOrder_nil ⟨σ,H,I,h⟩
theorem V3 {e:Expr} {es:List Expr} {t:TG} {u:FO} (h1:PG X e t) (h2:HF X es u)
  (hs:(assignEach (e::es) X.env).map (·.2)=assign e X.env::(assignEach es X.env).map (·.2):=by rfl):HF X (e::es) (Zn t u):=by
 intro pins s σ H vs us Q I r h
 obtain ⟨v,vr,e1,h⟩:=h
 subst e1
 cases r with
 | cons r rr=>
  rw [hs]
  refine assignInOrder_cons (Aq (h1 pins s σ H _ _ _ I r h) λ_ s1 ⟨σ1,H1,I1,q1⟩=>?_)
  exact h2 pins s1 σ1 H1 _ _ Q I1 rr q1
def Zk (K:PySem.W.Frag) (n:Nat) (t:FO):TG:=λv σ H Q=>∃ a xs,v=.ref a/\Bc K H a xs/\xs.length=n/\t xs σ H Q
theorem V4 {es:List Expr} {k:Nat} {t:FO} {n:Nat} (hc:X.calm=true) (h:HF X es t)
  (hn:(assignEach es X.env).length=n:=by rfl) (hst:(assignEach es X.env).findIdx? (·.1)=none:=by rfl):PG X (.Tuple es k pos) (Zk X.K n t):=by
 intro pins s σ H v u Q I r hw
 obtain ⟨a,xs,e1,hq,hl,hw⟩:=hw
 subst e1
 cases r
 obtain ⟨its,rv,ht,hz⟩:=I.tuple hq
 refine assign_Tuple_tuple (I.ok.hd hc) ht (by simp [hn,<- hl,rv.length]) hst λh' hx=>?_
 have I1:Inv X pins σ H { s with heap:=h' }:=I.kept (t':=s.toks) λb o e=>hx b o (Nat.ne_of_lt (Heap.lt_size e)) e
 exact h pins _ σ H xs _ Q I1 (by simpa using rv) hw
def Zl (to ti:TE) (t:Nd):TG:=λv σ H Q=>to σ H λo H1=>ti σ H1 λi H2=>t o i v H2 λH3=>Q σ H3
theorem V5 {o i:Expr} {to ti:TE} {t:Nd} (ho:PE X o to) (hi:PE X i ti) (hs:RS X t)
  (ha:∀ v,assign (.Subscript o i pos) X.env v=(do
   let ov <- holding [v] (eval o X.env)
   let iv <- holding [v,ov] (eval i X.env)
   standAt pos
   holding [v,ov,iv] (setItem ov iv v)
   release [v,ov,iv] []):=by intro _; rfl):PG X (.Subscript o i pos) (Zl to ti t):=by
 intro pins s σ H v u Q I r h
 rw [ha]
 refine wpAny_bind (wpAny_holding (Aq (ho pins s σ H _ I h) λov s1 ⟨x,H1,I1,r1,q1⟩=>?_))
 refine wpAny_bind (wpAny_holding (Aq (hi pins s1 σ H1 _ I1 q1) λiv s2 ⟨y,H2,I2,r2,q2⟩=>?_))
 refine wpAny_bind (wpAny_standAt (wpAny_bind (wpAny_holding (Aq (hs pins s2 σ H2 x y v ov iv u _ I2 r1 r2 r q2) λ_ s3 ⟨H3,I3,q3⟩=>?_))))
 exact wpAny_release ⟨σ,H3,I3,q3⟩
def N4 (te:TE) (g:TG):TS:=λD σ H=>te σ H λx H1=>g x σ H1 D.nx
theorem LX {tg e:Expr} {te:TE} {g:TG} (he:PE X e te) (hg:PG X tg g) (hs:swapsWithSole [tg] e pos.line X.env=pure false:=by rfl) (hw:swappedStores [tg] e X.env=pure none:=by rfl)
  (h1:(assignEach [tg] X.env).map (·.2)=[assign tg X.env]:=by rfl):PS X (.Assign [tg] e pos) (N4 te g):=by
 intro pins s σ H D I h
 refine wpAny_Assign_stores (Aq (he pins s σ H _ I h) λv s1 ⟨x,H1,I1,r1,q1⟩=>?_) hs hw
 rw [h1]
 exact Aq (hg pins s1 σ H1 x v _ I1 r1 q1) λ_ s2 q=>q
theorem Px {i:Nat} {x:Str} {e:Expr} {te:TE} {pos':Pos} (hN:X.N.Nodup) (hi:X.N[i]?=some x) (hx:DC X.env.scope x) (he:PE X e te) (hs:swapsWith e (some (.Name x pos')) pos.line X.env=pure false:=by rfl) (hf:X.fn x=true\/X.env.scope.names.lookup x=some .local:=by first | exact .inl rfl | exact .inr rfl | assumption) :
  PS X (.Assign [.Name x pos'] e pos) (N4 te (QH i)):=by
 intro pins s σ H D I h
 refine wpAny_Assign_Name (Aq (he pins s σ H _ I h) λv s1 ⟨y,H1,I1,r1,q1⟩=>?_) hs
 exact HZ I1 hN hi hx r1 (λs2 I2=>⟨_,H1,I2,q1⟩) hf
end
section
variable {X:Cx} {pos:Pos}
end
structure It where
 go:Nat->Hp->Prop
 yld:Nat->Hp->V->Hp->Prop
 stop:Nat->Hp->Prop
def B2 (X:Cx) (pins:List (Addr×Obj)) (H:Hp) (b:Addr):Prop:=
 H b=none/\b≠X.env.locals/\b∉X.fs/\(b∈X.ex\/X.s₀.heap.objs.size<=b)/\(∀ x c,X.env.cells.lookup x=some c->c≠b)/\∀ p∈X.pn++pins,p.1≠b
theorem Inv.fpOk {X:Cx} {pins:List (Addr×Obj)} {σ:St} {H H':Hp} {s:Shared} {b:Addr} (I:Inv X pins σ H s) (hb:s.heap.objs.size<=b) (hn:H' b=none):B2 X pins H' b:=by
 refine ⟨hn,Nat.ne_of_gt (Nat.lt_of_lt_of_le I.lt hb),I.nofs hb,.inr (Nat.le_trans I.sz hb),λx c e z=>?_,λp hp z=>?_⟩
 ·obtain ⟨v,q⟩:=I.cell x c e
  exact absurd (Nat.lt_of_lt_of_le q.lt (by rw [z]; exact hb)) (Nat.lt_irrefl _)
 ·exact absurd (Nat.lt_of_lt_of_le (Heap.lt_size (I.pin p hp).1) (by rw [z]; exact hb)) (Nat.lt_irrefl _)
structure Fb (P:Program) (w:World) (K:PySem.W.Frag) (tg:Expr) (J:It) (fp:List Addr) (it:Addr) (tn:Nat->Heap->Prop):Prop where
 mem:it∈fp
 obj:∀ i h,tn i h->∀ b∈fp,∃ o,h.get? b=some o/\∀ v,o.data≠.cell v
 keep:∀ i h h',tn i h->(∀ b∈fp,∀ o,h.get? b=some o->h'.get? b=some o)->tn i h'
 item:∀ (X:Cx),X.prog=P->X.w=w->X.K=K->X.calm=true->∀ (i:Nat) (pins:List (Addr×Obj)) (s:Shared) (σ:St) (H:Hp) (E:Value->Shared->Prop),Inv X pins σ H s->(∀ b∈fp,B2 X pins H b)->tn i s.heap->J.go i H->
  wpAny (model P w) X.A (pyNext (.ref it)) (λr s1=>∃ u,r=some u /\
   wpAny (model P w) X.A (letOwnedTupleGo tg (.ref it) u) (λ_ s2=>∃ x H',Inv X pins σ H' s2/\AX x u/\J.yld i H x H'/\tn (i+1) s2.heap/\∀ b∈fp,H' b=none) E s1) E s
 done:∀ (X:Cx),X.prog=P->X.w=w->X.K=K->X.calm=true->∀ (i:Nat) (pins:List (Addr×Obj)) (s:Shared) (σ:St) (H:Hp) (E:Value->Shared->Prop),Inv X pins σ H s->(∀ b∈fp,B2 X pins H b)->tn i s.heap->J.stop i H->
  wpAny (model P w) X.A (pyNext (.ref it)) (λr s1=>r=none/\Inv X pins σ H s1) E s
 self:∀ (A:Around) (i:Nat) (s:Shared) (Q:Value->Shared->Prop) (E:Value->Shared->Prop),tn i s.heap->Q (.ref it) s->wpAny (model P w) A (pyIter (.ref it)) Q E s
abbrev TI:=St->Hp->(It->Hp->Prop)->Prop
def Ni (X:Cx) (pins:List (Addr×Obj)) (σ:St) (tg:Expr) (R:It->Hp->Prop) (itv:Value) (s2:Shared):Prop:=
 ∃ (it:Addr) (fp:List Addr) (tn:Nat->Heap->Prop) (J:It) (H':Hp),itv=.ref it/\Inv X pins σ H' s2/\Fb X.prog X.w X.K tg J fp it tn/\tn 0 s2.heap/\(∀ b∈fp,B2 X pins H' b)/\R J H'
def PI (X:Cx) (tg iter:Expr) (wi:TI):Prop:=
 ∀ (pins:List (Addr×Obj)) (s:Shared) (σ:St) (H:Hp) (R:It->Hp->Prop),Inv X pins σ H s->wi σ H R->
  wpAny (model X.prog X.w) X.A (eval iter X.env) (λv s1=>wpAny (model X.prog X.w) X.A (pyIter v) (Ni X pins σ tg R) X.xe s1) X.xe s
theorem MA {M:Model} {A:Around} {E:Value->Shared->Prop} {s:Shared} {tg:Expr} {it:Addr} {u:Value} {o:Obj} {n:String} {vs:Array Value} {Q:Unit->Shared->Prop} (ho:s.heap.get? it=some o) (hc:o.cls=.type n) (hd:o.data=.fields vs)
    (hn:["enumerate","zip","dict_itemiterator","dict_reverseitemiterator","odict_iterator","itertools.zip_longest","itertools.pairwise"].contains n=false) (hQ:Q () s):wpAny M A (letOwnedTupleGo tg (.ref it) u) Q E s:=by
  unfold letOwnedTupleGo
  cases tg <;> first
    | exact wpAny_pure hQ
    | (cases u <;> first
        | exact wpAny_pure hQ
        | (refine wpAny_bind (wpAny_load ho ?_)
           rw [hc,hd]
           show wpAny M A (if (["enumerate","zip","dict_itemiterator","dict_reverseitemiterator","odict_iterator","itertools.zip_longest","itertools.pairwise"].contains n&&vs[0]?==some (rawInt _))=true then _ else _) Q E s
           rw [if_neg (by intro h; rw [hn,Bool.false_and] at h; cases h)]
           exact wpAny_pure hQ))
def Np (K:PySem.W.Frag) (a:Addr):It:=
 ⟨λi H=>∃ xs x,A8 K H a xs/\xs[i]?=some x,λi H x H'=>H'=H/\∀ xs,A8 K H a xs->xs[i]?=some x,λi H=>∃ xs,A8 K H a xs/\xs.length<=i⟩
def Nn (K:PySem.W.Frag) (a:Addr):It:=
 ⟨λi H=>∃ xs x,Bc K H a xs/\xs[i]?=some x,λi H x H'=>H'=H/\∀ xs,Bc K H a xs->xs[i]?=some x,λi H=>∃ xs,Bc K H a xs/\xs.length<=i⟩
def JC (lo:Int) (n:Nat):It:=⟨λi _=>i<n,λi H x H'=>H'=H/\x=.int (lo+i),λi _=>n<=i⟩
theorem SU {P:Program} {w:World} {K:PySem.W.Frag} {tg:Expr} (a it:Addr):Fb P w K tg (Np K a) [it] it (λi h=>h.IsListIter it a i) where
 mem:=by simp
 obj:=λi h st b hb=>by
  have e:b=it:=by simpa using hb
  subst e
  obtain ⟨o,e,c,d⟩:=st
  exact ⟨o,e,λv z=>by rw [d] at z; cases z⟩
 keep:=λi h h' st k=>st.at λo e=>k it (by simp) o e
 item:=by
  intro X hP hw hK hc i pins s σ H E I hf st hg
  subst hP hw hK
  obtain ⟨xs,x,hq,hx⟩:=hg
  obtain ⟨its,rv,p,hz⟩:=I.list hq
  obtain ⟨u,hu,ru⟩:=rv.get hx
  obtain ⟨f0,f1,f2,f3,f4,f5⟩:=hf it (by simp)
  refine wpAny_pyNext_list_item st p.isList (x:=u) (by simpa using hu) λh' st' sb=>?_
  have I1:Inv X pins σ H { s with heap:=h' }:=I.turned (t':=s.toks) (λb o hb e=>(sb.2 b hb).trans e) f0 f1 f3 f4 f5
  obtain ⟨o,e,c,d⟩:=id st'
  exact ⟨u,rfl,MA (s:={ s with heap:=h' }) e c d wE ⟨x,H,I1,ru,⟨rfl,λys hy=>by rw [I.list_inj hy hq]; exact hx⟩,st',λb hb=>(hf b hb).1⟩⟩
 done:=by
  intro X hP hw hK hc i pins s σ H E I hf st hg
  subst hP hw hK
  obtain ⟨xs,hq,hx⟩:=hg
  obtain ⟨its,rv,p,hz⟩:=I.list hq
  obtain ⟨f0,f1,f2,f3,f4,f5⟩:=hf it (by simp)
  have hl:=rv.length
  exact wpAny_pyNext_list_end (I.ok.hd hc) st p.isList (by simp; omega) λh' eb=>⟨rfl,I.turned (t':=s.toks) (λb o hb e=>eb b o hb e) f0 f1 f3 f4 f5⟩
 self:=λ_ _ _ _ _ st h=>wpAny_pyIter_listiter st h
theorem SS {P:Program} {w:World} {K:PySem.W.Frag} {tg:Expr} (a it:Addr):Fb P w K tg (Nn K a) [it] it (λi h=>h.IsTupleIter it a i) where
 mem:=by simp
 obj:=λi h st b hb=>by
  have e:b=it:=by simpa using hb
  subst e
  obtain ⟨o,e,c,d⟩:=st
  exact ⟨o,e,λv z=>by rw [d] at z; cases z⟩
 keep:=λi h h' st k=>st.at λo e=>k it (by simp) o e
 item:=by
  intro X hP hw hK hc i pins s σ H E I hf st hg
  subst hP hw hK
  obtain ⟨xs,x,hq,hx⟩:=hg
  obtain ⟨its,rv,p,hz⟩:=I.tuple hq
  obtain ⟨u,hu,ru⟩:=rv.get hx
  obtain ⟨f0,f1,f2,f3,f4,f5⟩:=hf it (by simp)
  refine wpAny_pyNext_tuple_item st (show s.heap.IsTuple a its.toArray from p) (x:=u) (by simpa using hu) λh' st' sb=>?_
  have I1:Inv X pins σ H { s with heap:=h' }:=I.turned (t':=s.toks) (λb o hb e=>(sb.2 b hb).trans e) f0 f1 f3 f4 f5
  obtain ⟨o,e,c,d⟩:=id st'
  exact ⟨u,rfl,MA (s:={ s with heap:=h' }) e c d wE ⟨x,H,I1,ru,⟨rfl,λys hy=>by rw [I.tuple_inj hy hq]; exact hx⟩,st',λb hb=>(hf b hb).1⟩⟩
 done:=by
  intro X hP hw hK hc i pins s σ H E I hf st hg
  subst hP hw hK
  obtain ⟨xs,hq,hx⟩:=hg
  obtain ⟨its,rv,p,hz⟩:=I.tuple hq
  obtain ⟨f0,f1,f2,f3,f4,f5⟩:=hf it (by simp)
  have hl:=rv.length
  exact wpAny_pyNext_tuple_end (I.ok.hd hc) st (show s.heap.IsTuple a its.toArray from p) (by simp; omega) λh' eb=>⟨rfl,I.turned (t':=s.toks) (λb o hb e=>eb b o hb e) f0 f1 f3 f4 f5⟩
 self:=λ_ _ _ _ _ st h=>wpAny_pyIter_tupleiter st h
theorem ST {P:Program} {w:World} {K:PySem.W.Frag} {tg:Expr} (it:Addr) (lo:Int) (n:Nat):Fb P w K tg (JC lo n) [it] it (λi h=>IsRangeIter h it (lo+(i:Nat)*1) ((n:Int)-(i:Nat)) 1) where
 mem:=by simp
 obj:=λi h st b hb=>by
  have e:b=it:=by simpa using hb
  subst e
  exact ⟨_,st,λv z=>by
   have z':Data.fields _=Data.cell v:=z
   cases z'⟩
 keep:=λi h h' st k=>k it (by simp) _ st
 item:=by
  intro X hP hw hK hc i pins s σ H E I hf st hg
  subst hP hw hK
  obtain ⟨f0,f1,f2,f3,f4,f5⟩:=hf it (by simp)
  have W:=Walks.range (prog:=X.prog) (w:=X.w) (I.ok.hd hc) it lo 1 n
  refine W.item i s _ _ hg st λv h' tk hv st' kk=>?_
  obtain ⟨t,rfl⟩:=hv
  have I1:Inv X pins σ H { s with heap:=h',toks:=tk }:=I.turned (λb o hb e=>kk b o (by simpa using hb) e) f0 f1 f3 f4 f5
  refine ⟨_,rfl,MA (s:={ s with heap:=h',toks:=tk }) (n := "range_iterator") st' rfl rfl wE ⟨.int (lo+i),H,I1,⟨t,?_⟩,⟨rfl,rfl⟩,st',λb hb=>(hf b hb).1⟩⟩
  rw [Int.mul_one]
 done:=by
  intro X hP hw hK hc i pins s σ H E I hf st hg
  subst hP hw hK
  obtain ⟨f0,f1,f2,f3,f4,f5⟩:=hf it (by simp)
  exact wpAny_pyNext_range_end (I.ok.hd hc) st (by have:n<=i:=hg; omega) λh' eb=>⟨rfl,I.turned (t':=s.toks) (λb o hb e=>eb b o hb e) f0 f1 f3 f4 f5⟩
 self:=λ_ _ _ _ _ st h=>wpAny_pyIter_rangeiter st h
end L2
namespace L2
open PySem PySem.Spec PyProof.Rows
section
variable {X:Cx} {tg:Expr}
def Y7 (K:PySem.W.Frag) (tl:TE):TI:=λσ H R=>tl σ H λx H1=>∃ a,x=.ref a/\(∃ xs,A8 K H1 a xs)/\R (Np K a) H1
def Y5 (K:PySem.W.Frag) (tl:TE):TI:=λσ H R=>tl σ H λx H1=>∃ a,x=.ref a/\(∃ xs,Bc K H1 a xs)/\R (Nn K a) H1
theorem PF {l:Expr} {tl:TE} (hl:PE X l tl):PI X tg l (Y7 X.K tl):=by
 intro pins s σ H R I h
 refine Aq (hl pins s σ H _ I h) λv s1 ⟨x,H1,I1,r1,q1⟩=>?_
 obtain ⟨a,e,⟨xs,hq⟩,q⟩:=q1
 subst e
 cases r1
 obtain ⟨its,rv,p,hz⟩:=I1.list hq
 refine wpAny_pyIter_list p.isList ?_
 refine ⟨s1.heap.objs.size,[s1.heap.objs.size],_,_,H1,rfl,I1.kept (t':=s1.toks) λb o e=>Heap.get?_push_of_some _ e,SU a _,⟨_,Heap.get?_push_size _ rfl,rfl,rfl⟩,λb hb=>?_,q⟩
 have e:b=s1.heap.objs.size:=by simpa using hb
 subst e
 exact I1.fpOk (Nat.le_refl _) (I1.hok.fresh (Nat.le_refl _))
theorem V0 {l:Expr} {tl:TE} (hl:PE X l tl):PI X tg l (Y5 X.K tl):=by
 intro pins s σ H R I h
 refine Aq (hl pins s σ H _ I h) λv s1 ⟨x,H1,I1,r1,q1⟩=>?_
 obtain ⟨a,e,⟨xs,hq⟩,q⟩:=q1
 subst e
 cases r1
 obtain ⟨its,rv,p,hz⟩:=I1.tuple hq
 refine wpAny_pyIter_tuple (show s1.heap.IsTuple a its.toArray from p) ?_
 refine ⟨s1.heap.objs.size,[s1.heap.objs.size],_,_,H1,rfl,I1.kept (t':=s1.toks) λb o e=>Heap.get?_push_of_some _ e,SS a _,⟨_,Heap.get?_push_size _ rfl,rfl,rfl⟩,λb hb=>?_,q⟩
 have e:b=s1.heap.objs.size:=by simpa using hb
 subst e
 exact I1.fpOk (Nat.le_refl _) (I1.hok.fresh (Nat.le_refl _))
theorem Vh {pins:List (Addr×Obj)} {σ:St} {H:Hp} {s:Shared} {R:It->Hp->Prop} {E:Value->Shared->Prop} {lo hi:Int} {t u v:Tok} {tk:Nat} (I:Inv X pins σ H s) (h1:-(2 ^ 62)<=lo) (h2:lo<2 ^ 62) (h3:-(2 ^ 62)<=hi) (h4:hi<2 ^ 62)
  (q:R (JC lo (hi-lo).toNat) H):wpAny (model X.prog X.w) X.A (pyIter (.ref s.heap.objs.size)) (Ni X pins σ tg R) E { s with heap:=s.heap.push { cls:=.type "range",data:=.fields #[.int lo t,.int hi u,.int 1 v] },toks:=tk }:=by
 refine wpAny_pyIter_range (IsRange.new ..) (small_one h1 h2 h3 h4) ?_
 have I1:Inv X pins σ H { s with heap:=s.heap.push { cls:=.type "range",data:=.fields #[.int lo t,.int hi u,.int 1 v] },toks:=tk }:=I.kept λb o e=>Heap.get?_push_of_some _ e
 refine ⟨(s.heap.push { cls:=.type "range",data:=.fields #[.int lo t,.int hi u,.int 1 v] }).objs.size,[(s.heap.push { cls:=.type "range",data:=.fields #[.int lo t,.int hi u,.int 1 v] }).objs.size],_,_,H,rfl,
  I1.kept (t':=tk) λb o e=>Heap.get?_push_of_some _ e,ST _ lo (hi-lo).toNat,?_,λb hb=>?_,q⟩
 ·have e1:lo+((0:Nat):Int)*1=lo:=by simp
  have e2:(((hi-lo).toNat:Nat):Int)-((0:Nat):Int)=Builtin.Range.rangeSize lo hi 1:=by rw [rangeSize_one]; split <;> omega
  show IsRangeIter _ _ (lo+((0:Nat):Int)*1) ((((hi-lo).toNat:Nat):Int)-((0:Nat):Int)) 1
  rw [e1,e2]
  exact Heap.get?_push_size _ rfl
 ·have e:b=(s.heap.push { cls:=.type "range",data:=.fields #[.int lo t,.int hi u,.int 1 v] }).objs.size:=by simpa using hb
  subst e
  exact I1.fpOk (Nat.le_refl _) (I1.hok.fresh (Nat.le_refl _))
def Y6 (ta:TA):TI:=λσ H R=>ta σ H λvs H1=>∃ j:Int,vs=[.int j]/\-(2 ^ 62)<=j/\j<2 ^ 62/\R (JC 0 j.toNat) H1
theorem V1 {a:Expr} {ta:TA} {p pos:Pos} (hg:Gl X "range") (hm:X.mg "range" = none) (ha:PA X [a] ta) (hs:starEach [a] X.env=[(false,eval a X.env)]:=by rfl):PI X tg (.Call (.Name "range" p) [a] [] pos) (Y6 ta):=by
 intro pins s σ H R I h
 refine Call_ (FH I hg hm boot_range (PyProof.Rows.callWith_type1 (Aq (ha pos pins s σ H _ I h) λus s1 ⟨vs,H1,I1,r1,q1⟩=>?_) hs rfl))
 obtain ⟨j,e,q1,q2,q⟩:=q1
 subst e
 cases r1 with
 | cons r rr=>
  cases rr
  obtain ⟨t,rfl⟩:=r
  exact call_range_1 (Vh I1 wF wF q1 q2 (by simpa using q))
def Tu (wi:TI) (g:TG) (tb:TS):TS:=λD σ H=>wi σ H λJ H1=>∃ W:Nat->Nat->St->Hp->Prop,(∃ m,W 0 m σ H1)/\∀ i m σ H,W i m σ H->
 (J.stop i H/\D.nx σ H)\/(J.go i H/\∃ N:St->Hp->Prop,(∀ σ' H',N σ' H'->∃ m',m'<m/\W (i+1) m' σ' H')/\∀ x H',J.yld i H x H'->g x σ H' λσ2 H2=>tb { D with nx:=N,ct:=N,bk:=D.nx } σ2 H2)
def Es (fp:List Addr) (h:Heap):List (Addr×Obj):=fp.filterMap λb=>(h.get? b).map λo=>(b,o)
theorem IU {fp:List Addr} {h:Heap} {b:Addr} {o:Obj} (hb:b∈fp) (e:h.get? b=some o):(b,o)∈Es fp h:=List.mem_filterMap.mpr ⟨b,hb,by rw [e]; rfl⟩
theorem P6 {fp:List Addr} {h:Heap} {p:Addr×Obj} (hp:p∈Es fp h):p.1∈fp/\h.get? p.1=some p.2:=by
 obtain ⟨b,hb,e⟩:=List.mem_filterMap.mp hp
 cases q:h.get? b with
 | none=>rw [q] at e; cases e
 | some o=>
  rw [q] at e
  have e':(b,o)=p:=Option.some.inj e
  subst e'
  exact ⟨hb,q⟩
theorem Inv.pinned {pins:List (Addr×Obj)} {σ:St} {H:Hp} {s:Shared} {fp:List Addr} (I:Inv X pins σ H s) (hf:∀ b∈fp,B2 X pins H b) (ho:∀ b∈fp,∃ o,s.heap.get? b=some o/\∀ v,o.data≠.cell v):Inv X (pins++Es fp s.heap) σ H s:=
 I.pins_of λp hp=>(List.mem_append.mp hp).elim (λz=>I.pin p (List.mem_append_right _ z)) λz=>by
  obtain ⟨hb,e⟩:=P6 z
  obtain ⟨f0,f1,f2,_⟩:=hf p.1 hb
  obtain ⟨o,e',d⟩:=ho p.1 hb
  rw [e] at e'; cases e'
  exact ⟨e,f0,f1,f2,d⟩
theorem Inv.unpinned {pins pl:List (Addr×Obj)} {σ:St} {H:Hp} {s:Shared} (I:Inv X (pins++pl) σ H s):Inv X pins σ H s:=I.pins_of λp hp=>I.pin p (List.mem_append_right _ (List.mem_append_left _ hp))
theorem Pz {iter:Expr} {body:List Stmt} {wi:TI} {g:TG} {tb:TS} {pos:Pos} (hp:PassesOwn (model X.prog X.w) X.A X.env X.xe) (hc:X.calm=true) (hi:PI X tg iter wi) (hg:PG X tg g) (hb:PSs X body tb)
  (hs:∀ x,foldedSetIterable iter X.env x=pure x:=by intro _; rfl):PS X (.For tg iter body [] pos) (Tu wi g tb):=by
 intro pins s σ H D I h
 refine wpAny_For (Aq (hi pins s σ H _ I h) λv s1 h1=>Aq h1 λitv s2 h2=>?_) hs
 obtain ⟨it,fp,tn,J,H2,e,I2,T,st2,f2,W,⟨m0,w0⟩,turn⟩:=h2
 subst e
 -- what stays true of the iterator's objects through the loop
 have stat:∀ {H':Hp},(∀ b∈fp,H' b=none)->∀ b∈fp,B2 X pins H' b:=λhn b hb=>⟨hn b hb,(f2 b hb).2⟩
 refine codeAny_forLoop_any (λn s'=>∃ i σ' H',Inv X pins σ' H' s'/\tn i s'.heap/\(∀ b∈fp,H' b=none)/\W i n σ' H') ?_ m0 ⟨0,σ,H2,I2,st2,λb hb=>(f2 b hb).1,w0⟩
 rintro n s3 ⟨i,σ3,H3,I3,st3,fr3,w3⟩
 rcases turn i n σ3 H3 w3 with ⟨stop,qn⟩ | ⟨go,N,hN,step⟩
 ·refine wpAny_passesOwn hp (Aq (T.done X rfl rfl rfl hc i pins s3 σ3 H3 X.xe I3 (stat fr3) st3 stop) λr s4 ⟨hr,I4⟩=>?_)
  subst hr
  exact wpAny_execs_nil ⟨σ3,H3,I4,qn⟩
 ·refine wpAny_passesOwn hp (Aq (T.item X rfl rfl rfl hc i pins s3 σ3 H3 X.xe I3 (stat fr3) st3 go) λr s4 ⟨u,hr,h4⟩=>?_)
  subst hr
  refine wpAny_passesOwn hp (Aq h4 λ_ s5 ⟨x,H5,I5,r5,y5,st5,fr5⟩=>?_)
  have I5':=I5.pinned (stat fr5) (T.obj _ _ st5)
  refine wpAny_passesOwn hp (Aq (hg _ s5 σ3 H5 x u _ I5' r5 (step x H5 y5)) λ_ s6 ⟨σ6,H6,I6,q6⟩=>?_)
  refine wpAny_passesOwn hp (Aq (hb _ s6 σ6 H6 _ I6 q6) λf s7 q7=>?_)
  have again:∀ {σ7:St} {H7:Hp},Inv X (pins++Es fp s5.heap) σ7 H7 s7->N σ7 H7->∃ m,m<n/\∃ i σ' H',Inv X pins σ' H' s7/\tn i s7.heap/\(∀ b∈fp,H' b=none)/\W i m σ' H':=λ{σ7 H7} I7 n7=>by
   obtain ⟨m',hm,w7⟩:=hN σ7 H7 n7
   refine ⟨m',hm,i+1,σ7,H7,I7.unpinned,T.keep _ _ _ st5 λb hb o e=>(I7.pin (b,o) (List.mem_append_right _ (List.mem_append_right _ (IU hb e)))).1,λb hb=>?_,w7⟩
   obtain ⟨o,e,d⟩:=T.obj _ _ st5 b hb
   exact (I7.pin (b,o) (List.mem_append_right _ (List.mem_append_right _ (IU hb e)))).2.1
  cases f with
  | next=>obtain ⟨σ7,H7,I7,n7⟩:=q7; exact again I7 n7
  | cont=>obtain ⟨σ7,H7,I7,n7⟩:=q7; exact again I7 n7
  | brk=>obtain ⟨σ7,H7,I7,q7⟩:=q7; exact ⟨σ7,H7,I7.unpinned,q7⟩
  | ret v=>obtain ⟨x7,σ7,H7,I7,r7,q7⟩:=q7; exact ⟨x7,σ7,H7,I7.unpinned,r7,q7⟩
end
end L2
namespace L2
open PySem PySem.Spec PyProof.Rows
abbrev R2:=V->V->Hp->VK->Prop
def BQ (X:Cx) (f:Value->Value->Sem Value) (r:R2):Prop:=
 ∀ (pins:List (Addr×Obj)) (s:Shared) (σ:St) (H:Hp) (x y:V) (v u:Value) (Q:VK),Inv X pins σ H s->AX x v->AX y u->r x y H Q->
  wpAny (model X.prog X.w) X.A (f v u) (EP X pins σ Q) X.xe s
def Nb (X:Cx) (f:Value->Sem Value) (r:V->Hp->VK->Prop):Prop:=
 ∀ (pins:List (Addr×Obj)) (s:Shared) (σ:St) (H:Hp) (x:V) (v:Value) (Q:VK),Inv X pins σ H s->AX x v->r x H Q->
  wpAny (model X.prog X.w) X.A (f v) (EP X pins σ Q) X.xe s
def EJ (X:Cx) (f:Value) (r:List V->Hp->VK->Prop):Prop:=
 ∀ (pins:List (Addr×Obj)) (s:Shared) (σ:St) (H:Hp) (xs:List V) (us:List Value) (Q:VK),Inv X pins σ H s->Ay xs us->r xs H Q->
  wpAny (model X.prog X.w) X.A (call f us) (EP X pins σ Q) X.xe s
def TruR (X:Cx) (r:V->Hp->(Bool->Hp->Prop)->Prop):Prop:=
 ∀ (pins:List (Addr×Obj)) (s:Shared) (σ:St) (H:Hp) (x:V) (v:Value) (Q:Bool->Hp->Prop),Inv X pins σ H s->AX x v->r x H Q->
  wpAny (model X.prog X.w) X.A (truthy v) (TP X pins σ Q) X.xe s
def tUn (r:V->Hp->VK->Prop) (ta:TE):TE:=λσ H Q=>ta σ H λx H1=>r x H1 Q
def rI (C:Int->Int->Prop) (g:Int->Int->V):R2:=λx y H Q=>∃ i j,x=.int i/\y=.int j/\C i j/\Q (g i j) H
def D7 (g:Int->Int->V):R2:=λx y H Q=>∃ i j,x=.int i/\y=.int j/\Q (g i j) H
def rU (g:Int->V):V->Hp->VK->Prop:=λx H Q=>∃ i,x=.int i/\Q (g i) H
section
variable {X:Cx} {a b c:Expr} {ta tb tc:TE} {pos:Pos}
theorem HC (ha:PE X a ta) (hb:PE X b tb) {pins:List (Addr×Obj)} {s:Shared} {σ:St} {H:Hp} {R:V->V->Hp->Prop} (I:Inv X pins σ H s)
  (h:ta σ H λx H1=>tb σ H1 λy H2=>R x y H2) {Q:Value->Shared->Prop} {f:Value->Value->Sem Value}
  (hf:∀ v u s2 x y H2,Inv X pins σ H2 s2->AX x v->AX y u->R x y H2->wpAny (model X.prog X.w) X.A (f v u) Q X.xe s2) :
  wpAny (model X.prog X.w) X.A (eval a X.env) (λv s₁=>wpAny (model X.prog X.w) X.A (eval b X.env) (λu s₂=>wpAny (model X.prog X.w) X.A (f v u) Q X.xe s₂) X.xe s₁) X.xe s:=by
 refine Aq (ha pins s σ H _ I h) λv s1 ⟨x,H1,I1,r1,q1⟩=>?_
 refine Aq (hb pins s1 σ H1 _ I1 q1) λu s2 ⟨y,H2,I2,r2,q2⟩=>?_
 exact hf v u s2 x y H2 I2 r1 r2 q2
theorem V7 {op:UnaryOp} {r:V->Hp->VK->Prop} (ho:Nb X (unaryOp op) r) (ha:PE X a ta):PE X (.UnaryOp op a pos) (tUn r ta):=by
 intro pins s σ H Q I h
 exact UnaryOp_ (Aq (ha pins s σ H _ I h) λv s1 ⟨x,H1,I1,r1,q1⟩=>ho pins s1 σ H1 x v Q I1 r1 q1)
theorem L9 {f:Value->Value->Sem Value} {C:Int->Int->Prop} {g:Int->Int->Int}
  (rule:∀ (i j:Int) (t u:Tok) (s:Shared) (Q:Value->Shared->Prop) (E:Value->Shared->Prop),C i j->Q (.int (g i j) s.toks) { s with toks:=s.toks+1 }->wpAny (model X.prog X.w) X.A (f (.int i t) (.int j u)) Q E s) :
  BQ X f (rI C λi j=>.int (g i j)):=by
 intro pins s σ H x y v u Q I rx ry h
 obtain ⟨i,j,rfl,rfl,hc,q⟩:=h
 obtain ⟨t,rfl⟩:=rx
 obtain ⟨t',rfl⟩:=ry
 exact rule i j t t' s _ _ hc ⟨.int (g i j),H,I.tok _,⟨_,rfl⟩,q⟩
theorem PQ {f:Value->Value->Sem Value} {g:Int->Int->Int}
  (rule:∀ (i j:Int) (t u:Tok) (s:Shared) (Q:Value->Shared->Prop) (E:Value->Shared->Prop),Q (.int (g i j) s.toks) { s with toks:=s.toks+1 }->wpAny (model X.prog X.w) X.A (f (.int i t) (.int j u)) Q E s) :
  BQ X f (D7 λi j=>.int (g i j)):=by
 intro pins s σ H x y v u Q I rx ry h
 obtain ⟨i,j,rfl,rfl,q⟩:=h
 obtain ⟨t,rfl⟩:=rx
 obtain ⟨t',rfl⟩:=ry
 exact rule i j t t' s _ _ ⟨.int (g i j),H,I.tok _,⟨_,rfl⟩,q⟩
theorem IK {f:Value->Value->Sem Value} {g:Int->Int->Bool}
  (rule:∀ (i j:Int) (t u:Tok) (s:Shared) (Q:Value->Shared->Prop) (E:Value->Shared->Prop),Q (.bool (g i j)) s->wpAny (model X.prog X.w) X.A (f (.int i t) (.int j u)) Q E s) :
  BQ X f (D7 λi j=>.bl (g i j)):=by
 intro pins s σ H x y v u Q I rx ry h
 obtain ⟨i,j,rfl,rfl,q⟩:=h
 obtain ⟨t,rfl⟩:=rx
 obtain ⟨t',rfl⟩:=ry
 exact rule i j t t' s _ _ ⟨.bl (g i j),H,I,rfl,q⟩
def R8 (i j:Int):Prop:=0<j/\j<1073741824
def DE (i j:Int):Prop:=(-(2 ^ 64)<i/\i<2 ^ 64)\/(-(2 ^ 64)<j/\j<2 ^ 64)
theorem DE.ok {i j:Int} (h:DE i j):IntMulOk i j:=by
 rcases h with ⟨h1,h2⟩ | ⟨h1,h2⟩
 ·exact .of_left (intBits_le_64 h1 h2)
 ·exact .of_right (intBits_le_64 h1 h2)
theorem WC:BQ X (binaryOp .Add) (D7 λi j=>.int (i+j)):=PQ λ_ _ _ _ _ _ _ q=>add_int q
theorem Wn:BQ X (binaryOp .Sub) (D7 λi j=>.int (i-j)):=PQ λ_ _ _ _ _ _ _ q=>sub_int q
theorem Wx:BQ X (binaryOp .FloorDiv) (rI R8 λi j=>.int (i/j)):=L9 λi j _ _ _ _ _ hc q=>by
 have h1:(0:Int)<j:=hc.1
 have h2:j<1073741824:=hc.2
 exact floordiv_int wF (by rw [Int.fdiv_eq_ediv_of_nonneg i wF]; exact q) (.inl (PyProof.noPylong_small wF))
theorem Wr:BQ X (binaryOp .Mod) (rI (λ_ j=>0<j) λi j=>.int (i%j)):=L9 λi j _ _ _ _ _ hc q=>by
 have h1:(0:Int)<j:=hc
 exact mod_int' wF (by rw [Int.fmod_eq_emod_of_nonneg i wF]; exact q)
theorem unI {f:Value->Sem Value} {g:Int->Int}
  (rule:∀ (i:Int) (t:Tok) (s:Shared) (Q:Value->Shared->Prop) (E:Value->Shared->Prop),Q (.int (g i) s.toks) { s with toks:=s.toks+1 }->wpAny (model X.prog X.w) X.A (f (.int i t)) Q E s) :
  Nb X f (rU λi=>.int (g i)):=by
 intro pins s σ H x v Q I rx h
 obtain ⟨i,rfl,q⟩:=h
 obtain ⟨t,rfl⟩:=rx
 exact rule i t s _ _ ⟨.int (g i),H,I.tok _,⟨_,rfl⟩,q⟩
theorem SM:Nb X (unaryOp .USub) (rU λi=>.int (-i)):=unI λ_ _ _ _ _ q=>neg_int q
end
def O9:V->V->Bool
 | .non,.non=>true | .non,.int _=>true | .int _,.non=>true | .non,.bl _=>true | .bl _,.non=>true | .non,.str _=>true | .str _,.non=>true
 | .int _,.int _=>true | .bl _,.bl _=>true | .str _,.str _=>true | .byt _,.byt _=>true
 | .int _,.str _=>true | .str _,.int _=>true | .bl _,.str _=>true | .str _,.bl _=>true
 | _,_=>false
def rEq:R2:=λx y H Q=>O9 x y=true/\Q (.bl (decide (x=y))) H
def rNe:R2:=λx y H Q=>O9 x y=true/\Q (.bl (!decide (x=y))) H
theorem Rh {i j:Int}:decide (V.int i=V.int j)=(i==j):=by
 rw [Bool.eq_iff_iff]
 simp
theorem Rj {i j:Bool}:decide (V.bl i=V.bl j)=(i==j):=by
 rw [Bool.eq_iff_iff]
 simp
theorem Rg {i j:Str}:decide (V.str i=V.str j)=(i==j):=by
 rw [Bool.eq_iff_iff]
 simp
theorem Ri {i j:Array UInt8}:decide (V.byt i=V.byt j)=(i.toList==j.toList):=by
 rw [Bool.eq_iff_iff]
 cases i
 cases j
 simp
section
variable {X:Cx} {a b c:Expr} {ta tb tc:TE} {pos:Pos}
theorem Bk {pins:List (Addr×Obj)} {σ:St} {H:Hp} {s:Shared} {Q:VK} {k k':Bool} (I:Inv X pins σ H s) (q:Q (.bl k) H) (e:k=k'):EP X pins σ Q (.bool k') s:=by
 subst e
 exact ⟨.bl k,H,I,rfl,q⟩
theorem Wy:BQ X (compareOp .Eq) rEq:=by
 intro pins s σ H x y v u Q I rx ry h
 obtain ⟨hs,q⟩:=h
 cases x with
 | non=>
  cases rx
  cases y with
  | non=>cases ry; exact PySem.EqNone.eq_none_none (Bk I q (by simp))
  | bl j=>cases ry; exact PySem.EqNone.eq_none_bool (Bk I q (by simp))
  | int j=>obtain ⟨t',rfl⟩:=ry; exact PySem.EqNone.eq_none_int (Bk I q (by simp))
  | str j=>obtain ⟨t',rfl⟩:=ry; exact PySem.EqNone.eq_none_str (Bk I q (by simp))
  | _=>exact absurd (show false=true from hs) Bool.false_ne_true
 | bl i=>
  cases rx
  cases y with
  | non=>cases ry; exact PySem.EqNone.eq_bool_none (Bk I q (by simp))
  | bl j=>cases ry; exact eq_bool (Bk I q Rj)
  | str j=>obtain ⟨t',rfl⟩:=ry; exact PySem.EqMixed.eq_bool_str (Bk I q (by simp))
  | _=>exact absurd (show false=true from hs) Bool.false_ne_true
 | int i=>
  obtain ⟨t,rfl⟩:=rx
  cases y with
  | non=>cases ry; exact PySem.EqNone.eq_int_none (Bk I q (by simp))
  | int j=>obtain ⟨t',rfl⟩:=ry; exact eq_int (Bk I q Rh)
  | str j=>obtain ⟨t',rfl⟩:=ry; exact PySem.EqMixed.eq_int_str (Bk I q (by simp))
  | _=>exact absurd (show false=true from hs) Bool.false_ne_true
 | str i=>
  obtain ⟨t,rfl⟩:=rx
  cases y with
  | non=>cases ry; exact PySem.EqNone.eq_str_none (Bk I q (by simp))
  | bl j=>cases ry; exact PySem.EqMixed.eq_str_bool (Bk I q (by simp))
  | int j=>obtain ⟨t',rfl⟩:=ry; exact PySem.EqMixed.eq_str_int (Bk I q (by simp))
  | str j=>obtain ⟨t',rfl⟩:=ry; exact eq_str (Bk I q Rg)
  | _=>exact absurd (show false=true from hs) Bool.false_ne_true
 | byt i=>
  obtain ⟨t,rfl⟩:=rx
  cases y with
  | byt j=>obtain ⟨t',rfl⟩:=ry; exact PySem.W.eq_bytes (Bk I q Ri)
  | _=>exact absurd (show false=true from hs) Bool.false_ne_true
 | _=>cases y <;> exact absurd (show false=true from hs) Bool.false_ne_true
theorem Wp:BQ X (compareOp .NotEq) rNe:=by
 intro pins s σ H x y v u Q I rx ry h
 obtain ⟨hs,q⟩:=h
 cases x with
 | non=>
  cases rx
  cases y with
  | non=>cases ry; exact PySem.EqNone.ne_none_none (Bk I q (by simp))
  | bl j=>cases ry; exact PySem.EqNone.ne_none_bool (Bk I q (by simp))
  | int j=>obtain ⟨t',rfl⟩:=ry; exact PySem.EqNone.ne_none_int (Bk I q (by simp))
  | str j=>obtain ⟨t',rfl⟩:=ry; exact PySem.EqNone.ne_none_str (Bk I q (by simp))
  | _=>exact absurd (show false=true from hs) Bool.false_ne_true
 | bl i=>
  cases rx
  cases y with
  | non=>cases ry; exact PySem.EqNone.ne_bool_none (Bk I q (by simp))
  | bl j=>cases ry; exact ne_bool (Bk I q (congrArg not Rj))
  | str j=>obtain ⟨t',rfl⟩:=ry; exact PySem.EqMixed.ne_bool_str (Bk I q (by simp))
  | _=>exact absurd (show false=true from hs) Bool.false_ne_true
 | int i=>
  obtain ⟨t,rfl⟩:=rx
  cases y with
  | non=>cases ry; exact PySem.EqNone.ne_int_none (Bk I q (by simp))
  | int j=>obtain ⟨t',rfl⟩:=ry; exact ne_int (Bk I q (congrArg not Rh))
  | str j=>obtain ⟨t',rfl⟩:=ry; exact PySem.EqMixed.ne_int_str (Bk I q (by simp))
  | _=>exact absurd (show false=true from hs) Bool.false_ne_true
 | str i=>
  obtain ⟨t,rfl⟩:=rx
  cases y with
  | non=>cases ry; exact PySem.EqNone.ne_str_none (Bk I q (by simp))
  | bl j=>cases ry; exact PySem.EqMixed.ne_str_bool (Bk I q (by simp))
  | int j=>obtain ⟨t',rfl⟩:=ry; exact PySem.EqMixed.ne_str_int (Bk I q (by simp))
  | str j=>obtain ⟨t',rfl⟩:=ry; exact ne_str (Bk I q (congrArg not Rg))
  | _=>exact absurd (show false=true from hs) Bool.false_ne_true
 | byt i=>
  obtain ⟨t,rfl⟩:=rx
  cases y with
  | byt j=>obtain ⟨t',rfl⟩:=ry; exact PySem.W.ne_bytes (Bk I q (congrArg not Ri))
  | _=>exact absurd (show false=true from hs) Bool.false_ne_true
 | _=>cases y <;> exact absurd (show false=true from hs) Bool.false_ne_true
theorem Ws:BQ X (compareOp .Lt) (D7 λi j=>.bl (decide (i<j))):=IK λ_ _ _ _ _ _ _ q=>lt_int q
theorem Wt:BQ X (compareOp .LtE) (D7 λi j=>.bl (decide (i<=j))):=IK λ_ _ _ _ _ _ _ q=>le_int q
theorem Wv:BQ X (compareOp .Gt) (D7 λi j=>.bl (decide (j<i))):=IK λ_ _ _ _ _ _ _ q=>gt_int q
theorem Ww:BQ X (compareOp .GtE) (D7 λi j=>.bl (decide (j<=i))):=IK λ_ _ _ _ _ _ _ q=>ge_int q
theorem Wu:BQ X (compareOp .Is) (λx y H Q=>y=.non/\Q (.bl (decide (x=.non))) H):=by
 intro pins s σ H x y v u Q I rx ry h
 obtain ⟨rfl,q⟩:=h
 cases ry
 refine is_none_gen (Bk I q ?_)
 cases x <;> first
  | (cases rx; rfl)
  | (obtain ⟨t,rfl⟩:=rx; rfl)
theorem Wo:BQ X (compareOp .IsNot) (λx y H Q=>y=.non/\Q (.bl (!decide (x=.non))) H):=by
 intro pins s σ H x y v u Q I rx ry h
 obtain ⟨rfl,q⟩:=h
 cases ry
 refine isnot_none_gen (Bk I q ?_)
 cases x <;> first
  | (cases rx; rfl)
  | (obtain ⟨t,rfl⟩:=rx; rfl)
theorem Qa (b:Expr) {op:CmpOp} (h:op≠.In:=by decide) (h2:op≠.NotIn:=by decide):behindInMarks op b=false:=by
 have e1:(op==CmpOp.In)=false:=by cases op <;> first | rfl | exact absurd rfl h
 have e2:(op==CmpOp.NotIn)=false:=by cases op <;> first | rfl | exact absurd rfl h2
 cases b <;> simp [behindInMarks,e1,e2]
def RR (K:PySem.W.Frag) (x:V) (H:Hp) (k:Bool):Prop:=
 match x with
 | .non=>k=false
 | .bl b=>k=b
 | .int i=>k=(i != 0)
 | .str y=>y.length<=sizeLine/\k=((y.length:Int) != 0)
 | .byt y=>y.size<=sizeLine/\k=((y.size:Int) != 0)
 | .ref p=>(∃ xs,A8 K H p xs/\k=!xs.isEmpty)\/(∃ xs,Bc K H p xs/\k=!xs.isEmpty)\/∃ kvs,H p=some (.dK kvs)/\k=!kvs.isEmpty
 | _=>False
theorem YW {κ:Type} {kvs:List (κ×V)} {vs:List (κ×Value)} (r:KV kvs vs):(!vs.isEmpty)=!kvs.isEmpty:=by
 cases r <;> rfl
theorem QA {xs:List V} {its:List Value} (r:Ay xs its):(!its.toArray.isEmpty)=!xs.isEmpty:=by
 cases r <;> simp
theorem Hh:(sizeLine:Nat)<2 ^ 63:=by rw [sizeLine_eq]; decide
theorem S0:TruR X (λx H Q=>∃ k,RR X.K x H k/\Q k H):=by
 intro pins s σ H x v Q I rx h
 obtain ⟨k,e,q⟩:=h
 have hl:=Hh
 have hs:sizeLine=16777216:=sizeLine_eq
 cases x with
 | non=>
  cases rx
  have e':k=false:=e
  subst e'
  exact truthy_none ⟨H,I,q⟩
 | bl b=>
  cases rx
  have e':k=b:=e
  subst e'
  exact wpAny_truthy_bool ⟨H,I,q⟩
 | int i=>
  obtain ⟨t,rfl⟩:=rx
  have e':k=(i != 0):=e
  subst e'
  exact PySem.P.truthy_int ⟨H,I,q⟩
 | str y=>
  obtain ⟨t,rfl⟩:=rx
  obtain ⟨hy,e'⟩:y.length<=sizeLine/\k=((y.length:Int) != 0):=e
  subst e'
  exact PySem.P.truthy_str wF ⟨H,I.tok _,q⟩
 | byt y=>
  obtain ⟨t,rfl⟩:=rx
  obtain ⟨hy,e'⟩:y.size<=sizeLine/\k=((y.size:Int) != 0):=e
  subst e'
  exact PySem.W.truthy_bytes wF ⟨H,I.tok _,q⟩
 | ref p=>
  cases rx
  have e':(∃ xs,A8 X.K H p xs/\k=!xs.isEmpty)\/(∃ xs,Bc X.K H p xs/\k=!xs.isEmpty)\/∃ kvs,H p=some (.dK kvs)/\k=!kvs.isEmpty:=e
  rcases e' with ⟨xs,hx,e'⟩ | ⟨xs,hx,e'⟩ | ⟨kvs,hx,e'⟩
  ·subst e'
   obtain ⟨its,r,pl,hz⟩:=I.list hx
   have hlen:=r.length
   exact wpAny_truthy_list pl.isList (by simp only [List.size_toArray]; omega) ⟨H,I.tok _,by rw [QA r]; exact q⟩
  ·subst e'
   obtain ⟨its,r,pl,hz⟩:=I.tuple hx
   have hlen:=r.length
   exact truthy_tuple pl (by simp only [List.size_toArray]; omega) ⟨H,I.tok _,by rw [QA r]; exact q⟩
  ·subst e'
   obtain ⟨hz,hS,vs,r,m⟩:kvs.length<=sizeLine/\(p==sysModules)=false/\∃ vs,KV kvs vs/\s.heap.DictOf (Mg X.prog X.w) p vs:=I.hok p _ hx
   have hlen:kvs.length=vs.length:=Paired.length r
   exact wpAny_truthy_dict hS m wF ⟨H,I.tok _,by rw [YW r]; exact q⟩
 | _=>exact (show False from e).elim
theorem VN (ha:PE X a ta) (he:∀ whole,isTrue a X.env whole=(do let v <- whole; standAt a.pos; holding [v] (truthy v))) :
  PT X a (λσ H Q=>ta σ H λx H'=>∃ k,RR X.K x H' k/\Q k H'):=by
 intro pins s σ H Q I h
 exact isTrue_plain (Aq (ha pins s σ H _ I h) λv s1 ⟨x,H1,I1,r1,q1⟩=>S0 pins s1 σ H1 x v Q I1 r1 q1) (he _)
theorem EN {x:V} {us:List Value} (r:Ay [x] us):∃ u,us=[u]/\AX x u:=by
 cases r with
 | cons r1 r2=>cases r2; exact ⟨_,rfl,r1⟩
theorem EM {x y:V} {us:List Value} (r:Ay [x,y] us):∃ u w',us=[u,w']/\AX x u/\AX y w':=by
 cases r with
 | cons r1 r2=>
  cases r2 with
  | cons r3 r4=>cases r4; exact ⟨_,_,rfl,r1,r3⟩
theorem Q0H:EJ X (.builtin "abs") (λxs H Q=>∃ i,xs=[.int i]/\Q (.int (if i<0 then -i else i)) H):=by
 intro pins s σ H xs us Q I r h
 obtain ⟨i,rfl,q⟩:=h
 obtain ⟨u,rfl,t,rfl⟩:=EN r
 exact call_abs_int λu tk=>⟨.int (if i<0 then -i else i),H,I.tok _,⟨_,rfl⟩,q⟩
theorem Q0C (hc:X.calm=true):EJ X (.builtin "min") (λxs H Q=>∃ i j,xs=[.int i,.int j]/\Q (.int (if j<i then j else i)) H):=by
 intro pins s σ H xs us Q I r h
 obtain ⟨i,j,rfl,q⟩:=h
 obtain ⟨u,w',rfl,⟨t,rfl⟩,⟨t',rfl⟩⟩:=EM r
 refine min_two_ints (I.ok.hd hc) λh' tk k=>⟨_,H,I.kept k,?_,q⟩
 by_cases hj:j<i
 ·rw [if_pos hj,if_pos hj]; exact ⟨_,rfl⟩
 ·rw [if_neg hj,if_neg hj]; exact ⟨_,rfl⟩
end
end L2
namespace L2
open PySem PySem.Spec PyProof.Rows
structure FQ (h:Heap) (x dx C:Addr) (mA:Str->Option Value):Prop where
 obj:h.get? x=some (PySem.W.instObj C dx)
 ns:h.Ns1 dx mA
 ne:dx≠x
theorem Qj {h:Heap} {dx:Addr} {mA:Str->Option Value} (n:h.Ns1 dx mA):∃ od,h.get? dx=some od/\∀ name,PySem.W.lookIn name od=some (mA name):=by
 obtain ⟨o,es,ep,ho,hd,hk,_,hm⟩:=n
 refine ⟨o,ho,λname=>?_⟩
 have e:=hm name
 unfold nsFind findBy at e
 rw [<- Array.find?_toList] at e
 unfold PySem.W.lookIn
 rw [hd]
 dsimp only
 split
 ·rename_i y q
  rw [q] at e
  exact congrArg some e
 ·rename_i q
  rw [q] at e
  have a:es.toList.any (·.refKey)=false:=by
   rw [List.any_eq_false]
   intro y hy
   obtain ⟨z,t,hkey⟩:=hk y (Array.mem_toList_iff.mp hy)
   simp [DictEntry.refKey,hkey]
  have a':¬ es.toList.any (·.refKey)=true:=by rw [a]; exact Bool.false_ne_true
  rw [if_neg a']
  exact congrArg some e
theorem FQ.look {h:Heap} {x dx C:Addr} {mA:Str->Option Value} (I:FQ h x dx C mA):∃ od,PySem.W.InstAt h x (PySem.W.instObj C dx) C (some od)/\∀ name,PySem.W.lookIn name od=some (mA name):=
 let ⟨od,ho,hl⟩:=Qj I.ns
 ⟨od,⟨I.obj,rfl,rfl,ho⟩,hl⟩
section
variable {prog:Program} {w:World} {A:Around} {E:Value->Shared->Prop} {s:Shared} {K:PySem.W.Frag} {x dx C f:Addr} {mA:Str->Option Value} {name:Str} {v:Value}
theorem Zj {expr:Bool} {Q:Value->Shared->Prop} (X:K.In s.heap) (I:FQ s.heap x dx C mA) (hg:PySem.W.plainGet K C name=true) (hh:PySem.W.hasDictIn K C=true)
  (ha:PySem.W.findIn K (.ref C) name=some none) (hv:mA name=some v) (hv':PySem.W.handedIn v=true) (h:Q v { s with toks:=s.toks+1 }) :
  wpAny (model prog w) A (getAttr (.ref x) name expr) Q E s:=by
 obtain ⟨od,J,hl⟩:=I.look
 exact PySem.W.get_value X J (PySem.W.plainGet_of hg).1 (PySem.W.findObj_own hh ha rfl (by rw [hl,hv])) hv' h
theorem Zi {pl:Sem Bool} {Q:Value×List Value->Shared->Prop} (X:K.In s.heap) (I:FQ s.heap x dx C mA) (hg:PySem.W.plainGet K C name=true)
  (hf:PySem.W.findIn K (.ref C) name=some (some (.ref f))) (ht:PySem.W.isFn K (.ref f)=true) (hv:mA name=none) (h:Q (.ref f,[.ref x]) s) :
  wpAny (model prog w) A (getMethod (.ref x) name pl) Q E s:=by
 obtain ⟨od,J,hl⟩:=I.look
 exact PySem.W.method_fn X J (PySem.W.plainGet_of hg).1 (PySem.W.plainGet_of hg).2 hf (beq_iff_eq.mp ht) (by show (PySem.W.lookIn name od).map (·.isSome)=some false; rw [hl,hv]; rfl) h
theorem Ua {ns:List Str} {Q:Unit->Shared->Prop} (X:K.In s.heap) (I:FQ s.heap x dx C mA)
  (hs:PySem.W.findIn K (.ref C) "__setattr__" = some (some (.builtin "object.__setattr__"))) (hp:PySem.W.plainOver K C=true) (ht:PySem.W.takerIn K C name=some none) (hh:PySem.W.hasDictIn K C=true)
  (hw:PySem.Within mA ns) (hsz:ns.length<=sizeLine)
  (h:∀ h',FQ h' x dx C (λy=>if y=name then some v else mA y)->Heap.SameBut dx s.heap h'->Q () { s with heap:=h',toks:=s.toks+2 }) :
  wpAny (model prog w) A (setAttr (.ref x) name v) Q E s:=by
 obtain ⟨od,J,hl⟩:=I.look
 refine PySem.W.set_plain X J hs (PySem.W.osa_open (s:={ s with toks:=s.toks+1 }) (r:=none) X J hp ht λb=>?_)
 obtain ⟨cd,hc,hd'⟩:=PySem.W.any_some hh
 have hx:s.heap.get? x=some ⟨.ref C,some dx,.plain,#[]⟩:=I.obj
 refine wpAny_bind (wpAny_pure (wpAny_bind (wpAny_bind (wpAny_loadPart hx (wpAny_bind (PySem.W.Looks.here (s:={ s with toks:=s.toks+1 }) (PySem.W.looks_clsIn X hc) ?_))))))
 rw [hd']
 refine wpAny_pure (a:=some dx) (wpAny_bind (wpAny_pure (wpAny_bind ?_)))
 refine wpAny_nsSet1 (s:={ s with toks:=s.toks+1 }) I.ns λh' hn2 hs2=>?_
 obtain ⟨oD,esD,epD,hoD,hdD,hcD⟩:=hn2.count (PySem.Within.cons name v hw)
 refine wpAny_bind (wpAny_lookBehind hoD (by rw [hdD]; exact pastItsLine_dict (Nat.le_trans hcD (by rw [List.length_cons]; omega))) ?_)
 exact wpAny_pure (h _ ⟨(hs2.2 _ (Ne.symm I.ne)).trans I.obj,hn2,I.ne⟩ hs2)
theorem Yw {R:Result->Shared->Prop} {vs:List Value} {kw:List (Str×Value)} (X:K.In s.heap) (hm:PySem.W.makesIn K C=true)
  (hi:PySem.W.findIn K (.ref C) "__init__" = some (some (.ref f))) (hf:PySem.W.typeIn K (.ref f)=some (.type "function"))
  (h:codeAny (model prog w) (A.under (.builtin "type.__call__" ⟨.ref C::vs,kw⟩)) (.call (.ref f) ⟨.ref (s.heap.objs.size+1)::vs,kw⟩) (PySem.W.InitBack (s.heap.objs.size+1) R)
   { s with heap:=(s.heap.push PySem.W.emptyDict).push (PySem.W.instObj C s.heap.objs.size) }) :
  codeAny (model prog w) A (.call (.ref C) ⟨vs,kw⟩) R s:=by
 obtain ⟨hh,g,d,t,os⟩:=s
 exact PySem.W.make_core (PySem.W.makes_of X hm) (PySem.W.looks_findIn X hi) (λself=>PySem.W.bind_fn X self hf) (.inl rfl) h
end
def Cq (f:Str) (v:V):List (Str×V)->List (Str×V)
 | []=>[(f,v)]
 | (g,x)::r=>if g=f then (g,v)::r else (g,x)::Cq f v r
theorem Qi (f g:Str) (v:V):∀ fs:List (Str×V),(Cq f v fs).lookup g=if g=f then some v else fs.lookup g
 | []=>by
  show List.lookup g [(f,v)]=_
  by_cases h:g=f
  ·have hb:(g==f)=true:=beq_iff_eq.mpr h
   simp only [List.lookup,hb,if_pos h]
  ·have hb:(g==f)=false:=beq_eq_false_iff_ne.mpr h
   simp only [List.lookup,hb,if_neg h]
 | (k,x)::r=>by
  have ih:=Qi f g v r
  rw [show Cq f v ((k,x)::r)=(if k=f then (k,v)::r else (k,x)::Cq f v r) from rfl]
  by_cases hk:k=f
  ·rw [if_pos hk]
   by_cases h:g=k
   ·have hb:(g==k)=true:=beq_iff_eq.mpr h
    simp only [List.lookup,hb,if_pos (h.trans hk)]
   ·have hb:(g==k)=false:=beq_eq_false_iff_ne.mpr h
    simp only [List.lookup,hb,if_neg (λe:g=f=>h (e.trans hk.symm))]
  ·rw [if_neg hk]
   by_cases h:g=k
   ·have hb:(g==k)=true:=beq_iff_eq.mpr h
    simp only [List.lookup,hb,if_neg (λe:g=f=>hk (h.symm.trans e))]
   ·have hb:(g==k)=false:=beq_eq_false_iff_ne.mpr h
    simp only [List.lookup,hb]
    exact ih
theorem Mp (f:Str) (v:V):∀ fs:List (Str×V),f∈(Cq f v fs).map (·.1)/\∀ g,g∈fs.map (·.1)->g∈(Cq f v fs).map (·.1)
 | []=>⟨by simp [Cq],λg h=>by simp at h⟩
 | (k,x)::r=>by
  obtain ⟨i1,i2⟩:=Mp f v r
  rw [show Cq f v ((k,x)::r)=(if k=f then (k,v)::r else (k,x)::Cq f v r) from rfl]
  by_cases hk:k=f
  ·rw [if_pos hk]
   subst hk
   exact ⟨by simp,λg h=>by simpa using h⟩
  ·rw [if_neg hk]
   refine ⟨?_,λg h=>?_⟩
   ·rw [List.map_cons]
    exact List.mem_cons_of_mem _ i1
   ·rw [List.map_cons] at h ⊢
    rcases List.mem_cons.mp h with e | e
    ·exact List.mem_cons.mpr (.inl e)
    ·exact List.mem_cons_of_mem _ (i2 g e)
theorem Qk (f:Str) (v:V):∀ fs:List (Str×V),(Cq f v fs).length<=fs.length+1
 | []=>by simp [Cq]
 | (k,x)::r=>by
  have ih:=Qk f v r
  rw [show Cq f v ((k,x)::r)=(if k=f then (k,v)::r else (k,x)::Cq f v r) from rfl]
  by_cases hk:k=f
  ·rw [if_pos hk,List.length_cons,List.length_cons]; omega
  ·rw [if_neg hk,List.length_cons,List.length_cons]; omega
theorem DB.some_of {v:V} {o:Option Value} (r:DB (some v) o):∃ u,o=some u/\AX v u:=by
 cases o with
 | none=>exact (show False from r).elim
 | some u=>exact ⟨u,rfl,r⟩
theorem DB.none_of {o:Option Value} (r:DB none o):o=none:=by
 cases o with
 | none=>rfl
 | some u=>exact (show False from r).elim
theorem QB {v:V} {u:Value} (r:AX v u):PySem.W.handedIn u=true:=by
 cases v with
 | non=>cases (show u=Value.none from r); rfl
 | bl b=>cases (show u=Value.bool b from r); rfl
 | int i=>obtain ⟨t,e⟩:=(show ∃ t,u=Value.int i t from r); cases e; rfl
 | str x=>obtain ⟨t,e⟩:=(show ∃ t,u=Value.str x t from r); cases e; rfl
 | byt b=>obtain ⟨t,e⟩:=(show ∃ t,u=Value.bytes b t from r); cases e; rfl
 | flt b=>obtain ⟨t,e⟩:=(show ∃ t,u=Value.float b t from r); cases e; rfl
 | ref a=>cases (show u=Value.ref a from r); rfl
 | ty n=>cases (show u=Value.type n from r); rfl
section
variable {P:Program} {w:World} {H H':Hp} {h h':Heap} {a C dx:Addr} {fs fs':List (Str×V)}
theorem IX (hok:Bn P w H h) (e:H a=some (.ins C dx fs)):∃ mA,FQ h a dx C mA/\(∀ f,DB (fs.lookup f) (mA f))/\PySem.Within mA (fs.map (·.1))/\fs.length<=1000/\H dx=some (.own a):=by
 obtain ⟨d,z,ne,ob,mA,n,r,q⟩:=(show BW P w H h a (.ins C dx fs) from hok a _ e)
 exact ⟨mA,⟨ob,n,ne⟩,r,q,z,d⟩
end
structure A4 (K:PySem.W.Frag) (C:Addr):Prop where
 pg:PySem.W.plainGet K C Str.empty=true
 hd:PySem.W.hasDictIn K C=true
 po:PySem.W.plainOver K C=true
 sa:PySem.W.findIn K (.ref C) "__setattr__" = some (some (.builtin "object.__setattr__"))
theorem A4.get {K:PySem.W.Frag} {C:Addr} (c:A4 K C) (f:Str):PySem.W.plainGet K C f=true:=c.pg
def As (K:PySem.W.Frag) (C:Addr) (f:Str):Prop:=PySem.W.findIn K (.ref C) f=some none
theorem As.taker {K:PySem.W.Frag} {C:Addr} {f:Str} (n:As K C f):PySem.W.takerIn K C f=some none:=by
 unfold PySem.W.takerIn
 rw [show PySem.W.findIn K (.ref C) f=some none from n]
 rfl
structure JB (K:PySem.W.Frag) (C:Addr) (m:Str) (f:Addr):Prop where
 at_:PySem.W.findIn K (.ref C) m=some (some (.ref f))
 fn:PySem.W.isFn K (.ref f)=true
 kp:PySem.W.keepIn K (.ref f)=true
section
variable {X:Cx} {pins:List (Addr×Obj)} {σ:St} {H:Hp} {s:Shared} {a C dx:Addr} {fs:List (Str×V)} {f:Str} {v:V} {A:Around} {E:Value->Shared->Prop}
theorem Zh {b:Bool} {Q:Value->Shared->Prop} (I:Inv X pins σ H s) (e:H a=some (.ins C dx fs)) (c:A4 X.K C) (n:As X.K C f) (l:fs.lookup f=some v)
  (h:∀ u s',Inv X pins σ H s'->AX v u->Q u s'):wpAny (model X.prog X.w) A (getAttr (.ref a) f b) Q E s:=by
 obtain ⟨mA,O,r,_,_,_⟩:=IX I.hok e
 obtain ⟨u,hu,ru⟩:=DB.some_of (v:=v) (o:=mA f) (by rw [<- l]; exact r f)
 exact Zj I.kIn O (c.get f) c.hd n hu (QB ru) (h u _ (I.tok _) ru)
theorem QF {m:Str} {g:Addr} {pl:Sem Bool} {Q:Value×List Value->Shared->Prop} (I:Inv X pins σ H s) (e:H a=some (.ins C dx fs)) (c:A4 X.K C) (k:JB X.K C m g) (l:fs.lookup m=none)
  (h:Q (.ref g,[.ref a]) s):wpAny (model X.prog X.w) A (getMethod (.ref a) m pl) Q E s:=by
 obtain ⟨mA,O,r,_,_,_⟩:=IX I.hok e
 have hn:mA m=none:=DB.none_of (by rw [<- l]; exact r m)
 exact Zi I.kIn O (c.get m) k.at_ k.fn hn h
theorem O6 {y:V} {u:Value} {Q:Unit->Shared->Prop} (I:Inv X pins σ H s) (e:H a=some (.ins C dx fs)) (c:A4 X.K C) (n:As X.K C f) (hl:fs.length<1000) (ry:AX y u)
  (h:∀ s',Inv X pins σ (Ao H a (.ins C dx (Cq f y fs))) s'->Q () s'):wpAny (model X.prog X.w) A (setAttr (.ref a) f u) Q E s:=by
 obtain ⟨mA,O,r,wi,_,ho⟩:=IX I.hok e
 have hz:(fs.map (·.1)).length<=sizeLine:=by rw [List.length_map,sizeLine_eq]; omega
 refine Ua I.kIn O c.sa c.po n.taker c.hd wi hz λh' O' sb=>h _ ?_
 have hd:∃ o,h'.get? dx=some o:=let ⟨o,_,_,e',_⟩:=O'.ns; ⟨o,e'⟩
 refine I.write (x:=a) (e:=dx) (by rw [e]; exact True.intro) (.inr ho) (λb q hb z=>(sb.2 b hb).trans z) hd ?_
 refine ⟨by rw [AJ O.ne]; exact ho,?_,O.ne,O'.obj,_,O'.ns,λg=>?_,λg hg=>?_⟩
 ·have:=Qk f y fs; omega
 ·show DB ((Cq f y fs).lookup g) (if g=f then some u else mA g)
  rw [Qi]
  by_cases q:g=f
  ·rw [if_pos q,if_pos q]; exact ry
  ·rw [if_neg q,if_neg q]; exact r g
 ·by_cases q:g=f
  ·rw [q]; exact (Mp f y fs).1
  ·refine (Mp f y fs).2 g (wi g λz=>hg ?_)
   show (if g=f then some u else mA g)=none
   rw [if_neg q]; exact z
theorem Inv.made (I:Inv X pins σ H s):Inv X pins σ (Ao (Ao H s.heap.objs.size (.own (s.heap.objs.size+1))) (s.heap.objs.size+1) (.ins C s.heap.objs.size []))
  { s with heap:=(s.heap.push PySem.W.emptyDict).push (PySem.W.instObj C s.heap.objs.size) }:=by
 have e1:(s.heap.push PySem.W.emptyDict).get? s.heap.objs.size=some PySem.W.emptyDict:=Heap.get?_push_size s.heap rfl
 have e2:((s.heap.push PySem.W.emptyDict).push (PySem.W.instObj C s.heap.objs.size)).get? (s.heap.objs.size+1)=some (PySem.W.instObj C s.heap.objs.size):=by
  have:=Heap.get?_push_size (s.heap.push PySem.W.emptyDict) (o:=PySem.W.instObj C s.heap.objs.size) rfl
  rwa [Heap.size_push] at this
 have e3:(s.heap.push PySem.W.emptyDict).Ns s.heap.objs.size (λ_=>none):=⟨PySem.W.emptyDict,#[],_,e1,rfl,(λe he=>absurd he (by simp)),λ_=>rfl⟩
 have I1:=I.laid (a:=s.heap.objs.size) (o:=.own (s.heap.objs.size+1)) (h':=s.heap.push PySem.W.emptyDict) (t':=s.toks) (λb u q=>Heap.get?_push_of_some _ q) (Nat.le_refl _) ⟨_,e1⟩
 refine I1.laid (a:=s.heap.objs.size+1) (o:=.ins C s.heap.objs.size []) (t':=s.toks) (λb u q=>Heap.get?_push_of_some _ q) (Nat.le_of_eq (Heap.size_push _ _)) ?_
 have ne:s.heap.objs.size≠s.heap.objs.size+1:=Nat.ne_of_lt (Nat.lt_succ_self _)
 refine ⟨by rw [AJ ne,A5],Nat.zero_le _,ne,e2,λ_=>none,(Heap.Ns1.of_empty e3).at λo q=>Heap.get?_push_of_some _ q,λ_=>True.intro,λy hy=>absurd rfl hy⟩
theorem RI {prog:Program} {w:World} {env:Env} {e:Expr} {f:Str} {pos:Pos} {s:Shared} {Q:Value->Shared->Prop} (hb:attributeBase e f env (eval e env)=eval e env)
  (h:wpAny (model prog w) A (eval e env) (λo s₁=>wpAny (model prog w) A (getAttr o f true) Q E s₁) E s):wpAny (model prog w) A (eval (.Attribute e f pos) env) Q E s:=
 Attribute_any_ h (by rw [arm_eval_Attribute,hb])
end
def Tw (K:PySem.W.Frag) (ta:TE) (f:Str):TE:=λσ H Q=>ta σ H λx H1=>∃ a C dx fs v,x=.ref a/\H1 a=some (.ins C dx fs)/\A4 K C/\As K C f/\fs.lookup f=some v/\Q v H1
section
variable {X:Cx} {o e value:Expr} {f:Str} {pos pos' tpos:Pos} {ta tv:TE}
theorem Wi (he:PE X e ta) (hb:attributeBase e f X.env (eval e X.env)=eval e X.env):PE X (.Attribute e f pos) (Tw X.K ta f):=by
 intro pins s σ H Q I h
 refine RI hb (Aq (he pins s σ H _ I h) λu s1 ⟨x,H1,I1,rx,a,C,dx,fs,v,ex,ea,c,n,l,q⟩=>?_)
 subst ex
 obtain rfl:u=Value.ref a:=rx
 exact Zh I1 ea c n l λu' s2 I2 ru=>⟨v,H1,I2,ru,q⟩
end
section
variable {X:Cx} {pins:List (Addr×Obj)} {σ:St} {H:Hp} {s:Shared} {A:Around} {E:Value->Shared->Prop} {Q:Value->Shared->Prop} {c:Value} {b:Bool}
inductive DA (K:PySem.W.Frag) (H:Hp):V->Value->Prop where
 | non:DA K H .non (.type "NoneType")
 | bl (x:Bool):DA K H (.bl x) (.type "bool")
 | int (i:Int):DA K H (.int i) (.type "int")
 | str (x:Str):DA K H (.str x) (.type "str")
 | flt (x:UInt64):DA K H (.flt x) (.type "float")
 | lst {a:Addr} {xs:List V} (e:H a=some (.lst xs)):DA K H (.ref a) (.type "list")
 | frz {a:Addr} {o:Obj} {xs:List V} (e:H a=some (.frz o (.lst xs))):DA K H (.ref a) (.type "list")
 | tup {a:Addr} {xs:List V} (e:H a=some (.tup xs)):DA K H (.ref a) (.type "tuple")
 | dK {a:Addr} {kvs:List (A1×V)} (e:H a=some (.dK kvs)):DA K H (.ref a) (.type "dict")
 | dT {a:Addr} {kvs:List (List A1×V)} (e:H a=some (.dT kvs)):DA K H (.ref a) (.type "dict")
 | ins {a C dx:Addr} {fs:List (Str×V)} (e:H a=some (.ins C dx fs)) (cl:A4 K C) (ha:PySem.W.findIn K (.ref C) "__class__" = some (some (.builtin "object.__class__")))
   (hn:PySem.W.specialIn K (.builtin "object.__class__") "__get__" = some (some (.builtin "getset_descriptor.__get__"))) (htk:PySem.W.takesIn K (.builtin "object.__class__")=some true)
   (hm:PySem.W.mroIn K C (.type "object")=some true):DA K H (.ref a) (.ref C)
theorem YU {x:V} {u t:Value} (I:Inv X pins σ H s) (rx:AX x u) (ty:DA X.K H x t) (e:PySem.W.kitOne X.K t c=some b) (h:∀ tk,Q (.bool b) { s with toks:=tk }) :
  wpAny (model X.prog X.w) A (call (.builtin "isinstance") [u,c]) Q E s:=by
 cases ty with
 | non=>cases (show u=Value.none from rx); exact PySem.W.kia_one PySem.W.kitx_none I.kIn True.intro e (λz=>nomatch z) h
 | bl y=>cases (show u=Value.bool y from rx); exact PySem.W.kia_one PySem.W.kitx_bool I.kIn True.intro e (λz=>nomatch z) h
 | int i=>obtain ⟨t,q⟩:=(show ∃ t,u=Value.int i t from rx); cases q; exact PySem.W.kia_one PySem.W.kitx_int I.kIn True.intro e (λz=>nomatch z) h
 | str y=>obtain ⟨t,q⟩:=(show ∃ t,u=Value.str y t from rx); cases q; exact PySem.W.kia_one PySem.W.kitx_str I.kIn True.intro e (λz=>nomatch z) h
 | flt y=>obtain ⟨t,q⟩:=(show ∃ t,u=Value.float y t from rx); cases q; exact PySem.W.kia_one PySem.W.kitx_float I.kIn True.intro e (λz=>nomatch z) h
 | @lst a xs ea=>
  cases (show u=Value.ref a from rx)
  obtain ⟨_,_,n,_,h1⟩:=(show BW X.prog X.w H s.heap a (.lst xs) from I.hok a _ ea)
  exact PySem.W.kia_one PySem.W.kitx_list I.kIn ⟨_,h1,rfl⟩ e (λz=>nomatch z) h
 | @frz a ob xs ea=>
  cases (show u=Value.ref a from rx)
  obtain ⟨_,_,_,n,_,h1⟩:=(show BW X.prog X.w H s.heap a (.frz ob (.lst xs)) from I.hok a _ ea)
  exact PySem.W.kia_one PySem.W.kitx_list I.kIn ⟨_,h1,rfl⟩ e (λz=>nomatch z) h
 | @tup a xs ea=>
  cases (show u=Value.ref a from rx)
  obtain ⟨_,_,_,p⟩:=(show BW X.prog X.w H s.heap a (.tup xs) from I.hok a _ ea)
  obtain ⟨o,h1,h2,_⟩:=p.t
  exact PySem.W.kia_one PySem.W.kitx_tuple I.kIn ⟨o,h1,h2⟩ e (λz=>nomatch z) h
 | @dK a kvs ea=>
  cases (show u=Value.ref a from rx)
  obtain ⟨_,_,vs,_,p⟩:=(show BW X.prog X.w H s.heap a (.dK kvs) from I.hok a _ ea)
  obtain ⟨o,es,ep,h1,h2,_⟩:=p
  exact PySem.W.kia_one PySem.W.kitx_dict I.kIn ⟨o,h1,h2.1⟩ e (λz=>nomatch z) h
 | @dT a kvs ea=>
  cases (show u=Value.ref a from rx)
  obtain ⟨_,_,xs,_,o,es,ep,h1,h2,_⟩:=(show BW X.prog X.w H s.heap a (.dT kvs) from I.hok a _ ea)
  exact PySem.W.kia_one PySem.W.kitx_dict I.kIn ⟨o,h1,h2.1⟩ e (λz=>nomatch z) h
 | @ins a C dx fs ea cl ha hn htk hm=>
  cases (show u=Value.ref a from rx)
  obtain ⟨mA,O,_⟩:=IX I.hok ea
  obtain ⟨od,J,_⟩:=O.look
  exact PySem.W.kia_one (PySem.W.kitx_own (cl.get _) cl.hd ha hn htk hm) I.kIn J e (λz=>nomatch z) h
end
end L2
namespace L2
open PySem PySem.Spec PyProof.Rows
structure AL (k:Nat) (A:Around):Prop where
 hd:A.handled=none
 dp:A.depth+3*k+5<recursionLimit
 un:A.units+16*k+200<cLine
theorem AL.mono {j k:Nat} {A:Around} (r:AL k A) (h:j<=k):AL j A:=⟨r.hd,by have:=r.dp; omega,by have:=r.un; omega⟩
theorem AL.deeper {k:Nat} {A:Around} (r:AL (k+1) A) (env:Env):AL k (A.deeper env):=
 ⟨r.hd,by have:=r.dp; show A.depth+1+3*k+5<_; omega,by have:=r.un; show A.units+3+16*k+200<_; omega⟩
theorem Yx {A:Around} {C:Addr} {us:List Value} {kw:List (Str×Value)}:(A.under (.builtin "type.__call__" ⟨.ref C::us,kw⟩)).depth=A.depth+1:=by
 first | rfl | simp [Around.under,Code.weight,Code.isCreation,Code.isGuard,Code.isCaller,Code.frames,Code.isFrame,guardIds]
theorem Yv {A:Around} {C:Addr} {us:List Value} {kw:List (Str×Value)}:(A.under (.builtin "type.__call__" ⟨.ref C::us,kw⟩)).units=A.units+1:=by
 first | rfl | simp [Around.under,Code.cUnits,Code.frames,Code.isFrame]
theorem AL.make {k:Nat} {A:Around} (r:AL (k+1) A) (C:Addr) (us:List Value) (kw:List (Str×Value)):AL k (A.under (.builtin "type.__call__" ⟨.ref C::us,kw⟩)):=
 ⟨r.hd,by have:=r.dp; rw [Yx]; omega,by have:=r.un; rw [Yv]; omega⟩
theorem AL.depth {k:Nat} {A:Around} (r:AL k A):A.depth<recursionLimit:=by have:=r.dp; omega
theorem AL.units {k:Nat} {A:Around} (r:AL k A):A.units+64<cLine:=by have:=r.un; omega
def N0:TA:=λ_ H Q=>Q [] H
def Tz (ta:TE) (tr:TA):TA:=λσ H Q=>ta σ H λx H1=>tr σ H1 λxs H2=>Q (x::xs) H2
section
variable {X:Cx} {e:Expr} {es:List Expr} {te:TE} {t:TA} {pos:Pos}
theorem FA:PA X [] N0:=λ_ _ _ _ H Q I h=>Calls.spliced_nil ⟨[],H,I,.nil,h⟩
theorem DM (ha:PE X e te) (hr:PA X es t) (hs:starEach (e::es) X.env=(false,eval e X.env)::starEach es X.env:=by rfl):PA X (e::es) (Tz te t):=by
 intro pos pins s σ H Q I h
 rw [hs]
 show wpAny _ _ (spliced ((false,eval e X.env)::backTo pos (starEach es X.env))) _ _ s
 refine Calls.spliced_cons (Aq (ha pins s σ H _ I h) λu s1 ⟨x,H1,I1,r1,q1⟩=>?_)
 exact Aq (hr pos pins s1 σ H1 _ I1 q1) λus s2 ⟨xs,H2,I2,r2,q2⟩=>⟨x::xs,H2,I2,.cons r1 r2,q2⟩
def Td (t:TA):TE:=λσ H Q=>t σ H λxs H1=>xs.length<=sizeLine/\∀ p,H1 p=none->Q (.ref p) (Ao H1 p (.tup xs))
def Tr (t:TA):TE:=λσ H Q=>t σ H λxs H1=>xs.length<=sizeLine/\∀ p,H1 p=none->Q (.ref p) (Ao H1 p (.lst xs))
theorem V8 {x1} (h:PA X es t):PE X (.Tuple es x1 pos) (Td t):=by
 intro pins s σ H Q I hq
 refine wpAny_Tuple_spliced (Aq (h pos pins s σ H _ I hq) λus s1 ⟨xs,H1,I1,r,z,q⟩=>⟨by rw [<- r.length]; exact z,?_⟩)
 have hf:H1 s1.heap.objs.size=none:=I1.hok.fresh (Nat.le_refl _)
 refine ⟨.ref s1.heap.objs.size,Ao H1 s1.heap.objs.size (.tup xs),I1.laid (t':=s1.toks) (λb u e=>Heap.get?_push_of_some _ e) (Nat.le_refl _) ?_,rfl,q _ hf⟩
 exact ⟨z,us,r,DY.new _ _⟩
theorem PK (h:PA X es t):PE X (.List es pos) (Tr t):=by
 intro pins s σ H Q I hq
 refine wpAny_List_spliced (Aq (h pos pins s σ H _ I hq) λus s1 ⟨xs,H1,I1,r,z,q⟩=>⟨by rw [<- r.length]; exact z,?_⟩)
 have hf:H1 s1.heap.objs.size=none:=I1.hok.fresh (Nat.le_refl _)
 refine ⟨.ref s1.heap.objs.size,Ao H1 s1.heap.objs.size (.lst xs),I1.laid (t':=s1.toks) (λb u e=>Heap.get?_push_of_some _ e) (Nat.le_refl _) ?_,rfl,q _ hf⟩
 exact ⟨z,us,0,r,Heap.get?_push_size _ rfl⟩
end
abbrev Sp:=List V->Hp->VK->XK->Prop
abbrev CJ:=List Env->Hp->Shared->XK->Value->Shared->Prop
structure FT (P:Program) (w:World) (K:PySem.W.Frag) (mg:Str->Option Value) (base:Heap) (A:Around) (outer:List Env) (s:Shared) (H:Hp):Prop where
 frames:A.frames=some outer
 mod:Mod K mg base
 bs:∀ b o,base.get? b=some o->s.heap.get? b=some o/\H b=none
 bsz:base.objs.size<=s.heap.objs.size
 funs:s.heap.FunFrames base outer
 frf:∀ b∈A3 outer,H b=none
 hok:Bn P w H s.heap
 bare:AllBare s.gens
def CE (outer:List Env) (P:Program) (w:World) (H:Hp) (s:Shared) (Q:VK) (u:Value) (s':Shared):Prop:=
 ∃ v H',s'.os=s.os/\AllBare s'.gens/\Un (A3 outer) [] H H' s.heap s'.heap/\Bn P w H' s'.heap/\AX v u/\Q v H'
def CR (CX:CJ) (outer:List Env) (P:Program) (w:World) (H:Hp) (s:Shared) (Q:VK) (E:XK) (r:Result) (s':Shared):Prop:=
 match r with
 | .ok (.ret u)=>CE outer P w H s Q u s'
 | .ok _=>False
 | .error e=>CX outer H s E e s'
structure AF (P:Program) (w:World) (K:PySem.W.Frag) (mg:Str->Option Value) (base:Heap) (CX:CJ) (k:Nat) (f:Addr) (fd:FuncData) (ps:List Str) (sp:Sp):Prop where
 len:∀ vs H Q E,sp vs H Q E->vs.length=ps.length
 run:∀ (A:Around) (outer:List Env) (s:Shared) (H:Hp) (args:Args) (us:List Value) (vs:List V) (Q:VK) (E:XK),AL k A->FT P w K mg base A outer s H->BindsTo s fd args (ps.zip us)->Ay vs us->sp vs H Q E->
  codeAny (model P w) A (.call (.ref f) args) (CR CX outer P w H s Q E) s
theorem AF.mono {P:Program} {w:World} {K:PySem.W.Frag} {mg:Str->Option Value} {base:Heap} {CX:CJ} {j k:Nat} {f:Addr} {fd:FuncData} {ps:List Str} {sp:Sp} (F:AF P w K mg base CX j f fd ps sp) (h:j<=k) :
  AF P w K mg base CX k f fd ps sp:=⟨F.len,λA outer s H args us vs Q E hr=>F.run A outer s H args us vs Q E (hr.mono h)⟩
theorem FT.make {P:Program} {w:World} {K:PySem.W.Frag} {mg:Str->Option Value} {base:Heap} {A:Around} {outer:List Env} {s:Shared} {H:Hp} (e:FT P w K mg base A outer s H) (C:Addr) (us:List Value) (kw:List (Str×Value)) :
  FT P w K mg base (A.under (.builtin "type.__call__" ⟨.ref C::us,kw⟩)) outer s H:=⟨by first | exact e.frames | (simpa [Around.under,Code.envs,Code.isFrame,pushEnvs] using e.frames),e.mod,e.bs,e.bsz,e.funs,e.frf,e.hok,e.bare⟩
section
variable {X:Cx} {pins:List (Addr×Obj)} {σ:St} {H:Hp} {s s':Shared}
theorem Inv.env0 (I:Inv X pins σ H s):FT X.prog X.w X.K X.mg X.base X.A X.stack s H:=
 ⟨I.ok.frames,I.ok.mod,I.bs,Nat.le_trans I.ok.bsz I.sz,I.stack,I.stkFree,I.hok,I.bare⟩
theorem Inv.after {Q:VK} {u:Value} (I:Inv X pins σ H s) (h:CE X.stack X.prog X.w H s Q u s'):EP X pins σ Q u s':=by
 obtain ⟨v,H',os,bare,un,hok,r,q⟩:=h
 obtain ⟨hh,g,d,t,os'⟩:=s'
 obtain rfl:os'=s.os:=os
 exact ⟨v,H',I.call (h':=hh) (g':=g) (d':=d) (t':=t) (ch:=[]) un hok bare (λb z=>absurd z (by simp)),r,q⟩
end
def TB (sp:Sp) (dvs:List V) (E:XK) (t:TA):TE:=λσ H Q=>t σ H λvs H1=>sp (vs++dvs) H1 Q E
def N1 (C:Addr) (m:Str) (sp:Sp) (dvs:List V) (E:XK) (ta:TE) (t:TA):TE:=λσ H Q=>ta σ H λx H1=>∃ a dx fs,x=.ref a/\H1 a=some (.ins C dx fs)/\fs.lookup m=none /\
 t σ H1 λvs H2=>sp (x::(vs++dvs)) H2 Q E
def Tq (C:Addr) (sp:Sp) (dvs:List V) (E:XK) (t:TA):TE:=λσ H Q=>t σ H λvs H1=>∀ x dx,H1 x=none->H1 dx=none->dx≠x->
 sp (.ref x::(vs++dvs)) (Ao (Ao H1 dx (.own x)) x (.ins C dx [])) (λv H2=>v=.non/\Q (.ref x) H2) E
def Binds (K:PySem.W.Frag) (fd:FuncData) (ps:List Str) (ds:List Value):Prop:=
 ∀ (s:Shared) (us:List Value),K.In s.heap->(us++ds).length=ps.length->BindsTo s fd ⟨us,[]⟩ (ps.zip (us++ds))
theorem Binds.all {K:PySem.W.Frag} {fd:FuncData} {ps:List Str} (h:∀ us:List Value,us.length=ps.length->bindArgs fd ⟨us,[]⟩=pure (ps.zip us)):Binds K fd ps []:=λs us _ hl=>by
 rw [List.append_nil] at hl ⊢
 exact .of_eq (h us hl)
def Fe (CX:CJ) (X:Cx) (E:XK):Prop:=∀ (pins:List (Addr×Obj)) (σ:St) (H:Hp) (s:Shared) (e:Value) (s':Shared),Inv X pins σ H s->CX X.stack H s E e s'->X.xe e s'
section
variable {X:Cx} {CX:CJ} {k:Nat} {f C:Addr} {fd:FuncData} {ps:List Str} {sp:Sp} {dvs:List V} {ds:List Value} {E:XK} {x m:Str} {p pos apos:Pos} {e o:Expr} {es:List Expr} {ta:TE} {t:TA}
theorem IB {pins:List (Addr×Obj)} {σ:St} {H:Hp} {s:Shared} {Q:VK} {us:List Value} {vs:List V} (F:AF X.prog X.w X.K X.mg X.base CX k f fd ps sp) (hr:AL k X.A) (hb:Binds X.K fd ps ds) (hd:Ay dvs ds) (hx:Fe CX X E)
  (I:Inv X pins σ H s) (r:Ay vs us) (h:sp (vs++dvs) H Q E):wpAny (model X.prog X.w) X.A (call (.ref f) us) (EP X pins σ Q) X.xe s:=by
 have r2:Ay (vs++dvs) (us++ds):=r.append hd
 have hl:(us++ds).length=ps.length:=by rw [<- r2.length]; exact F.len _ _ _ _ h
 refine wpAny_call (codeAny_mono (F.run X.A X.stack s H ⟨us,[]⟩ (us++ds) (vs++dvs) Q E hr I.env0 (hb s us I.kIn hl) r2 h) λr s' hq=>?_)
 cases r with
 | error e=>exact hx pins σ H s e s' I hq
 | ok fl=>
  cases fl with
  | ret u=>exact I.after hq
  | next=>exact False.elim hq
  | brk=>exact False.elim hq
  | cont=>exact False.elim hq
theorem Wj (F:AF X.prog X.w X.K X.mg X.base CX k f fd ps sp) (hr:AL k X.A) (hg:Gl X x) (hm:X.mg x=some (.ref f)) (hk:PySem.W.keepIn X.K (.ref f)=true) (hb:Binds X.K fd ps ds) (hd:Ay dvs ds) (hx:Fe CX X E)
  (ha:PA X (e::es) t) (hdb:(x==("__debug__" : Str))=false:=by decide) (he:starEach (e::es) X.env=(false,eval e X.env)::starEach es X.env:=by rfl) (hpl:(backTo pos (starEach es X.env)).any (·.1)=false:=by rfl) :
  PE X (.Call (.Name x p) (e::es) [] pos) (TB sp dvs E t):=by
 intro pins s σ H Q I h
 refine wpAny_Call_Name_kw (EU I hg hm ?_ hdb)
 refine PySem.W.callWith_K (h₀:=X.base) I.ok.mod.kin hk (Aq (ha pos pins s σ H _ I h) λus s1 ⟨vs,H1,I1,r,q⟩=>⟨I1.kIn,?_⟩) he hpl
 exact IB F hr hb hd hx I1 r q
theorem Wg {pl:Sem Bool} (he:PE X o ta) (c:A4 X.K C) (hm:JB X.K C m f) (F:AF X.prog X.w X.K X.mg X.base CX k f fd ps sp) (hr:AL k X.A) (hb:Binds X.K fd ps ds) (hd:Ay dvs ds) (hx:Fe CX X E) (ha:PA X (e::es) t)
  (hst:starEach (e::es) X.env=(false,eval e X.env)::starEach es X.env:=by rfl) (hpl:(backTo pos (starEach es X.env)).any (·.1)=false:=by rfl)
  (ht:eval (.Call (.Attribute o m apos) (e::es) [] pos) X.env=(do
   let ov <- eval o X.env
   standAt apos.atName
   let (f,first) <- holding [ov] (getMethod ov m pl)
   callWith pos f first (backTo pos (starEach (e::es) X.env)) (backToKw pos (keywordEach [] X.env))):=by rfl) :
  PE X (.Call (.Attribute o m apos) (e::es) [] pos) (N1 C m sp dvs E ta t):=by
 intro pins s σ H Q I h
 refine PySem.W.methodCall_KW (pl:=pl) (Aq (he pins s σ H _ I h) λu s1 ⟨x,H1,I1,rx,a,dx,fs,ex,ea,l,q⟩=>?_) ht
 subst ex
 obtain rfl:u=Value.ref a:=rx
 refine QF I1 ea c hm l ?_
 refine PySem.W.callWith_K (first:=[.ref a]) (h₀:=X.base) I.ok.mod.kin hm.kp (Aq (ha pos pins s1 σ H1 _ I1 q) λus s2 ⟨vs,H2,I2,r,q2⟩=>⟨I2.kIn,?_⟩) hst hpl
 exact IB (us:=.ref a::us) (vs:=.ref a::vs) F hr hb hd hx I2 (.cons rfl r) q2
theorem Wf {pl:Sem Bool} (he:PE X o ta) (c:A4 X.K C) (hm:JB X.K C m f) (F:AF X.prog X.w X.K X.mg X.base CX k f fd ps sp) (hr:AL k X.A) (hb:Binds X.K fd ps ds) (hd:Ay dvs ds) (hx:Fe CX X E)
  (ht:eval (.Call (.Attribute o m apos) [] [] pos) X.env=(do
   let ov <- eval o X.env
   standAt apos.atName
   let (f,first) <- holding [ov] (getMethod ov m pl)
   callWith pos f first (backTo pos (starEach [] X.env)) (backToKw pos (keywordEach [] X.env))):=by rfl) :
  PE X (.Call (.Attribute o m apos) [] [] pos) (N1 C m sp dvs E ta N0):=by
 intro pins s σ H Q I h
 refine PySem.W.methodCall_KW (pl:=pl) (Aq (he pins s σ H _ I h) λu s1 ⟨x,H1,I1,rx,a,dx,fs,ex,ea,l,q⟩=>?_) ht
 subst ex
 obtain rfl:u=Value.ref a:=rx
 refine QF I1 ea c hm l ?_
 exact PySem.W.callWith_K0 (first:=[.ref a]) I1.kIn hm.kp (IB (us:=[.ref a]) (vs:=[.ref a]) F hr hb hd hx I1 (.cons rfl .nil) q)
structure Mk (K:PySem.W.Frag) (C f:Addr):Prop where
 makes:PySem.W.makesIn K C=true
 init:PySem.W.findIn K (.ref C) "__init__" = some (some (.ref f))
 fn:PySem.W.isFn K (.ref f)=true
 kp:PySem.W.keepIn K (.ref C)=true
theorem U7 {pins:List (Addr×Obj)} {σ:St} {H:Hp} {s:Shared} {Q:VK} {us:List Value} {vs:List V} (M:Mk X.K C f) (F:AF X.prog X.w X.K X.mg X.base CX k f fd ps sp) (hr:AL (k+1) X.A) (hb:Binds X.K fd ps ds) (hd:Ay dvs ds)
  (hx:Fe CX X E) (I:Inv X pins σ H s) (r:Ay vs us)
  (h:∀ x dx,H x=none->H dx=none->dx≠x->sp (.ref x::(vs++dvs)) (Ao (Ao H dx (.own x)) x (.ins C dx [])) (λv H2=>v=.non/\Q (.ref x) H2) E) :
  wpAny (model X.prog X.w) X.A (call (.ref C) us) (EP X pins σ Q) X.xe s:=by
 have hq:=h (s.heap.objs.size+1) s.heap.objs.size (I.hok.fresh (Nat.le_succ _)) (I.hok.fresh (Nat.le_refl _)) (Nat.ne_of_lt (Nat.lt_succ_self _))
 have I2:=Inv.made (C:=C) I
 have r2:Ay (V.ref (s.heap.objs.size+1)::(vs++dvs)) (Value.ref (s.heap.objs.size+1)::(us++ds)):=.cons rfl (r.append hd)
 have hl:(Value.ref (s.heap.objs.size+1)::us++ds).length=ps.length:=by
  have e:=r2.length
  rw [F.len _ _ _ _ hq] at e
  exact e.symm
 refine wpAny_call (Yw (f:=f) I.kIn M.makes M.init (beq_iff_eq.mp M.fn) (codeAny_mono (F.run _ X.stack _ _ ⟨Value.ref (s.heap.objs.size+1)::us,[]⟩ (Value.ref (s.heap.objs.size+1)::(us++ds)) _ _ E (hr.make C us [])
  (I2.env0.make C us []) (hb _ (Value.ref (s.heap.objs.size+1)::us) I2.kIn hl) r2 hq) λr s' hq'=>?_))
 cases r with
 | error e=>exact hx pins σ _ _ e s' I2 hq'
 | ok fl=>
  cases fl with
  | ret u=>
   obtain ⟨v,H',I3,rv,ev,q3⟩:=I2.after hq'
   subst ev
   exact ⟨rv,⟨V.ref (s.heap.objs.size+1),H',I3,rfl,q3⟩⟩
  | next=>exact False.elim hq'
  | brk=>exact False.elim hq'
  | cont=>exact False.elim hq'
theorem PJ (M:Mk X.K C f) (F:AF X.prog X.w X.K X.mg X.base CX k f fd ps sp) (hr:AL (k+1) X.A) (hg:Gl X x) (hm:X.mg x=some (.ref C)) (hb:Binds X.K fd ps ds) (hd:Ay dvs ds) (hx:Fe CX X E)
  (ha:PA X (e::es) t) (hdb:(x==("__debug__" : Str))=false:=by decide) (he:starEach (e::es) X.env=(false,eval e X.env)::starEach es X.env:=by rfl) (hpl:(backTo pos (starEach es X.env)).any (·.1)=false:=by rfl) :
  PE X (.Call (.Name x p) (e::es) [] pos) (Tq C sp dvs E t):=by
 intro pins s σ H Q I h
 refine wpAny_Call_Name_kw (EU I hg hm ?_ hdb)
 refine PySem.W.callWith_K (h₀:=X.base) I.ok.mod.kin M.kp (Aq (ha pos pins s σ H _ I h) λus s1 ⟨vs,H1,I1,r,q⟩=>⟨I1.kIn,?_⟩) he hpl
 exact U7 M F hr hb hd hx I1 r q
end
section
variable {X:Cx} {CX:CJ} {k:Nat} {f C:Addr} {fd:FuncData} {ps ks:List Str} {sp:Sp} {E:XK} {x m:Str} {p pos apos kpos:Pos} {e o:Expr} {es:List Expr} {kws:List Keyword} {te ta:TE} {t tk:TA} {nm:Option Str}
variable {g:List Value->List Value->List Value} {gV:List V->List V->List V}
end
structure AB (N P:List Str) (sc:Scope):Prop where
 kind:sc.kind=.function
 co:sc.isCoroutine=false
 gen:sc.isGenerator=false
 nd:N.Nodup
 pre:N.take P.length=P
 par:∀ x∈P,sc.names.lookup x=some .local\/sc.names.lookup x=some .cell
 nofree:∀ y∈sc.names,y.2≠.free
theorem Rz {kindOf:Str->Option NameKind} {x:Str}:∀ {binds:List (Str×Value)} {m:Str->Option Value},(∀ v,(x,v)∉binds)->bindL kindOf binds m x=m x
 | [],_,_=>rfl
 | (n,v)::r,m,h=>by
  unfold bindL
  rw [Rz λw hw=>h w (List.mem_cons_of_mem _ hw)]
  split
  ·have:x≠n:=by rintro rfl; exact h v List.mem_cons_self
   simp [this]
  ·rfl
theorem RB {kindOf:Str->Option NameKind} {x:Str}:∀ {binds:List (Str×Value)} {m:Str->Option Value},(∀ v,(x,v)∉binds)->bindC kindOf binds m x=m x
 | [],_,_=>rfl
 | (n,v)::r,m,h=>by
  unfold bindC
  rw [RB λw hw=>h w (List.mem_cons_of_mem _ hw)]
  split
  ·rfl
  ·have:x≠n:=by rintro rfl; exact h v List.mem_cons_self
   simp [this]
theorem RA {kindOf:Str->Option NameKind} {x:Str} {v:Value}:∀ {P:List Str} {vs:List Value} {i:Nat} {m:Str->Option Value},P.Nodup->P[i]?=some x->vs[i]?=some v->kindOf x=some .local->
  bindL kindOf (P.zip vs) m x=some v
 | [],_,_,_,_,h,_,_=>by simp at h
 | _::_,[],_,_,_,_,h,_=>by simp at h
 | p::P,w::vs,0,m,nd,h1,h2,hk=>by
  simp at h1 h2; subst h1; subst h2
  show bindL kindOf ((p,w)::P.zip vs) m p=_
  unfold bindL
  rw [Rz λv hv=>(List.nodup_cons.mp nd).1 (List.of_mem_zip hv).1,if_pos hk]
  simp
 | p::P,w::vs,i+1,m,nd,h1,h2,hk=>by
  show bindL kindOf ((p,w)::P.zip vs) m x=_
  unfold bindL
  exact RA (i:=i) (List.nodup_cons.mp nd).2 (by simpa using h1) (by simpa using h2) hk
theorem RC {kindOf:Str->Option NameKind} {x:Str} {v:Value}:∀ {P:List Str} {vs:List Value} {i:Nat} {m:Str->Option Value},P.Nodup->P[i]?=some x->vs[i]?=some v->kindOf x≠some .local->
  bindC kindOf (P.zip vs) m x=some v
 | [],_,_,_,_,h,_,_=>by simp at h
 | _::_,[],_,_,_,_,h,_=>by simp at h
 | p::P,w::vs,0,m,nd,h1,h2,hk=>by
  simp at h1 h2; subst h1; subst h2
  show bindC kindOf ((p,w)::P.zip vs) m p=_
  unfold bindC
  rw [RB λv hv=>(List.nodup_cons.mp nd).1 (List.of_mem_zip hv).1,if_neg hk]
  simp
 | p::P,w::vs,i+1,m,nd,h1,h2,hk=>by
  show bindC kindOf ((p,w)::P.zip vs) m x=_
  unfold bindC
  exact RC (i:=i) (List.nodup_cons.mp nd).2 (by simpa using h1) (by simpa using h2) hk
def start (N:List Str) (vs:List V):St:=vs.map some++List.replicate (N.length-vs.length) none
def Dh (CX:CJ) (P:Program) (w:World) (K:PySem.W.Frag) (mg:Str->Option Value) (base:Heap) (N:List Str) (qual:Str) (scope:Scope) (f:Addr) (cd:Value) (A:Around) (outer:List Env) (s:Shared) (H:Hp) (E:XK):Cx where
 prog:=P
 w:=w
 K:=K
 mg:=mg
 base:=base
 A:=A.deeper (envOfC qual scope s.heap.objs.size f cd)
 N:=N
 s₀:=s
 H₀:=H
 env:=envOfC qual scope s.heap.objs.size f cd
 outer:=outer
 stack:=envOfC qual scope s.heap.objs.size f cd::outer
 ex:=[]
 calm:=true
 fn:=λ_=>true
 pn:=[]
 xe:=λe s'=>wpAny (model P w) (A.deeper (envOfC qual scope s.heap.objs.size f cd)) (leaving (envOfC qual scope s.heap.objs.size f cd) e) (λ_ s''=>CX outer H s E e s'') (λe' s''=>CX outer H s E e' s'') s'
theorem Ru {sc:Scope} {n:Nat} {x:Str} (h:sc.names.lookup x=some .cell):∃ c,(cellsFrom n sc.names []).lookup x=some c:=by
 have q:=PySem.W.cellsFrom_some sc.names n [] (.inl h)
 exact Option.isSome_iff_exists.mp q
theorem YX {CX:CJ} {P:Program} {w:World} {K:PySem.W.Frag} {mg:Str->Option Value} {base:Heap} {N ps:List Str} {qual:Str} {scope:Scope} {f:Addr} {cd:Value} {A:Around} {outer:List Env} {s s1:Shared} {H:Hp} {E:XK} {us:List Value} {vs:List V}
  (S:AB N ps scope) (hd:A.handled=none) (e0:FT P w K mg base A outer s H) (hl:vs.length=ps.length) (r:Ay vs us)
  (x:InCallC s s.heap.objs.size (bindL (envOfC qual scope s.heap.objs.size f cd).kindOf (ps.zip us) λ_=>none) (cellsFrom (s.heap.objs.size+1) scope.names []) (bindC (envOfC qual scope s.heap.objs.size f cd).kindOf (ps.zip us) λ_=>none) s1) :
  Inv (Dh CX P w K mg base N qual scope f cd A outer s H E) [] (start N vs) H s1:=by
 have hpl:ps.length<=N.length:=by have:=congrArg List.length S.pre; rw [List.length_take] at this; omega
 obtain ⟨h1,tk,rfl,hk⟩:=x.done
 have noA:∀ b:Addr,b∉(Dh CX P w K mg base N qual scope f cd A outer s H E).ex:=λb z=>absurd (show b∈([]:List Addr) from z) (by simp)
 refine ⟨⟨e0.mod,S.kind,rfl,rfl,Nat.le_refl _,λy z c h1 h2=>?_,λy hy=>?_,λy c _ h=>?_,λ_=>hd,Around.frames_deeper e0.frames,.inr ⟨rfl,rfl⟩,λb z=>absurd z (noA b),e0.bs,e0.bsz,λb _ _=>noA b,λb z=>absurd z (noA b),e0.funs,e0.frf⟩,
  rfl,e0.bare,Un.kept hk,⟨_,x.toInCall.ns,λi y v h1 h2 h3=>?_⟩,λy c h=>⟨_,x.cell y c h⟩,e0.hok.fresh (Nat.le_refl _),λy c h=>?_,λp hp=>absurd (show p∈([]:List (Addr×Obj)) from hp) (by simp),e0.hok.kept hk,?_⟩
 ·exact name_of_addr x.apart (PySem.mem_of_lookup h1) (PySem.mem_of_lookup h2)
 ·have hy:scope.names.lookup y=some .cell\/scope.names.lookup y=some .free:=hy
  rcases hy with hy | hy
  ·exact Ru hy
  ·exact absurd rfl (S.nofree _ (PySem.mem_of_lookup hy))
 ·exact Nat.le_of_lt (x.above y c (PySem.mem_of_lookup h))
 ·have hi:i<vs.length:=by
   unfold start at h2
   by_cases hi:i<vs.length
   ·exact hi
   ·rw [List.getElem?_append_right (by simpa using hi)] at h2
    rw [List.getElem?_replicate] at h2
    split at h2 <;> cases h2
  have ha:vs[i]?=some v:=by
   unfold start at h2
   rw [List.getElem?_append_left (by simpa using hi),List.getElem?_map] at h2
   cases e:vs[i]? with
   | none=>rw [e] at h2; cases h2
   | some a=>rw [e] at h2; cases h2; rfl
  obtain ⟨u,hu,rv⟩:=r.get ha
  have hp:ps[i]?=some y:=by
   rw [<- S.pre,List.getElem?_take_of_lt wF]; exact h1
  have ndP:ps.Nodup:=by rw [<- S.pre]; exact S.nd.sublist (List.take_sublist _ _)
  refine ⟨u,rv,?_⟩
  rcases S.par y (List.mem_of_getElem? hp) with k | k
  ·exact .inl ⟨k,RA ndP hp hu k⟩
  ·obtain ⟨c,e⟩:=Ru (n:=s.heap.objs.size+1) k
   refine .inr ⟨.inl k,c,e,?_⟩
   have q:=x.cell y c e
   rw [RC ndP hp hu (by show scope.names.lookup y≠_; rw [k]; decide)] at q
   exact q
 ·exact e0.hok.fresh (Nat.le_of_lt (x.above y c (PySem.mem_of_lookup h)))
 ·unfold start
  show _=N.length
  rw [List.length_append,List.length_map,List.length_replicate]
  omega
theorem MD {CX:CJ} {P:Program} {w:World} {K:PySem.W.Frag} {mg:Str->Option Value} {base:Heap} {k:Nat} {f:Addr} {name qual:Str} {params:Arguments} {body:List Stmt} {scope:Scope} {dV kV doc pm cdv ct oc:Value} {an od:Option Addr}
  {osl:Array (Option Value)} {N ps:List Str} {sp:Sp} (lk:K.lookup f=some ⟨oc,od,.func (PySem.W.fnOf name qual params body scope dV kV doc pm an cdv ct),osl⟩) (hcd:PySem.W.codeIn K cdv qual=true) (S:AB N ps scope)
  (len:∀ vs H Q E,sp vs H Q E->vs.length=ps.length)
  (hbody:∀ (A:Around) (outer:List Env) (s:Shared) (H:Hp) (vs:List V) (Q:VK) (E:XK),AL k (A.deeper (envOfC qual scope s.heap.objs.size f cdv))->sp vs H Q E->
   ∃ t,PSs (Dh CX P w K mg base N qual scope f cdv A outer s H E) body t/\t { nx:=λ_ H'=>Q .non H',rt:=Q } (start N vs) H) :
  AF P w K mg base CX (k+1) f (PySem.W.fnOf name qual params body scope dV kV doc pm an cdv ct) ps sp:=by
 refine ⟨len,λA outer s H args us vs Q E hr e0 hb r hsp=>?_⟩
 have hl:=len _ _ _ _ hsp
 have KX:K.In s.heap:=e0.mod.kin.keeps λb o e=>(e0.bs b o e).1
 have lim:s.heap.NoLimit:=e0.mod.nolimit.keeps λb o e=>(e0.bs b o e).1
 have hkind:∀ y∈ps.zip us,scope.names.lookup y.1=some .local\/(scope.names.lookup y.1=some .cell/\((cellsFrom (s.heap.objs.size+1) scope.names []).lookup y.1).isSome=true):=λ⟨n,v⟩ hy=>by
  rcases S.par n (List.of_mem_zip hy).1 with q | q
  ·exact .inl q
  ·exact .inr ⟨q,PySem.W.cellsFrom_some _ _ _ (.inl q)⟩
 refine codeAny_call_function hr.depth (KX _ _ lk) rfl S.co S.gen rfl (PySem.W.codeRec_of KX hcd) (hb _ _ _ _ ?_)
 refine wpAny_newFunctionEnv_cells S.kind hkind λenv he s1 x=>?_
 subst he
 refine ⟨lim.keeps x.toInCall.keep,codeAny_func ?_⟩
 obtain ⟨t,ht,hq⟩:=hbody A outer s H vs Q E (hr.deeper _) hsp
 have I:Inv (Dh CX P w K mg base N qual scope f cdv A outer s H E) [] (start N vs) H s1:=YX S hr.hd e0 hl r x
 refine wpAny_mono (ht [] s1 (start N vs) H _ I hq) (λfl s' hs=>?_) λe s' hs=>hs
 have fin:∀ {σ':St} {H':Hp} {v:V} {u:Value},Inv (Dh CX P w K mg base N qual scope f cdv A outer s H E) [] σ' H' s'->AX v u->Q v H'->CE outer P w H s Q u s':=
  λ{σ' H' v u} J rv q=>⟨v,H',J.os,J.bare,J.base,J.hok,rv,q⟩
 cases fl with
 | ret u=>
  obtain ⟨v,σ',H',J,rv,q⟩:=hs
  exact fin J rv q
 | next=>
  obtain ⟨σ',H',J,q⟩:=hs
  exact fin (v:=V.non) (u:=Value.none) J rfl q
 | brk=>
  obtain ⟨_,_,_,q⟩:=hs
  exact False.elim q
 | cont=>
  obtain ⟨_,_,_,q⟩:=hs
  exact False.elim q
end L2
namespace L2
open PySem PySem.Spec PyProof.Rows
section
variable {X:Cx} {x:Str} {p pos:Pos} {e:Expr} {es:List Expr} {t:TA} {id T:String} {r:List V->Hp->VK->Prop}
def tCB (r:List V->Hp->VK->Prop) (t:TA):TE:=λσ H Q=>t σ H λvs H1=>r vs H1 Q
theorem II (hc:EJ X (.builtin id) r) (hg:Gl X x) (hm:X.mg x=none) (hv:bootBuiltins x=some (.builtin id)) (ha:PA X (e::es) t) (hn:x ≠ "__name__" := by decide) (hdb:(x==("__debug__" : Str))=false:=by decide)
  (he:starEach (e::es) X.env=(false,eval e X.env)::starEach es X.env:=by rfl) (hpl:(backTo pos (starEach es X.env)).any (·.1)=false:=by rfl):PE X (.Call (.Name x p) (e::es) [] pos) (tCB r t):=by
 intro pins s σ H Q I h
 refine wpAny_Call_Name_kw (FH I hg hm hv ?_ hn hdb)
 exact PyProof.Rows.callWith_builtin1 (Aq (ha pos pins s σ H _ I h) λus s1 ⟨vs,H1,I1,r1,q1⟩=>hc pins s1 σ H1 vs us Q I1 r1 q1) he hpl
theorem PM (hc:EJ X (.type T) r) (hg:Gl X x) (hm:X.mg x=none) (hv:bootBuiltins x=some (.type T)) (ha:PA X (e::es) t) (hn:x ≠ "__name__" := by decide) (hdb:(x==("__debug__" : Str))=false:=by decide)
  (he:starEach (e::es) X.env=(false,eval e X.env)::starEach es X.env:=by rfl) (hpl:(backTo pos (starEach es X.env)).any (·.1)=false:=by rfl):PE X (.Call (.Name x p) (e::es) [] pos) (tCB r t):=by
 intro pins s σ H Q I h
 refine wpAny_Call_Name_kw (FH I hg hm hv ?_ hn hdb)
 exact PyProof.Rows.callWith_type1 (Aq (ha pos pins s σ H _ I h) λus s1 ⟨vs,H1,I1,r1,q1⟩=>hc pins s1 σ H1 vs us Q I1 r1 q1) he hpl
end
end L2
namespace HT
open PySem PyProof.Rows
def Yz:List Int->List Int->Bool
 | [],[]=>false
 | [],_::_=>true
 | _::_,[]=>false
 | x::xs,y::ys=>if x=y then Yz xs ys else decide (x<y)
section
open PySem.SeqAt
open PySem.AutoSeq1 (wpAny_loadPart')
open PySem.MeetsSeq PySem.MeetsSeq2 PySem.MeetsSeq3
end
section
variable {prog:Program} {w:World} {A:Around} {E:Value->Shared->Prop} {s:Shared}
theorem cat_tup {t b:Addr} {vs ws:List Value} {Q:Value->Shared->Prop} (ht:IsTup s.heap t vs.toArray) (hb:IsTup s.heap b ws.toArray) (hv:vs≠[])
  (h1:ws=[]->Q (.ref t) s) (h2:ws≠[]->Q (.ref s.heap.objs.size) { s with heap:=s.heap.push { cls:=.type "tuple",data:=.seq (vs++ws).toArray } })
  (hsz:vs.length+ws.length<=sizeLine):wpAny (model prog w) A (binaryOp .Add (.ref t) (.ref b)) Q E s:=by
 obtain ⟨⟨cls,dd,data,sl⟩,ho,hc,n,hd⟩:=id ht
 obtain ⟨⟨cls2,dd2,data2,sl2⟩,ho2,hc2,n2,hd2⟩:=id hb
 simp only at hc hd hc2 hd2
 subst hc hd hc2 hd2
 have e:vs.toArray++ws.toArray=(vs++ws).toArray:=by simp
 by_cases hw:ws=[]
 ·exact concat_meets ⟨_,ho,rfl⟩ ⟨_,ho2,rfl⟩ noFill_tuple_add seq_tuple_add PySem.F.slot_tuple_add PySem.F.entry_tuple_add (PySem.F.args_tuple_add_2 _ _)
   (tuple_addW1 t b vs.toArray ws.toArray n n2 dd dd2 sl sl2 (by simpa using hv) (by simp [hw])) ⟨ho,ho2,h1 hw⟩
 ·refine concat_meets ⟨_,ho,rfl⟩ ⟨_,ho2,rfl⟩ noFill_tuple_add seq_tuple_add PySem.F.slot_tuple_add PySem.F.entry_tuple_add (PySem.F.args_tuple_add_2 _ _)
   (tuple_addW2 t b vs.toArray ws.toArray n n2 dd dd2 sl sl2 (by simpa using hv) (by simpa using hw) (by rw [List.size_toArray,List.size_toArray]; exact hsz)) ⟨ho,ho2,?_⟩
  rw [e]
  exact h2 hw
def sIx (n d:Nat):Option Int->Nat
 | none=>d
 | some v=>if v<0 then (v+(n:Int)).toNat else min v.toNat n
theorem sIx_none (n d:Nat):sIx n d none=d:=rfl
theorem sIx_nat (n d k:Nat):sIx n d (some (k:Int))=min k n:=by
 show (if (k:Int)<0 then ((k:Int)+(n:Int)).toNat else min (k:Int).toNat n)=min k n
 rw [if_neg wF,Int.toNat_natCast]
theorem U4 (n d:Nat) (hd:d<=n) (o:Option Int):sIx n d o<=n:=by
 cases o with
 | none=>exact hd
 | some v=>
  show (if v<0 then (v+(n:Int)).toNat else min v.toNat n)<=n
  by_cases hv:v<0
  ·rw [if_pos hv]; omega
  ·rw [if_neg hv]; exact Nat.min_le_right _ _
theorem Rt (v:Int) (n d:Nat):(if v<0 then max (v+(n:Int)) 0 else min v (n:Int))=((sIx n d (some v):Nat):Int):=by
 show (if v<0 then max (v+(n:Int)) 0 else min v (n:Int))=(((if v<0 then (v+(n:Int)).toNat else min v.toNat n):Nat):Int)
 by_cases hv:v<0
 ·simp only [if_pos hv]; omega
 ·simp only [if_neg hv]; omega
theorem Q0T (lo hi:Option Int) (n:Nat):Builtin.Slice.sliceAdjust lo hi 1 (n:Int)=(((sIx n 0 lo:Nat):Int),((sIx n n hi:Nat):Int)):=by
 have h1:¬ ((1:Int)<0):=by omega
 unfold Builtin.Slice.sliceAdjust
 simp only [h1,if_false]
 refine Prod.ext ?_ ?_
 ·cases lo with
  | none=>rfl
  | some v=>exact Rt v n 0
 ·cases hi with
  | none=>rfl
  | some v=>exact Rt v n n
theorem VX (i j:Nat):Builtin.Slice.slicePlaces (i:Int) (j:Int) 1=j-i:=by
 unfold Builtin.Slice.slicePlaces
 have h1:(1:Int)>0:=by omega
 simp only [h1,if_true,Int.ediv_one]
 split <;> omega
theorem OV {v:Value} {o:Option Int} {Q:Option Int->Shared->Prop} (p:IsPart v o) (h:Q o s):wpAny (model prog w) A (Builtin.Slice.slicePartIndex v) Q E s:=by
 cases p with
 | none=>exact slicePart_none h
 | int i t=>exact slicePart_int h
theorem sliceApplied_gen {sl:Addr} {vl vu:Value} {lo hi:Option Int} {n:Nat} {Q:Int×Int×Nat->Shared->Prop} (hs:s.heap.IsSliceOf sl vl vu .none) (pl:IsPart vl lo) (pu:IsPart vu hi)
  (h:Q (((sIx n 0 lo:Nat):Int),1,sIx n n hi-sIx n 0 lo) s):wpAny (model prog w) A (Builtin.Slice.sliceApplied (.ref sl) (pure (n:Int))) Q E s:=by
 obtain ⟨os,hos,hcs,hds⟩:=id hs
 unfold Builtin.Slice.sliceApplied Builtin.Slice.sliceFields
 refine wpAny_bind (wpAny_bind (wpAny_field hos hds (x:=vl) rfl (wpAny_bind (wpAny_field hos hds (x:=vu) rfl (wpAny_bind (wpAny_field hos hds (x:=.none) rfl (wpAny_pure ?_)))))))
 refine wpAny_bind (slicePart_none ?_)
 show wpAny _ _ (if ((1:Int)==0)=true then _ else _) _ _ s
 rw [if_neg wE]
 refine wpAny_bind (OV pl (wpAny_bind (OV pu (wpAny_bind (wpAny_pure ?_)))))
 show wpAny _ _ (match Builtin.Slice.sliceAdjust lo hi 1 (n:Int) with | (lo,hi)=>pure (lo,(1:Int),Builtin.Slice.slicePlaces lo hi 1)) _ _ s
 rw [Q0T lo hi n]
 show wpAny _ _ (pure (((sIx n 0 lo:Nat):Int),(1:Int),Builtin.Slice.slicePlaces ((sIx n 0 lo:Nat):Int) ((sIx n n hi:Nat):Int) 1)) _ _ s
 rw [VX]
 exact wpAny_pure h
theorem VZ (xs:Array Value) (i k:Nat):((List.range k).filterMap λ(m:Nat)=>xs[((i:Int)+(m:Int)*1).toNat]?).toArray=((xs.toList.drop i).take k).toArray:=by
 have e:(λ(m:Nat)=>xs[((i:Int)+(m:Int)*1).toNat]?)=λm=>xs[i+m]?:=by
  funext m
  have:((i:Int)+(m:Int)*1).toNat=i+m:=by omega
  rw [this]
 rw [e]
 have:=pick_run xs i k
 rw [List.filterMap_map] at this
 have e2:((λx=>xs[x]?) ∘ λx=>i+x)=λm=>xs[i+m]?:=rfl
 rw [e2] at this
 rw [this]
theorem getItem_tuple_cut {t sl:Addr} {items:Array Value} {vl vu:Value} {lo hi:Option Int} {Q:Value->Shared->Prop} (ht:IsTup s.heap t items) (hs:s.heap.IsSliceOf sl vl vu .none) (pl:IsPart vl lo) (pu:IsPart vu hi)
  (hw:¬ (sIx items.size 0 lo=0/\sIx items.size items.size hi=items.size))
  (h:Q (.ref s.heap.objs.size) { s with heap:=s.heap.push { cls:=.type "tuple",data:=.seq ((items.toList.drop (sIx items.size 0 lo)).take (sIx items.size items.size hi-sIx items.size 0 lo)).toArray } })
  (hsz:items.size<=sizeLine):wpAny (model prog w) A (getItem (.ref t) (.ref sl)) Q E s:=by
 have htake:sizeOk (.seq ((items.toList.drop (sIx items.size 0 lo)).take (sIx items.size items.size hi-sIx items.size 0 lo)).toArray):=by
  show ((items.toList.drop (sIx items.size 0 lo)).take (sIx items.size items.size hi-sIx items.size 0 lo)).toArray.size<=sizeLine
  rw [List.size_toArray,List.length_take,List.length_drop,Array.length_toList]
  omega
 have hj:sIx items.size items.size hi<=items.size:=U4 _ _ (Nat.le_refl _) hi
 obtain ⟨os,hos,hcs,hds⟩:=id hs
 have hTs:s.TypeIs (.ref sl) "slice" :=⟨os,hos,hcs⟩
 unfold getItem
 try with_reducible refine wpAny_holding ?_
 first | refine wpAny_bind (wpAny_pure ?_) | skip
 refine wpAny_bind (wpAny_sequenceKey ht.typeIs wE ?_)
 refine wpAny_bind (wpAny_callSpecial?_slot (name:=Str.ofString "__getitem__") ht.typeIs PyProof.Rows.slot_tuple_getitem
  (wpAny_call_entry PyProof.Rows.slot_tuple_getitem ht.typeIs entry_tuple_getitem ?_ (args_tuple_getitem _ _)))
 show wpAny _ _ (Builtin.Tuple.tupleItemsOf (.ref t) >>= _) _ _ s
 refine wpAny_bind (tupleItemsOf_ ht ?_)
 refine wpAny_bind (wpAny_typeOf hTs ?_)
 rw [if_pos wE]
 refine wpAny_bind (sliceApplied_gen hs pl pu ?_)
 have hno:¬ ((((sIx items.size 0 lo:Nat):Int)==0&&(1:Int)==1&&(sIx items.size items.size hi-sIx items.size 0 lo)==items.size)=true):=by
  intro q
  rw [Bool.and_eq_true,Bool.and_eq_true] at q
  have q1:((sIx items.size 0 lo:Nat):Int)=0:=eq_of_beq q.1.1
  have q2:sIx items.size items.size hi-sIx items.size 0 lo=items.size:=eq_of_beq q.2
  exact hw ⟨by omega,by omega⟩
 show wpAny _ _ (if (((sIx items.size 0 lo:Nat):Int)==0&&(1:Int)==1&&(sIx items.size items.size hi-sIx items.size 0 lo)==items.size)=true then _ else _) _ _ s
 rw [if_neg hno,VZ]
 first
  | exact wpAny_bind (m:=Builtin.Tuple.tupleExact _) (wpAny_newObj_type (wpAny_pure ⟨_,rfl,wpAny_pure h⟩) htake)
  | exact wpAny_bind (m:=Builtin.Tuple.tupleExact _) (wpAny_newObj_type (wpAny_bind (wpAny_pure (wpAny_pure ⟨_,rfl,wpAny_pure h⟩))) htake)
  | exact wpAny_bind (wpAny_bind (m:=Builtin.Tuple.tupleExact _) (wpAny_newObj_type (wpAny_pure (wpAny_pure ⟨_,rfl,wpAny_pure h⟩)) htake))
  | exact wpAny_bind (wpAny_bind (m:=Builtin.Tuple.tupleExact _) (wpAny_newObj_type (wpAny_pure ⟨_,rfl,wpAny_pure h⟩) htake))
end
end HT
namespace L2
open PySem PySem.Spec PyProof.Rows
abbrev TO:=St->Hp->(Option Int->Hp->Prop)->Prop
def PO (X:Cx) (e:Option Expr) (t:TO):Prop:=
 ∀ (pins:List (Addr×Obj)) (s:Shared) (σ:St) (H:Hp) (Q:Option Int->Hp->Prop),Inv X pins σ H s->t σ H Q->
  wpAny (model X.prog X.w) X.A (evalPart e X.env) (λu s'=>∃ o H',Inv X pins σ H' s'/\IsPart u o/\Q o H') X.xe s
def Tm:TO:=λ_ H Q=>Q none H
def Ti (t:TE):TO:=λσ H Q=>t σ H λx H1=>∃ i,x=.int i/\Q (some i) H1
section
variable {X:Cx} {e:Expr} {te:TE} {lo hi:Option Expr} {tl th:TO} {pos p2:Pos}
theorem VW:PO X none Tm:=by
 intro pins s σ H Q I h
 rw [evalPart_none]
 exact wpAny_pure ⟨none,H,I,.none,h⟩
theorem VV (h:PE X e te):PO X (some e) (Ti te):=by
 intro pins s σ H Q I hw
 rw [evalPart_some]
 refine Aq (h pins s σ H _ I hw) λu s1 ⟨x,H1,I1,r1,q1⟩=>?_
 obtain ⟨i,rfl,q⟩:=q1
 obtain ⟨t,rfl⟩:=r1
 exact ⟨some i,H1,I1,.int i t,q⟩
def Fd (X:Cx) (r:V->Option Int->Option Int->Hp->VK->Prop):Prop:=
 ∀ (pins:List (Addr×Obj)) (s:Shared) (σ:St) (H:Hp) (x:V) (v vl vu:Value) (lo hi:Option Int) (sl:Addr) (Q:VK),Inv X pins σ H s->AX x v->s.heap.IsSliceOf sl vl vu .none->IsPart vl lo->IsPart vu hi->r x lo hi H Q->
  ∃ T id,typeLookup (.type T) "__getitem__" = pure (some (.builtin id))/\s.TypeIs v T/\wpAny (model X.prog X.w) X.A (getItem v (.ref sl)) (EP X pins σ Q) X.xe s
theorem Fd.or {r r':V->Option Int->Option Int->Hp->VK->Prop} (h:Fd X r) (h':Fd X r'):Fd X (λx lo hi H Q=>r x lo hi H Q\/r' x lo hi H Q):=by
 intro pins s σ H x v vl vu lo hi sl Q I rx hs pl pu q
 rcases q with q | q
 ·exact h pins s σ H x v vl vu lo hi sl Q I rx hs pl pu q
 ·exact h' pins s σ H x v vl vu lo hi sl Q I rx hs pl pu q
def tSl (r:V->Option Int->Option Int->Hp->VK->Prop) (te:TE) (tl th:TO):TE:=λσ H Q=>te σ H λx H1=>tl σ H1 λl H2=>th σ H2 λu H3=>r x l u H3 Q
theorem PH {r:V->Option Int->Option Int->Hp->VK->Prop} (hr:Fd X r) (he:PE X e te) (hl:PO X lo tl) (hu:PO X hi th):PE X (.Subscript e (.Slice lo hi none p2) pos) (tSl r te tl th):=by
 intro pins s σ H Q I h
 refine Subscript_ (Aq (he pins s σ H _ I h) λv s1 ⟨x,H1,I1,r1,q1⟩=>?_)
 refine wpAny_Slice (Aq (hl pins s1 σ H1 _ I1 q1) λvl s2 ⟨l,H2,I2,pl,q2⟩=>Aq (hu pins s2 σ H2 _ I2 q2) λvu s3 ⟨u,H3,I3,pu,q3⟩=>?_)
 rw [evalPart_none]
 refine wpAny_pure ?_
 have I4:Inv X pins σ H3 { s3 with heap:=s3.heap.push { cls:=.type "slice",data:=.fields #[vl,vu,.none] } }:=I3.kept (t':=s3.toks) λb ob q=>Heap.get?_push_of_some _ q
 obtain ⟨T,id,hT,ht,hg⟩:=hr pins { s3 with heap:=s3.heap.push { cls:=.type "slice",data:=.fields #[vl,vu,.none] } } σ H3 x v vl vu l u s3.heap.objs.size Q I4 r1 (Heap.IsSliceOf.new ..) pl pu q3
 show wpAny (model X.prog X.w) X.A (subscriptTail e (.Slice lo hi none p2) v (.ref s3.heap.objs.size)) (EP X pins σ Q) X.xe { s3 with heap:=s3.heap.push { cls:=.type "slice",data:=.fields #[vl,vu,.none] } }
 exact tail_any (ops:=[.ref s3.heap.objs.size,v]) ht hT hg (by with_unfolding_all rfl)
def Ee (xs:List V) (lo hi:Option Int):List V:=(xs.drop (HT.sIx xs.length 0 lo)).take (HT.sIx xs.length xs.length hi-HT.sIx xs.length 0 lo)
theorem Rm (xs:List V) (lo hi:Option Int):(Ee xs lo hi).length<=xs.length:=by
 unfold Ee
 rw [List.length_take,List.length_drop]
 omega
def Vl (K:PySem.W.Frag):V->Option Int->Option Int->Hp->VK->Prop:=λx lo hi H Q=>∃ a xs,x=.ref a/\Bc K H a xs /\
 ¬ (HT.sIx xs.length 0 lo=0/\HT.sIx xs.length xs.length hi=xs.length)/\∀ p,H p=none->Q (.ref p) (Ao H p (.tup (Ee xs lo hi)))
theorem T7:Fd X (Vl X.K):=by
 intro pins s σ H x v vl vu lo hi sl Q I rx hs pl pu h
 obtain ⟨a,xs,rfl,hx,hw,q⟩:=h
 cases rx
 obtain ⟨its,r,ht,hz⟩:=I.tuple hx
 have hlen:its.toArray.size=xs.length:=by rw [List.size_toArray]; exact r.length.symm
 refine ⟨"tuple",_,PyProof.Rows.slot_tuple_getitem.lookup,ht.typeIs,?_⟩
 refine HT.getItem_tuple_cut ht hs pl pu (by rw [hlen]; exact hw) ?_ (by rw [hlen]; exact hz)
 rw [hlen]
 refine ⟨.ref s.heap.objs.size,_,I.laid (t':=s.toks) (o:=.tup (Ee xs lo hi)) (λb ob q=>Heap.get?_push_of_some _ q) (Nat.le_refl _) ?_,rfl,q _ (I.hok.fresh (Nat.le_refl _))⟩
 exact ⟨Nat.le_trans (Rm xs lo hi) hz,_,(r.drop (HT.sIx xs.length 0 lo)).take (HT.sIx xs.length xs.length hi-HT.sIx xs.length 0 lo),DY.new _ _⟩
def Vt (K:PySem.W.Frag):R2:=λx y H Q=>∃ a b xs ys,x=.ref a/\y=.ref b/\Bc K H a xs/\Bc K H b ys/\xs≠[]/\xs.length+ys.length<=sizeLine /\
 (ys=[]->Q (.ref a) H)/\(ys≠[]->∀ p,H p=none->Q (.ref p) (Ao H p (.tup (xs++ys))))
theorem Ay.nil_iff {xs:List V} {us:List Value} (r:Ay xs us):us=[] ↔ xs=[]:=by
 cases r with
 | nil=>simp
 | cons _ _=>simp
theorem WA:BQ X (binaryOp .Add) (Vt X.K):=by
 intro pins s σ H x y v u Q I rx ry h
 obtain ⟨a,b,xs,ys,rfl,rfl,ha,hb,hx,hz,q1,q2⟩:=h
 cases rx
 cases ry
 obtain ⟨its,r1,p1,_⟩:=I.tuple ha
 obtain ⟨its2,r2,p2,_⟩:=I.tuple hb
 refine HT.cat_tup p1 p2 (λz=>hx (r1.nil_iff.mp z)) (λz=>⟨.ref a,H,I,rfl,q1 (r2.nil_iff.mp z)⟩) (λz=>?_) (by rw [<- r1.length,<- r2.length]; exact hz)
 refine ⟨.ref s.heap.objs.size,_,I.laid (t':=s.toks) (o:=.tup (xs++ys)) (λb ob q=>Heap.get?_push_of_some _ q) (Nat.le_refl _) ?_,rfl,q2 (λw=>z (r2.nil_iff.mpr w)) _ (I.hok.fresh (Nat.le_refl _))⟩
 exact ⟨by rw [List.length_append]; exact hz,_,r1.append r2,DY.new _ _⟩
end
end L2
namespace L2
open PySem PySem.Spec PyProof.Rows
def DP (n:Nat) (i:Int):Option Nat:=if 0<=i then (if i<n then some i.toNat else none) else if -(n:Int)<=i then some (i+n).toNat else none
def Bv {α:Type} (xs:List α) (i:Int):Option α:=(DP xs.length i).bind λj=>xs[j]?
theorem Qw {n:Nat} {i:Int} {j:Nat} (h:DP n i=some j):seqIndex? i n=some j/\j<n/\-(n:Int)<=i/\i<n:=by
 unfold DP at h
 by_cases h0:0<=i
 ·rw [if_pos h0] at h
  by_cases h1:i<n
  ·rw [if_pos h1] at h
   have e:i.toNat=j:=Option.some.inj h
   exact ⟨by rw [seqIndex_of h0 h1,e],by omega,by omega,h1⟩
  ·rw [if_neg h1] at h; cases h
 ·rw [if_neg h0] at h
  by_cases h1:-(n:Int)<=i
  ·rw [if_pos h1] at h
   have e:(i+n).toNat=j:=Option.some.inj h
   exact ⟨by rw [seqIndex_neg wF h1,e],by omega,h1,by omega⟩
  ·rw [if_neg h1] at h; cases h
theorem RN {α:Type} {xs:List α} {i:Int} {v:α} (h:Bv xs i=some v):∃ j,seqIndex? i xs.length=some j/\xs[j]?=some v/\j<xs.length/\-(xs.length:Int)<=i/\i<xs.length:=by
 unfold Bv at h
 cases e:DP xs.length i with
 | none=>rw [e] at h; cases h
 | some j=>
  rw [e] at h
  obtain ⟨h1,h2,h3,h4⟩:=Qw e
  exact ⟨j,h1,h,h2,h3,h4⟩
theorem EH {α:Type} {xs:List α} {j:Nat} {v:α} (h:xs[j]?=some v):Bv xs (j:Int)=some v:=by
 have hj:j<xs.length:=(List.getElem?_eq_some_iff.mp h).1
 have e:DP xs.length (j:Int)=some j:=by
  unfold DP
  rw [if_pos wF,if_pos wF]; simp
 unfold Bv; rw [e]; exact h
def Nh (b:Expr):Prop:=∀ o i,subscripted b false o i=operate [o,i] (getItem o i)
def IxR (X:Cx) (r:R2):Prop:=
 ∀ (value slice:Expr) (pins:List (Addr×Obj)) (s:Shared) (σ:St) (H:Hp) (x y:V) (v u:Value) (Q:VK),Inv X pins σ H s->AX x v->AX y u->r x y H Q->
  subscripted slice false v u=operate [v,u] (getItem v u)->wpAny (model X.prog X.w) X.A (subscriptTail value slice v u) (EP X pins σ Q) X.xe s
def MtR (X:Cx) (id:String) (r:V->List V->Hp->VK->Prop):Prop:=
 ∀ (pins:List (Addr×Obj)) (s:Shared) (σ:St) (H:Hp) (x:V) (xs:List V) (v:Value) (us:List Value) (Q:VK),Inv X pins σ H s->AX x v->Ay xs us->r x xs H Q->
  wpAny (model X.prog X.w) X.A (call (.builtin id) (v::us)) (EP X pins σ Q) X.xe s
section
variable {X:Cx} {a b:Expr} {ta tb:TE} {pos:Pos}
def Vq (K:PySem.W.Frag):R2:=λx y H Q=>∃ p xs i v,x=.ref p/\y=.int i/\A8 K H p xs/\Bv xs i=some v/\Q v H
def Vp (K:PySem.W.Frag):R2:=λx y H Q=>∃ p xs i v,x=.ref p/\y=.int i/\Bc K H p xs/\Bv xs i=some v/\Q v H
theorem YN:IxR X (Vq X.K):=by
 intro value slice pins s σ H x y v u Q I rx ry h hs
 obtain ⟨p,xs,i,z,rfl,rfl,hq,he,q⟩:=h
 cases rx
 obtain ⟨t,rfl⟩:=ry
 obtain ⟨its,r,pl,hz⟩:=I.list hq
 obtain ⟨j,h1,h2,h3,h4,h5⟩:=RN he
 obtain ⟨w,ew,rw'⟩:=r.get h2
 have hl:=r.length
 have hn:=Hh
 have fin:EP X pins σ Q w s:=⟨z,H,I,rw',q⟩
 by_cases h0:0<=i
 ·have hj:i.toNat=j:=by
   rw [seqIndex_of h0 h5] at h1
   exact Option.some.inj h1
  exact item_listR pl.isList h0 wF (by rw [hj]; simpa using ew) fin hs
 ·have hj:(i+(its.toArray.size:Int)).toNat=j:=by
   rw [seqIndex_neg wF h4] at h1
   rw [List.size_toArray,<- hl]
   exact Option.some.inj h1
  exact subscriptTail_builtinR (x:=w) pl.isList.typeIs slot_list_getitem.lookup
   (wpAny_getItem_list_neg (Q:=λr s'=>r=w/\EP X pins σ Q r s') pl.isList wF (by rw [List.size_toArray] <;> omega) wF (by rw [hj]; simpa using ew) ⟨rfl,fin⟩) hs
theorem Qv:IxR X (Vp X.K):=by
 intro value slice pins s σ H x y v u Q I rx ry h hs
 obtain ⟨p,xs,i,z,rfl,rfl,hq,he,q⟩:=h
 cases rx
 obtain ⟨t,rfl⟩:=ry
 obtain ⟨its,r,pl,hz⟩:=I.tuple hq
 obtain ⟨j,h1,h2,h3,h4,h5⟩:=RN he
 obtain ⟨w,ew,rw'⟩:=r.get h2
 have hl:=r.length
 have hn:=Hh
 have fin:EP X pins σ Q w s:=⟨z,H,I,rw',q⟩
 exact subscriptTail_builtinR (x:=w) pl.typeIs slot_tuple_getitem.lookup
  (getItem_tuple (j:=j) (Q:=λr s'=>r=w/\EP X pins σ Q r s') pl wF wF (by rw [List.size_toArray,<- hl]; exact h1) (by simpa using ew) ⟨rfl,fin⟩) hs
theorem Yu (its:List Value) (n j:Nat) (u:Value):Obj.mapSeq (·.setIfInBounds j u) { cls:=.type "list",data:=.seq its.toArray n }={ cls:=.type "list",data:=.seq (its.set j u).toArray n }:=by
 simp [Obj.mapSeq]
theorem Inv.lst {pins:List (Addr×Obj)} {σ:St} {H:Hp} {s:Shared} {p:Addr} {xs:List V} (I:Inv X pins σ H s) (h:H p=some (.lst xs)) :
  ∃ (its:List Value) (n:Nat),Ay xs its/\s.heap.get? p=some { cls:=.type "list",data:=.seq its.toArray n }/\xs.length<=sizeLine:=by
 obtain ⟨z,its,n,r,e⟩:=I.hok p _ h
 exact ⟨its,n,r,e,z⟩
theorem Inv.lstUpd {pins:List (Addr×Obj)} {σ:St} {H:Hp} {s:Shared} {p:Addr} {xs ys:List V} {its its':List Value} {n n':Nat} {f:Obj->Obj} (I:Inv X pins σ H s) (h:H p=some (.lst xs))
  (ho:s.heap.get? p=some { cls:=.type "list",data:=.seq its.toArray n }) (hf:f { cls:=.type "list",data:=.seq its.toArray n }={ cls:=.type "list",data:=.seq its'.toArray n' }) (r:Ay ys its') (hz:ys.length<=sizeLine) (t:Nat) :
  Inv X pins σ (Ao H p (.lst ys)) { s with heap:=s.heap.update p f,toks:=t }:=by
 have e:(s.heap.update p f).get? p=some { cls:=.type "list",data:=.seq its'.toArray n' }:=by
  rw [Heap.get?_update_self f ho (by rw [hf] <;> rfl),hf]
 refine I.write (x:=p) (e:=p) (by rw [h]; trivial) (.inl rfl) (λb u hb q=>(Heap.get?_update_other _ _ (Ne.symm hb)).trans q) ⟨_,e⟩ ?_
 exact ⟨hz,its',n',r,e⟩
def Vn:V->V->V->Hp->(Hp->Prop)->Prop:=λo i v H Q=>∃ p xs k j,o=.ref p/\i=.int k/\H p=some (.lst xs)/\DP xs.length k=some j/\Q (Ao H p (.lst (xs.set j v)))
theorem Ub:RS X Vn:=by
 intro pins s σ H o i v ov iv u Q I ro ri rv h
 obtain ⟨p,xs,k,j,rfl,rfl,hp,hj,q⟩:=h
 cases ro
 obtain ⟨t,rfl⟩:=ri
 obtain ⟨its,n,r,ho,hz⟩:=I.lst hp
 obtain ⟨h1,h2,h3,h4⟩:=Qw hj
 have hl:=r.length
 have hn:=Hh
 have I':Inv X pins σ (Ao H p (.lst (xs.set j v))) { s with heap:=s.heap.update p (Obj.mapSeq (·.setIfInBounds j u)) }:=
  I.lstUpd hp ho (Yu its n j u) (r.set rv j) (by rw [List.length_set]; exact hz) s.toks
 by_cases h0:0<=k
 ·have hk:k.toNat=j:=by
   rw [seqIndex_of h0 h4] at h1
   exact Option.some.inj h1
  exact PySem.W.ki_setAt ho h0 wF (by rw [List.size_toArray,<- hl]; exact h4) (by rw [hk]; exact ⟨_,I',q⟩)
 ·have hk:(k+(its.toArray.size:Int)).toNat=j:=by
   rw [seqIndex_neg wF h3] at h1
   rw [List.size_toArray,<- hl]
   exact Option.some.inj h1
  exact PySem.W.ki_setBack ho wF (by rw [List.size_toArray,<- hl]; exact h3) wF (by rw [hk]; exact ⟨_,I',q⟩)
theorem T3 (lo hi:Option Int) (n:Nat):(sliceBounds lo hi none n).1=((HT.sIx n 0 lo:Nat):Int)/\(sliceBounds lo hi none n).2.1=((HT.sIx n n hi:Nat):Int)/\(sliceBounds lo hi none n).2.2=1:=by
 refine ⟨?_,?_,rfl⟩
 ·cases lo with
  | none=>simp [sliceBounds,HT.sIx]
  | some i=>
   simp only [sliceBounds,HT.sIx,Option.getD_none,show (1:Int)>0 by decide,if_true]
   by_cases h:i<0
   ·simp only [h,if_true] <;> omega
   ·simp only [h,if_false] <;> omega
 ·cases hi with
  | none=>simp [sliceBounds,HT.sIx]
  | some i=>
   simp only [sliceBounds,HT.sIx,Option.getD_none,show (1:Int)>0 by decide,if_true]
   by_cases h:i<0
   ·simp only [h,if_true] <;> omega
   ·simp only [h,if_false] <;> omega
theorem T4 (its:List Value) (lo hi:Option Int):slicePick its.toArray lo hi none=((its.drop (HT.sIx its.length 0 lo)).take (HT.sIx its.length its.length hi-HT.sIx its.length 0 lo)).toArray:=by
 obtain ⟨h1,h2,h3⟩:=T3 lo hi its.toArray.size
 unfold slicePick
 rw [h1,h2,h3]
 simp only [sliceRange_one,pick_run,List.size_toArray] <;> rfl
def Vm (K:PySem.W.Frag):V->Option Int->Option Int->Hp->VK->Prop:=λx lo hi H Q=>∃ a xs,x=.ref a/\A8 K H a xs/\∀ p,H p=none->Q (.ref p) (Ao H p (.lst (Ee xs lo hi)))
theorem T8:Fd X (Vm X.K):=by
 intro pins s σ H x v vl vu lo hi sl Q I rx hs pl pu h
 obtain ⟨a,xs,rfl,hx,q⟩:=h
 cases rx
 obtain ⟨its,r,ht,hz⟩:=I.list hx
 have hlen:=r.length
 refine ⟨"list",_,slot_list_getitem.lookup,ht.isList.typeIs,?_⟩
 refine wpAny_getItem_list_slice ht.isList hs pl pu .none (by simp) ?_ (by rw [List.size_toArray] <;> omega)
 rw [T4,<- hlen]
 refine ⟨.ref s.heap.objs.size,_,I.laid (t':=s.toks) (o:=.lst (Ee xs lo hi)) (λb ob q=>Heap.get?_push_of_some _ q) (Nat.le_refl _) ?_,rfl,q _ (I.hok.fresh (Nat.le_refl _))⟩
 exact ⟨Nat.le_trans (Rm xs lo hi) hz,_,0,(r.drop (HT.sIx xs.length 0 lo)).take (HT.sIx xs.length xs.length hi-HT.sIx xs.length 0 lo),Heap.get?_push_size _ rfl⟩
theorem Q0E:EJ X (.builtin "len") (λxs H Q=>∃ p ys,xs=[.ref p]/\(A8 X.K H p ys\/Bc X.K H p ys)/\Q (.int ys.length) H):=by
 intro pins s σ H xs us Q I r h
 obtain ⟨p,ys,rfl,hq,q⟩:=h
 obtain ⟨u,rfl,rx⟩:=EN r
 cases rx
 have hn:=Hh
 rcases hq with hq | hq
 ·obtain ⟨its,r',pl,hz⟩:=I.list hq
  have hlen:=r'.length
  exact Calls.call_len_list pl.isList (by simp only [List.size_toArray] <;> omega) ⟨.int ys.length,H,I.tok _,⟨s.toks+1,by rw [List.size_toArray,hlen]⟩,q⟩
 ·obtain ⟨its,r',pl,hz⟩:=I.tuple hq
  have hlen:=r'.length
  exact len_tuple pl (by simp only [List.size_toArray] <;> omega) ⟨.int ys.length,H,I.tok _,⟨s.toks+1,by rw [List.size_toArray,hlen]⟩,q⟩
theorem Q0D:EJ X (.type "list") (λxs H Q=>∃ p ys,xs=[.ref p]/\(A8 X.K H p ys\/Bc X.K H p ys)/\∀ l,H l=none->Q (.ref l) (Ao H l (.lst ys))):=by
 intro pins s σ H xs us Q I r h
 obtain ⟨p,ys,rfl,hq,q⟩:=h
 obtain ⟨u,rfl,rx⟩:=EN r
 cases rx
 have fin:∀ (its:List Value),Ay ys its->ys.length<=sizeLine->∀ (h':Heap) (c':Nat),(∀ b o',s.heap.get? b=some o'->h'.get? b=some o')->
   h'.get? s.heap.objs.size=some { cls:=.type "list",dict:=none,data:=.seq its.toArray c',slots:=#[] }->EP X pins σ Q (.ref s.heap.objs.size) { s with heap:=h' }:=λits r' hz h' c' kp e=>
  ⟨.ref s.heap.objs.size,_,I.laid (t':=s.toks) kp (Nat.le_refl _) (show BW X.prog X.w _ h' _ (.lst ys) from ⟨hz,its,c',r',e⟩),rfl,q _ (I.hok.fresh (Nat.le_refl _))⟩
 rcases hq with hq | hq
 ·obtain ⟨its,r',pl,hz⟩:=I.list hq
  have hlen:=r'.length
  obtain ⟨o,ho,hc,n,hd⟩:=pl.isList
  exact call_list_seq p (.inl rfl) ho hc hd (λh' c' kp e=>fin its r' hz h' c' kp e) (by simp only [List.size_toArray] <;> omega)
 ·obtain ⟨its,r',pl,hz⟩:=I.tuple hq
  have hlen:=r'.length
  obtain ⟨o,ho,hc,n,hd⟩:=pl
  exact call_list_seq p (.inr rfl) ho hc hd (λh' c' kp e=>fin its r' hz h' c' kp e) (by simp only [List.size_toArray] <;> omega)
theorem Q0y:EJ X (.type "tuple") (λxs H Q=>∃ p ys,xs=[.ref p]/\((A8 X.K H p ys/\∀ l,H l=none->Q (.ref l) (Ao H l (.tup ys)))\/(Bc X.K H p ys/\Q (.ref p) H))):=by
 intro pins s σ H xs us Q I r h
 obtain ⟨p,ys,rfl,h⟩:=h
 obtain ⟨u,rfl,rx⟩:=EN r
 cases rx
 rcases h with ⟨hq,q⟩ | ⟨hq,q⟩
 ·obtain ⟨its,r',pl,hz⟩:=I.list hq
  have hlen:=r'.length
  refine call_tuple_list pl.isList (λh' kp=>?_) (by simp only [List.size_toArray] <;> omega)
  have I1:Inv X pins σ H { s with heap:=h' }:=I.kept (t':=s.toks) kp
  have I2:Inv X pins σ (Ao H h'.objs.size (.tup ys)) { s with heap:=h'.push { cls:=.type "tuple",data:=.seq its.toArray } }:=
   I1.laid (t':=s.toks) (λb o e=>Heap.get?_push_of_some _ e) (Nat.le_refl _) (show BW X.prog X.w _ _ _ (.tup ys) from ⟨hz,its,r',DY.new _ _⟩)
  exact ⟨.ref h'.objs.size,_,I2,rfl,q _ (I1.hok.fresh (Nat.le_refl _))⟩
 ·obtain ⟨its,r',pl,hz⟩:=I.tuple hq
  exact call_tuple_same pl ⟨.ref p,H,I,rfl,q⟩
def tyV (K:PySem.W.Frag) (T:String) (x:V) (H:Hp):Prop:=match x with
 | .str _=>T = "str"
 | .int _=>T = "int"
 | .ref p=>(T = "list" /\ ∃ xs,A8 K H p xs)\/(T = "tuple" /\ ∃ xs,Bc K H p xs) \/
   (T = "dict" /\ ((∃ kvs,H p=some (.dK kvs))\/∃ kvs,H p=some (.dT kvs)))\/(T = "set" /\ ∃ S n,H p=some (.set S n))
 | _=>False
theorem SO {pins:List (Addr×Obj)} {σ:St} {H:Hp} {s:Shared} {T:String} {x:V} {v:Value} (I:Inv X pins σ H s) (r:AX x v) (ty:tyV X.K T x H) :
  s.TypeIs v T/\∀ a,v=.ref a->∃ ob,s.heap.get? a=some ob/\ob.dict=none:=by
 cases x with
 | str z=>
  obtain ⟨t,rfl⟩:=r
  cases (show T = "str" from ty)
  exact ⟨typeIs_str s z t,λ_ e=>nomatch e⟩
 | int i=>
  obtain ⟨t,rfl⟩:=r
  cases (show T = "int" from ty)
  exact ⟨typeIs_int s i t,λ_ e=>nomatch e⟩
 | ref p=>
  cases r
  rcases ty with ⟨rfl,xs,hq⟩ | ⟨rfl,xs,hq⟩ | ⟨rfl,hk⟩ | ⟨rfl,S,n,hk⟩
  ·obtain ⟨its,_,pl,_⟩:=I.list hq
   refine ⟨pl.isList.typeIs,λa e=>?_⟩
   cases e
   obtain ⟨o,n,e,c,hd,_⟩:=pl
   exact ⟨o,e,hd⟩
  ·obtain ⟨its,_,⟨o,e1,hd,hc,_⟩,_⟩:=I.tupN hq
   refine ⟨⟨o,e1,hc⟩,λa e=>?_⟩
   cases e
   exact ⟨o,e1,hd⟩
  ·have z:∃ o,s.heap.get? p=some o/\o.ExactDict:=by
    rcases hk with ⟨kvs,hk⟩ | ⟨kvs,hk⟩
    ·obtain ⟨_,_,_,_,o,_,_,e,ex,_⟩:=I.hok p _ hk
     exact ⟨o,e,ex⟩
    ·obtain ⟨_,_,_,_,o,_,_,e,ex,_⟩:=I.hok p _ hk
     exact ⟨o,e,ex⟩
   obtain ⟨o,e,ex⟩:=z
   refine ⟨⟨o,e,ex.1⟩,λa e2=>?_⟩
   cases e2
   exact ⟨o,e,ex.2.1⟩
  ·obtain ⟨o,_,_,_,e,ex,_⟩:=I.hok p _ hk
   refine ⟨⟨o,e,ex.1⟩,λa e2=>?_⟩
   cases e2
   exact ⟨o,e,ex.2.1⟩
 | _=>exact False.elim ty
def tBM (K:PySem.W.Frag) (T:String) (r:V->List V->Hp->VK->Prop) (to:TE) (t:TA):TE:=λσ H Q=>to σ H λx H1=>tyV K T x H1/\t σ H1 λxs H2=>r x xs H2 Q
variable {o e:Expr} {es:List Expr} {to:TE} {t:TA} {name:Str} {apos cpos:Pos} {T id:String} {r:V->List V->Hp->VK->Prop}
theorem L8 (pa:PlainAttrs T) (slot:Slot T name id) (hty:typeOf (.builtin id)=pure (.type "method_descriptor")) (hm:MtR X id r) (ho:PE X o to) (ha:PA X (e::es) t)
  (hbase:attributeBase o name X.env (eval o X.env)=eval o X.env:=by rfl)
  (hfew:((backTo cpos (starEach (e::es) X.env)).all (λx=>!x.1)&&(backToKw cpos (keywordEach [] X.env)).all (λx=>x.1.isSome)
   && decide ((e::es).length+([]:List Keyword).length+(if ([]:List Keyword).isEmpty then 0 else 1)<30))=true:=by rfl)
  (hline:(apos.endLine==cpos.line)=true:=by rfl) (hs:starEach (e::es) X.env=(false,eval e X.env)::starEach es X.env:=by rfl) (hplain:(backTo cpos (starEach es X.env)).any (·.1)=false:=by rfl) :
  PE X (.Call (.Attribute o name apos) (e::es) [] cpos) (tBM X.K T r to t):=by
 intro pins s σ H Q I h
 refine wpAny_Call_method_late hbase hfew hline rfl (Aq (ho pins s σ H _ I h) λv s1 ⟨x,H1,I1,r1,ty,q1⟩=>?_)
 obtain ⟨h1,h2⟩:=SO I1 r1 ty
 refine ⟨T,id,pa,slot,hty,h1,h2,?_⟩
 have hA:=ha cpos pins s1 σ H1 _ I1 q1
 rw [hs] at hA ⊢
 refine Calls.callWith_builtin (by show (false||(backTo cpos (starEach es X.env)).any (·.1))=false; rw [hplain] <;> rfl) (Calls.evalArgs_plain ?_)
 exact Aq hA λus s2 ⟨vs,H2,I2,r2,q2⟩=>hm pins s2 σ H2 x vs v us Q I2 r1 r2 q2
end
end L2
namespace L2
open PySem PySem.Spec PyProof.Rows
def MtM (X:Cx) (id:String) (r:V->List V->Hp->VK->Prop):Prop:=
 ∀ (pins:List (Addr×Obj)) (s:Shared) (σ:St) (H:Hp) (x:V) (xs:List V) (v:Value) (us:List Value) (Q:VK),Inv X pins σ H s->AX x v->Ay xs us->r x xs H Q->
  wpAny (model X.prog X.w) X.A (call (.builtin id) (v::us)) (EP X pins σ Q) X.xe s
theorem Ay.one:∀ {x:V} {us:List Value},Ay [x] us->∃ u,us=[u]/\AX x u
 | _,_,.cons r .nil=>⟨_,rfl,r⟩
theorem Ay.rep {xs:List V} {us:List Value} (h:Ay xs us):∀ k:Nat,Ay (List.replicate k xs).flatten (List.replicate k us).flatten
 | 0=>.nil
 | k+1=>by
  rw [List.replicate_succ,List.replicate_succ,List.flatten_cons,List.flatten_cons]
  exact Ay.append h (Ay.rep h k)
theorem QJ (its:List Value):∀ (k:Nat) (acc:List Value),
  List.foldl (λx1 x2=>x1++x2) acc.toArray (List.replicate k its.toArray)=(acc++(List.replicate k its).flatten).toArray
 | 0,acc=>by simp
 | k+1,acc=>by
  have e:acc.toArray++its.toArray=(acc++its).toArray:=by simp
  have e2:(acc++its)++(List.replicate k its).flatten=acc++(List.replicate (k+1) its).flatten:=by
   rw [List.replicate_succ,List.flatten_cons,List.append_assoc]
  rw [<- e2,<- QJ its k (acc++its),<- e,List.replicate_succ,List.foldl_cons]
section
variable {X:Cx} {pins:List (Addr×Obj)} {σ:St} {H:Hp} {s:Shared} {l b:Addr} {xs ys zs:List V}
theorem Inv.lset {its its':List Value} {n:Nat} {f:Array Value->Array Value} {t':Nat} (I:Inv X pins σ H s) (hH:H l=some (.lst xs))
  (e:s.heap.get? l=some { cls:=.type "list",data:=.seq its.toArray n }) (hf:f its.toArray=its'.toArray) (hv:Ay ys its') (hz:ys.length<=sizeLine) :
  Inv X pins σ (Ao H l (.lst ys)) { s with heap:=s.heap.update l (Obj.mapSeq f),toks:=t' }:=by
 have q:=PySem.IsL.update e f
 rw [hf] at q
 refine I.write (x:=l) (e:=l) (by rw [hH]; exact trivial) (.inl rfl) (λb' u hb hu=>(Heap.get?_update_other s.heap (Obj.mapSeq f) (Ne.symm hb)).trans hu) ⟨_,q⟩ ?_
 exact ⟨hz,its',_,hv,q⟩
theorem Inv.lnew {its:List Value} {t':Nat} (I:Inv X pins σ H s) (hv:Ay ys its) (hz:ys.length<=sizeLine) :
  Inv X pins σ (Ao H s.heap.objs.size (.lst ys)) { s with heap:=s.heap.push { cls:=.type "list",data:=.seq its.toArray },toks:=t' }:=
 I.laid (λ_ _ q=>Heap.get?_push_of_some _ q) (Nat.le_refl _) ⟨hz,its,0,hv,Heap.get?_push_size _ rfl⟩
theorem Inv.fresh (I:Inv X pins σ H s):H s.heap.objs.size=none:=I.hok.fresh (Nat.le_refl _)
theorem Inv.lstM (I:Inv X pins σ H s) (hH:H l=some (.lst xs)):xs.length<=sizeLine/\∃ (its:List Value) (n:Nat),Ay xs its/\xs.length=its.length/\s.heap.get? l=some { cls:=.type "list",data:=.seq its.toArray n }:=by
 obtain ⟨z,its,n,r,e⟩:=I.hok l _ hH
 exact ⟨z,its,n,r,r.length,e⟩
end
section
variable {X:Cx}
def Vv:V->List V->Hp->VK->Prop:=λx vs H Q=>∃ l xs y,x=.ref l/\vs=[y]/\H l=some (.lst xs)/\xs.length<sizeLine/\Q .non (Ao H l (.lst (xs++[y])))
theorem Qc:MtM X "list.append" Vv:=by
 intro pins s σ H x vs v us Q I rx rv h
 obtain ⟨l,xs,y,rfl,rfl,hH,hz,q⟩:=h
 cases rx
 obtain ⟨u,rfl,ru⟩:=rv.one
 obtain ⟨z,its,n,r,hl,e⟩:=I.lstM hH
 refine call_meets F.slot_list_append ⟨_,e,rfl⟩ F.entry_list_append (F.args_list_append_2 _ _) (PySem.list_append l its.toArray n u (by rw [List.size_toArray]; omega)) ⟨e,?_⟩
 refine ⟨.non,_,I.lset (its':=its++[u]) hH e (by simp) (r.append (.cons ru .nil)) ?_,rfl,q⟩
 rw [List.length_append,List.length_singleton]
 omega
def Vu:R2:=λx y H Q=>∃ l b xs zs,x=.ref l/\y=.ref b/\H l=some (.lst xs)/\H b=some (.lst zs)/\xs.length+zs.length<=sizeLine/\∀ p,H p=none->Q (.ref p) (Ao H p (.lst (xs++zs)))
theorem WB:BQ X (binaryOp .Add) Vu:=by
 intro pins s σ H x y v u Q I rx ry h
 obtain ⟨l,b,xs,zs,rfl,rfl,hH,hB,hz,q⟩:=h
 cases rx
 cases ry
 obtain ⟨z,its,n,r,hl,e⟩:=I.lstM hH
 obtain ⟨z2,its2,n2,r2,hl2,e2⟩:=I.lstM hB
 refine PySem.P.add_list e e2 ?_ (by rw [List.size_toArray,List.size_toArray]; omega)
 have ea:its.toArray++its2.toArray=(its++its2).toArray:=by simp
 rw [ea]
 exact ⟨.ref _,_,I.lnew (t':=s.toks) (r.append r2) (by rw [List.length_append]; omega),rfl,q _ I.fresh⟩
theorem Ql {α:Type} (xs:List α) (k:Nat):(List.replicate k xs).flatten.length=k*xs.length:=by
 induction k with
 | zero=>simp
 | succ k ih=>rw [List.replicate_succ,List.flatten_cons,List.length_append,ih,Nat.succ_mul,Nat.add_comm]
end
section
variable {prog:Program} {w:World} {A:Around} {E:Value->Shared->Prop} {s:Shared}
end
section
variable {X:Cx}
end
end L2
namespace Att
open PySem PySem.W PySem.Calls PyProof.Rows
theorem YZ {P:Params} {h:Heap}:∀ (ns:List Int) (vs:List Value),WellAll P h vs (ns.map WData.int)->IntsAre vs ns:=by
 intro ns
 induction ns with
 | nil=>
  intro vs w
  rw [List.map_nil] at w
  cases w
  exact .nil
 | cons n ns ih=>
  intro vs w
  rw [List.map_cons] at w
  cases w with
  | cons a b=>
   cases a
   exact .cons _ _ (ih _ b)
theorem Ud {l:OpenLaw} {n:Nat} (hn:l.most=some n) {P:Params} {h:Heap} {args:List WData} {vals:List Value}
  (hpre:l.row.toRowW.claim.pre args=true) (hwl:WellAll P h vals args) :
  ∃ a vs ns,vals=[Value.ref a]/\args=[WData.list (ns.map WData.int)]/\h.get? a=some { cls:=.type "list",data:=.seq vs.toArray }/\IntsAre vs ns/\ns.length<=n:=by
 have hsh:WShape.hasAll [] args [.list .int]=true:=(pre_splitW hpre).1
 have hc:l.pre.holds [] { args:=args }=true:=(pre_splitW hpre).2
 obtain ⟨d,r,rfl,h1,h2⟩:=hasAllW_cons hsh
 obtain rfl:=hasAllW_nil h2
 obtain ⟨xs,rfl,h3⟩:=hasW_list h1
 obtain ⟨ns,rfl⟩:=items_int h3
 have hlen:ns.length<=n:=by
  unfold OpenLaw.pre at hc
  have h4:(WTm.not (.lt (.lit (.int (n:Int))) (.len (.arg 0)))).holds [] { args:=[.list (ns.map .int)] }=true:=by
   have h4:=(holds_andW hc).1
   rw [hn] at h4
   exact h4
  have h5:=condW_of h4 (w_not (w_lt w_lit (w_len_list (w_arg rfl))))
  rw [List.length_map] at h5
  refine Nat.le_of_not_lt λq=>?_
  have q':(n:Int)<((ns.length:Nat):Int):=by omega
  first
   | (rw [decide_eq_true q'] at h5; exact absurd h5 wE)
   | (simp at h5; omega)
 cases hwl with
 | cons w1 w2=>
  cases w2
  cases w1 with
  | list ho hall=>exact ⟨_,_,ns,rfl,rfl,ho,YZ ns _ hall,hlen⟩
theorem VU (l:OpenLaw) (args:List WData):l.row.toRowW.claim.post args (.bool true) args=true:=
 postW_of (r:=l.row.toRowW) (X:=(true==true))
  (show WShape.has [] (.bool true) .bool=true by first | rfl | decide | simp [WShape.has,WShape.arms,WShape.armsAll])
  (show (WTm.eq .res (.lit (.bool true))).value [] { args:=args,res:=some (.bool true),after:=args }=some (.bool (true==true)) from w_eq_bool (w_res rfl) w_lit) rfl
theorem attach_call {l:OpenLaw} {n:Nat} {q:Program} {loose:List Str} {XP:(Str->Option Value)->Heap->Prop} {YP:World->Heap->Prop} {d:DefRec}
  (hn:l.most=some n) (hdf:d.params.defaults=[])
  (call:∀ (w:World) (s₀ s₁:Shared) (mg mb:Str->Option Value) (fa:Addr) (o:Obj) (pm cd doc:Value) (a:Addr) (vs:List Value) (ns:List Int),
   Ground q loose [] XP w s₀ mg mb s₁.heap->YP w s₁.heap->
   s₁.heap.get? fa=some o->o.data=.func (docDef d.name d.params d.body d.scope pm cd doc)->s₁.heap.CodeRec cd d.name->mg d.name=some (.ref fa)->
   s₁.heap.get? a=some { cls:=.type "list",data:=.seq vs.toArray }->IntsAre vs ns->ns.length<=n->s₁.gens=#[]->
   codeAny (model l.prog w) callerA (.call (.ref fa) ⟨[.ref a],[]⟩) (λr s'=>r=.ok (.ret (.bool true))/\OldK s₁.heap s'.heap/\s'.os=s₁.os/\AllBare s'.gens) s₁) :
  WalkO q loose XP YP l.row.toRowW d [] (λf vs=>PySem.call f vs):=by
 intro w s₀ s₁ mg mb G Y fa o pm cd doc dV kV ho hd hcd hD hmg hg args vals as hpre hlay hrd hwl hlo
 obtain rfl:dV=.none:=Dflts.none hD hdf
 obtain rfl:kV=.none:=Dflts.noKw hD
 obtain ⟨a,vs,ns,rfl,rfl,hobj,hints,hlen⟩:=Ud hn hpre hwl
 refine enter_call (codeAny_mono (call w s₀ s₁ mg mb fa o pm cd doc a vs ns G Y ho (fd_plain hd) hcd hmg hobj hints hlen hg) λr s' hq=>?_)
 obtain ⟨rfl,h2,h3,h4⟩:=hq
 exact ⟨.inl ⟨.bool true,.bool true,[],rfl,λ_=>rfl,.bool true,VU l _,λ_=>⟨List.Pairwise.nil,λ_ hm=>(nomatch hm)⟩⟩,h2,h3,h4⟩
section
variable {prog:Program} {w:World} {A:Around} {E:Value->Shared->Prop} {s:Shared} {K:Frag}
end
end Att
namespace L2
open PySem PySem.Spec PyProof.Rows
theorem NO:∀ {vs:List Value} {ns:List Int},IntsAre vs ns->Ay (ns.map V.int) vs
 | _,_,.nil=>.nil
 | _,_,.cons n t h=>.cons ⟨t,rfl⟩ (NO h)
def Nj (H:Hp):Prop:=∀ b,H b=none\/∃ o xs,H b=some (.frz o (.lst xs))
theorem YE {P:Program} {w:World} {K:PySem.W.Frag} {mg mb:Str->Option Value} {CX:CJ} {k:Nat} {fa a:Addr} {fd:FuncData} {x:Str} {sp:Sp} {s₁:Shared} {vs:List Value} {ns:List Int}
  (KX:K.In s₁.heap) (hns:s₁.heap.Ns mainGlobals mg) (hb:s₁.heap.Ns builtinsNs mb) (hbb:∀ x:Str,x ≠ "__name__" -> mb x=bootBuiltins x) (hlim:s₁.heap.NoLimit) (hg:s₁.gens=#[])
  (ha:s₁.heap.get? a=some { cls:=.type "list",data:=.seq vs.toArray }) (hi:IntsAre vs ns) (hl:ns.length<=sizeLine) (hr:AL k callerA)
  (F:∀ base:Heap,K.In base->base.Ns mainGlobals mg->AF P w K mg base CX k fa fd [x] sp) (hbind:∀ (s:Shared) (u:Value),BindsTo s fd ⟨[u],[]⟩ [(x,u)])
  (hsp:∀ H:Hp,Nj H->A8 K H a (ns.map V.int)->sp [.ref a] H (λv _=>v=.bl true) λ_ _ _=>False)
  (hCX:∀ H e s',CX [] H s₁ (λ_ _ _=>False) e s'->False) :
  codeAny (model P w) callerA (.call (.ref fa) ⟨[.ref a],[]⟩) (λr s'=>r=.ok (.ret (.bool true))/\OldK s₁.heap s'.heap/\s'.os=s₁.os/\AllBare s'.gens) s₁:=by
 have rv:=NO hi
 have lenV:=hi.length
 -- from an abstract heap in which nothing but the script may be tracked
 have core:∀ H:Hp,Nj H->A8 K H a (ns.map V.int)->Bn P w H s₁.heap->(∀ b,H b≠none->b=a)->(H a≠none->K.lookup a=none)->
   codeAny (model P w) callerA (.call (.ref fa) ⟨[.ref a],[]⟩) (λr s'=>r=.ok (.ret (.bool true))/\OldK s₁.heap s'.heap/\s'.os=s₁.os/\AllBare s'.gens) s₁:=by
  intro H hO hS hok hA hK
  have base_of:∀ {b:Addr} {o:Obj},s₁.heap.get? b=some o->H b=none->(EA s₁.heap H).get? b=some o:=λe n=>Zd e n
  have noA:∀ {b:Addr} {o:Obj} {es:Array DictEntry} {ep:Nat},s₁.heap.get? b=some o->o.data=.dict es ep->H b=none:=λ{b o es ep} e d=>by
   cases q:H b with
   | none=>rfl
   | some u=>
    have e':b=a:=hA b (by rw [q]; simp)
    subst e'
    rw [ha] at e; cases e
    have d':Data.seq vs.toArray _=Data.dict es ep:=d
    cases d'
  have nsK:∀ {b:Addr} {m:Str->Option Value},s₁.heap.Ns b m->(EA s₁.heap H).Ns b m:=λ{b m} ⟨o,es,ep,e,d,r⟩=>⟨o,es,ep,base_of e (noA e d),d,r⟩
  have hKb:K.In (EA s₁.heap H):=λb o e=>base_of (KX b o e) (by
   cases q:H b with
   | none=>rfl
   | some u=>
    have e':b=a:=hA b (by rw [q]; simp)
    subst e'
    rw [hK (by rw [q]; simp)] at e; cases e)
  have hM:Mod K mg (EA s₁.heap H):=⟨hKb,nsK hns,⟨mb,nsK hb,hbb⟩,let ⟨mc,h1,h2⟩:=hlim; ⟨mc,nsK h1,h2⟩⟩
  have e0:FT P w K mg (EA s₁.heap H) callerA [] s₁ H:=⟨rfl,hM,λb o e=>X5 e,Nat.le_of_eq (Zc _ _),trivial,λb hb=>absurd (show b∈([]:List Addr) from hb) (by simp),hok,.of_eq hg⟩
  refine codeAny_mono ((F _ hKb (nsK hns)).run callerA [] s₁ H ⟨[.ref a],[]⟩ [.ref a] [.ref a] _ _ hr e0 (hbind s₁ (.ref a)) (.cons rfl .nil) (hsp H hO hS)) λr s' h=>?_
  cases r with
  | error e=>exact (hCX H e s' h).elim
  | ok fl=>
   cases fl with
   | next=>exact False.elim h
   | brk=>exact False.elim h
   | cont=>exact False.elim h
   | ret u=>
    obtain ⟨v,H',os,bare,un,hok',r',q⟩:=h
    have q':v=.bl true:=q
    subst q'
    obtain rfl:u=Value.bool true:=r'
    refine ⟨rfl,OldK.of_keep λb o e=>?_,os,bare⟩
    cases q:H b with
    | none=>exact un.keep b o e q (by intro z; exact absurd (show b∈([]:List Addr) from z) (by simp)) (by simp)
    | some u=>
     rcases hO b with z | ⟨ob,xs,z⟩
     ·rw [q] at z; cases z
     ·have z2:=un.frzs b ob _ z
      obtain ⟨e1,_⟩:=hok b _ z
      obtain ⟨e2,_⟩:=hok' b _ z2
      rw [e] at e1; cases e1
      exact e2
 cases hk:K.lookup a with
 | some o=>
  -- the script is one of the module's own objects
  have e:=KX a o hk
  rw [ha] at e
  cases e
  refine core (λ_=>none) (λ_=>.inl rfl) (.inr ⟨_,vs.toArray,_,hk,rfl,rfl,rfl,by rw [List.size_toArray,lenV]; exact hl,by simpa using rv⟩) (λb u z=>by have z':(none:Option HO)=some u:=z; cases z') (λb z=>absurd rfl z) λz=>absurd rfl z
 | none=>
  refine core (λb=>if b=a then some (.frz { cls:=.type "list",data:=.seq vs.toArray } (.lst (ns.map V.int))) else none) (λb=>?_) (.inl (.inr ⟨{ cls:=.type "list",data:=.seq vs.toArray },if_pos rfl⟩)) (λb u z=>?_) (λb z=>?_) λ_=>hk
  ·by_cases hb:b=a
   ·exact .inr ⟨_,_,if_pos hb⟩
   ·exact .inl (if_neg hb)
  ·by_cases hb:b=a
   ·have z':=(if_pos hb).symm.trans z
    cases z'
    subst hb
    exact ⟨ha,by rw [List.length_map]; exact hl,vs,_,rv,ha⟩
   ·have z':=(if_neg hb).symm.trans z
    cases z'
  ·by_cases hb:b=a
   ·exact hb
   ·exact absurd (if_neg hb) z
end L2
namespace L2
open PySem PySem.Spec PyProof.Rows
theorem walk_of {l:PySem.W.OpenLaw} {n k:Nat} {q:Program} {loose:List Str} {XP:(Str->Option Value)->Heap->Prop} {YP:World->Heap->Prop} {d:DefRec} {K:Params->PySem.W.Frag} {CX:World->CJ} {sp:World->Sp} {x:Str}
  (hn:l.most=some n) (hn2:n<=sizeLine) (hdf:d.params.defaults=[]) (hr:AL k callerA)
  (hY:∀ (w:World) (h:Heap),YP w h->(K w.params).In h)
  (F:∀ (w:World) (mg:Str->Option Value) (fa:Addr) (h:Heap),(K w.params).In h->h.Ns mainGlobals mg->mg d.name=some (.ref fa)->
   ∃ fd:FuncData,(∀ (s:Shared) (u:Value),BindsTo s fd ⟨[u],[]⟩ [(x,u)]) /\
    ∀ base:Heap,(K w.params).In base->base.Ns mainGlobals mg->AF l.prog w (K w.params) mg base (CX w) k fa fd [x] (sp w))
  (hsp:∀ (w:World) (H:Hp) (a:Addr) (ns:List Int),ns.length<=n->Nj H->A8 (K w.params) H a (ns.map V.int)->sp w [.ref a] H (λv _=>v=.bl true) λ_ _ _=>False)
  (hCX:∀ (w:World) (H:Hp) (s:Shared) (e:Value) (s':Shared),CX w [] H s (λ_ _ _=>False) e s'->False) :
  PySem.W.WalkO q loose XP YP l.row.toRowW d [] (λf vs=>PySem.call f vs):=by
 refine Att.attach_call hn hdf λw s₀ s₁ mg mb fa o pm cd doc a vs ns G Y ho hd hcd hmg hobj hints hlen hg=>?_
 have KX:=hY w _ Y
 obtain ⟨fd,hb,hF⟩:=F w mg fa _ KX G.T.g hmg
 exact YE KX G.T.g G.T.b G.T.builtins G.T.nolimit hg hobj hints (Nat.le_trans hlen hn2) hr hF hb (λH hO hS=>hsp w H a ns hlen hO hS) λH e s'=>hCX w H s₁ e s'
end L2
namespace L2
open PySem PySem.Spec PyProof.Rows
def BA (s:Stmt) (j:Nat):Stmt:=match s with
 | .ClassDef _ _ _ body _ _ _ _ _ _ _=>body.getD j (.Pass ⟨0,0,0,0⟩)
 | _=>.Pass ⟨0,0,0,0⟩
def C5 (s:Stmt):Arguments:=match s with
 | .FunctionDef _ a _ _ _ _ _ _ _ _=>a
 | _=>{ posonlyargs:=[],args:=[],vararg:=none,kwonlyargs:=[],kw_defaults:=[],kwarg:=none,defaults:=[] }
def Cf (s:Stmt):List Stmt:=match s with
 | .FunctionDef _ _ b _ _ _ _ _ _ _=>b
 | _=>[]
def An (s:Stmt):Scope:=match s with
 | .FunctionDef _ _ _ _ _ _ sc _ _ _=>sc
 | _=>{ kind:=.function,names:=[],isGenerator:=false,isCoroutine:=false }
abbrev AI:CJ:=λ_ _ _ _ _ _=>False
abbrev E0:XK:=λ_ _ _=>False
theorem Gd {X:Cx}:Fe AI X E0:=λ_ _ _ _ _ _ _ h=>h.elim
structure Au (K:PySem.W.Frag) (x qual:Str) (st:Stmt) (f:Addr) (fd:FuncData):Prop where
 ex:∃ (oc:Value) (od:Option Addr) (kV doc pm:Value) (an:Option Addr) (cdv ct:Value) (osl:Array (Option Value)),
  fd=PySem.W.fnOf x qual (C5 st) (Cf st) (An st) .none kV doc pm an cdv ct/\K.lookup f=some ⟨oc,od,.func fd,osl⟩/\PySem.W.codeIn K cdv qual=true
 kp:PySem.W.keepIn K (.ref f)=true
section
variable {P:Program} {w:World} {K:PySem.W.Frag} {mg:Str->Option Value} {base:Heap}
theorem Au.ok {x qual:Str} {st:Stmt} {f:Addr} {fd:FuncData} {N ps:List Str} {k:Nat} {sp:Sp} (F:Au K x qual st f fd) (S:AB N ps (An st)) (len:∀ vs H Q E,sp vs H Q E->vs.length=ps.length)
  (hbody:∀ (cdv:Value) (A:Around) (outer:List Env) (s:Shared) (H:Hp) (vs:List V) (Q:VK) (E:XK),AL k (A.deeper (envOfC qual (An st) s.heap.objs.size f cdv))->sp vs H Q E->
   ∃ t,PSs (Dh AI P w K mg base N qual (An st) f cdv A outer s H E).nox (Cf st) t/\t { nx:=λ_ H'=>Q .non H',rt:=Q } (start N vs) H):AF P w K mg base AI (k+1) f fd ps sp:=by
 obtain ⟨oc,od,kV,doc,pm,an,cdv,ct,osl,rfl,lk,hcd⟩:=F.ex
 refine MD lk hcd S len λA outer s H vs Q E hr hsp=>?_
 obtain ⟨t,h,q⟩:=hbody cdv A outer s H vs Q E hr hsp
 exact ⟨t,h.nox,q⟩
theorem Au.binds {x qual:Str} {st:Stmt} {f:Addr} {fd:FuncData} {ps:List Str} (F:Au K x qual st f fd)
  (h:∀ (kV doc pm:Value) (an:Option Addr) (cdv ct:Value) (us:List Value),us.length=ps.length->bindArgs (PySem.W.fnOf x qual (C5 st) (Cf st) (An st) .none kV doc pm an cdv ct) ⟨us,[]⟩=pure (ps.zip us)):Binds K fd ps []:=by
 obtain ⟨oc,od,kV,doc,pm,an,cdv,ct,osl,rfl,lk,hcd⟩:=F.ex
 exact .all (h kV doc pm an cdv ct)
theorem MB {x qual:Str} {st:Stmt} {f:Addr} {oc:Value} {od an:Option Addr} {osl:Array (Option Value)} {kV doc pm cdv ct:Value} (l:K.lookup f=some ⟨oc,od,.func (PySem.W.fnOf x qual (C5 st) (Cf st) (An st) .none kV doc pm an cdv ct),osl⟩)
  (c:PySem.W.codeIn K cdv qual=true) (k:PySem.W.keepIn K (.ref f)=true):Au K x qual st f (PySem.W.fnOf x qual (C5 st) (Cf st) (An st) .none kV doc pm an cdv ct):=⟨⟨oc,od,kV,doc,pm,an,cdv,ct,osl,rfl,l,c⟩,k⟩
end
theorem Y8 {A:Around} {k:Nat} (hr:AL k A):A.units+1<cLine:=Nat.lt_of_le_of_lt (Nat.add_le_add_left (by decide:1<=64) _) hr.units
theorem TX {n:Nat} (h:n<=1000):n<sizeLine:=Nat.lt_of_le_of_lt h wE
section
variable {X:Cx}
end
theorem Mt {A B:Prop} (h:B):if false=true then A else B:=by
 rw [if_neg Bool.false_ne_true]
 exact h
theorem Ms {A B:Prop} (h:A):if true=true then A else B:=by
 rw [if_pos rfl]
 exact h
def Bl (H H':Hp):Prop:=∀ b o,H b=some o->H' b=some o
theorem Bl.refl (H:Hp):Bl H H:=λ_ _ h=>h
theorem Bl.trans {H H1 H2:Hp} (a:Bl H H1) (b:Bl H1 H2):Bl H H2:=λc o h=>b c o (a c o h)
theorem Bl.free {H H':Hp} (e:Bl H H') {l:Addr} (h:H' l=Option.none):H l=Option.none:=by
 cases q:H l with
 | none=>rfl
 | some o=>
  rw [e l o q] at h
  cases h
theorem Bl.seq {K:PySem.W.Frag} {H H':Hp} {a:Addr} {xs:List V} (e:Bl H H') (h:A8 K H a xs):A8 K H' a xs:=by
 rcases h with (h | ⟨o,h⟩) | h
 ·exact .inl (.inl (e _ _ h))
 ·exact .inl (.inr ⟨o,e _ _ h⟩)
 ·exact .inr h
end L2
namespace L2
open PySem PySem.Spec PyProof.Rows
section
variable {κ:Type} [DecidableEq κ]
end
section
variable {P:Program} {w:World} {H:Hp} {h:Heap} {a:Addr}
end
section
variable {X:Cx} {pins:List (Addr×Obj)} {σ:St} {H:Hp} {s:Shared} {a:Addr} {y v:V} {u r:Value} {o:Option V} {A:Around} {E:Value->Shared->Prop}
end
section
variable {X:Cx} {pins:List (Addr×Obj)} {σ:St} {H:Hp} {s:Shared} {a:Addr} {kvs:List (A1×V)} {k:A1} {u:Value} {A:Around} {E:Value->Shared->Prop}
end
section
variable {X:Cx} {o i e value:Expr} {pos pos' tpos:Pos} {td ty tv:TE}
end
section
variable {X:Cx} {pos:Pos}
end
def Tj:List (TE×TE)->St->Hp->(List (V×V)->Hp->Prop)->Prop
 | [],_,H,Q=>Q [] H
 | (tk,tv)::r,σ,H,Q=>tk σ H λx H1=>tv σ H1 λy H2=>Tj r σ H2 λps H3=>Q ((x,y)::ps) H3
structure M1 (X:Cx) (o:Expr) (m:Str) (apos:Pos) (e:Expr) (cpos:Pos):Prop where
 base:attributeBase o m X.env (eval o X.env)=eval o X.env
 few:((backTo cpos (starEach [e] X.env)).all (λx=>!x.1)&&(backToKw cpos (keywordEach [] X.env)).all (λx=>x.1.isSome)
  && decide (([e]:List Expr).length+([]:List Keyword).length+(if ([]:List Keyword).isEmpty then 0 else 1)<30))=true
 line:(apos.endLine==cpos.line)=true
 trees:backTo cpos (starEach [e] X.env)=[(false,eval e X.env)]
structure M2 (X:Cx) (o:Expr) (m:Str) (apos:Pos) (e f:Expr) (cpos:Pos):Prop where
 base:attributeBase o m X.env (eval o X.env)=eval o X.env
 few:((backTo cpos (starEach [e,f] X.env)).all (λx=>!x.1)&&(backToKw cpos (keywordEach [] X.env)).all (λx=>x.1.isSome)
  && decide (([e,f]:List Expr).length+([]:List Keyword).length+(if ([]:List Keyword).isEmpty then 0 else 1)<30))=true
 line:(apos.endLine==cpos.line)=true
 trees:backTo cpos (starEach [e,f] X.env)=[(false,eval e X.env),(false,eval f X.env)]
section
variable {X:Cx} {pins:List (Addr×Obj)} {σ:St} {H:Hp} {s:Shared} {a:Addr} {y d:V} {u r:Value} {o:Option V} {A:Around} {E:Value->Shared->Prop}
end
section
variable {X:Cx} {o e f:Expr} {apos cpos:Pos} {td ty tx:TE}
end
section
variable {X:Cx} {pins:List (Addr×Obj)} {σ:St} {H:Hp} {s:Shared} {a:Addr} {kvs:List (A1×V)} {A:Around} {E:Value->Shared->Prop}
end
section
variable {X:Cx} {pins:List (Addr×Obj)} {σ:St} {H:Hp} {s:Shared} {a:Addr} {y:V} {u:Value} {A:Around} {E:Value->Shared->Prop}
end
section
variable {X:Cx}
end
section
variable {κ:Type} [DecidableEq κ]
end
end L2
namespace DL
open PySem PySem.Spec PyProof.Rows L2
inductive D where
 | non | bl (b:Bool) | int (i:Int) | str (x:Str) | tup (xs:List D) | lst (xs:List D) | scr (xs:List D) | ptr (n:Nat) | ty (n:String) | fn (a:Addr) | dct (ks:List A1) (xs:List D)
structure Wd where
 g:Hp
 l:List Addr
structure Ah (G G':Wd):Prop where
 g:Bl G.g G'.g
 l:∃ t,G'.l=G.l++t
theorem Ah.refl (G:Wd):Ah G G:=⟨Bl.refl _,[],(List.append_nil _).symm⟩
theorem Ah.trans {G G' G'':Wd} (a:Ah G G') (b:Ah G' G''):Ah G G'':=⟨a.g.trans b.g,by
 obtain ⟨t,e⟩:=a.l; obtain ⟨u,e'⟩:=b.l; exact ⟨t++u,by rw [e',e,List.append_assoc]⟩⟩
theorem Ah.at {G G':Wd} {n:Nat} {a:Addr} (e:Ah G G') (h:G.l[n]?=some a):G'.l[n]?=some a:=by
 obtain ⟨t,e⟩:=e.l
 rw [e,List.getElem?_append_left (List.getElem?_eq_some_iff.mp h).1,h]
mutual
inductive Is (K:PySem.W.Frag) (G:Wd):D->V->Prop
 | non:Is K G .non .non
 | bl (b:Bool):Is K G (.bl b) (.bl b)
 | int (i:Int):Is K G (.int i) (.int i)
 | str (x:Str):Is K G (.str x) (.str x)
 | tup {a:Addr} {ds:List D} {vs:List V} (h:Bc K G.g a vs) (r:Ak K G ds vs):Is K G (.tup ds) (.ref a)
 | lst {a:Addr} {ds:List D} {vs:List V} (h:G.g a=some (.lst vs)) (r:Ak K G ds vs):Is K G (.lst ds) (.ref a)
 | scr {a:Addr} {ds:List D} {vs:List V} (h:A8 K G.g a vs) (r:Ak K G ds vs):Is K G (.scr ds) (.ref a)
 | ptr {a:Addr} (n:Nat) (h:G.l[n]?=some a):Is K G (.ptr n) (.ref a)
 | ty (n:String):Is K G (.ty n) (.ty n)
 | fn (a:Addr):Is K G (.fn a) (.ref a)
 | dct {a:Addr} {ks:List A1} {ds:List D} {vs:List V} {ob:Obj} (h:G.g a=some (.frz ob (.dK (ks.zip vs)))) (hl:ks.length=vs.length) (r:Ak K G ds vs):Is K G (.dct ks ds) (.ref a)
inductive Ak (K:PySem.W.Frag) (G:Wd):List D->List V->Prop
 | nil:Ak K G [] []
 | cons {d:D} {v:V} {ds:List D} {vs:List V} (h:Is K G d v) (r:Ak K G ds vs):Ak K G (d::ds) (v::vs)
end
theorem Dm {K:PySem.W.Frag} {H H':Hp} {a:Addr} {xs:List V} (e:Bl H H') (h:Bc K H a xs):Bc K H' a xs:=by
 rcases h with (h | ⟨o,h⟩) | h
 ·exact .inl (.inl (e _ _ h))
 ·exact .inl (.inr ⟨o,e _ _ h⟩)
 ·exact .inr h
mutual
theorem Is.ext {K:PySem.W.Frag} {G G':Wd} (e:Ah G G'):∀ {d:D} {v:V},Is K G d v->Is K G' d v
 | _,_,.non=>.non
 | _,_,.bl b=>.bl b
 | _,_,.int i=>.int i
 | _,_,.str x=>.str x
 | _,_,.tup h r=>.tup (Dm e.g h) (Ak.ext e r)
 | _,_,.lst h r=>.lst (e.g _ _ h) (Ak.ext e r)
 | _,_,.scr h r=>.scr (e.g.seq h) (Ak.ext e r)
 | _,_,.ptr n h=>.ptr n (e.at h)
 | _,_,.ty n=>.ty n
 | _,_,.fn n=>.fn n
 | _,_,.dct h hl r=>.dct (e.g _ _ h) hl (Ak.ext e r)
theorem Ak.ext {K:PySem.W.Frag} {G G':Wd} (e:Ah G G'):∀ {ds:List D} {vs:List V},Ak K G ds vs->Ak K G' ds vs
 | _,_,.nil=>.nil
 | _,_,.cons h r=>.cons (Is.ext e h) (Ak.ext e r)
end
section
variable {K:PySem.W.Frag} {G G':Wd}
theorem Ak.length:∀ {ds:List D} {vs:List V},Ak K G ds vs->ds.length=vs.length
 | _,_,.nil=>rfl
 | _,_,.cons _ r=>by rw [List.length_cons,List.length_cons,r.length]
theorem Ak.append:∀ {ds es:List D} {vs us:List V},Ak K G ds vs->Ak K G es us->Ak K G (ds++es) (vs++us)
 | _,_,_,_,.nil,q=>q
 | _,_,_,_,.cons h r,q=>.cons h (Ak.append r q)
theorem Ak.get:∀ {ds:List D} {vs:List V} {i:Nat} {d:D},Ak K G ds vs->ds[i]?=some d->∃ v,vs[i]?=some v/\Is K G d v
 | _,_,_,_,.nil,e=>by simp at e
 | _,_,0,_,.cons h r,e=>by simp at e; subst e; exact ⟨_,rfl,h⟩
 | _,_,i+1,d,.cons h r,e=>by
  obtain ⟨v,e1,h1⟩:=Ak.get (i:=i) (d:=d) r (by simpa using e)
  exact ⟨v,by simpa using e1,h1⟩
theorem Ak.getV:∀ {ds:List D} {vs:List V} {i:Nat} {v:V},Ak K G ds vs->vs[i]?=some v->∃ d,ds[i]?=some d/\Is K G d v
 | _,_,_,_,.nil,e=>by simp at e
 | _,_,0,_,.cons h r,e=>by simp at e; subst e; exact ⟨_,rfl,h⟩
 | _,_,i+1,d,.cons h r,e=>by
  obtain ⟨v,e1,h1⟩:=Ak.getV (i:=i) (v:=d) r (by simpa using e)
  exact ⟨v,by simpa using e1,h1⟩
theorem Ak.take:∀ {ds:List D} {vs:List V} (n:Nat),Ak K G ds vs->Ak K G (ds.take n) (vs.take n)
 | _,_,0,_=>.nil
 | _,_,_+1,.nil=>.nil
 | _,_,n+1,.cons h r=>.cons h (Ak.take n r)
theorem Ak.drop:∀ {ds:List D} {vs:List V} (n:Nat),Ak K G ds vs->Ak K G (ds.drop n) (vs.drop n)
 | _,_,0,h=>h
 | _,_,_+1,.nil=>.nil
 | _,_,n+1,.cons h r=>Ak.drop n r
theorem Ak.set {d:D} {v:V} (q:Is K G d v):∀ {ds:List D} {vs:List V} (i:Nat),Ak K G ds vs->Ak K G (ds.set i d) (vs.set i v)
 | _,_,_,.nil=>.nil
 | _,_,0,.cons _ r=>.cons q r
 | _,_,i+1,.cons h r=>.cons h (Ak.set q i r)
theorem Ak.ints:∀ {ns:List Int},Ak K G (ns.map D.int) (ns.map V.int)
 | []=>.nil
 | n::ns=>.cons (.int n) (Ak.ints (ns:=ns))
theorem Ak.toInts:∀ {ns:List Int} {vs:List V},Ak K G (ns.map D.int) vs->vs=ns.map V.int
 | [],_,.nil=>rfl
 | n::ns,_,.cons h r=>by cases h; rw [Ak.toInts r]; rfl
end
def _root_.L2.ctxOf (o:Obj):Option Value:=match o.data with | .fields vs=>vs[2]? | _=>none
inductive MO where
 | lst (xs:List D)
 | ins (C:Addr) (fs:List (Str×D))
 | exc (C:Addr) (fs:List (Str×D)) (h:Option Addr:=none)
 | dct (ks:List A1) (xs:List D)
 | pin (ob:Obj) (vs:List V) (ks:List A1) (xs:List D)
abbrev Ae:=List (Option MO)
inductive Bo (K:PySem.W.Frag) (G:Wd):List (Str×D)->List (Str×V)->Prop
 | nil:Bo K G [] []
 | cons {f:Str} {d:D} {v:V} {fs:List (Str×D)} {vs:List (Str×V)} (h:Is K G d v) (r:Bo K G fs vs):Bo K G ((f,d)::fs) ((f,v)::vs)
theorem Bo.ext {K:PySem.W.Frag} {G G':Wd} (e:Ah G G'):∀ {fs:List (Str×D)} {vs:List (Str×V)},Bo K G fs vs->Bo K G' fs vs
 | _,_,.nil=>.nil
 | _,_,.cons h r=>.cons (h.ext e) (Bo.ext e r)
def Fg (K:PySem.W.Frag) (G:Wd) (H:Hp) (p:Addr):MO->Prop
 | .lst xs=>∃ vs,H p=some (.lst vs)/\Ak K G xs vs
 | .ins C fs=>∃ dx vs,H p=some (.ins C dx vs)/\Bo K G fs vs
 | .exc C fs h=>∃ ob,H p=some (.ext λh=>h.get? p=some ob)/\(ob.cls=.ref C/\∃ ws,ob.data=.fields ws)/\(fs=[]\/∃ dx vs,ob.dict=some dx/\G.g dx=some (.xd vs)/\Bo K G fs vs)/\∀ a,h=some a->p=a/\L2.ctxOf ob=some .none
 | .dct ks xs=>∃ vs,H p=some (.dK (ks.zip vs))/\ks.length=vs.length/\Ak K G xs vs
 | .pin ob vs ks xs=>H p=some (.frz ob (.dK (ks.zip vs)))/\ks.length=vs.length/\Ak K G xs vs
structure SA (K:PySem.W.Frag) (G:Wd) (H:Hp) (O:Ae):Prop where
 sub:Bl G.g H
 len:G.l.length=O.length
 nd:G.l.Nodup
 liv:∀ a∈G.l,∃ o,H a=some o
 mt:∀ (n:Nat) (m:MO),O[n]?=some (some m)->∃ a,G.l[n]?=some a/\G.g a=none/\Fg K G H a m
section
variable {K:PySem.W.Frag} {G G':Wd} {H H':Hp} {O:Ae}
theorem Fg.ext {p:Addr} {m:MO} (e:Ah G G') (q:H' p=H p) (h:Fg K G H p m):Fg K G' H' p m:=by
 cases m with
 | lst xs=>obtain ⟨vs,h1,h2⟩:=h; exact ⟨vs,by rw [q]; exact h1,h2.ext e⟩
 | ins C fs=>obtain ⟨dx,vs,h1,h2⟩:=h; exact ⟨dx,vs,by rw [q]; exact h1,h2.ext e⟩
 | exc C fs ha=>
  obtain ⟨ob,h1,h2,h3,h4⟩:=h
  refine ⟨ob,by rw [q]; exact h1,h2,h3.imp id ?_,h4⟩
  rintro ⟨dx,vs,a1,a2,a3⟩
  exact ⟨dx,vs,a1,e.g _ _ a2,a3.ext e⟩
 | dct ks xs=>obtain ⟨vs,h1,hl,h2⟩:=h; exact ⟨vs,by rw [q]; exact h1,hl,h2.ext e⟩
 | pin ob vs ks xs=>obtain ⟨h1,hl,h2⟩:=h; exact ⟨by rw [q]; exact h1,hl,h2.ext e⟩
theorem Fg.some {p:Addr} {m:MO} (h:Fg K G H p m):∃ o,H p=some o:=by
 cases m with
 | lst xs=>obtain ⟨vs,h1,h2⟩:=h; exact ⟨_,h1⟩
 | ins C fs=>obtain ⟨dx,vs,h1,h2⟩:=h; exact ⟨_,h1⟩
 | exc C fs ha=>obtain ⟨ob,h1,_⟩:=h; exact ⟨_,h1⟩
 | dct ks xs=>obtain ⟨vs,h1,_⟩:=h; exact ⟨_,h1⟩
 | pin ob vs ks xs=>exact ⟨_,h.1⟩
theorem SA.free {p:Addr} (s:SA K G H O) (h:H p=none):G.g p=none:=s.sub.free h
theorem SA.grow (s:SA K G H O) (e:Bl H H'):SA K G H' O:=
 ⟨s.sub.trans e,s.len,s.nd,λa ha=>let ⟨o,h⟩:=s.liv a ha; ⟨o,e _ _ h⟩,λn m h=>by
  obtain ⟨a,h1,h2,h3⟩:=s.mt n m h
  obtain ⟨o,h4⟩:=h3.some
  exact ⟨a,h1,h2,h3.ext (Ah.refl _) (by rw [h4,e _ _ h4])⟩⟩
theorem GZ {p:Addr} {o:HO} (h:H p=none):Bl H (Ao H p o):=λb u q=>by
 rw [AJ]; exact q
 rintro rfl; rw [h] at q; cases q
theorem SA.laid {p:Addr} {o:HO} (s:SA K G H O) (h:H p=none):Ah G ⟨Ao G.g p o,G.l⟩/\SA K ⟨Ao G.g p o,G.l⟩ (Ao H p o) O:=by
 have e:Ah G ⟨Ao G.g p o,G.l⟩:=⟨GZ (s.free h),[],(List.append_nil _).symm⟩
 refine ⟨e,⟨λb u q=>?_,s.len,s.nd,λa ha=>let ⟨o,q⟩:=s.liv a ha; ⟨o,GZ h _ _ q⟩,λn m hq=>?_⟩⟩
 ·by_cases hb:b=p
  ·subst hb
   have q:Ao G.g b o b=some u:=q
   rw [A5] at q; rw [A5]; exact q
  ·have q:Ao G.g p o b=some u:=q
   rw [AJ hb] at q ⊢; exact s.sub b u q
 ·obtain ⟨a,h1,h2,h3⟩:=s.mt n m hq
  have ne:a≠p:=by
   rintro rfl; obtain ⟨o,h4⟩:=h3.some; rw [h] at h4; cases h4
  exact ⟨a,h1,by show Ao G.g p o a=none; rw [AJ ne]; exact h2,h3.ext e (AJ ne)⟩
theorem SA.new {p:Addr} {o:HO} {m:MO} (s:SA K G H O) (h:H p=none) (r:Fg K ⟨G.g,G.l++[p]⟩ (Ao H p o) p m):Ah G ⟨G.g,G.l++[p]⟩/\SA K ⟨G.g,G.l++[p]⟩ (Ao H p o) (O++[some m]):=by
 have e:Ah G ⟨G.g,G.l++[p]⟩:=⟨Bl.refl _,[p],rfl⟩
 have hp:p∉G.l:=λz=>by obtain ⟨o,q⟩:=s.liv p z; rw [h] at q; cases q
 refine ⟨e,⟨s.sub.trans (GZ h),?_,?_,?_,?_⟩⟩
 ·simp [s.len]
 ·exact List.nodup_append.mpr ⟨s.nd,List.nodup_cons.mpr ⟨List.not_mem_nil,List.nodup_nil⟩,λa ha b hb=>by
   rw [List.mem_singleton] at hb; subst hb; rintro rfl; exact hp ha⟩
 ·intro a ha
  rcases List.mem_append.mp ha with ha | ha
  ·obtain ⟨u,q⟩:=s.liv a ha; exact ⟨u,GZ h _ _ q⟩
  ·rw [List.mem_singleton] at ha; subst ha; exact ⟨_,A5⟩
 ·intro n m' hq
  by_cases hn:n<O.length
  ·rw [List.getElem?_append_left hn] at hq
   obtain ⟨a,h1,h2,h3⟩:=s.mt n m' hq
   have ne:a≠p:=by rintro rfl; exact hp (List.mem_of_getElem? h1)
   exact ⟨a,e.at h1,h2,h3.ext e (AJ ne)⟩
  ·have e1:n=O.length:=by
    have:=(List.getElem?_eq_some_iff.mp hq).1
    rw [List.length_append,List.length_singleton] at this
    omega
   subst e1
   rw [List.getElem?_append_right (Nat.le_refl _),Nat.sub_self] at hq
   cases hq
   exact ⟨p,by show (G.l++[p])[O.length]?=_; rw [<- s.len,List.getElem?_append_right (Nat.le_refl _),Nat.sub_self]; rfl,s.free h,r⟩
theorem SA.put {n:Nat} {p:Addr} {o:HO} {m m':MO} (s:SA K G H O) (h:O[n]?=some (some m)) (hp:G.l[n]?=some p) (r:Fg K G (Ao H p o) p m'):SA K G (Ao H p o) (O.set n (some m')):=by
 obtain ⟨a,h1,h2,h3⟩:=s.mt n m h
 obtain rfl:p=a:=Option.some.inj (hp.symm.trans h1)
 refine ⟨λb u q=>?_,by simp [s.len],s.nd,λb hb=>?_,λk m2 hk=>?_⟩
 ·rw [AJ]; exact s.sub b u q
  rintro rfl; rw [h2] at q; cases q
 ·by_cases hbp:b=p
  ·subst hbp; exact ⟨_,A5⟩
  ·obtain ⟨u,q⟩:=s.liv b hb; exact ⟨u,by rw [AJ hbp]; exact q⟩
 ·by_cases hkn:n=k
  ·subst hkn
   rw [List.getElem?_set_self (List.getElem?_eq_some_iff.mp h).1] at hk
   cases hk
   exact ⟨p,hp,h2,r⟩
  ·rw [List.getElem?_set_ne hkn] at hk
   obtain ⟨b,g1,g2,g3⟩:=s.mt k m2 hk
   have ne:b≠p:=by
    rintro rfl
    exact hkn ((List.getElem?_inj (List.getElem?_eq_some_iff.mp hp).1 s.nd).mp (hp.trans g1.symm))
   exact ⟨b,g1,g2,g3.ext (Ah.refl _) (AJ ne)⟩
end
abbrev Ai:=List (Option D)
structure Ax (K:PySem.W.Frag) (G:Wd) (σ:L2.St) (ρ:Ai):Prop where
 len:σ.length=ρ.length
 get:∀ (i:Nat) (d:D),ρ[i]?=some (some d)->∃ v,σ[i]?=some (some v)/\Is K G d v
theorem Ax.ext {K:PySem.W.Frag} {G G':Wd} {σ:L2.St} {ρ:Ai} (e:Ah G G') (h:Ax K G σ ρ):Ax K G' σ ρ:=
 ⟨h.len,λi d q=>let ⟨v,h1,h2⟩:=h.get i d q; ⟨v,h1,h2.ext e⟩⟩
theorem Ax.set {K:PySem.W.Frag} {G:Wd} {σ:L2.St} {ρ:Ai} {d:D} {v:V} (i:Nat) (h:Ax K G σ ρ) (q:Is K G d v):Ax K G (σ.set i (some v)) (ρ.set i (some d)):=by
 refine ⟨by simp [h.len],λj e hj=>?_⟩
 by_cases hij:i=j
 ·subst hij
  by_cases hl:i<ρ.length
  ·rw [List.getElem?_set_self hl] at hj
   cases hj
   exact ⟨v,List.getElem?_set_self (by rw [h.len]; exact hl),q⟩
  ·rw [List.getElem?_eq_none (by simp; omega)] at hj; cases hj
 ·rw [List.getElem?_set_ne hij] at hj ⊢
  exact h.get j e hj
def Ev (X:Cx) (ρ:Ai) (O:Ae) (e:Expr) (R:D->Ae->Prop):Prop:=
 ∀ G,PE X e (λσ H Q=>SA X.K G H O/\Ax X.K G σ ρ/\∀ v d O' G' H',Ah G G'->SA X.K G' H' O'->Is X.K G' d v->R d O'->Q v H')
def Ad (X:Cx) (ρ:Ai) (O:Ae) (e:Expr) (d:D):Prop:=
 ∀ G,PE X e (λσ H Q=>SA X.K G H O/\Ax X.K G σ ρ/\∀ v G' H',Ah G G'->SA X.K G' H' O->Is X.K G' d v->Q v H')
def AV (X:Cx) (ρ:Ai) (O:Ae) (e:Expr) (b:Bool):Prop:=
 ∀ G,PT X e (λσ H Q=>SA X.K G H O/\Ax X.K G σ ρ/\∀ G' H',Ah G G'->SA X.K G' H' O->Q b H')
def BF (X:Cx) (ρ:Ai) (O:Ae) (e:Expr) (b:Bool):Prop:=
 ∀ G,PW X e (λσ H Q=>SA X.K G H O/\Ax X.K G σ ρ/\∀ G' H',Ah G G'->SA X.K G' H' O->Q b H')
def FS (X:Cx) (ρ:Ai) (O:Ae) (es:List Expr) (R:List D->Ae->Prop):Prop:=
 ∀ G,PA X es (λσ H Q=>SA X.K G H O/\Ax X.K G σ ρ/\∀ vs ds O' G' H',Ah G G'->SA X.K G' H' O'->Ak X.K G' ds vs->R ds O'->Q vs H')
theorem _root_.L2.PE.imp {X:Cx} {e:Expr} {t u:TE} (h:PE X e t) (k:∀ σ H Q,u σ H Q->t σ H Q):PE X e u:=λpins s σ H Q I q=>h pins s σ H Q I (k _ _ _ q)
theorem _root_.L2.PT.imp {X:Cx} {e:Expr} {t u:TT} (h:PT X e t) (k:∀ σ H Q,u σ H Q->t σ H Q):PT X e u:=λpins s σ H Q I q=>h pins s σ H Q I (k _ _ _ q)
theorem _root_.L2.PA.imp {X:Cx} {es:List Expr} {t u:TA} (h:PA X es t) (k:∀ σ H Q,u σ H Q->t σ H Q):PA X es u:=λpos pins s σ H Q I q=>h pos pins s σ H Q I (k _ _ _ q)
theorem _root_.L2.PS.imp {X:Cx} {e:Stmt} {t u:TS} (h:PS X e t) (k:∀ D σ H,u D σ H->t D σ H):PS X e u:=λpins s σ H D I q=>h pins s σ H D I (k _ _ _ q)
theorem _root_.L2.PSs.imp {X:Cx} {e:List Stmt} {t u:TS} (h:PSs X e t) (k:∀ D σ H,u D σ H->t D σ H):PSs X e u:=λpins s σ H D I q=>h pins s σ H D I (k _ _ _ q)
section
variable {X:Cx} {ρ:Ai} {O:Ae} {e a b c:Expr} {d da db:D} {R:D->Ae->Prop} {pos:Pos}
theorem Ad.ev (h:Ad X ρ O e d) (r:R d O):Ev X ρ O e R:=λG=>(h G).imp λσ H Q ⟨s,n,k⟩=>⟨s,n,λv G' H' e1 s' i=>k v d O G' H' e1 s' i r⟩
theorem Ev.evp (h:Ev X ρ O e λd' O'=>d'=d/\O'=O):Ad X ρ O e d:=λG=>(h G).imp λσ H Q ⟨s,n,k⟩=>⟨s,n,λv d' O' G' H' e1 s' i r=>by obtain ⟨rfl,rfl⟩:=r; exact k v G' H' e1 s' i⟩
theorem Ad.cast {d':D} (h:Ad X ρ O e d) (q:d=d'):Ad X ρ O e d':=q ▸ h
theorem BF.t (h:BF X ρ O e b'):AV X ρ O e b':=λG=>(h G).pt
theorem AV.cast {k k':Bool} (h:AV X ρ O e k) (q:k=k'):AV X ρ O e k':=q ▸ h
theorem Aa (i:Nat) {x:Str} {p:Pos} (hr:ρ[i]?=some (some d):=by rfl) (hN:X.N[i]?=some x:=by rfl) (hv:C7 X.env.scope x:=by first | exact Or.inl rfl | exact Or.inr (Or.inl rfl) | exact Or.inr (Or.inr rfl))
  (hd:(x==("__debug__" : Str))=false:=by decide) (hcd:(x==("__classdict__" : Str))=false:=by decide):Ad X ρ O (.Name x p) d:=λG=>
 PE.imp (L6 hN hv hd hcd) λσ H Q ⟨s,n,k⟩=>by
  obtain ⟨v,e1,i1⟩:=n.get i d hr
  exact ⟨v,e1,k v G H (Ah.refl _) s i1⟩
theorem Ag {i:Int} {j:Nat}:Ad X ρ O (.Constant (.int i) j pos) (.int i):=λG=>PE.imp Wh λσ H Q ⟨s,n,k⟩=>k _ G H (Ah.refl _) s (.int i)
theorem Dz {i:Bool} {j:Nat}:Ad X ρ O (.Constant (.bool i) j pos) (.bl i):=λG=>PE.imp Wk λσ H Q ⟨s,n,k⟩=>k _ G H (Ah.refl _) s (.bl i)
theorem B5 {j:Nat}:Ad X ρ O (.Constant .none j pos) .non:=λG=>PE.imp Wc λσ H Q ⟨s,n,k⟩=>k _ G H (Ah.refl _) s .non
theorem Ec {x:Str} {j:Nat}:Ad X ρ O (.Constant (.str x) j pos) (.str x):=λG=>PE.imp V9 λσ H Q ⟨s,n,k⟩=>k _ G H (Ah.refl _) s (.str x)
def Bm (X:Cx) (O:Ae) (f:Value->Value->Sem Value) (da db d:D):Prop:=
 ∀ G,BQ X f (λv u H Q=>SA X.K G H O/\Is X.K G da v/\Is X.K G db u/\∀ w G' H',Ah G G'->SA X.K G' H' O->Is X.K G' d w->Q w H')
theorem Bm.of {f:Value->Value->Sem Value} {r:R2} (ho:BQ X f r)
  (k:∀ G v u H Q,SA X.K G H O->Is X.K G da v->Is X.K G db u->(∀ w G' H',Ah G G'->SA X.K G' H' O->Is X.K G' d w->Q w H')->r v u H Q):Bm X O f da db d:=
 λG pins s σ H x y v u Q I rx ry ⟨h1,h2,h3,h4⟩=>ho pins s σ H x y v u Q I rx ry (k G _ _ _ _ h1 h2 h3 h4)
theorem Aj {op:Operator} (ha:Ad X ρ O a da) (hb:Ad X ρ O b db) (ho:Bm X O (binaryOp op) da db d):Ad X ρ O (.BinOp a op b pos) d:=λG pins s σ H Q I ⟨h1,h2,h3⟩=>
 wpAny_BinOp (HC (ta:=λσ H Q=>SA X.K G H O/\Ax X.K G σ ρ/\∀ v G' H',Ah G G'->SA X.K G' H' O->Is X.K G' da v->Q v H') (ha G)
  (tb:=λσ H Q=>∃ G1 v0,SA X.K G1 H O/\Ax X.K G1 σ ρ/\∀ v G' H',Ah G1 G'->SA X.K G' H' O->Is X.K G' db v->Q v H') (λpins s σ H Q I ⟨G1,_,q⟩=>hb G1 pins s σ H Q I q) I
  (R:=λx y H2=>∃ G2,Ah G G2/\SA X.K G2 H2 O/\Is X.K G2 da x/\Is X.K G2 db y)
  ⟨h1,h2,λv G1 H1 e1 s1 i1=>⟨G1,(0:Nat),s1,h2.ext e1,λu G2 H2 e2 s2 i2=>⟨G2,e1.trans e2,s2,i1.ext e2,i2⟩⟩⟩
  λv u s2 x y H2 I2 rx ry ⟨G2,e2,s2',i1,i2⟩=>ho G2 pins s2 σ H2 x y v u Q I2 rx ry ⟨s2',i1,i2,λw G3 H3 e3 s3 i3=>h3 w G3 H3 (e2.trans e3) s3 i3⟩)
theorem P8 {f:Value->Value->Sem Value} {g:Int->Int->Int} {i j:Int} (ho:BQ X f (D7 λi j=>.int (g i j))):Bm X O f (.int i) (.int j) (.int (g i j)):=
 .of ho λG v u H Q s h1 h2 k=>by cases h1; cases h2; exact ⟨i,j,rfl,rfl,k _ G H (Ah.refl _) s (.int _)⟩
theorem Mb {f:Value->Value->Sem Value} {C:Int->Int->Prop} {g:Int->Int->Int} {i j:Int} (ho:BQ X f (rI C λi j=>.int (g i j))) (hc:C i j):Bm X O f (.int i) (.int j) (.int (g i j)):=
 .of ho λG v u H Q s h1 h2 k=>by cases h1; cases h2; exact ⟨i,j,rfl,rfl,hc,k _ G H (Ah.refl _) s (.int _)⟩
theorem IM {f:Value->Value->Sem Value} {g:Int->Int->Bool} {i j:Int} (ho:BQ X f (D7 λi j=>.bl (g i j))):Bm X O f (.int i) (.int j) (.bl (g i j)):=
 .of ho λG v u H Q s h1 h2 k=>by cases h1; cases h2; exact ⟨i,j,rfl,rfl,k _ G H (Ah.refl _) s (.bl _)⟩
theorem BD {i j:Int}:Bm X O (binaryOp .Add) (.int i) (.int j) (.int (i+j)):=P8 WC
theorem D8 {i j:Int}:Bm X O (binaryOp .Sub) (.int i) (.int j) (.int (i-j)):=P8 Wn
theorem Wq:BQ X (binaryOp .Mult) (rI IntMulOk λi j=>.int (i*j)):=L9 λ_ _ _ _ _ _ _ hc q=>mul_int q hc
theorem Cr {i j:Int} (h:IntMulOk i j):Bm X O (binaryOp .Mult) (.int i) (.int j) (.int (i*j)):=Mb Wq h
theorem BN {i j:Int} (h:R8 i j):Bm X O (binaryOp .FloorDiv) (.int i) (.int j) (.int (i/j)):=Mb Wx h
theorem Ba {i j:Int} (h:0<j):Bm X O (binaryOp .Mod) (.int i) (.int j) (.int (i%j)):=Mb (C:=λ_ j=>0<j) Wr h
theorem FN {i j:Int}:Bm X O (compareOp .Lt) (.int i) (.int j) (.bl (decide (i<j))):=IM Ws
theorem Jp {i j:Int}:Bm X O (compareOp .LtE) (.int i) (.int j) (.bl (decide (i<=j))):=IM Wt
theorem Gu {i j:Int}:Bm X O (compareOp .Gt) (.int i) (.int j) (.bl (decide (j<i))):=IM Wv
theorem Q0u {i j:Int}:Bm X O (compareOp .GtE) (.int i) (.int j) (.bl (decide (j<=i))):=IM Ww
theorem Rk {i j:Int}:decide (V.int i=V.int j)=decide (i=j):=by
 by_cases h:i=j
 ·subst h; rw [decide_eq_true rfl,decide_eq_true rfl]
 ·rw [decide_eq_false h,decide_eq_false]; intro z; injection z with z; exact h z
theorem Bb {i j:Int}:Bm X O (compareOp .Eq) (.int i) (.int j) (.bl (decide (i=j))):=
 .of Wy λG v u H Q s h1 h2 k=>by cases h1; cases h2; exact ⟨rfl,by rw [Rk]; exact k _ G H (Ah.refl _) s (.bl _)⟩
theorem EG {i j:Int}:Bm X O (compareOp .NotEq) (.int i) (.int j) (.bl (!decide (i=j))):=
 .of Wp λG v u H Q s h1 h2 k=>by cases h1; cases h2; exact ⟨rfl,by rw [Rk]; exact k _ G H (Ah.refl _) s (.bl _)⟩
def DQ:D->Bool
 | .non=>true
 | _=>false
theorem Qz {K:PySem.W.Frag} {G:Wd} {v:V} (h:Is K G d v):decide (v=V.non)=DQ d:=by
 cases h <;> first | rfl | exact decide_eq_false (λz=>by cases z)
theorem EX:Bm X O (compareOp .Is) da .non (.bl (DQ da)):=
 .of Wu λG v u H Q s h1 h2 k=>by cases h2; exact ⟨rfl,by rw [Qz h1]; exact k _ G H (Ah.refl _) s (.bl _)⟩
theorem Jq:Bm X O (compareOp .IsNot) da .non (.bl (!DQ da)):=
 .of Wo λG v u H Q s h1 h2 k=>by cases h2; exact ⟨rfl,by rw [Qz h1]; exact k _ G H (Ah.refl _) s (.bl _)⟩
theorem Dy {op:CmpOp} (ha:Ad X ρ O a da) (hb:Ad X ρ O b db) (ho:Bm X O (compareOp op) da db d) (hm:behindInMarks op b=false:=by first | exact Qa _ | (with_unfolding_all rfl)):Ad X ρ O (.Compare a [op] [b] pos) d:=λG pins s σ H Q I ⟨h1,h2,h3⟩=>
 wpAny_Compare1 (HC (ta:=λσ H Q=>SA X.K G H O/\Ax X.K G σ ρ/\∀ v G' H',Ah G G'->SA X.K G' H' O->Is X.K G' da v->Q v H') (ha G)
  (tb:=λσ H Q=>∃ G1 v0,SA X.K G1 H O/\Ax X.K G1 σ ρ/\∀ v G' H',Ah G1 G'->SA X.K G' H' O->Is X.K G' db v->Q v H') (λpins s σ H Q I ⟨G1,_,q⟩=>hb G1 pins s σ H Q I q) I
  (R:=λx y H2=>∃ G2,Ah G G2/\SA X.K G2 H2 O/\Is X.K G2 da x/\Is X.K G2 db y)
  ⟨h1,h2,λv G1 H1 e1 s1 i1=>⟨G1,(0:Nat),s1,h2.ext e1,λu G2 H2 e2 s2 i2=>⟨G2,e1.trans e2,s2,i1.ext e2,i2⟩⟩⟩
  λv u s2 x y H2 I2 rx ry ⟨G2,e2,s2',i1,i2⟩=>ho G2 pins s2 σ H2 x y v u Q I2 rx ry ⟨s2',i1,i2,λw G3 H3 e3 s3 i3=>h3 w G3 H3 (e2.trans e3) s3 i3⟩) hm
theorem AN {op:CmpOp} {k:Bool} (ha:Ad X ρ O a da) (hb:Ad X ρ O b db) (ho:Bm X O (compareOp op) da db (.bl k)) (hm:behindInMarks op b=false:=by first | exact Qa _ | (with_unfolding_all rfl)):AV X ρ O (.Compare a [op] [b] pos) k:=λG pins s σ H Q I ⟨h1,h2,h3⟩=>by
 refine wpAny_isTrue_Compare1 (Aq (ha G pins s σ H _ I ⟨h1,h2,λv G1 H1 e1 s1 i1=>(⟨G1,e1,s1,i1⟩:∃ G1,Ah G G1/\SA X.K G1 H1 O/\Is X.K G1 da v)⟩) λv s1 ⟨x,H1,I1,r1,G1,e1,sa1,i1⟩=>
  Aq (hb G1 pins s1 σ H1 _ I1 ⟨sa1,h2.ext e1,λu G2 H2 e2 s2 i2=>(⟨G2,e2,s2,i2⟩:∃ G2,Ah G1 G2/\SA X.K G2 H2 O/\Is X.K G2 db u)⟩) λu s2 ⟨y,H2,I2,r2,G2,e2,sa2,i2⟩=>
  Aq (ho G2 pins s2 σ H2 x y v u _ I2 r1 r2 ⟨sa2,i1.ext e2,i2,λw G3 H3 e3 s3 i3=>(⟨G3,e3,s3,i3⟩:∃ G3,Ah G2 G3/\SA X.K G3 H3 O/\Is X.K G3 (.bl k) w)⟩) λc s3 ⟨z,H3,I3,r3,G3,e3,sa3,i3⟩=>?_) hm
 cases i3
 cases r3
 exact wpAny_truthy_bool ⟨H3,I3,h3 G3 H3 ((e1.trans e2).trans e3) sa3⟩
theorem BB {k:Bool} (ha:Ad X ρ O a (.bl k)) (he:∀ whole,isTrue a X.env whole=(do let v <- whole; standAt a.pos; holding [v] (truthy v)):=by intro _; rfl):AV X ρ O a k:=λG=>
 (VN (ha G) he).imp λσ H Q ⟨h1,h2,h3⟩=>⟨h1,h2,λv G' H' e1 s1 i1=>by cases i1; exact ⟨k,rfl,h3 G' H' e1 s1⟩⟩
theorem BJ {k:Bool} (ha:AV X ρ O a k):AV X ρ O (.UnaryOp .Not a pos) (!k):=λG=>
 (VO (ha G)).imp λσ H Q ⟨h1,h2,h3⟩=>⟨h1,h2,λG' H' e1 s1=>h3 G' H' e1 s1⟩
theorem Hq {k:Bool} (ha:AV X ρ O a k):BF X ρ O (.BoolOp .And [a] pos) k:=λG=>Vx (ha G)
theorem Dv {k:Bool} (ha:AV X ρ O a k):BF X ρ O (.BoolOp .Or [a] pos) k:=λG=>Vw (ha G)
theorem Hr {k l:Bool} {rest:List Expr} (ha:AV X ρ O a k) (hb:k=true->BF X ρ O (.BoolOp .And (b::rest) pos) l):BF X ρ O (.BoolOp .And (a::b::rest) pos) (k&&l):=λG wh pins s σ H Q I ⟨h1,h2,h3⟩=>by
 refine isTrue_and (Aq (ha G pins s σ H (λc H1=>c=k/\∃ G1,Ah G G1/\SA X.K G1 H1 O) I ⟨h1,h2,λG1 H1 e1 s1=>⟨rfl,G1,e1,s1⟩⟩) ?_)
 rintro c s1 ⟨H1,I1,rfl,G1,e1,sa1⟩
 cases c with
 | false=>exact ⟨H1,I1,h3 G1 H1 e1 sa1⟩
 | true=>exact hb rfl G1 wh pins s1 σ H1 Q I1 ⟨sa1,h2.ext e1,λG2 H2 e2 s2=>h3 G2 H2 (e1.trans e2) s2⟩
theorem Cu {k l:Bool} {rest:List Expr} (ha:AV X ρ O a k) (hb:k=false->BF X ρ O (.BoolOp .Or (b::rest) pos) l):BF X ρ O (.BoolOp .Or (a::b::rest) pos) (k||l):=λG wh pins s σ H Q I ⟨h1,h2,h3⟩=>by
 refine isTrue_or (Aq (ha G pins s σ H (λc H1=>c=k/\∃ G1,Ah G G1/\SA X.K G1 H1 O) I ⟨h1,h2,λG1 H1 e1 s1=>⟨rfl,G1,e1,s1⟩⟩) ?_)
 rintro c s1 ⟨H1,I1,rfl,G1,e1,sa1⟩
 cases c with
 | true=>exact ⟨H1,I1,h3 G1 H1 e1 sa1⟩
 | false=>exact hb rfl G1 wh pins s1 σ H1 Q I1 ⟨sa1,h2.ext e1,λG2 H2 e2 s2=>h3 G2 H2 (e1.trans e2) s2⟩
theorem Ed {op:BoolOp} (ha:Ad X ρ O a d):Ad X ρ O (.BoolOp op [a] pos) d:=λG=>Wa (ha G)
theorem C4 {k l:Bool} {rest:List Expr} (ha:Ad X ρ O a (.bl k)) (hb:k=true->Ad X ρ O (.BoolOp .And (b::rest) pos) (.bl l)):Ad X ρ O (.BoolOp .And (a::b::rest) pos) (.bl (k&&l)):=λG pins s σ H Q I ⟨h1,h2,h3⟩=>by
 refine BoolOp_and (Aq (ha G pins s σ H (λv H1=>∃ G1,Ah G G1/\SA X.K G1 H1 O/\Is X.K G1 (.bl k) v) I ⟨h1,h2,λv G1 H1 e1 s1 i1=>⟨G1,e1,s1,i1⟩⟩) ?_)
 rintro v s1 ⟨x,H1,I1,r1,G1,e1,sa1,i1⟩
 cases i1
 cases r1
 refine wpAny_truthy_bool ?_
 cases k with
 | false=>exact ⟨.bl false,H1,I1,rfl,h3 _ G1 H1 e1 sa1 (.bl _)⟩
 | true=>exact hb rfl G1 pins s1 σ H1 Q I1 ⟨sa1,h2.ext e1,λw G2 H2 e2 s2 i2=>h3 w G2 H2 (e1.trans e2) s2 i2⟩
theorem ZN {k l:Bool} {rest:List Expr} (ha:Ad X ρ O a (.bl k)) (hb:k=false->Ad X ρ O (.BoolOp .Or (b::rest) pos) (.bl l)):Ad X ρ O (.BoolOp .Or (a::b::rest) pos) (.bl (k||l)):=λG pins s σ H Q I ⟨h1,h2,h3⟩=>by
 refine BoolOp_or (Aq (ha G pins s σ H (λv H1=>∃ G1,Ah G G1/\SA X.K G1 H1 O/\Is X.K G1 (.bl k) v) I ⟨h1,h2,λv G1 H1 e1 s1 i1=>⟨G1,e1,s1,i1⟩⟩) ?_)
 rintro v s1 ⟨x,H1,I1,r1,G1,e1,sa1,i1⟩
 cases i1
 cases r1
 refine wpAny_truthy_bool ?_
 cases k with
 | true=>exact ⟨.bl true,H1,I1,rfl,h3 _ G1 H1 e1 sa1 (.bl _)⟩
 | false=>exact hb rfl G1 pins s1 σ H1 Q I1 ⟨sa1,h2.ext e1,λw G2 H2 e2 s2 i2=>h3 w G2 H2 (e1.trans e2) s2 i2⟩
theorem QU {k:Bool} (ha:Ad X ρ O a (.bl k)):Ad X ρ O (.UnaryOp .Not a pos) (.bl (!k)):=λG=>(Wb (ha G)).imp λσ H Q ⟨h1,h2,h3⟩=>⟨h1,h2,λv G1 H1 e1 s1 i1=>by
 cases i1
 exact ⟨k,rfl,h3 _ G1 H1 e1 s1 (.bl _)⟩⟩
theorem MH {k:Bool} (hc:AV X ρ O c k) (ha:k=true->Ad X ρ O a da) (hb:k=false->Ad X ρ O b db):Ad X ρ O (.IfExp c a b pos) (if k=true then da else db):=λG pins s σ H Q I ⟨h1,h2,h3⟩=>by
 cases k with
 | true=>
  exact (PL (tA:=λσ H Q=>SA X.K G H O/\Ax X.K G σ ρ/\∀ G' H',Ah G G'->SA X.K G' H' O->Q true H') (hc G) (λpins s σ H Q I (q:∃ G1,SA X.K G1 H O/\Ax X.K G1 σ ρ/\∀ v G' H',Ah G1 G'->SA X.K G' H' O->Is X.K G' da v->Q v H')=>let ⟨G1,q⟩:=q; ha rfl G1 pins s σ H Q I q)
   (λpins s σ H Q I (q:False)=>q.elim)) pins s σ H Q I ⟨h1,h2,λG1 H1 e1 s1=>Ms ⟨G1,s1,h2.ext e1,λv G2 H2 e2 s2 i2=>h3 v G2 H2 (e1.trans e2) s2 i2⟩⟩
 | false=>
  exact (PL (tA:=λσ H Q=>SA X.K G H O/\Ax X.K G σ ρ/\∀ G' H',Ah G G'->SA X.K G' H' O->Q false H') (hc G) (λpins s σ H Q I (q:False)=>q.elim)
   (λpins s σ H Q I (q:∃ G1,SA X.K G1 H O/\Ax X.K G1 σ ρ/\∀ v G' H',Ah G1 G'->SA X.K G' H' O->Is X.K G' db v->Q v H')=>let ⟨G1,q⟩:=q; hb rfl G1 pins s σ H Q I q)) pins s σ H Q I ⟨h1,h2,λG1 H1 e1 s1=>Mt ⟨G1,s1,h2.ext e1,λv G2 H2 e2 s2 i2=>h3 v G2 H2 (e1.trans e2) s2 i2⟩⟩
theorem ZX {op op':CmpOp} {k l:Bool} {dc:D} (ha:Ad X ρ O a da) (hb:Ad X ρ O b db) (hc:Ad X ρ O c dc) (ho:Bm X O (compareOp op) da db (.bl k)) (ho':k=true->Bm X O (compareOp op') db dc (.bl l))
  (hm:lastMarks [op,op'] [b,c]=false:=by with_unfolding_all rfl):Ad X ρ O (.Compare a [op,op'] [b,c] pos) (.bl (k&&l)):=λG pins s σ H Q I ⟨h1,h2,h3⟩=>by
 refine Compare_chain (Aq (ha G pins s σ H (λv H1=>∃ G1,Ah G G1/\SA X.K G1 H1 O/\Is X.K G1 da v) I ⟨h1,h2,λv G1 H1 e1 s1 i1=>⟨G1,e1,s1,i1⟩⟩) ?_) hm
 rintro v s1 ⟨x,H1,I1,r1,G1,e1,sa1,i1⟩
 refine chain_link (Aq (hb G1 pins s1 σ H1 (λv H2=>∃ G2,Ah G1 G2/\SA X.K G2 H2 O/\Is X.K G2 db v) I1 ⟨sa1,h2.ext e1,λv G2 H2 e2 s2 i2=>⟨G2,e2,s2,i2⟩⟩) ?_)
 rintro u s2 ⟨y,H2,I2,r2,G2,e2,sa2,i2⟩
 refine Aq (ho G2 pins s2 σ H2 x y v u (λw H3=>∃ G3,Ah G2 G3/\SA X.K G3 H3 O/\Is X.K G3 (.bl k) w) I2 r1 r2 ⟨sa2,i1.ext e2,i2,λw G3 H3 e3 s3 i3=>⟨G3,e3,s3,i3⟩⟩) ?_
 rintro w s3 ⟨z,H3,I3,r3,G3,e3,sa3,i3⟩
 cases i3
 cases r3
 refine wpAny_truthy_bool ?_
 cases k with
 | false=>exact ite_ff ⟨.bl false,H3,I3,rfl,h3 _ G3 H3 ((e1.trans e2).trans e3) sa3 (.bl _)⟩
 | true=>
  refine ite_tt (chain_last (Aq (hc G3 pins s3 σ H3 (λv H4=>∃ G4,Ah G3 G4/\SA X.K G4 H4 O/\Is X.K G4 dc v) I3 ⟨sa3,h2.ext ((e1.trans e2).trans e3),λv G4 H4 e4 s4 i4=>⟨G4,e4,s4,i4⟩⟩) ?_))
  rintro q s4 ⟨z',H4,I4,r4,G4,e4,sa4,i4⟩
  exact ho' rfl G4 pins s4 σ H4 y z' u q Q I4 r2 r4 ⟨sa4,i2.ext (e3.trans e4),i4,λw G5 H5 e5 s5 i5=>h3 w G5 H5 ((((e1.trans e2).trans e3).trans e4).trans e5) s5 i5⟩
theorem Z2 {op op':CmpOp} {k l:Bool} {dc:D} (ha:Ad X ρ O a da) (hb:Ad X ρ O b db) (hc:Ad X ρ O c dc) (ho:Bm X O (compareOp op) da db (.bl k)) (ho':k=true->Bm X O (compareOp op') db dc (.bl l))
  (hm:lastMarks [op,op'] [b,c]=false:=by with_unfolding_all rfl):AV X ρ O (.Compare a [op,op'] [b,c] pos) (k&&l):=λG pins s σ H Q I ⟨h1,h2,h3⟩=>by
 refine isTrue_chain (Aq (ha G pins s σ H (λv H1=>∃ G1,Ah G G1/\SA X.K G1 H1 O/\Is X.K G1 da v) I ⟨h1,h2,λv G1 H1 e1 s1 i1=>⟨G1,e1,s1,i1⟩⟩) ?_) hm
 rintro v s1 ⟨x,H1,I1,r1,G1,e1,sa1,i1⟩
 refine test_link (Aq (hb G1 pins s1 σ H1 (λv H2=>∃ G2,Ah G1 G2/\SA X.K G2 H2 O/\Is X.K G2 db v) I1 ⟨sa1,h2.ext e1,λv G2 H2 e2 s2 i2=>⟨G2,e2,s2,i2⟩⟩) ?_)
 rintro u s2 ⟨y,H2,I2,r2,G2,e2,sa2,i2⟩
 refine Aq (ho G2 pins s2 σ H2 x y v u (λw H3=>∃ G3,Ah G2 G3/\SA X.K G3 H3 O/\Is X.K G3 (.bl k) w) I2 r1 r2 ⟨sa2,i1.ext e2,i2,λw G3 H3 e3 s3 i3=>⟨G3,e3,s3,i3⟩⟩) ?_
 rintro w s3 ⟨z,H3,I3,r3,G3,e3,sa3,i3⟩
 cases i3
 cases r3
 refine wpAny_truthy_bool ?_
 cases k with
 | false=>exact ite_ff ⟨H3,I3,h3 G3 H3 ((e1.trans e2).trans e3) sa3⟩
 | true=>
  refine ite_tt (test_last (Aq (hc G3 pins s3 σ H3 (λv H4=>∃ G4,Ah G3 G4/\SA X.K G4 H4 O/\Is X.K G4 dc v) I3 ⟨sa3,h2.ext ((e1.trans e2).trans e3),λv G4 H4 e4 s4 i4=>⟨G4,e4,s4,i4⟩⟩) ?_))
  rintro q s4 ⟨z',H4,I4,r4,G4,e4,sa4,i4⟩
  refine Aq (ho' rfl G4 pins s4 σ H4 y z' u q (λw H5=>∃ G5,Ah G4 G5/\SA X.K G5 H5 O/\Is X.K G5 (.bl l) w) I4 r2 r4 ⟨sa4,i2.ext (e3.trans e4),i4,λw G5 H5 e5 s5 i5=>⟨G5,e5,s5,i5⟩⟩) ?_
  rintro q' s5 ⟨z2,H5,I5,r5,G5,e5,sa5,i5⟩
  cases i5
  cases r5
  exact wpAny_truthy_bool ⟨H5,I5,h3 G5 H5 ((((e1.trans e2).trans e3).trans e4).trans e5) sa5⟩
end
def LV (O:Ae) (d:D) (xs:List D):Prop:=d=.lst xs\/d=.scr xs\/∃ n,d=.ptr n/\O[n]?=some (some (.lst xs))
def LT (O:Ae) (d:D) (xs:List D):Prop:=LV O d xs\/d=.tup xs
theorem LV.sq {K:PySem.W.Frag} {G:Wd} {H:Hp} {O:Ae} {d:D} {xs:List D} {v:V} (h:LV O d xs) (s:SA K G H O) (i:Is K G d v):∃ a vs,v=.ref a/\A8 K H a vs/\Ak K G xs vs:=by
 rcases h with rfl | rfl | ⟨p,rfl,h⟩
 ·cases i with | lst h r=>exact ⟨_,_,rfl,A8.of (s.sub _ _ h),r⟩
 ·cases i with | scr h r=>exact ⟨_,_,rfl,s.sub.seq h,r⟩
 ·cases i with
  | ptr _ q=>
   obtain ⟨a,e,_,vs,h1,h2⟩:=s.mt p _ h
   obtain rfl:=Option.some.inj (q.symm.trans e)
   exact ⟨_,vs,rfl,A8.of h1,h2⟩
theorem Dk {K:PySem.W.Frag} {G:Wd} {H:Hp} {O:Ae} {xs:List D} {v:V} (s:SA K G H O) (i:Is K G (.tup xs) v):∃ a vs,v=.ref a/\Bc K H a vs/\Ak K G xs vs:=by
 cases i with | tup h r=>exact ⟨_,_,rfl,Dm s.sub h,r⟩
def BI (X:Cx) (ρ:Ai) (O:Ae) (es:List Expr) (ds:List D):Prop:=
 ∀ G,PA X es (λσ H Q=>SA X.K G H O/\Ax X.K G σ ρ/\∀ vs G' H',Ah G G'->SA X.K G' H' O->Ak X.K G' ds vs->Q vs H')
section
variable {X:Cx} {ρ:Ai} {O:Ae} {e a b c:Expr} {es:List Expr} {d da db:D} {ds:List D} {R:D->Ae->Prop} {pos p:Pos} {x:Str}
theorem Af:BI X ρ O [] []:=λG=>PA.imp FA λσ H Q ⟨h1,h2,h3⟩=>h3 _ G H (Ah.refl _) h1 .nil
theorem Ab (he:Ad X ρ O e d) (hs:BI X ρ O es ds) (hst:starEach (e::es) X.env=(false,eval e X.env)::starEach es X.env:=by rfl):BI X ρ O (e::es) (d::ds):=λG=>
 PA.imp (DM (he G) (t:=λσ H Q=>∃ G1,SA X.K G1 H O/\Ax X.K G1 σ ρ/\∀ vs G' H',Ah G1 G'->SA X.K G' H' O->Ak X.K G' ds vs->Q vs H') (λpos pins s σ H Q I ⟨G1,q⟩=>hs G1 pos pins s σ H Q I q) hst)
  λσ H Q ⟨h1,h2,h3⟩=>⟨h1,h2,λv G1 H1 e1 s1 i1=>⟨G1,s1,h2.ext e1,λvs G2 H2 e2 s2 i2=>h3 _ G2 H2 (e1.trans e2) s2 (.cons (i1.ext e2) i2)⟩⟩
theorem Hw {R:List D->Ae->Prop} (he:Ev X ρ O e λd O1=>FS X ρ O1 es λds O2=>R (d::ds) O2) (hst:starEach (e::es) X.env=(false,eval e X.env)::starEach es X.env:=by rfl):FS X ρ O (e::es) R:=λG=>
 PA.imp (DM (he G) (t:=λσ H Q=>∃ G1 d O1,SA X.K G1 H O1/\Ax X.K G1 σ ρ/\(FS X ρ O1 es λds O2=>R (d::ds) O2)/\∀ vs ds O2 G' H',Ah G1 G'->SA X.K G' H' O2->Ak X.K G' ds vs->R (d::ds) O2->Q vs H') (λpos pins s σ H Q I ⟨G1,d,O1,q1,q2,q3,q4⟩=>q3 G1 pos pins s σ H Q I ⟨q1,q2,q4⟩) hst)
  λσ H Q ⟨h1,h2,h3⟩=>⟨h1,h2,λv d O1 G1 H1 e1 s1 i1 r1=>⟨G1,d,O1,s1,h2.ext e1,r1,λvs ds O2 G2 H2 e2 s2 i2 r2=>h3 _ (d::ds) O2 G2 H2 (e1.trans e2) s2 (.cons (i1.ext e2) i2) r2⟩⟩
theorem BI.as {R:List D->Ae->Prop} (h:BI X ρ O es ds) (r:R ds O):FS X ρ O es R:=λG=>PA.imp (h G) λσ H Q ⟨h1,h2,h3⟩=>⟨h1,h2,λvs G' H' e1 s1 i1=>h3 vs ds O G' H' e1 s1 i1 r⟩
theorem BP {x1:Nat} (h:BI X ρ O es ds) (hz:ds.length<=sizeLine:=by exact Nat.le_of_ble_eq_true rfl):Ad X ρ O (.Tuple es x1 pos) (.tup ds):=λG=>
 PE.imp (V8 (h G)) λσ H Q ⟨h1,h2,h3⟩=>⟨h1,h2,λvs G1 H1 e1 s1 i1=>⟨by rw [<- i1.length]; exact hz,λp hp=>by
  obtain ⟨e2,s2⟩:=s1.laid (o:=.tup vs) hp
  exact h3 _ _ _ (e1.trans e2) s2 (.tup (Bc.of A5) (i1.ext e2))⟩⟩
theorem Df (h:BI X ρ O es ds) (hz:ds.length<=sizeLine:=by exact Nat.le_of_ble_eq_true rfl):Ad X ρ O (.List es pos) (.lst ds):=λG=>
 PE.imp (PK (h G)) λσ H Q ⟨h1,h2,h3⟩=>⟨h1,h2,λvs G1 H1 e1 s1 i1=>⟨by rw [<- i1.length]; exact hz,λp hp=>by
  obtain ⟨e2,s2⟩:=s1.laid (o:=.lst vs) hp
  exact h3 _ _ _ (e1.trans e2) s2 (.lst A5 (i1.ext e2))⟩⟩
theorem Ht (h:BI X ρ O es ds) (k:R (.ptr O.length) (O++[some (.lst ds)])) (hz:ds.length<=sizeLine:=by exact Nat.le_of_ble_eq_true rfl):Ev X ρ O (.List es pos) R:=λG=>
 PE.imp (PK (h G)) λσ H Q ⟨h1,h2,h3⟩=>⟨h1,h2,λvs G1 H1 e1 s1 i1=>⟨by rw [<- i1.length]; exact hz,λp hp=>by
  have e:Ah G1 ⟨G1.g,G1.l++[p]⟩:=⟨Bl.refl _,[p],rfl⟩
  obtain ⟨e2,s2⟩:=s1.new (m:=.lst ds) hp ⟨vs,A5,i1.ext e⟩
  refine h3 _ _ _ _ _ (e1.trans e2) s2 (.ptr _ ?_) k
  rw [<- s1.len,List.getElem?_append_right (Nat.le_refl _),Nat.sub_self]; rfl⟩⟩
theorem Mq {xs:List D} {vs:List V} {K:PySem.W.Frag} {G:Wd} {i:Int} (r:Ak K G xs vs) (h:Bv xs i=some d):∃ v,Bv vs i=some v/\Is K G d v:=by
 unfold Bv at h ⊢
 rw [<- r.length]
 cases q:DP xs.length i with
 | none=>rw [q] at h; cases h
 | some j=>
  rw [q] at h
  exact r.get h
theorem Dw {xs:List D} {i:Int} (ha:Ad X ρ O a da) (hl:LV O da xs) (hb:Ad X ρ O b (.int i)) (hi:Bv xs i=some d) (hs:Nh b:=by intro _ _; rfl):Ad X ρ O (.Subscript a b pos) d:=λG pins s σ H Q I ⟨h1,h2,h3⟩=>
 Subscript_ (HC (ta:=λσ H Q=>SA X.K G H O/\Ax X.K G σ ρ/\∀ v G' H',Ah G G'->SA X.K G' H' O->Is X.K G' da v->Q v H') (ha G)
  (tb:=λσ H Q=>∃ G1,SA X.K G1 H O/\Ax X.K G1 σ ρ/\∀ v G' H',Ah G1 G'->SA X.K G' H' O->Is X.K G' (.int i) v->Q v H') (λpins s σ H Q I ⟨G1,q⟩=>hb G1 pins s σ H Q I q) I
  (R:=λx y H2=>∃ G2,Ah G G2/\SA X.K G2 H2 O/\Is X.K G2 da x/\Is X.K G2 (.int i) y)
  ⟨h1,h2,λv G1 H1 e1 s1 i1=>⟨G1,s1,h2.ext e1,λu G2 H2 e2 s2 i2=>⟨G2,e1.trans e2,s2,i1.ext e2,i2⟩⟩⟩
  λv u s2 x y H2 I2 rx ry ⟨G2,e2,s2',i1,i2⟩=>by
   obtain ⟨p,vs,rfl,q,r⟩:=hl.sq s2' i1
   cases i2
   obtain ⟨w,hw,iw⟩:=Mq r hi
   exact YN a b pins s2 σ H2 _ _ v u Q I2 rx ry ⟨p,vs,i,w,rfl,rfl,q,hw,h3 w G2 H2 e2 s2' iw⟩ (hs _ _))
theorem CT {xs:List D} {i:Int} (ha:Ad X ρ O a (.tup xs)) (hb:Ad X ρ O b (.int i)) (hi:Bv xs i=some d) (hs:Nh b:=by intro _ _; rfl):Ad X ρ O (.Subscript a b pos) d:=λG pins s σ H Q I ⟨h1,h2,h3⟩=>
 Subscript_ (HC (ta:=λσ H Q=>SA X.K G H O/\Ax X.K G σ ρ/\∀ v G' H',Ah G G'->SA X.K G' H' O->Is X.K G' (.tup xs) v->Q v H') (ha G)
  (tb:=λσ H Q=>∃ G1,SA X.K G1 H O/\Ax X.K G1 σ ρ/\∀ v G' H',Ah G1 G'->SA X.K G' H' O->Is X.K G' (.int i) v->Q v H') (λpins s σ H Q I ⟨G1,q⟩=>hb G1 pins s σ H Q I q) I
  (R:=λx y H2=>∃ G2,Ah G G2/\SA X.K G2 H2 O/\Is X.K G2 (.tup xs) x/\Is X.K G2 (.int i) y)
  ⟨h1,h2,λv G1 H1 e1 s1 i1=>⟨G1,s1,h2.ext e1,λu G2 H2 e2 s2 i2=>⟨G2,e1.trans e2,s2,i1.ext e2,i2⟩⟩⟩
  λv u s2 x y H2 I2 rx ry ⟨G2,e2,s2',i1,i2⟩=>by
   obtain ⟨p,vs,rfl,q,r⟩:=Dk s2' i1
   cases i2
   obtain ⟨w,hw,iw⟩:=Mq r hi
   exact Qv a b pins s2 σ H2 _ _ v u Q I2 rx ry ⟨p,vs,i,w,rfl,rfl,q,hw,h3 w G2 H2 e2 s2' iw⟩ (hs _ _))
def ES (xs:List D) (lo hi:Option Int):List D:=(xs.drop (HT.sIx xs.length 0 lo)).take (HT.sIx xs.length xs.length hi-HT.sIx xs.length 0 lo)
theorem Rl {xs:List D} {vs:List V} {K:PySem.W.Frag} {G:Wd} {lo hi:Option Int} (r:Ak K G xs vs):Ak K G (ES xs lo hi) (Ee vs lo hi):=by
 unfold ES Ee
 rw [<- r.length]
 exact (r.drop _).take _
def Ej (X:Cx) (ρ:Ai) (O:Ae) (e:Option Expr) (i:Option Int):Prop:=
 ∀ G,PO X e (λσ H Q=>SA X.K G H O/\Ax X.K G σ ρ/\∀ G' H',Ah G G'->SA X.K G' H' O->Q i H')
theorem _root_.L2.PO.imp {X:Cx} {e:Option Expr} {t u:TO} (h:PO X e t) (k:∀ σ H Q,u σ H Q->t σ H Q):PO X e u:=λpins s σ H Q I q=>h pins s σ H Q I (k _ _ _ q)
theorem Jk:Ej X ρ O none none:=λG=>PO.imp VW λσ H Q ⟨h1,h2,h3⟩=>h3 G H (Ah.refl _) h1
theorem Gq {i:Int} (h:Ad X ρ O e (.int i)):Ej X ρ O (some e) (some i):=λG=>PO.imp (VV (h G)) λσ H Q ⟨h1,h2,h3⟩=>⟨h1,h2,λv G1 H1 e1 s1 i1=>by cases i1; exact ⟨i,rfl,h3 G1 H1 e1 s1⟩⟩
theorem ZK {xs:List D} {lo hi:Option Expr} {l u:Option Int} {p2:Pos} (ha:Ad X ρ O a da) (hx:LV O da xs) (hl:Ej X ρ O lo l) (hh:Ej X ρ O hi u):Ad X ρ O (.Subscript a (.Slice lo hi none p2) pos) (.lst (ES xs l u)):=λG=>
 PE.imp (PH T8 (ha G) (tl:=λσ H Q=>∃ G1,SA X.K G1 H O/\Ax X.K G1 σ ρ/\∀ G' H',Ah G1 G'->SA X.K G' H' O->Q l H') (λpins s σ H Q I ⟨G1,q⟩=>hl G1 pins s σ H Q I q)
  (th:=λσ H Q=>∃ G1,SA X.K G1 H O/\Ax X.K G1 σ ρ/\∀ G' H',Ah G1 G'->SA X.K G' H' O->Q u H') (λpins s σ H Q I ⟨G1,q⟩=>hh G1 pins s σ H Q I q)) λσ H Q ⟨h1,h2,h3⟩=>
  ⟨h1,h2,λv G1 H1 e1 s1 i1=>⟨G1,s1,h2.ext e1,λG2 H2 e2 s2=>⟨G2,s2,(h2.ext e1).ext e2,λG3 H3 e3 s3=>by
   obtain ⟨q,vs,rfl,q1,r⟩:=hx.sq s3 (i1.ext (e2.trans e3))
   refine ⟨q,vs,rfl,q1,λz hz=>?_⟩
   obtain ⟨e4,s4⟩:=s3.laid (o:=.lst (Ee vs l u)) hz
   exact h3 _ _ _ (((e1.trans e2).trans e3).trans e4) s4 (.lst A5 ((Rl r).ext e4))⟩⟩⟩
theorem Md {xs ys:List D} (hz:xs.length+ys.length<=sizeLine):Bm X O (binaryOp .Add) (.lst xs) (.lst ys) (.lst (xs++ys)):=
 .of WB λG v u H Q s h1 h2 k=>by
  cases h1 with
  | lst g1 r1=>
   cases h2 with
   | lst g2 r2=>
    refine ⟨_,_,_,_,rfl,rfl,s.sub _ _ g1,s.sub _ _ g2,by rw [<- r1.length,<- r2.length]; exact hz,λp hp=>?_⟩
    obtain ⟨e4,s4⟩:=s.laid (o:=.lst _) hp
    exact k _ _ _ e4 s4 (.lst A5 ((r1.append r2).ext e4))
def B8 (X:Cx) (O:Ae) (f:Value) (ds:List D) (d:D):Prop:=
 ∀ G,EJ X f (λvs H Q=>SA X.K G H O/\Ak X.K G ds vs/\∀ w G' H',Ah G G'->SA X.K G' H' O->Is X.K G' d w->Q w H')
theorem B8.of {f:Value} {r:List V->Hp->VK->Prop} (ho:EJ X f r)
  (k:∀ G vs H Q,SA X.K G H O->Ak X.K G ds vs->(∀ w G' H',Ah G G'->SA X.K G' H' O->Is X.K G' d w->Q w H')->r vs H Q):B8 X O f ds d:=
 λG pins s σ H xs us Q I r ⟨h1,h2,h3⟩=>ho pins s σ H xs us Q I r (k G _ _ _ h1 h2 h3)
theorem A0 {id:String} (hm:X.mg x=none) (ha:BI X ρ O (e::es) ds) (hc:B8 X O (.builtin id) ds d) (hg:Gl X x:=by rfl) (hv:bootBuiltins x=some (.builtin id):=by first | rfl | decide +kernel) (hn:x ≠ "__name__" := by decide) (hdb:(x==("__debug__" : Str))=false:=by decide)
  (he:starEach (e::es) X.env=(false,eval e X.env)::starEach es X.env:=by rfl) (hpl:(backTo pos (starEach es X.env)).any (·.1)=false:=by rfl):Ad X ρ O (.Call (.Name x p) (e::es) [] pos) d:=λG=>
 PE.imp (II (r:=λvs H Q=>∃ G1,SA X.K G1 H O/\Ak X.K G1 ds vs/\∀ w G' H',Ah G1 G'->SA X.K G' H' O->Is X.K G' d w->Q w H') (λpins s σ H xs us Q I r ⟨G1,q⟩=>hc G1 pins s σ H xs us Q I r q) hg hm hv (ha G) hn hdb he hpl)
  λσ H Q ⟨h1,h2,h3⟩=>⟨h1,h2,λvs G1 H1 e1 s1 i1=>⟨G1,s1,i1,λw G2 H2 e2 s2 i2=>h3 w G2 H2 (e1.trans e2) s2 i2⟩⟩
theorem BV {T:String} (hm:X.mg x=none) (ha:BI X ρ O (e::es) ds) (hc:B8 X O (.type T) ds d) (hg:Gl X x:=by rfl) (hv:bootBuiltins x=some (.type T):=by first | rfl | decide +kernel) (hn:x ≠ "__name__" := by decide) (hdb:(x==("__debug__" : Str))=false:=by decide)
  (he:starEach (e::es) X.env=(false,eval e X.env)::starEach es X.env:=by rfl) (hpl:(backTo pos (starEach es X.env)).any (·.1)=false:=by rfl):Ad X ρ O (.Call (.Name x p) (e::es) [] pos) d:=λG=>
 PE.imp (PM (r:=λvs H Q=>∃ G1,SA X.K G1 H O/\Ak X.K G1 ds vs/\∀ w G' H',Ah G1 G'->SA X.K G' H' O->Is X.K G' d w->Q w H') (λpins s σ H xs us Q I r ⟨G1,q⟩=>hc G1 pins s σ H xs us Q I r q) hg hm hv (ha G) hn hdb he hpl)
  λσ H Q ⟨h1,h2,h3⟩=>⟨h1,h2,λvs G1 H1 e1 s1 i1=>⟨G1,s1,i1,λw G2 H2 e2 s2 i2=>h3 w G2 H2 (e1.trans e2) s2 i2⟩⟩
theorem B6 {xs:List D} (h:LT O d xs):B8 X O (.builtin "len") [d] (.int xs.length):=.of Q0E λG vs H Q s i k=>by
 cases i with
 | cons i r=>
  cases r
  rcases h with h | rfl
  ·obtain ⟨p,vs,rfl,q,r⟩:=h.sq s i
   exact ⟨p,vs,rfl,.inl q,by rw [<- r.length]; exact k _ G H (Ah.refl _) s (.int _)⟩
  ·obtain ⟨p,vs,rfl,q,r⟩:=Dk s i
   exact ⟨p,vs,rfl,.inr q,by rw [<- r.length]; exact k _ G H (Ah.refl _) s (.int _)⟩
theorem B0 {xs:List D} (h:LT O d xs):B8 X O (.type "tuple") [d] (.tup xs):=.of Q0y λG vs H Q s i k=>by
 cases i with
 | cons i r=>
  cases r
  rcases h with h | rfl
  ·obtain ⟨p,vs,rfl,q,r⟩:=h.sq s i
   refine ⟨p,vs,rfl,.inl ⟨q,λl hl=>?_⟩⟩
   obtain ⟨e4,s4⟩:=s.laid (o:=.tup vs) hl
   exact k _ _ _ e4 s4 (.tup (Bc.of A5) (r.ext e4))
  ·obtain ⟨p,vs,rfl,q,r⟩:=Dk s i
   exact ⟨p,vs,rfl,.inr ⟨q,k _ G H (Ah.refl _) s i⟩⟩
theorem Rv {xs:List D} (h:LT O d xs):B8 X O (.type "list") [d] (.lst xs):=.of Q0D λG vs H Q s i k=>by
 cases i with
 | cons i r=>
  cases r
  rcases h with h | rfl
  ·obtain ⟨p,vs,rfl,q,r⟩:=h.sq s i
   refine ⟨p,vs,rfl,.inl q,λl hl=>?_⟩
   obtain ⟨e4,s4⟩:=s.laid (o:=.lst vs) hl
   exact k _ _ _ e4 s4 (.lst A5 (r.ext e4))
  ·obtain ⟨p,vs,rfl,q,r⟩:=Dk s i
   refine ⟨p,vs,rfl,.inr q,λl hl=>?_⟩
   obtain ⟨e4,s4⟩:=s.laid (o:=.lst vs) hl
   exact k _ _ _ e4 s4 (.lst A5 (r.ext e4))
theorem Q0M {i:Int}:B8 X O (.builtin "abs") [.int i] (.int (if i<0 then -i else i)):=.of Q0H λG vs H Q s h k=>by
 cases h with | cons h r=>cases r; cases h; exact ⟨i,rfl,k _ G H (Ah.refl _) s (.int _)⟩
theorem Q0J {i j:Int} (hc:X.calm=true:=by rfl):B8 X O (.builtin "min") [.int i,.int j] (.int (if j<i then j else i)):=.of (Q0C hc) λG vs H Q s h k=>by
 cases h with | cons h r=>cases r with | cons h' r=>cases r; cases h; cases h'; exact ⟨i,j,rfl,k _ G H (Ah.refl _) s (.int _)⟩
abbrev AS:=List D->Ae->(D->Ae->Prop)->Prop
def AK (K:PySem.W.Frag) (sp:AS):Sp:=λvs H Q _=>∃ G O ds R,SA K G H O/\Ak K G ds vs/\sp ds O R/\∀ v d O' G' H',Ah G G'->SA K G' H' O'->Is K G' d v->R d O'->Q v H'
structure Am (P:Program) (w:World) (K:PySem.W.Frag) (mg:Str->Option Value) (base:Heap) (k:Nat) (x:Str) (sp:AS):Prop where
 ex:∃ f fd ps,AF P w K mg base AI k f fd ps (AK K sp)/\mg x=some (.ref f)/\PySem.W.keepIn K (.ref f)=true/\Binds K fd ps []
theorem ZZ {k:Nat} {sp:AS} (F:Am X.prog X.w X.K X.mg X.base k x sp) (hr:AL k X.A) (ha:FS X ρ O (e::es) λds O1=>sp ds O1 R) (hg:Gl X x:=by rfl) (hdb:(x==("__debug__" : Str))=false:=by decide)
  (he:starEach (e::es) X.env=(false,eval e X.env)::starEach es X.env:=by rfl) (hpl:(backTo pos (starEach es X.env)).any (·.1)=false:=by rfl):Ev X ρ O (.Call (.Name x p) (e::es) [] pos) R:=λG=>by
 obtain ⟨f,fd,ps,h1,h2,h3,h4⟩:=F.ex
 refine PE.imp (Wj h1 hr hg h2 h3 h4 .nil Gd (ha G) hdb he hpl) λσ H Q ⟨q1,q2,q3⟩=>⟨q1,q2,λvs ds O1 G1 H1 e1 s1 i1 r1=>?_⟩
 show AK X.K sp (vs++[]) H1 Q E0
 rw [List.append_nil]
 exact ⟨G1,O1,ds,R,s1,i1,r1,λv d O' G' H' e2 s2 i2 r2=>q3 v d O' G' H' (e1.trans e2) s2 i2 r2⟩
theorem Bs {k:Nat} {sp:AS} (F:Am X.prog X.w X.K X.mg X.base k x sp) (hr:AL k X.A) (ha:BI X ρ O (e::es) ds) (hs:sp ds O R) (hg:Gl X x:=by rfl) (hdb:(x==("__debug__" : Str))=false:=by decide)
  (he:starEach (e::es) X.env=(false,eval e X.env)::starEach es X.env:=by rfl) (hpl:(backTo pos (starEach es X.env)).any (·.1)=false:=by rfl):Ev X ρ O (.Call (.Name x p) (e::es) [] pos) R:=
 ZZ F hr (ha.as hs) hg hdb he hpl
def AE (f:List D->D->Prop):AS:=λds O R=>∃ d,f ds d/\R d O
theorem AH {k:Nat} {f:List D->D->Prop} (F:Am X.prog X.w X.K X.mg X.base k x (AE f)) (hr:AL k X.A) (ha:BI X ρ O (e::es) ds) (hs:f ds d) (hg:Gl X x:=by rfl) (hdb:(x==("__debug__" : Str))=false:=by decide)
  (he:starEach (e::es) X.env=(false,eval e X.env)::starEach es X.env:=by rfl) (hpl:(backTo pos (starEach es X.env)).any (·.1)=false:=by rfl):Ad X ρ O (.Call (.Name x p) (e::es) [] pos) d:=
 (Bs F hr ha ⟨d,hs,rfl,rfl⟩ hg hdb he hpl).evp
end
structure A7 where
 nx:Ai->Ae->Prop
 rt:D->Ae->Prop
 bk:Ai->Ae->Prop:=λ_ _=>False
 ct:Ai->Ae->Prop:=λ_ _=>False
def Gx (K:PySem.W.Frag) (G:Wd) (N:Ai->Ae->Prop) (n:L2.St->Hp->Prop):Prop:=∀ σ ρ O G' H,Ah G G'->SA K G' H O->Ax K G' σ ρ->N ρ O->n σ H
structure C0 (K:PySem.W.Frag) (G:Wd) (P:A7) (E:Fj):Prop where
 nx:Gx K G P.nx E.nx
 rt:∀ v d O G' H,Ah G G'->SA K G' H O->Is K G' d v->P.rt d O->E.rt v H
 bk:Gx K G P.bk E.bk
 ct:Gx K G P.ct E.ct
theorem Gx.ext {K:PySem.W.Frag} {G G':Wd} {N:Ai->Ae->Prop} {n:L2.St->Hp->Prop} (h:Gx K G N n) (e:Ah G G'):Gx K G' N n:=λσ ρ O G2 H e2=>h σ ρ O G2 H (e.trans e2)
theorem C0.ext {K:PySem.W.Frag} {G G':Wd} {P:A7} {E:Fj} (h:C0 K G P E) (e:Ah G G'):C0 K G' P E:=⟨h.nx.ext e,λv d O G2 H e2=>h.rt v d O G2 H (e.trans e2),h.bk.ext e,h.ct.ext e⟩
def Ex (X:Cx) (ρ:Ai) (O:Ae) (st:Stmt) (P:A7):Prop:=∀ G,PS X st (λE σ H=>SA X.K G H O/\Ax X.K G σ ρ/\C0 X.K G P E)
def Exs (X:Cx) (ρ:Ai) (O:Ae) (st:List Stmt) (P:A7):Prop:=∀ G,PSs X st (λE σ H=>SA X.K G H O/\Ax X.K G σ ρ/\C0 X.K G P E)
section
variable {X:Cx} {ρ:Ai} {O:Ae} {e a b c:Expr} {es:List Expr} {d da db:D} {ds:List D} {R:D->Ae->Prop} {pos p:Pos} {x:Str} {st:Stmt} {rest body orelse:List Stmt} {P:A7}
theorem Ar (h:P.nx ρ O):Exs X ρ O [] P:=λG=>PSs.imp LU λE σ H ⟨h1,h2,h3⟩=>h3.nx σ ρ O G H (Ah.refl _) h1 h2 h
theorem Ac (h:Ex X ρ O st { P with nx:=λρ' O'=>Exs X ρ' O' rest P }):Exs X ρ O (st::rest) P:=λG=>
 PSs.imp (LW (h G) (u:=λE σ H=>∃ G1 ρ1 O1,SA X.K G1 H O1/\Ax X.K G1 σ ρ1/\Exs X ρ1 O1 rest P/\C0 X.K G1 P E) (λpins s σ H E I ⟨G1,ρ1,O1,q1,q2,q3,q4⟩=>q3 G1 pins s σ H E I ⟨q1,q2,q4⟩)) λE σ H ⟨h1,h2,h3⟩=>
  ⟨h1,h2,⟨λσ1 ρ1 O1 G1 H1 e1 s1 n1 q1=>⟨G1,ρ1,O1,s1,n1,q1,h3.ext e1⟩,h3.rt,h3.bk,h3.ct⟩⟩
theorem GC (M:Ai->Ae->Prop) (h:Ex X ρ O st { P with nx:=M }) (k:∀ ρ' O',M ρ' O'->Exs X ρ' O' rest P):Exs X ρ O (st::rest) P:=Ac λG=>
 PS.imp (h G) λE σ H ⟨h1,h2,h3⟩=>⟨h1,h2,⟨λσ1 ρ1 O1 G1 H1 e1 s1 n1 q1=>h3.nx σ1 ρ1 O1 G1 H1 e1 s1 n1 (k _ _ q1),h3.rt,h3.bk,h3.ct⟩⟩
theorem AC (h:Ev X ρ O e P.rt):Ex X ρ O (.Return (some e) pos) P:=λG=>PS.imp (VP (h G)) λE σ H ⟨h1,h2,h3⟩=>⟨h1,h2,λv d O' G' H' e1 s1 i1 r1=>h3.rt v d O' G' H' e1 s1 i1 r1⟩
theorem Bd (h:Ev X ρ O e λ_ O'=>P.nx ρ O') (hs:swapsWith e none pos.line X.env=pure false:=by rfl):Ex X ρ O (.Expr e pos) P:=λG=>PS.imp (IG (h G) hs) λE σ H ⟨h1,h2,h3⟩=>
 ⟨h1,h2,λv d O' G' H' e1 s1 i1 r1=>h3.nx σ ρ O' G' H' e1 s1 (h2.ext e1) r1⟩
theorem AR {k:Bool} (hc:AV X ρ O c k) (h1:k=true->Exs X ρ O body P) (h2:k=false->Exs X ρ O orelse P):Ex X ρ O (.If c body orelse pos) P:=λG=>
 PS.imp (Py (hc G) (t:=λE σ H=>∃ G1,k=true/\SA X.K G1 H O/\Ax X.K G1 σ ρ/\C0 X.K G1 P E) (λpins s σ H E I ⟨G1,z,q⟩=>h1 z G1 pins s σ H E I q)
  (u:=λE σ H=>∃ G1,k=false/\SA X.K G1 H O/\Ax X.K G1 σ ρ/\C0 X.K G1 P E) (λpins s σ H E I ⟨G1,z,q⟩=>h2 z G1 pins s σ H E I q)) λE σ H ⟨q1,q2,q3⟩=>
  ⟨q1,q2,λG' H' e1 s1=>by
   cases k with
   | true=>exact Ms ⟨G',rfl,s1,q2.ext e1,q3.ext e1⟩
   | false=>exact Mt ⟨G',rfl,s1,q2.ext e1,q3.ext e1⟩⟩
def Tg (X:Cx) (tg:Expr) (d:D) (ρ ρ':Ai):Prop:=∀ G,PG X tg (λv σ H Q=>Is X.K G d v/\Bl G.g H/\Ax X.K G σ ρ/\∀ σ',Ax X.K G σ' ρ'->Q σ' H)
def Jv (X:Cx) (tg:List Expr) (ds:List D) (ρ ρ':Ai):Prop:=∀ G,HF X tg (λvs σ H Q=>Ak X.K G ds vs/\Bl G.g H/\Ax X.K G σ ρ/\∀ σ',Ax X.K G σ' ρ'->Q σ' H)
theorem AW (i:Nat) (hN:X.N.Nodup) (hi:X.N[i]?=some x:=by rfl) (hx:DC X.env.scope x:=by first | exact Or.inl rfl | exact Or.inr rfl) (hf:X.fn x=true\/X.env.scope.names.lookup x=some .local:=by first | exact .inl rfl | exact .inr rfl | assumption):Tg X (.Name x pos) d ρ (ρ.set i (some d)):=λG pins s σ H v u Q I r ⟨h1,h2,h3,h4⟩=>
 V6 hN hi hx hf pins s σ H v u Q I r (h4 _ (h3.set i h1))
theorem DI:Jv X [] [] ρ ρ:=λG pins s σ H vs us Q I r ⟨h1,h2,h3,h4⟩=>V2 pins s σ H vs us Q I r ⟨by cases h1; rfl,h4 _ h3⟩
theorem BZ {ρ1 ρ2:Ai} (h:Tg X e d ρ ρ1) (k:Jv X es ds ρ1 ρ2) (hs:(assignEach (e::es) X.env).map (·.2)=assign e X.env::(assignEach es X.env).map (·.2):=by rfl):Jv X (e::es) (d::ds) ρ ρ2:=λG pins s σ H vs us Q I r ⟨h1,h2,h3,h4⟩=>by
 cases h1 with
 | cons i1 i2=>
  exact V3 (h G) (k G) hs pins s σ H _ us Q I r ⟨_,_,rfl,i1,h2,h3,λσ' n'=>⟨i2,h2,n',h4⟩⟩
theorem DJ {ρ1:Ai} {k:Nat} (h:Jv X es ds ρ ρ1) (hc:X.calm=true:=by rfl) (hn:(assignEach es X.env).length=ds.length:=by rfl) (hst:(assignEach es X.env).findIdx? (·.1)=none:=by rfl):Tg X (.Tuple es k pos) (.tup ds) ρ ρ1:=λG pins s σ H v u Q I r ⟨h1,h2,h3,h4⟩=>by
 cases h1 with
 | tup q1 q2=>
  exact V4 hc (h G) hn hst pins s σ H _ u Q I r ⟨_,_,rfl,Dm h2 q1,by rw [<- q2.length],q2,h2,h3,h4⟩
theorem AQ (i:Nat) (he:Ev X ρ O e λd O'=>P.nx (ρ.set i (some d)) O') (hN:X.N.Nodup) (hi:X.N[i]?=some x:=by rfl) (hx:DC X.env.scope x:=by first | exact Or.inl rfl | exact Or.inr rfl) {p:Pos}
  (hs:swapsWith e (some (.Name x p)) pos.line X.env=pure false:=by rfl) (hf:X.fn x=true\/X.env.scope.names.lookup x=some .local:=by first | exact .inl rfl | exact .inr rfl | assumption):Ex X ρ O (.Assign [.Name x p] e pos) P:=λG=>
 PS.imp (Px hN hi hx (he G) hs hf) λE σ H ⟨h1,h2,h3⟩=>⟨h1,h2,λv d O' G' H' e1 s1 i1 r1=>h3.nx _ _ O' G' H' e1 s1 ((h2.ext e1).set i i1) r1⟩
theorem Sn {tg:Expr} {ρ1:Ai} (he:Ad X ρ O e d) (ht:Tg X tg d ρ ρ1) (h:P.nx ρ1 O) (hs:swapsWithSole [tg] e pos.line X.env=pure false:=by rfl) (hw:swappedStores [tg] e X.env=pure none:=by rfl)
  (h1:(assignEach [tg] X.env).map (·.2)=[assign tg X.env]:=by rfl):Ex X ρ O (.Assign [tg] e pos) P:=λG=>
 PS.imp (LX (he G) (g:=λv σ H Q=>∃ G1,Is X.K G1 d v/\Bl G1.g H/\Ax X.K G1 σ ρ/\∀ σ',Ax X.K G1 σ' ρ1->Q σ' H) (λpins s σ H v u Q I r ⟨G1,q⟩=>ht G1 pins s σ H v u Q I r q) hs hw h1) λE σ H ⟨q1,q2,q3⟩=>
  ⟨q1,q2,λv G' H' e1 s1 i1=>⟨G',i1,s1.sub,q2.ext e1,λσ' n'=>q3.nx _ _ O G' H' e1 s1 n' h⟩⟩
theorem JN {q:Nat} {xs:List D} {apos cpos:Pos} (ho:Ad X ρ O a (.ptr q)) (hq:O[q]?=some (some (.lst xs))) (he:Ad X ρ O e d) (hz:xs.length<sizeLine) (h:P.nx ρ (O.set q (some (.lst (xs++[d])))))
  (hbase:attributeBase a ("append" : Str) X.env (eval a X.env)=eval a X.env:=by rfl) (hline:(apos.endLine==cpos.line)=true:=by rfl) (hst:starEach [e] X.env=[(false,eval e X.env)]:=by rfl)
  (hsw:swapsWith (.Call (.Attribute a ("append" : Str) apos) [e] [] cpos) none pos.line X.env=pure false:=by rfl):Ex X ρ O (.Expr (.Call (.Attribute a ("append" : Str) apos) [e] [] cpos) pos) P:=λG=>
 PS.imp (IG (L8 PySem.F.plainAttrs_list PySem.F.slot_list_append PySem.F.type_list_append Qc (ho G)
  (DM (te:=λσ H Q=>∃ G1,SA X.K G1 H O/\Ax X.K G1 σ ρ/\∀ v G' H',Ah G1 G'->SA X.K G' H' O->Is X.K G' d v->Q v H') (λpins s σ H Q I ⟨G1,q⟩=>he G1 pins s σ H Q I q) FA hst) hbase
  (by rw [hst]; rfl) hline hst (by rfl)) hsw) λE σ H ⟨q1,q2,q3⟩=>⟨q1,q2,λv G1 H1 e1 s1 i1=>by
   cases i1 with
   | ptr _ ha=>
   obtain ⟨a1,g0,g1,vs,g2,g3⟩:=s1.mt q _ hq
   obtain rfl:=Option.some.inj (ha.symm.trans g0)
   refine ⟨.inl ⟨rfl,vs,A8.of g2⟩,G1,s1,q2.ext e1,λw G2 H2 e2 s2 i2=>?_⟩
   obtain ⟨a2,g7,g4,us,g5,g6⟩:=s2.mt q _ hq
   obtain rfl:=Option.some.inj ((e2.at g0).symm.trans g7)
   refine ⟨_,us,w,rfl,rfl,g5,by rw [<- g6.length]; exact hz,?_⟩
   exact q3.nx σ ρ _ G2 _ (e1.trans e2) (s2.put (m':=.lst (xs++[d])) hq g7 ⟨_,A5,g6.append (.cons i2 .nil)⟩) (q2.ext (e1.trans e2)) h⟩
structure DW (K:PySem.W.Frag) (G:Wd) (J:It) (xs:List D):Prop where
 go:∀ i H,Bl G.g H->i<xs.length->J.go i H
 stop:∀ i H,Bl G.g H->xs.length<=i->J.stop i H
 yld:∀ i v H H' G2 O2,Ah G G2->SA K G2 H O2->J.yld i H v H'->i<xs.length->∃ x G3,xs[i]?=some x/\Ah G2 G3/\SA K G3 H' O2/\Is K G3 x v
def BX (X:Cx) (ρ:Ai) (O:Ae) (tg iter:Expr) (xs:List D):Prop:=
 ∀ G,PI X tg iter (λσ H R=>SA X.K G H O/\Ax X.K G σ ρ/\∀ J G' H',Ah G G'->SA X.K G' H' O->DW X.K G' J xs->R J H')
theorem _root_.L2.PI.imp {X:Cx} {tg iter:Expr} {t u:TI} (h:PI X tg iter t) (k:∀ σ H R,u σ H R->t σ H R):PI X tg iter u:=λpins s σ H R I q=>h pins s σ H R I (k _ _ _ q)
theorem Qx {K:PySem.W.Frag} {G:Wd} {q:Addr} {vs:List V} {xs:List D} (h1:A8 K G.g q vs) (r:Ak K G xs vs):DW K G (Np K q) xs where
 go:=λi H e hi=>by
  obtain ⟨v,hv,_⟩:=r.get (i:=i) (d:=xs[i]) (by simp [hi])
  exact ⟨vs,v,e.seq h1,hv⟩
 stop:=λi H e hi=>⟨vs,e.seq h1,by rw [<- r.length]; exact hi⟩
 yld:=λi v H H' G2 O2 e s y hi=>by
  obtain ⟨rfl,y⟩:=y
  obtain ⟨x,hx,ix⟩:=r.getV (y vs ((e.g.trans s.sub).seq h1))
  exact ⟨x,G2,hx,Ah.refl _,s,ix.ext e⟩
theorem YR {K:PySem.W.Frag} {G:Wd} {q:Addr} {vs:List V} {xs:List D} (h1:Bc K G.g q vs) (r:Ak K G xs vs):DW K G (Nn K q) xs where
 go:=λi H e hi=>by
  obtain ⟨v,hv,_⟩:=r.get (i:=i) (d:=xs[i]) (by simp [hi])
  exact ⟨vs,v,Dm e h1,hv⟩
 stop:=λi H e hi=>⟨vs,Dm e h1,by rw [<- r.length]; exact hi⟩
 yld:=λi v H H' G2 O2 e s y hi=>by
  obtain ⟨rfl,y⟩:=y
  obtain ⟨x,hx,ix⟩:=r.getV (y vs (Dm (e.g.trans s.sub) h1))
  exact ⟨x,G2,hx,Ah.refl _,s,ix.ext e⟩
theorem Q0c {tg:Expr} {xs:List D} (h:Ad X ρ O e (.lst xs)):BX X ρ O tg e xs:=λG=>PI.imp (PF (h G)) λσ H R ⟨h1,h2,h3⟩=>⟨h1,h2,λv G1 H1 e1 s1 i1=>by
 cases i1 with
 | lst q r=>exact ⟨_,rfl,⟨_,A8.of (s1.sub _ _ q)⟩,h3 _ G1 H1 e1 s1 (Qx (A8.of q) r)⟩⟩
theorem Q0b {tg:Expr} {xs:List D} (h:Ad X ρ O e (.scr xs)):BX X ρ O tg e xs:=λG=>PI.imp (PF (h G)) λσ H R ⟨h1,h2,h3⟩=>⟨h1,h2,λv G1 H1 e1 s1 i1=>by
 cases i1 with
 | scr q r=>exact ⟨_,rfl,⟨_,s1.sub.seq q⟩,h3 _ G1 H1 e1 s1 (Qx q r)⟩⟩
theorem Q0a {tg:Expr} {xs:List D} (h:Ad X ρ O e (.tup xs)):BX X ρ O tg e xs:=λG=>PI.imp (V0 (h G)) λσ H R ⟨h1,h2,h3⟩=>⟨h1,h2,λv G1 H1 e1 s1 i1=>by
 cases i1 with
 | tup q r=>exact ⟨_,rfl,⟨_,Dm s1.sub q⟩,h3 _ G1 H1 e1 s1 (YR q r)⟩⟩
def Fz (lo:Int) (n:Nat):List D:=(List.range n).map λi=>.int (lo+(i:Nat))
theorem Er {lo:Int} {n:Nat}:(Fz lo n).length=n:=by simp [Fz]
theorem Pw {lo:Int} {n i:Nat} (h:i<n):(Fz lo n)[i]?=some (.int (lo+(i:Nat))):=by simp [Fz,h]
theorem IF {lo:Int} {n i:Nat} {x:D} (h:(Fz lo n)[i]?=some x):i<n/\x=.int (lo+(i:Nat)):=by
 have hi:i<n:=by
  have:=(List.getElem?_eq_some_iff.mp h).1
  rw [Er] at this
  exact this
 rw [Pw hi] at h
 exact ⟨hi,(Option.some.inj h).symm⟩
theorem YS {K:PySem.W.Frag} {G:Wd} {lo:Int} {n:Nat}:DW K G (JC lo n) (Fz lo n) where
 go:=λi H _ hi=>by rw [Er] at hi; exact hi
 stop:=λi H _ hi=>by rw [Er] at hi; exact hi
 yld:=λi v H H' G2 O2 e s y hi=>by
  obtain ⟨rfl,rfl⟩:=y
  rw [Er] at hi
  exact ⟨_,G2,Pw hi,Ah.refl _,s,.int _⟩
theorem EV {tg:Expr} {n:Int} (h:Ad X ρ O e (.int n)) (hm:X.mg "range" = none) (h1:-(2 ^ 62)<=n) (h2:n<2 ^ 62) (hg:Gl X "range" := by rfl) (hs:starEach [e] X.env=[(false,eval e X.env)]:=by rfl):BX X ρ O tg (.Call (.Name "range" p) [e] [] pos) (Fz 0 n.toNat):=λG=>
 PI.imp (V1 hg hm (Ab h Af hs G) hs) λσ H R ⟨q1,q2,q3⟩=>⟨q1,q2,λvs G1 H1 e1 s1 i1=>by
  cases i1 with | cons i r=>cases r; cases i; exact ⟨n,rfl,h1,h2,q3 _ G1 H1 e1 s1 YS⟩⟩
theorem DG {tg iter:Expr} {body:List Stmt} {xs:List D} (hi:BX X ρ O tg iter xs) (inv:Nat->Ai->Ae->Prop) (h0:inv 0 ρ O)
  (hs:∀ i x ρ' O',xs[i]?=some x->inv i ρ' O'->∃ ρ1,Tg X tg x ρ' ρ1/\Exs X ρ1 O' body { P with nx:=inv (i+1),ct:=inv (i+1),bk:=P.nx }) (hd:∀ ρ' O',inv xs.length ρ' O'->P.nx ρ' O')
  (hp:PassesOwn (model X.prog X.w) X.A X.env X.xe:=by exact PassesOwn.never) (hc:X.calm=true:=by rfl) (hf:∀ x,foldedSetIterable iter X.env x=pure x:=by intro _; rfl):Ex X ρ O (.For tg iter body [] pos) P:=λG=>
 PS.imp (Pz hp hc (hi G) (g:=λv σ H Q=>∃ G1 ρ1 ρ2 x,Tg X tg x ρ1 ρ2/\Is X.K G1 x v/\Bl G1.g H/\Ax X.K G1 σ ρ1/\∀ σ',Ax X.K G1 σ' ρ2->Q σ' H) (λpins s σ H v u Q I r ⟨G1,ρ1,ρ2,x,q,q'⟩=>q G1 pins s σ H v u Q I r q')
  (tb:=λE σ H=>∃ G1 ρ1 O1 P1,SA X.K G1 H O1/\Ax X.K G1 σ ρ1/\Exs X ρ1 O1 body P1/\C0 X.K G1 P1 E) (λpins s σ H E I ⟨G1,ρ1,O1,P1,q1,q2,q3,q4⟩=>q3 G1 pins s σ H E I ⟨q1,q2,q4⟩) hf) λE σ H ⟨q1,q2,q3⟩=>by
  refine ⟨q1,q2,λJ G1 H1 e1 s1 Y=>?_⟩
  refine ⟨λi m σ H=>∃ G2 ρ2 O2,Ah G1 G2/\SA X.K G2 H O2/\Ax X.K G2 σ ρ2/\inv i ρ2 O2/\i<=xs.length/\m=xs.length-i,⟨_,G1,ρ,O,Ah.refl _,s1,q2.ext e1,h0,Nat.zero_le _,rfl⟩,?_⟩
  rintro i m σ2 H2 ⟨G2,ρ2,O2,e2,s2,n2,v2,l2,rfl⟩
  by_cases hlt:i<xs.length
  ·refine .inr ⟨Y.go i H2 (e2.g.trans s2.sub) hlt,λσ' H'=>∃ G3 ρ3 O3,Ah G1 G3/\SA X.K G3 H' O3/\Ax X.K G3 σ' ρ3/\inv (i+1) ρ3 O3,λσ' H' ⟨G3,ρ3,O3,e3,s3,n3,v3⟩=>⟨xs.length-(i+1),by omega,G3,ρ3,O3,e3,s3,n3,v3,hlt,rfl⟩,λv H3 y=>?_⟩
   obtain ⟨x,G3,hx,e3,s3,i3⟩:=Y.yld i v H2 H3 G2 O2 e2 s2 y hlt
   obtain ⟨ρ3,t3,b3⟩:=hs i x ρ2 O2 hx v2
   have e13:Ah G1 G3:=e2.trans e3
   refine ⟨G3,ρ2,ρ3,x,t3,i3,s3.sub,n2.ext e3,λσ' n'=>⟨G3,ρ3,O2,_,s3,n',b3,⟨λσ4 ρ4 O4 G4 H4 e4 s4 n4 q=>⟨G4,ρ4,O4,e13.trans e4,s4,n4,q⟩,λv d O4 G4 H4 e4 s4 i4 r=>q3.rt v d O4 G4 H4 (e1.trans (e13.trans e4)) s4 i4 r,
    λσ4 ρ4 O4 G4 H4 e4 s4 n4 q=>q3.nx σ4 ρ4 O4 G4 H4 (e1.trans (e13.trans e4)) s4 n4 q,λσ4 ρ4 O4 G4 H4 e4 s4 n4 q=>⟨G4,ρ4,O4,e13.trans e4,s4,n4,q⟩⟩⟩⟩
  ·have ei:i=xs.length:=by omega
   subst ei
   exact .inl ⟨Y.stop _ H2 (e2.g.trans s2.sub) (Nat.le_refl _),q3.nx σ2 ρ2 O2 G2 H2 (e1.trans e2) s2 n2 (hd _ _ v2)⟩
end
def Ft (N:List Str) (ds:List D):Ai:=ds.map some++List.replicate (N.length-ds.length) none
section
variable {P:Program} {w:World} {K:PySem.W.Frag} {mg:Str->Option Value} {base:Heap}
theorem J2 {G:Wd} {N:List Str} {ds:List D} {vs:List V} (r:Ak K G ds vs):Ax K G (L2.start N vs) (Ft N ds):=by
 refine ⟨by unfold L2.start Ft; simp [r.length],λi d h=>?_⟩
 unfold Ft at h
 by_cases hi:i<ds.length
 ·rw [List.getElem?_append_left (by simpa using hi),List.getElem?_map] at h
  cases q:ds[i]? with
  | none=>rw [q] at h; cases h
  | some d'=>
   rw [q] at h; cases h
   obtain ⟨v,hv,iv⟩:=r.get q
   refine ⟨v,?_,iv⟩
   unfold L2.start
   rw [List.getElem?_append_left (by rw [List.length_map,<- r.length]; exact hi),List.getElem?_map,hv]
   rfl
 ·rw [List.getElem?_append_right (by simpa using hi),List.getElem?_replicate] at h
  split at h <;> cases h
theorem Bh {x qual:Str} {st:Stmt} {f:Addr} {fd:FuncData} {N ps:List Str} {k:Nat} {sp:AS} (F:Au K x qual st f fd) (S:AB N ps (An st))
  (len:∀ ds O R,sp ds O R->ds.length=ps.length)
  (hbody:∀ (cdv:Value) (A:Around) (outer:List Env) (s:Shared) (H:Hp) (E:XK) (ds:List D) (O:Ae) (R:D->Ae->Prop),AL k (A.deeper (envOfC qual (An st) s.heap.objs.size f cdv))->sp ds O R->
   Exs (Dh AI P w K mg base N qual (An st) f cdv A outer s H E).nox (Ft N ds) O (Cf st) { nx:=λ_ O'=>R .non O',rt:=R }):AF P w K mg base AI (k+1) f fd ps (AK K sp):=by
 refine F.ok S (λvs H Q E h=>?_) (λcdv A outer s H vs Q E hr h=>?_)
 ·obtain ⟨G,O,ds,R,h1,h2,h3,h4⟩:=h
  rw [<- h2.length]
  exact len _ _ _ h3
 ·obtain ⟨G,O,ds,R,h1,h2,h3,h4⟩:=h
  refine ⟨_,hbody cdv A outer s H E ds O R hr h3 G,h1,J2 h2,⟨λσ ρ O' G' H' e1 s1 n1 q=>h4 _ _ O' G' H' e1 s1 .non q,λv d O' G' H' e1 s1 i1 q=>h4 v d O' G' H' e1 s1 i1 q,λσ ρ O' G' H' e1 s1 n1 q=>q.elim,λσ ρ O' G' H' e1 s1 n1 q=>q.elim⟩⟩
theorem A2 {x qual:Str} {st:Stmt} {f:Addr} {fd:FuncData} {N ps:List Str} {k:Nat} {sp:AS} (F:Au K x qual st f fd) (S:AB N ps (An st)) (hm:mg x=some (.ref f)) (hb:Binds K fd ps [])
  (len:∀ ds O R,sp ds O R->ds.length=ps.length)
  (hbody:∀ (cdv:Value) (A:Around) (outer:List Env) (s:Shared) (H:Hp) (E:XK) (ds:List D) (O:Ae) (R:D->Ae->Prop),AL k (A.deeper (envOfC qual (An st) s.heap.objs.size f cdv))->sp ds O R->
   Exs (Dh AI P w K mg base N qual (An st) f cdv A outer s H E).nox (Ft N ds) O (Cf st) { nx:=λ_ O'=>R .non O',rt:=R }):Am P w K mg base (k+1) x sp:=
 ⟨f,fd,ps,Bh F S len hbody,hm,F.kp,hb⟩
end
def GL:AS:=λds O R=>∃ ns:List Int,ds=[.scr (ns.map D.int)]/\ns.length<=63/\R (.bl true) O
theorem YD {K:PySem.W.Frag} {H:Hp} {a:Addr} {ns:List Int} (hl:ns.length<=63) (hS:A8 K H a (ns.map V.int)):AK K GL [.ref a] H (λv _=>v=.bl true) λ_ _ _=>False:=
 ⟨⟨H,[]⟩,[],[.scr (ns.map D.int)],λd _=>d=.bl true,⟨Bl.refl _,rfl,List.nodup_nil,λa h=>absurd h List.not_mem_nil,λn m h=>by cases h⟩,.cons (.scr hS Ak.ints) .nil,⟨ns,rfl,hl,rfl⟩,λv d O' G' H' _ _ i r=>by subst r; cases i; rfl⟩
section
variable {X:Cx} {ρ:Ai} {O:Ae} {e a b c:Expr} {es:List Expr} {d da db:D} {ds:List D} {R:D->Ae->Prop} {pos p:Pos} {x:Str}
theorem CD {U:String} (hm:X.mg x=none) (hg:Gl X x:=by rfl) (hv:bootBuiltins x=some (.type U):=by first | rfl | decide +kernel) (hn:x ≠ "__name__" := by decide) (hd:(x==("__debug__" : Str))=false:=by decide):Ad X ρ O (.Name x p) (.ty U):=λG=>
 PE.imp (PN (v:=.ty U) hg hm hv rfl hn hd) λσ H Q ⟨h1,h2,h3⟩=>h3 _ G H (Ah.refl _) h1 (.ty U)
def tyD:D->Option String
 | .non=>some "NoneType" | .bl _=>some "bool" | .int _=>some "int" | .str _=>some "str" | .tup _=>some "tuple" | .lst _=>some "list" | .scr _=>some "list" | .ptr _=>none | .ty _=>none | .fn _=>none | .dct _ _=>some "dict"
theorem Q0K {T U:String} {k:Bool} (ht:tyD d=some T) (hk:∀ K,PySem.W.kitOne K (.type T) (.type U)=some k):B8 X O (.builtin "isinstance") [d,.ty U] (.bl k):=λG pins s σ H xs us Q I r ⟨h1,h2,h3⟩=>by
 cases h2 with
 | cons i r2=>
  cases r2 with
  | cons i' r3=>
   cases r3
   cases i'
   obtain ⟨u,u',rfl,r1,r2⟩:=EM r
   cases r2
   have fin:∀ tk,EP X pins σ Q (.bool k) { s with toks:=tk }:=λtk=>⟨.bl k,H,I.tok tk,rfl,h3 _ G H (Ah.refl _) h1 (.bl k)⟩
   cases i with
   | non=>cases ht; cases r1; exact PySem.W.kia_one PySem.W.kitx_none I.kIn True.intro (hk _) (λz=>nomatch z) fin
   | bl y=>cases ht; cases r1; exact PySem.W.kia_one PySem.W.kitx_bool I.kIn True.intro (hk _) (λz=>nomatch z) fin
   | int i=>cases ht; obtain ⟨t,rfl⟩:=r1; exact PySem.W.kia_one PySem.W.kitx_int I.kIn True.intro (hk _) (λz=>nomatch z) fin
   | str y=>cases ht; obtain ⟨t,rfl⟩:=r1; exact PySem.W.kia_one PySem.W.kitx_str I.kIn True.intro (hk _) (λz=>nomatch z) fin
   | tup q1 q2=>
    cases ht; cases r1
    obtain ⟨its,_,⟨o,g1,g2,_⟩,_⟩:=I.tuple (Dm h1.sub q1)
    exact PySem.W.kia_one PySem.W.kitx_tuple I.kIn ⟨o,g1,g2⟩ (hk _) (λz=>nomatch z) fin
   | lst q1 q2=>
    cases ht; cases r1
    obtain ⟨its,_,⟨o,n,g1,g2,_⟩,_⟩:=I.list (A8.of (h1.sub _ _ q1))
    exact PySem.W.kia_one PySem.W.kitx_list I.kIn ⟨o,g1,g2⟩ (hk _) (λz=>nomatch z) fin
   | scr q1 q2=>
    cases ht; cases r1
    obtain ⟨its,_,⟨o,n,g1,g2,_⟩,_⟩:=I.list (h1.sub.seq q1)
    exact PySem.W.kia_one PySem.W.kitx_list I.kIn ⟨o,g1,g2⟩ (hk _) (λz=>nomatch z) fin
   | ptr _ _=>cases ht
   | ty _=>cases ht
   | fn _=>cases ht
   | dct q1 _ q2=>
    cases ht; cases r1
    obtain ⟨_,_,_,_,o,_,_,g1,g2,_⟩:=Rd.ok (.inr ⟨_,h1.sub _ _ q1⟩) I.hok
    exact PySem.W.kia_one PySem.W.kitx_dict I.kIn ⟨o,g1,g2.1⟩ (hk _) (λz=>nomatch z) fin
def N5 (T U:String):Bool:=T==U||(T == "bool" && U == "int")
theorem YG:∀ T∈["NoneType","bool","int","str","tuple","list","dict"],∀ U∈["int","bool","tuple","str","dict","list"],∀ K,PySem.W.kitOne K (.type T) (.type U)=some (N5 T U):=by
 intro T hT U hU K
 simp only [List.mem_cons,List.not_mem_nil,or_false] at hT hU
 rcases hT with rfl | rfl | rfl | rfl | rfl | rfl | rfl <;> rcases hU with rfl | rfl | rfl | rfl | rfl | rfl <;> kernel_rfl
def Hd:D->Bool
 | .ptr _=>false | .ty _=>false | .fn _=>false | _=>true
def Ez (d:D) (U:String):Bool:=match tyD d with
 | some T=>N5 T U
 | none=>false
theorem MX {U:String} (h:Hd d=true) (hU:U∈["int","bool","tuple","str","dict","list"]):B8 X O (.builtin "isinstance") [d,.ty U] (.bl (Ez d U)):=by
 cases d with
 | ptr _=>cases h
 | ty _=>cases h
 | fn _=>cases h
 | _=>exact Q0K (T:=_) rfl (YG _ wE U hU)
theorem MV (h:Hd d=true):B8 X O (.builtin "isinstance") [d,.ty "int"] (.bl (Ez d "int")):=MX h wE
theorem MW (h:Hd d=true):B8 X O (.builtin "isinstance") [d,.ty "bool"] (.bl (Ez d "bool")):=MX h wE
theorem Ef (h:Hd d=true):B8 X O (.builtin "isinstance") [d,.ty "tuple"] (.bl (Ez d "tuple")):=MX h wE
theorem ZO {i:Int} (ha:Ad X ρ O a (.int i)):Ad X ρ O (.UnaryOp .USub a pos) (.int (-i)):=λG=>PE.imp (V7 SM (ha G)) λσ H Q ⟨h1,h2,h3⟩=>⟨h1,h2,λv G1 H1 e1 s1 i1=>by
 cases i1; exact ⟨i,rfl,h3 _ G1 H1 e1 s1 (.int _)⟩⟩
end
def CV (env:Env):List (Str×NameKind)->List (Str×Addr)->List (Str×Addr)
 | [],cs=>cs
 | (n,k)::r,cs=>if k==.free then CV env r ((n,(env.cells.lookup n).getD 0)::cs) else CV env r cs
theorem MM {env:Env} (f:Str×NameKind->List (Str×Addr)->Sem (ForInStep (List (Str×Addr))))
  (hf:∀ n k cs,f (n,k) cs=if (k==NameKind.free)=true then (do let a <- cellOf env n; pure (.yield ((n,a)::cs))) else pure (.yield cs)) :
  ∀ (names:List (Str×NameKind)) (cs:List (Str×Addr)),(∀ y∈names,y.2=.free->∃ a,env.cells.lookup y.1=some a)->forIn names cs f=pure (CV env names cs)
 | [],cs,_=>by rw [List.forIn_nil]; rfl
 | (n,k)::r,cs,h=>by
  rw [List.forIn_cons,hf]
  have hr:∀ y∈r,y.2=.free->∃ a,env.cells.lookup y.1=some a:=λy hy=>h y (List.mem_cons_of_mem _ hy)
  unfold CV
  by_cases hk:(k==NameKind.free)=true
  ·rw [if_pos hk,if_pos hk]
   obtain ⟨a,e⟩:=h (n,k) List.mem_cons_self (by simpa using hk)
   have e':cellOf env n=pure a:=by unfold cellOf; rw [e]
   rw [e',e]
   simp only [pure_bind,Option.getD_some]
   exact MM f hf r _ hr
  ·rw [if_neg hk,if_neg hk]
   simp only [pure_bind]
   exact MM f hf r _ hr
theorem Q0w {env:Env} {scope:Scope} (h:∀ y∈scope.names,y.2=.free->∃ a,env.cells.lookup y.1=some a):closureFor scope env=pure (CV env scope.names []):=by
 have e:=MM (env:=env) (λ(x:Str×NameKind) (cs:List (Str×Addr))=>if (x.2==NameKind.free)=true then (do let a <- cellOf env x.1; pure (.yield ((x.1,a)::cs))) else pure (.yield cs)) (λn k cs=>rfl) scope.names [] h
 unfold closureFor
 exact (congrArg (λz=>z >>= λq=>pure q) e).trans (by simp)
theorem MN {env:Env} {x:Str} {c:Addr}:∀ (names:List (Str×NameKind)) (cs:List (Str×Addr)),(∀ y∈names,y.2=.free->∃ a,env.cells.lookup y.1=some a)->
  (CV env names cs).lookup x=some c->cs.lookup x=some c\/env.cells.lookup x=some c
 | [],cs,_,h=>.inl h
 | (n,k)::r,cs,hh,h=>by
  have hr:∀ y∈r,y.2=.free->∃ a,env.cells.lookup y.1=some a:=λy hy=>hh y (List.mem_cons_of_mem _ hy)
  unfold CV at h
  by_cases hk:(k==NameKind.free)=true
  ·rw [if_pos hk] at h
   obtain ⟨a,e⟩:=hh (n,k) List.mem_cons_self (by simpa using hk)
   rcases MN r _ hr h with q | q
   ·rw [e,Option.getD_some,List.lookup_cons] at q
    cases hx:x==n with
    | true=>
     rw [hx] at q
     have:x=n:=by simpa using hx
     subst this
     exact .inr (by cases q; exact e)
    | false=>rw [hx] at q; exact .inl q
   ·exact .inr q
  ·rw [if_neg hk] at h
   exact MN r cs hr h
theorem HB {env:Env} {x:Str}:∀ (names:List (Str×NameKind)) (cs:List (Str×Addr)),names.lookup x=some .free\/(cs.lookup x).isSome=true->((CV env names cs).lookup x).isSome=true
 | [],cs,h=>h.elim (λe=>by cases e) id
 | (n,k)::r,cs,h=>by
  unfold CV
  by_cases hk:(k==NameKind.free)=true
  ·rw [if_pos hk]
   refine HB r _ ?_
   cases hx:x==n with
   | true=>right; rw [List.lookup_cons,hx]; rfl
   | false=>
    rw [List.lookup_cons,hx] at h
    rw [List.lookup_cons,hx]
    exact h
  ·rw [if_neg hk]
   refine HB r _ ?_
   cases hx:x==n with
   | true=>
    rw [List.lookup_cons,hx] at h
    rcases h with h | h
    ·cases h; exact absurd rfl hk
    ·exact .inr h
   | false=>rw [List.lookup_cons,hx] at h; exact h
theorem MP {x:Str}:∀ (names:List (Str×NameKind)) (n:Nat) (acc:List (Str×Addr)),(∀ y∈names,y.1=x->y.2≠.cell)->(cellsFrom n names acc).lookup x=acc.lookup x
 | [],_,_,_=>rfl
 | (y,k)::r,n,acc,h=>by
  have hr:∀ z∈r,z.1=x->z.2≠.cell:=λz hz=>h z (List.mem_cons_of_mem _ hz)
  unfold cellsFrom
  by_cases hk:(k==NameKind.cell)=true
  ·rw [if_pos hk,MP r _ _ hr,List.lookup_cons]
   have:y≠x:=λe=>h (y,k) List.mem_cons_self e (by simpa using hk)
   rw [show (x==y)=false from by simpa using Ne.symm this]
  ·rw [if_neg hk]
   exact MP r _ _ hr
theorem MR {x:Str} {c:Addr}:∀ (names:List (Str×NameKind)) (h:Heap) (acc:List (Str×Addr)),(∀ y b,acc.lookup y=some b->∃ v,h.IsCell b v)->(cellsFrom h.objs.size names acc).lookup x=some c->
  (∃ v,(pushCells h names).IsCell c v)/\(acc.lookup x=some c\/h.objs.size<=c)
 | [],h,acc,hc,e=>⟨hc _ _ e,.inl e⟩
 | (y,k)::r,h,acc,hc,e=>by
  unfold cellsFrom at e
  unfold pushCells
  by_cases hk:(k==NameKind.cell)=true
  ·rw [if_pos hk] at e ⊢
   have hz:(h.push { cls:=.type "cell",data:=.cell none }).objs.size=h.objs.size+1:=Heap.size_push ..
   rw [<- hz] at e
   obtain ⟨q1,q2⟩:=MR r (h.push { cls:=.type "cell",data:=.cell none }) ((y,h.objs.size)::acc) (λz b q=>by
    rw [List.lookup_cons] at q
    cases hx:z==y with
    | true=>rw [hx] at q; cases q; exact ⟨none,_,Heap.get?_push_size _ rfl,rfl⟩
    | false=>
     rw [hx] at q
     obtain ⟨v,o,q1,q2⟩:=hc z b q
     exact ⟨v,o,Heap.get?_push_of_some _ q1,q2⟩) e
   refine ⟨q1,?_⟩
   rcases q2 with q2 | q2
   ·rw [List.lookup_cons] at q2
    cases hx:x==y with
    | true=>rw [hx] at q2; cases q2; exact .inr (Nat.le_refl _)
    | false=>rw [hx] at q2; exact .inl q2
   ·exact .inr (by rw [hz] at q2; omega)
  ·rw [if_neg hk] at e ⊢
   exact MR r h acc hc e
theorem MQ:∀ (names:List (Str×NameKind)) (n:Nat) (acc:List (Str×Addr)),(∀ x y c,acc.lookup x=some c->acc.lookup y=some c->x=y)->(∀ x c,acc.lookup x=some c->c<n)->
  ∀ x y c,(cellsFrom n names acc).lookup x=some c->(cellsFrom n names acc).lookup y=some c->x=y
 | [],_,_,hi,_=>hi
 | (z,k)::r,n,acc,hi,hl=>by
  unfold cellsFrom
  by_cases hk:(k==NameKind.cell)=true
  ·rw [if_pos hk]
   refine MQ r (n+1) ((z,n)::acc) (λx y c e1 e2=>?_) (λx c e=>?_)
   ·rw [List.lookup_cons] at e1 e2
    cases hx:x==z <;> cases hy:y==z <;> rw [hx] at e1 <;> rw [hy] at e2
    ·exact hi x y c e1 e2
    ·cases e2; exact absurd (hl _ _ e1) (Nat.lt_irrefl _)
    ·cases e1; exact absurd (hl _ _ e2) (Nat.lt_irrefl _)
    ·rw [show x=z by simpa using hx,show y=z by simpa using hy]
   ·rw [List.lookup_cons] at e
    cases hx:x==z <;> rw [hx] at e
    ·exact Nat.lt_succ_of_lt (hl _ _ e)
    ·cases e; exact Nat.lt_succ_self _
  ·rw [if_neg hk]
   exact MQ r n acc hi hl
theorem IE {env:Env} {x:Str} {k:NameKind}:∀ (names:List (Str×NameKind)),(names.map λ(n,k)=>if (k==NameKind.free&&env.scope.kind==.function&&env.kindOf n==some .cell) then (n,NameKind.cell) else (n,k)).lookup x=some k->
  names.lookup x=some k\/(k=.cell/\names.lookup x=some .free)
 | [],h=>by cases h
 | (n,k')::r,h=>by
  rw [List.map_cons] at h
  by_cases hc:(k'==NameKind.free&&env.scope.kind==.function&&env.kindOf n==some .cell)=true
  ·simp only [hc,if_true] at h
   rw [List.lookup_cons] at h ⊢
   cases hx:x==n with
   | true=>
    rw [hx] at h; cases h
    have:k'=.free:=by
     simp only [Bool.and_eq_true,beq_iff_eq] at hc
     exact hc.1.1
    subst this
    exact .inr ⟨rfl,rfl⟩
   | false=>rw [hx] at h; exact IE r h
  ·simp only [hc,Bool.false_eq_true,if_false] at h
   rw [List.lookup_cons] at h ⊢
   cases hx:x==n with
   | true=>rw [hx] at h; exact .inl h
   | false=>rw [hx] at h; exact IE r h
theorem LR {env:Env} {x:Str}:∀ (names:List (Str×NameKind)),names.lookup x=some .free->
  (names.map λ(n,k)=>if (k==NameKind.free&&env.scope.kind==.function&&env.kindOf n==some .cell) then (n,NameKind.cell) else (n,k)).lookup x=some .cell \/
  (names.map λ(n,k)=>if (k==NameKind.free&&env.scope.kind==.function&&env.kindOf n==some .cell) then (n,NameKind.cell) else (n,k)).lookup x=some .free
 | [],h=>by cases h
 | (n,k')::r,h=>by
  rw [List.map_cons]
  rw [List.lookup_cons] at h
  by_cases hc:(k'==NameKind.free&&env.scope.kind==.function&&env.kindOf n==some .cell)=true
  ·simp only [hc,if_true]
   rw [List.lookup_cons]
   cases hx:x==n with
   | true=>left; rfl
   | false=>rw [hx] at h; exact LR r h
  ·simp only [hc]
   cases hx:x==n with
   | true=>rw [hx] at h; right; exact (by simp [List.lookup_cons,hx]; exact Option.some.inj h)
   | false=>
    rw [hx] at h
    simpa [List.lookup_cons,hx] using LR r h
def CU (X:Cx) (N:List Str) (scope:Scope) (s:Shared) (H:Hp) (fp:List Addr):Cx:=
 { X with
  N:=N
  s₀:=s
  H₀:=H
  env:=compEnvC scope (cellsFrom (s.heap.objs.size+2) scope.names (CV X.env scope.names [])) (s.heap.objs.size+1) X.env
  outer:=X.stack
  ex:=fp
  fn:=λx=>scope.names.lookup x==some .cell
  pn:=[]
  xe:=λ_ _=>False }
section
variable {X:Cx} {pins:List (Addr×Obj)} {σ:L2.St} {H:Hp} {s:Shared}
def Gy (X:Cx) (scope:Scope):Prop:=∀ y∈scope.names,y.2=.free->X.env.kindOf y.1=some .cell\/X.env.kindOf y.1=some .free
theorem YY {N:List Str} {scope:Scope} {fp:List Addr} {σ0:L2.St} (I:L2.Inv X pins σ H s) (hf:∀ b∈fp,B2 X pins H b) (ho:∀ b∈fp,∃ o,s.heap.get? b=some o) (hk:scope.kind=.function) (hfr:Gy X scope)
  (hl:σ0.length=N.length) (hσ:∀ (i:Nat) (v:V),σ0[i]?=some (some v)->∃ (x:Str) (j:Nat),N[i]?=some x/\scope.names.lookup x=some .free/\(∀ y∈scope.names,y.1=x->y.2≠.cell)/\X.N[j]?=some x/\σ[j]?=some (some v)/\C7 X.env.scope x) (t:Nat) (oD:Obj) :
  L2.Inv (CU X N scope s H fp) [] σ0 H { s with heap:=pushCells ((s.heap.push oD).push { cls:=.type "dict",data:=.dict #[] }) scope.names,toks:=t }:=by
 have hz1:(s.heap.push oD).objs.size=s.heap.objs.size+1:=Heap.size_push ..
 have hz:((s.heap.push oD).push { cls:=.type "dict",data:=.dict #[] }).objs.size=s.heap.objs.size+2:=by rw [Heap.size_push,hz1]
 have up:∀ b o,s.heap.get? b=some o->(pushCells ((s.heap.push oD).push { cls:=.type "dict",data:=.dict #[] }) scope.names).get? b=some o:=λb o e=>pushCells_keeps _ _ b o (Heap.get?_push_of_some _ (Heap.get?_push_of_some _ e))
 have hcl:∀ y∈scope.names,y.2=.free->∃ a,X.env.cells.lookup y.1=some a:=λy hy e=>I.ok.has _ (hfr y hy e)
 have cl1:∀ y b,(CV X.env scope.names []).lookup y=some b->X.env.cells.lookup y=some b:=λy b e=>by
  rcases MN _ _ hcl e with q | q
  ·cases q
  ·exact q
 have cl2:∀ y b,(CV X.env scope.names []).lookup y=some b->b<s.heap.objs.size:=λy b e=>by
  obtain ⟨v,q⟩:=I.cell y b (cl1 y b e); exact q.lt
 have cc:∀ y b,(cellsFrom (s.heap.objs.size+2) scope.names (CV X.env scope.names [])).lookup y=some b->
   (∃ v,(pushCells ((s.heap.push oD).push { cls:=.type "dict",data:=.dict #[] }) scope.names).IsCell b v)/\(X.env.cells.lookup y=some b/\b<s.heap.objs.size\/s.heap.objs.size+2<=b):=λy b e=>by
  rw [<- hz] at e
  obtain ⟨q1,q2⟩:=MR scope.names ((s.heap.push oD).push { cls:=.type "dict",data:=.dict #[] }) _ (λz c q=>by
   obtain ⟨v,o,q1,q2⟩:=I.cell z c (cl1 z c q)
   exact ⟨v,o,Heap.get?_push_of_some _ (Heap.get?_push_of_some _ q1),q2⟩) e
  refine ⟨q1,?_⟩
  rcases q2 with q2 | q2
  ·exact .inl ⟨cl1 _ _ q2,cl2 _ _ q2⟩
  ·rw [hz] at q2; exact .inr q2
 have hlt:=I.lt
 refine ⟨⟨I.ok.mod,hk,I.ok.glob,I.ok.blt,Nat.le_succ _,?_,?_,?_,I.ok.hd,I.ok.frames,.inl rfl,?_,I.bs,Nat.le_trans I.ok.bsz I.sz,?_,?_,I.stack,I.stkFree⟩,rfl,I.bare,Un.kept up,?_,?_,?_,?_,?_,I.hok.kept up,hl⟩
 ·exact MQ _ _ _ (λx y c e1 e2=>I.ok.inj x y c (cl1 _ _ e1) (cl1 _ _ e2)) (λx c e=>Nat.lt_of_lt_of_le (cl2 x c e) (Nat.le_add_right _ 2))
 ·intro x hx
  have hx:(relabel scope X.env).names.lookup x=some .cell\/(relabel scope X.env).names.lookup x=some .free:=hx
  have:((cellsFrom (s.heap.objs.size+2) scope.names (CV X.env scope.names [])).lookup x).isSome=true:=by
   refine PySem.W.cellsFrom_some _ _ _ ?_
   rcases hx with hx | hx
   ·rcases IE _ hx with q | ⟨_,q⟩
    ·exact .inl q
    ·exact .inr (HB _ _ (.inl q))
   ·rcases IE _ hx with q | ⟨q,_⟩
    ·exact .inr (HB _ _ (.inl q))
    ·cases q
  exact Option.isSome_iff_exists.mp this
 ·intro x c hfn e
  rcases (cc x c e).2 with ⟨q,q'⟩ | q
  ·exfalso
   have hfn:scope.names.lookup x=some .cell:=by simpa [CU] using hfn
   -- own names' cells are new
   have:∀ (names:List (Str×NameKind)) (n:Nat) (acc:List (Str×Addr)),names.lookup x=some .cell\/(∃ b,acc.lookup x=some b/\s.heap.objs.size<=b)->s.heap.objs.size<=n->∀ b,(cellsFrom n names acc).lookup x=some b->s.heap.objs.size<=b:=by
    intro names
    induction names with
    | nil=>
     intro n acc h hn b eb
     rcases h with h | ⟨b',h,hb⟩
     ·cases h
     ·have eb:acc.lookup x=some b:=eb
      rw [h] at eb; cases eb; exact hb
    | cons p r ih=>
     obtain ⟨y,k⟩:=p
     intro n acc h hn b eb
     unfold cellsFrom at eb
     by_cases hkc:(k==NameKind.cell)=true
     ·rw [if_pos hkc] at eb
      refine ih (n+1) _ ?_ (Nat.le_succ_of_le hn) b eb
      cases hxy:x==y with
      | true=>right; exact ⟨n,by rw [List.lookup_cons,hxy],hn⟩
      | false=>
       rw [List.lookup_cons,hxy] at h
       rw [List.lookup_cons,hxy]
       exact h
     ·rw [if_neg hkc] at eb
      refine ih n _ ?_ hn b eb
      cases hxy:x==y with
      | true=>
       rw [List.lookup_cons,hxy] at h
       rcases h with h | h
       ·cases h; exact absurd rfl hkc
       ·exact .inr h
      | false=>rw [List.lookup_cons,hxy] at h; exact h
   exact absurd q' (Nat.not_lt.mpr (this scope.names _ _ (.inl hfn) (Nat.le_add_right _ 2) c e))
  ·exact Nat.le_trans (Nat.le_add_right _ 2) q
 ·intro b hb
  have hbl:b<s.heap.objs.size:=let ⟨o,e⟩:=ho b hb; Heap.lt_size e
  refine ⟨Nat.ne_of_lt (Nat.lt_succ_of_lt hbl),λx c e=>?_⟩
  obtain ⟨f0,f1,f2,f3,f4,f5⟩:=hf b hb
  rcases (cc x c e).2 with ⟨q,_⟩ | q
  ·exact f4 x c q
  ·exact Nat.ne_of_gt (Nat.lt_of_lt_of_le (Nat.lt_of_lt_of_le hbl (Nat.le_add_right _ 2)) q)
 ·intro b o e hb
  obtain ⟨f0,f1,f2,f3,f4,f5⟩:=hf b hb
  rcases f3 with q | q
  ·exact I.ok.noex b o e q
  ·exact absurd (Nat.lt_of_lt_of_le (Heap.lt_size e) (Nat.le_trans I.ok.bsz q)) (Nat.lt_irrefl _)
 ·intro b hb z
  obtain ⟨f0,f1,f2,f3,f4,f5⟩:=hf b hb
  rcases List.mem_cons.mp (I.stkSub b z) with q | q
  ·exact f1 q
  ·exact f2 q
 ·refine ⟨λ_=>none,?_,λi x v e1 e2 e3=>?_⟩
  ·show Heap.Ns _ (s.heap.objs.size+1) _
   rw [<- hz1]
   exact (Heap.Ns.new (s.heap.push oD) (.type "dict")).keeps (pushCells_keeps _ _)
  ·obtain ⟨x',j,q1,q2,q3,q4,q5,q6⟩:=hσ i v e2
   have:x'=x:=Option.some.inj (q1.symm.trans e1)
   subst this
   obtain ⟨m,hn,hlk⟩:=I.loc
   obtain ⟨u,ru,lk⟩:=hlk j x' v q4 q5 q6
   refine ⟨u,ru,.inr ⟨?_,?_⟩⟩
   ·exact LR _ q2
   ·have hks:=hfr (x',.free) (PySem.mem_of_lookup q2) rfl
    rcases lk with ⟨k,_⟩ | ⟨k,c,e,z⟩
    ·rcases hks with z | z
     ·rw [k] at z; cases z
     ·rw [k] at z; cases z
    ·refine ⟨c,?_,z.keeps up⟩
     show (cellsFrom _ _ _).lookup x'=some c
     rw [MP _ _ _ q3]
     obtain ⟨b,eb⟩:=Option.isSome_iff_exists.mp (HB (env:=X.env) scope.names [] (.inl q2))
     rw [eb,<- cl1 _ _ eb,e]
 ·exact λx c e=>(cc x c e).1
 ·exact I.hok.fresh (Nat.le_succ _)
 ·intro x c e
  rcases (cc x c e).2 with ⟨q,_⟩ | q
  ·exact I.freeC x c q
  ·exact I.hok.fresh (Nat.le_trans (Nat.le_add_right _ 2) q)
 ·intro p hp
  exact absurd (show p∈([]:List (Addr×Obj)) from hp) (by simp)
end
theorem Yj {M:Model} {A:Around} {E:Value->Shared->Prop} {s:Shared} {scope:Scope} {g:Addr} {cl:List (Str×Addr)} {q:Str} {env:Env} {Q:Env->Shared->Prop}
  (h:∀ b,b=env.builtins->Q { scope:=scope,locals:=s.heap.objs.size,globals:=g,cells:=cellsFrom (s.heap.objs.size+1) scope.names cl,qual:=q,func:=none,code:=env.code,frame:=env.frame,builtins:=b }
   { s with heap:=pushCells (s.heap.push { cls:=.type "dict",data:=.dict #[] }) scope.names }):wpAny M A (newFunctionEnv scope g cl [] q none .none (some env)) Q E s:=by
 simp only [newFunctionEnv,Option.isSome_some,if_true]
 refine wpAny_bind (wpAny_alloc ?_)
 refine wpAny_bind (wpAny_layCells _ (λn k cells=>by cases hkc:k==NameKind.cell <;> simp [hkc]) _ _ _ _ ?_)
 rw [show ({ s with heap:=s.heap.push { cls:=.type "dict",data:=.dict #[] } }:Shared).heap.objs.size=s.heap.objs.size+1 from Heap.size_push ..]
 rw [List.forIn_nil]
 exact wpAny_bind (wpAny_pure (wpAny_pure (h _ rfl)))
theorem Q0V {fs ex:List Addr} {H H':Hp} {h h':Heap} {D:Addr} {o:HO} (u:Un fs ex H H' h h') (hn:H D=none) (hh:h.get? D=none):Un fs ex H (Ao H' D o) h h' where
 keep:=u.keep
 slot:=u.slot
 free:=λb ob q n hx=>by
  rw [AJ (λz=>by rw [z,hh] at q; cases q)]; exact u.free b ob q n hx
 there:=u.there
 tups:=λb xs q=>by rw [AJ (BT q hn)]; exact u.tups b xs q
 frzs:=λb ob xs q=>by rw [AJ (BT q hn)]; exact u.frzs b ob xs q
 tbls:=λb ps q=>by rw [AJ (BT q hn)]; exact u.tbls b ps q
theorem R4 {P:Program} {w:World} {H:Hp} {h:Heap} {D:Addr} {o:HO} (x:Bn P w H h) (hn:H D=none) (new:BW P w (Ao H D o) h D o):Bn P w (Ao H D o) h:=λb u e=>by
 by_cases hb:b=D
 ·subst hb
  rw [A5] at e
  cases e
  exact new
 ·rw [AJ hb] at e
  refine (x b u e).stay (λc v _ q=>q) (λc q=>?_) λc xs q=>?_
  ·rw [AJ (BT q hn)]; exact q
  ·rw [AJ (BT q hn)]; exact q
theorem Q0p {prog:Program} {w:World} {A:Around} {R:Result->Shared->Prop} {elt tg iter:Expr} {ifs:List Expr} {scope:Scope} {pos:Pos} {it acc:Value} {env:Env} (V:Nat->Shared->Prop)
  (turn:∀ (n:Nat) (s:Shared) (F:Value->Shared->Prop),V n s->wpAny (model prog w) A (pyNext it) (λr s1=>match r with
   | none=>R (.ok .next) s1
   | some v=>wpAny (model prog w) A (letOwnedTupleGo tg it v) (λ_ s2=>wpAny (model prog w) A (assign tg env v) (λ_ s3=>
     wpAny (model prog w) A (compTests ifs env) (λok s4=>if ok=true then wpAny (model prog w) A (eval elt env) (λx s5=>wpAny (model prog w) A (call (.builtin "list.append") [acc,x]) (λ_ s6=>∃ m,m<n/\V m s6) F s5) F s4
      else ∃ m,m<n/\V m s4) F s3) F s2) F s1) F s) :
  ∀ (n:Nat) (s:Shared),V n s->codeAny (model prog w) A (.compLoop (.ListComp elt [⟨tg,iter,ifs,0⟩] scope pos) 0 it acc env) R s:=λn s h=>by
 refine codeAny_loop rfl V (λn s hV=>?_) n h
 refine wpAny_noted ?_
 rw [compTurn_list]
 refine wpAny_bind (wpAny_standAt (wpAny_bind (Aq (turn n s _ hV) λr s1 h1=>?_)))
 cases r with
 | none=>exact wpAny_pure h1
 | some v=>
  refine wpAny_bind (Aq h1 λ_ s2 h2=>wpAny_bind (Aq h2 λ_ s3 h3=>?_))
  have h3:wpAny (model prog w) A (compTests ifs env) _ _ s3:=h3
  unfold compTests at h3
  rw [show ∀ x:Sem Bool,(x >>= λq=>pure q)=x from λx=>bind_pure x] at h3
  refine wpAny_bind (Aq h3 λok s4 h4=>?_)
  cases ok with
  | false=>exact wpAny_pure ⟨rfl,h4⟩
  | true=>exact wpAny_bind (wpAny_bind (Aq h4 λx s5 h5=>wpAny_bind (Aq h5 λ_ s6 h6=>wpAny_pure (wpAny_pure ⟨rfl,h6⟩))))
abbrev De (ys:List Value):Obj:={ cls:=.type "list",data:=.seq ys.toArray ys.length }
def HI (X:Cx) (ρ:Ai) (O:Ae) (elt:Expr):List Expr->Option D->Prop
 | [],z=>∃ y,z=some y/\Ad X ρ O elt y
 | [c],z=>∃ k,AV X ρ O c k/\(k=true->∃ y,z=some y/\Ad X ρ O elt y)/\(k=false->z=none)
 | _,_=>False
def RY (X:Cx) (ρ:Ai) (O O':Ae) (elt:Expr):List Expr->Option D->Prop
 | [],z=>∃ y,z=some y/\Ev X ρ O elt (λd O2=>d=y/\O2=O')
 | [c],z=>∃ k,AV X ρ O c k/\(k=true->∃ y,z=some y/\Ev X ρ O elt (λd O2=>d=y/\O2=O'))/\(k=false->z=none/\O'=O)
 | _::_::_,_=>False
theorem HI.s {X:Cx} {ρ:Ai} {O:Ae} {elt:Expr} {z:Option D}:∀ {ifs:List Expr},HI X ρ O elt ifs z->RY X ρ O O elt ifs z
 | [],h=>by obtain ⟨y,h1,h2⟩:=h; exact ⟨y,h1,h2.ev ⟨rfl,rfl⟩⟩
 | [c],h=>by
  obtain ⟨k,h1,h2,h3⟩:=h
  exact ⟨k,h1,λe=>by obtain ⟨y,g1,g2⟩:=h2 e; exact ⟨y,g1,g2.ev ⟨rfl,rfl⟩⟩,λe=>⟨h3 e,rfl⟩⟩
 | _::_::_,h=>h.elim
theorem Ax.weak {K:PySem.W.Frag} {G:Wd} {σ:L2.St} {ρ ρ':Ai} (h:Ax K G σ ρ) (hl:ρ'.length=ρ.length) (hs:∀ (i:Nat) (d:D),ρ'[i]?=some (some d)->ρ[i]?=some (some d)):Ax K G σ ρ':=
 ⟨h.len.trans hl.symm,λi d e=>h.get i d (hs i d e)⟩
theorem QS {α:Type} (P:Nat->α->Prop):∀ n:Nat,(∀ i,i<n->∃ a,P i a)->∃ l:List α,l.length=n/\∀ i a,l[i]?=some a->P i a
 | 0,_=>⟨[],rfl,λi a h=>by simp at h⟩
 | n+1,h=>by
  obtain ⟨l,h1,h2⟩:=QS P n λi hi=>h i (Nat.lt_succ_of_lt hi)
  obtain ⟨a,ha⟩:=h n (Nat.lt_succ_self _)
  refine ⟨l++[a],by simp [h1],λi b hb=>?_⟩
  by_cases hi:i<n
  ·rw [List.getElem?_append_left wF] at hb; exact h2 i b hb
  ·have hin:i=n:=by
    have:=(List.getElem?_eq_some_iff.mp hb).1
    simp [h1] at this; omega
   subst hin
   rw [List.getElem?_append_right wF,h1,Nat.sub_self] at hb
   cases hb; exact ha
section
variable {X:Cx} {ρ:Ai} {O:Ae} {elt tg iter:Expr} {ifs:List Expr} {scope:Scope} {pos:Pos} {xs:List D} {zs:List (Option D)}
theorem QK {α:Type}:∀ (zs:List (Option α)) (i:Nat) (z:Option α),zs[i]?=some z->(zs.take (i+1)).filterMap id=(zs.take i).filterMap id++z.toList:=by
 intro zs i z h
 rw [List.take_add_one,h,List.filterMap_append]
 cases z <;> rfl
theorem ML (S:Nat->Ae) (hS0:S 0=O) (N:List Str) (js:List Nat) (ρ0:Ai) (hi:BX X ρ O tg iter xs) (hc:X.calm=true) (hk:scope.kind=.function) (hfr:Gy X scope) (hnm:∀ x∈scope.names,x.2=.local->scope.names.lookup x.1=some .local)
    (hl0:ρ0.length=N.length)
    (h0:∀ (i:Nat) (d:D),ρ0[i]?=some (some d)->∃ (x:Str) (j:Nat),N[i]?=some x/\scope.names.lookup x=some .free/\(∀ y∈scope.names,y.1=x->y.2≠.cell)/\X.N[j]?=some x/\ρ[j]?=some (some d)/\C7 X.env.scope x)
    (hzl:zs.length=xs.length) (hsz:xs.length<=sizeLine)
    (turn:∀ (s:Shared) (H:Hp) (fp:List Addr) (i:Nat) (x:D) (z:Option D),xs[i]?=some x->zs[i]?=some z->∃ ρ1,Tg (CU X N scope s H fp) tg x ρ0 ρ1/\ρ1.length=ρ0.length/\(∀ (j:Nat) (d:D),ρ0[j]?=some (some d)->ρ1[j]?=some (some d))/\RY (CU X N scope s H fp) ρ1 (S i) (S (i+1)) elt ifs z)
    {use:Option (Value->Sem Unit)} {pins:List (Addr×Obj)} {s:Shared} {σ:L2.St} {H:Hp} {G:Wd} {Q:Value->Shared->Prop} (I:L2.Inv X pins σ H s) (sa:SA X.K G H O) (en:Ax X.K G σ ρ)
    (fin:∀ (D C:Addr) (s':Shared) (H5:Hp) (G5:Wd) (vs:List V),L2.Inv X pins σ (Ao H5 D (.lst vs)) s'->Ah G G5->SA X.K G5 H5 (S xs.length)->H5 D=none->Ak X.K G5 (zs.filterMap id) vs->B2 X pins (Ao H5 D (.lst vs)) C->(∃ m,s'.heap.Ns C m)->compPost (model X.prog X.w) X.A X.xe use Q (.ref D) C (.ok .next) s')
    (hs:∀ x,foldedSetIterable iter X.env x=pure x:=by intro _; rfl) :
    wpAny (model X.prog X.w) X.A (comprehension (.ListComp elt [⟨tg,iter,ifs,0⟩] scope pos) scope X.env (firstIterPos [⟨tg,iter,ifs,0⟩] pos) (newList []) false (eval iter X.env) use) Q X.xe s:=by
  refine wpAny_comprehension_free rfl hs (Q0w λy hy e=>I.ok.has _ (hfr y hy e)) hk hnm (Aq (hi G pins s σ H (λJ H1=>∃ G1,Ah G G1/\SA X.K G1 H1 O/\DW X.K G1 J xs) I ⟨sa,en,λJ G1 H1 e1 s1 y1=>⟨G1,e1,s1,y1⟩⟩) λv s1 h1=>Aq h1 λitv s2 h2=>?_)
  obtain ⟨it,fp,tn,J,H2,e,I2,T,st2,f2,G2,e2,sa2,Yi⟩:=h2
  subst e
  have ho2:∀ b∈fp,∃ o,s2.heap.get? b=some o:=λb hb=>let ⟨o,q,_⟩:=T.obj 0 _ st2 b hb; ⟨o,q⟩
  have hlt:∀ b∈fp,b<s2.heap.objs.size:=λb hb=>let ⟨o,q⟩:=ho2 b hb; Heap.lt_size q
  unfold newList
  refine wpAny_newObj_type (Yj λbb hbb=>?_)
  have hbb':bb=X.env.builtins:=hbb
  subst hbb'
  have hz1:(s2.heap.push { cls:=.type "list",dict:=none,data:=.seq ([]:List Value).toArray }).objs.size=s2.heap.objs.size+1:=Heap.size_push ..
  dsimp only
  rw [hz1]
  generalize hD:s2.heap.objs.size=dd at hz1 ⊢
  -- the block's own context
  have en2:Ax X.K G2 σ ρ:=en.ext e2
  obtain ⟨σ0,hσl,hσ0⟩:=QS (λi (o:Option V)=>(∀ d,ρ0[i]?=some (some d)->∃ v,o=some v/\Is X.K G2 d v)/\∀ v,o=some v->∃ (x:Str) (j:Nat),N[i]?=some x/\scope.names.lookup x=some .free/\(∀ y∈scope.names,y.1=x->y.2≠.cell)/\X.N[j]?=some x/\σ[j]?=some (some v)/\C7 X.env.scope x) N.length (λi hi=>by
    cases q:ρ0[i]? with
    | none=>exact ⟨none,And.intro (λd z=>nomatch z) (λv z=>nomatch z)⟩
    | some o=>
      cases o with
      | none=>exact ⟨none,And.intro (λd z=>nomatch z) (λv z=>nomatch z)⟩
      | some d=>
        obtain ⟨x,j,q1,q2,q3,q4,q5,q6⟩:=h0 i d q
        obtain ⟨v,q7,q8⟩:=en2.get j d q5
        exact ⟨some v,And.intro (λd' z=>by cases z; exact ⟨v,rfl,q8⟩) (λv' z=>by cases z; exact ⟨x,j,q1,q2,q3,q4,q7,q6⟩)⟩)
  have en0:Ax X.K G2 σ0 ρ0:=⟨hσl.trans hl0.symm,λi d e=>by
    have hi:i<σ0.length:=by rw [hσl,<- hl0]; exact (List.getElem?_eq_some_iff.mp e).1
    obtain ⟨v,e1,e2⟩:=(hσ0 i σ0[i] (List.getElem?_eq_getElem hi)).1 d e
    exact ⟨v,by rw [List.getElem?_eq_getElem hi,e1],e2⟩⟩
  have I3:=YY (N:=N) (scope:=scope) (fp:=fp) (σ0:=σ0) I2 f2 ho2 hk hfr hσl (λi v e=>(hσ0 i _ e).2 v rfl) s2.toks { cls:=.type "list",dict:=none,data:=.seq ([]:List Value).toArray }
  generalize hY:CU X N scope s2 H2 fp=Y at I3
  have hD1:(pushCells ((s2.heap.push { cls:=.type "list",dict:=none,data:=.seq ([]:List Value).toArray }).push { cls:=.type "dict",data:=.dict #[] }) scope.names).get? dd=some (De []):=by
    refine pushCells_keeps _ _ _ _ (Heap.get?_push_of_some _ ?_)
    rw [<- hD]
    exact Heap.get?_push_size _ rfl
  have hHD:H2 dd=none:=I2.hok.fresh (by rw [hD]; exact Nat.le_refl _)
  have hsD:s2.heap.get? dd=none:=Heap.get?_none_of_le (by rw [hD]; exact Nat.le_refl _)
  have hDC:dd≠Y.env.locals:=by
    rw [<- hY]; show dd≠s2.heap.objs.size+1; rw [hD]; exact Nat.ne_of_lt (Nat.lt_succ_self _)
  have hfs:∀ b∈A3 X.stack,b<s2.heap.objs.size:=λb hb=>by
    rcases List.mem_cons.mp (I2.stkSub b hb) with q | q
    · rw [q]; exact I2.lt
    · exact Nat.lt_of_not_le λz=>I2.nofs z q
  have hYfs:Y.fs=A3 X.stack:=by rw [<- hY]; rfl
  have hDfs:dd∉Y.fs:=λz=>by rw [hYfs] at z; have:=hfs dd z; rw [hD] at this; exact Nat.lt_irrefl _ this
  have hYex:Y.ex=fp:=by rw [<- hY]; rfl
  have hYpn:Y.pn=[]:=by rw [<- hY]; rfl
  have hYxe:Y.xe=λ_ _=>False:=by rw [<- hY]; rfl
  have hYs:Y.s₀.heap.objs.size=dd:=by rw [<- hY]; exact hD
  have hYc:∀ x c,Y.env.cells.lookup x=some c->c≠dd/\∀ b∈fp,c≠b:=λx c e=>by
    refine ⟨?_,λb hb=>?_⟩
    ·
      intro z
      subst z
      obtain ⟨v,o,q1,q2⟩:=I3.cell x c e
      rw [hD1] at q1; cases q1; cases q2
    ·
      have:=I3.ok.exf b (by rw [hYex]; exact hb)
      exact this.2 x c e
  have fpY:∀ {H':Hp} {pl:List (Addr×Obj)},(∀ b∈fp,H' b=none)->(∀ p∈pl,p.1=dd)->∀ b∈fp,B2 Y pl H' b:=λhn hp b hb=>⟨hn b hb,(I3.ok.exf b (by rw [hYex]; exact hb)).1,I3.ok.exfs b (by rw [hYex]; exact hb),.inl (by rw [hYex]; exact hb),λx c e=>(hYc x c e).2 b hb,λp hq=>by
    rw [hYpn,List.nil_append] at hq
    rw [hp p hq]
    exact Nat.ne_of_gt (by rw [<- hD]; exact hlt b hb)⟩
  have I4:L2.Inv Y [(dd,De [])] σ0 H2 { s2 with heap:=pushCells ((s2.heap.push { cls:=.type "list",dict:=none,data:=.seq ([]:List Value).toArray }).push { cls:=.type "dict",data:=.dict #[] }) scope.names,toks:=s2.toks }:=I3.pins_of λp hp=>by
    rw [List.mem_singleton.mp hp]
    exact ⟨hD1,hHD,hDC,hDfs,λv z=>by cases z⟩
  have st4:tn 0 (pushCells ((s2.heap.push { cls:=.type "list",dict:=none,data:=.seq ([]:List Value).toArray }).push { cls:=.type "dict",data:=.dict #[] }) scope.names):=T.keep 0 _ _ st2 λb hb o e=>pushCells_keeps _ _ b o (Heap.get?_push_of_some _ (Heap.get?_push_of_some _ e))
  have hYp:Y.prog=X.prog:=by rw [<- hY]; rfl
  have hYw:Y.w=X.w:=by rw [<- hY]; rfl
  have hYK:Y.K=X.K:=by rw [<- hY]; rfl
  have hYA:Y.A=X.A:=by rw [<- hY]; rfl
  have hYcm:Y.calm=true:=by rw [<- hY]; exact hc
  have loop:∀ s3:Shared,s3={ s2 with heap:=pushCells ((s2.heap.push { cls:=.type "list",dict:=none,data:=.seq ([]:List Value).toArray }).push { cls:=.type "dict",data:=.dict #[] }) scope.names }->
      codeAny (model X.prog X.w) X.A (.compLoop (.ListComp elt [⟨tg,iter,ifs,0⟩] scope pos) 0 (.ref it) (.ref dd) Y.env) (compPost (model X.prog X.w) X.A X.xe use Q (.ref dd) (dd+1)) s3:=by
    rintro s3 rfl
    refine Q0p (λn s'=>∃ (i:Nat) (G':Wd) (σ':L2.St) (H':Hp) (vs:List V) (its:List Value),n=xs.length-i/\i<=xs.length/\L2.Inv Y [(dd,De its)] σ' H' s'/\tn i s'.heap/\(∀ b∈fp,H' b=none)/\Ah G2 G'/\SA X.K G' H' (S i)/\Ax X.K G' σ' ρ0 /\
      Ak X.K G' ((zs.take i).filterMap id) vs/\Ay vs its/\its.length<=i) ?_ xs.length _ ⟨0,G2,σ0,H2,[],[],rfl,Nat.zero_le _,I4,st4,λb hb=>(f2 b hb).1,Ah.refl _,hS0 ▸ sa2,en0,.nil,.nil,Nat.le_refl _⟩
    rintro n s5 F ⟨i,G5,σ5,H5,vs,its,rfl,hil,I5,st5,fr5,e5,sa5,en5,is5,va5,hl5⟩
    by_cases hlt5:i<xs.length
    ·
      have hx:xs[i]?=some xs[i]:=List.getElem?_eq_getElem hlt5
      have hzi:i<zs.length:=by omega
      have hz:zs[i]?=some zs[i]:=List.getElem?_eq_getElem hzi
      generalize xs[i]=x at hx
      generalize zs[i]=z at hz
      have it5:=T.item Y hYp hYw hYK hYcm i [(dd,De its)] s5 σ5 H5 F I5 (fpY fr5 (λp hp=>by rw [List.mem_singleton.mp hp])) st5 (Yi.go i H5 (e5.g.trans sa5.sub) hlt5)
      rw [hYA] at it5
      refine Aq it5 λr s6 ⟨u,hr,h6⟩=>?_
      subst hr
      refine Aq h6 λ_ s7 ⟨xv,H7,I7,r7,y7,st7,fr7⟩=>?_
      obtain ⟨x',G7,hx',e7,sa7,ix⟩:=Yi.yld i xv H5 H7 G5 (S i) e5 sa5 y7 hlt5
      have:x'=x:=Option.some.inj (hx'.symm.trans hx)
      subst this
      have I7':=I7.pinned (fpY fr7 (λp hp=>by rw [List.mem_singleton.mp hp])) (T.obj _ _ st7)
      obtain ⟨ρ1,tg1,hl1,hs1,kp1⟩:=turn s2 H2 fp i x' z hx hz
      rw [hY] at tg1 kp1
      have xeF:∀ {α:Type} {t:Sem α} {P:α->Shared->Prop} {q:Shared},wpAny (model Y.prog Y.w) Y.A t P Y.xe q->wpAny (model X.prog X.w) X.A t P F q:=λh=>by
        rw [hYp,hYw,hYA,hYxe] at h
        exact wpAny_mono h (λ_ _ q=>q) λ_ _ q=>q.elim
      refine Aq (xeF (tg1 G7 _ s7 σ5 H7 xv u (λσ' H'=>Ax X.K G7 σ' ρ1/\H'=H7) I7' r7 (by
        rw [hYK]
        exact ⟨ix,sa7.sub,en5.ext e7,λσ' q=>⟨q,rfl⟩⟩))) λ_ s8 ⟨σ8,H8,I8,en8,hH8⟩=>?_
      subst hH8
      -- back to the invariant,with or without one more
      have again:∀ {s9:Shared} {H9:Hp} {G9:Wd} {its':List Value} {vs':List V},L2.Inv Y ((dd,De its')::Es fp s7.heap) σ8 H9 s9->Ah G7 G9->SA X.K G9 H9 (S (i+1))->Ak X.K G9 ((zs.take (i+1)).filterMap id) vs'->Ay vs' its'->its'.length<=i+1->
          ∃ m,m<xs.length-i/\∃ (i:Nat) (G':Wd) (σ':L2.St) (H':Hp) (vs:List V) (its:List Value),m=xs.length-i/\i<=xs.length/\L2.Inv Y [(dd,De its)] σ' H' s9/\tn i s9.heap/\(∀ b∈fp,H' b=none)/\Ah G2 G'/\SA X.K G' H' (S i)/\Ax X.K G' σ' ρ0 /\
            Ak X.K G' ((zs.take i).filterMap id) vs/\Ay vs its/\its.length<=i:=λ{s9 H9 G9 its' vs'} I9 e9 sa9 is9 va9 hl9=>by
        refine ⟨xs.length-(i+1),by omega,i+1,G9,σ8,H9,vs',its',rfl,hlt5,I9.pins_of (λp hp=>I9.pin p (by rw [hYpn,List.nil_append]; rw [List.mem_singleton.mp hp]; exact List.mem_cons_self)),T.keep _ _ _ st7 λb hb o e=>(I9.pin (b,o) (by rw [hYpn,List.nil_append]; exact List.mem_cons_of_mem _ (IU hb e))).1,λb hb=>?_,(e5.trans e7).trans e9,sa9,(en8.weak hl1.symm hs1).ext e9,is9,va9,hl9⟩
        obtain ⟨o,e,_⟩:=T.obj _ _ st7 b hb
        exact (I9.pin (b,o) (by rw [hYpn,List.nil_append]; exact List.mem_cons_of_mem _ (IU hb e))).2.1
      have more:∀ {y:D} {s9:Shared} {G9:Wd} {H9:Hp},z=some y->L2.Inv Y ([(dd,De its)]++Es fp s7.heap) σ8 H9 s9->Ah G7 G9->SA X.K G9 H9 (S i)->Ev Y ρ1 (S i) elt (λd O'=>d=y/\O'=S (i+1))->wpAny (model X.prog X.w) X.A (eval elt Y.env) (λx s5=>wpAny (model X.prog X.w) X.A (call (.builtin "list.append") [.ref dd,x]) (λ_ s6=>∃ m,m<xs.length-i/\∃ (i:Nat) (G':Wd) (σ':L2.St) (H':Hp) (vs:List V) (its:List Value),m=xs.length-i/\i<=xs.length/\L2.Inv Y [(dd,De its)] σ' H' s6/\tn i s6.heap/\(∀ b∈fp,H' b=none)/\Ah G2 G'/\SA X.K G' H' (S i)/\Ax X.K G' σ' ρ0 /\
            Ak X.K G' ((zs.take i).filterMap id) vs/\Ay vs its/\its.length<=i) F s5) F s9:=λ{y s9 G9 H9} hzy I9 e9 sa9 ev=>by
        refine Aq (xeF (ev G9 _ s9 σ8 H9 (λv H'=>∃ G',Ah G9 G'/\SA X.K G' H' (S (i+1))/\Is X.K G' y v) I9 (by
          rw [hYK]
          exact ⟨sa9,en8.ext e9,λv d O' G' H' q1 q2 q3 q4=>by obtain ⟨rfl,rfl⟩:=q4; exact ⟨G',q1,q2,q3⟩⟩))) λuy s10 ⟨vy,H10,I10,r10,G10,e10,sa10,iy⟩=>?_
        have p10:=I10.pin (dd,De its) (by rw [hYpn,List.nil_append]; exact List.mem_append_left _ List.mem_cons_self)
        refine append_at (hsz:=by show its.toArray.size<=sizeLine; rw [List.size_toArray]; omega) p10.1 λh' hs' hD'=>?_
        have Ia:L2.Inv Y (Es fp s7.heap) σ8 H10 s10:=I10.pins_of λp hp=>I10.pin p (by rw [hYpn,List.nil_append]; exact List.mem_append_right _ hp)
        have Ib:L2.Inv Y (Es fp s7.heap) σ8 H10 { s10 with heap:=h' }:=Ia.turned (t':=s10.toks) (λb o hb e=>(hs'.2 b hb).trans e) p10.2.1 hDC (.inr (by rw [hYs]; exact Nat.le_refl _)) (λx c e=>(hYc x c e).1) (λp hp=>by
          rw [hYpn,List.nil_append] at hp
          obtain ⟨hb,_⟩:=P6 hp
          exact Nat.ne_of_lt (by rw [<- hD]; exact hlt p.1 hb))
        have Ic:L2.Inv Y ((dd,De (its++[uy]))::Es fp s7.heap) σ8 H10 { s10 with heap:=h' }:=Ib.pins_of λp hp=>by
          rcases List.mem_cons.mp hp with q | q
          ·
            rw [q]
            refine ⟨hD'.trans ?_,p10.2.1,hDC,hDfs,λv z=>by cases z⟩
            congr 1
            simp [De]
          · exact Ib.pin p (by rw [hYpn,List.nil_append]; exact q)
        refine again Ic (e9.trans e10) sa10 (vs':=vs++[vy]) ?_ (va5.append (.cons r10 .nil)) (by rw [List.length_append,List.length_singleton]; omega)
        rw [QK zs i z hz,hzy]
        exact (is5.ext ((e7.trans e9).trans e10)).append (.cons iy .nil)
      match ifs,kp1 with
      | [],kp1=>
        obtain ⟨y,hzy,ev⟩:=kp1
        unfold compTests
        refine wpAny_bind (wpAny_tests_nil (wpAny_pure ?_))
        simp only [if_true]
        exact more hzy I8 (Ah.refl _) sa7 ev
      | [c],kp1=>
        obtain ⟨k,tc,ht,hff⟩:=kp1
        unfold compTests
        refine wpAny_bind (wpAny_tests_one (Aq (xeF (tc G7 _ s8 σ8 H8 (λb H'=>b=k/\∃ G',Ah G7 G'/\SA X.K G' H' (S i)) I8 (by
          rw [hYK]
          exact ⟨sa7,en8,λG' H' q1 q2=>⟨rfl,G',q1,q2⟩⟩))) λb s9 ⟨H9,I9,hb,G9,e9,sa9⟩=>wpAny_pure ?_))
        subst hb
        cases b with
        | true=>
          obtain ⟨y,hzy,ev⟩:=ht rfl
          simp only [if_true]
          exact more hzy I9 e9 sa9 ev
        | false=>
          simp only [Bool.false_eq_true,if_false]
          refine again I9 e9 (by rw [(hff rfl).2]; exact sa9) (vs':=vs) ?_ va5 (Nat.le_succ_of_le hl5)
          rw [QK zs i z hz,(hff rfl).1]
          simpa using is5.ext (e7.trans e9)
      | _::_::_,kp1=>exact kp1.elim
    ·
      have hie:i=xs.length:=by omega
      subst hie
      have dn:=T.done Y hYp hYw hYK hYcm xs.length [(dd,De its)] s5 σ5 H5 F I5 (fpY fr5 (λp hp=>by rw [List.mem_singleton.mp hp])) st5 (Yi.stop _ H5 (e5.g.trans sa5.sub) (Nat.le_refl _))
      rw [hYA] at dn
      refine Aq dn λr s6 ⟨hr,I6⟩=>?_
      subst hr
      have p6:=I6.pin (dd,De its) (by rw [hYpn,List.nil_append]; exact List.mem_cons_self)
      rw [<- hzl,List.take_length] at is5
      have vl:vs.length<=sizeLine:=by rw [va5.length]; omega
      have Ix:L2.Inv X pins σ (Ao H5 dd (.lst vs)) s6:=by
        have un:=I6.base
        rw [hYfs,hYex,<- hY] at un
        have un:Un (A3 X.stack) fp H2 H5 s2.heap s6.heap:=un
        refine I2.call' (ch:=fp) (I6.os.trans (by rw [<- hY]; rfl)) (Q0V un hHD hsD) ?_ I6.bare λb hb=>?_
        ·
          have hk6:=I6.hok
          rw [hYp,hYw] at hk6
          exact R4 hk6 p6.2.1 ⟨vl,its,its.length,va5,p6.1⟩
        ·
          obtain ⟨_,f1,_,f3,f4,f5⟩:=f2 b hb
          exact ⟨f3,f1,f4,f5⟩
      refine fin dd (dd+1) s6 _ _ vs Ix (e2.trans e5) sa5 p6.2.1 is5 ?_ ?_
      ·
        have hC:dd+1=Y.env.locals:=by rw [<- hY]; show dd+1=s2.heap.objs.size+1; rw [hD]
        have ge:s2.heap.objs.size<=dd+1:=by rw [hD]; exact Nat.le_succ _
        have:=I2.fpOk (H':=Ao H5 dd (.lst vs)) ge (by
          have q:=I6.free
          rw [<- hC] at q
          rw [AJ (show dd+1≠dd from Nat.succ_ne_self _)]
          exact q)
        exact this
      ·
        obtain ⟨m,hn,_⟩:=I6.loc
        rw [<- hY] at hn
        have hn:s6.heap.Ns (s2.heap.objs.size+1) m:=hn
        rw [hD] at hn
        exact ⟨m,hn⟩
  have eY:Y.env={ scope:=relabel scope X.env,locals:=dd+1,globals:=X.env.globals,cells:=cellsFrom (dd+1+1) scope.names (CV X.env scope.names []),qual:=X.env.qual,func:=none,code:=X.env.code,frame:=X.env.frame,builtins:=X.env.builtins }:=by
    rw [<- hY]
    show compEnvC _ _ _ _=_
    rw [hD]
    rfl
  rw [<- eY]
  exact codeAny_compStart_list (loop _ rfl) (T.self X.A 0 _ _ _ st4 (loop _ rfl))
theorem Rp (N:List Str) (js:List Nat) (ρ0:Ai) (hi:BX X ρ O tg iter xs) (hc:X.calm=true) (hk:scope.kind=.function) (hfr:Gy X scope) (hnm:∀ x∈scope.names,x.2=.local->scope.names.lookup x.1=some .local)
  (hl0:ρ0.length=N.length)
  (h0:∀ (i:Nat) (d:D),ρ0[i]?=some (some d)->∃ (x:Str) (j:Nat),N[i]?=some x/\scope.names.lookup x=some .free/\(∀ y∈scope.names,y.1=x->y.2≠.cell)/\X.N[j]?=some x/\ρ[j]?=some (some d)/\C7 X.env.scope x)
  (hzl:zs.length=xs.length) (hsz:xs.length<=sizeLine)
  (turn:∀ (s:Shared) (H:Hp) (fp:List Addr) (i:Nat) (x:D) (z:Option D),xs[i]?=some x->zs[i]?=some z->∃ ρ1,Tg (CU X N scope s H fp) tg x ρ0 ρ1/\ρ1.length=ρ0.length/\(∀ (j:Nat) (d:D),ρ0[j]?=some (some d)->ρ1[j]?=some (some d))/\HI (CU X N scope s H fp) ρ1 O elt ifs z)
  {use:Option (Value->Sem Unit)} {pins:List (Addr×Obj)} {s:Shared} {σ:L2.St} {H:Hp} {G:Wd} {Q:Value->Shared->Prop} (I:L2.Inv X pins σ H s) (sa:SA X.K G H O) (en:Ax X.K G σ ρ)
  (fin:∀ (D C:Addr) (s':Shared) (H':Hp) (G':Wd),L2.Inv X pins σ H' s'->Ah G G'->SA X.K G' H' O->Is X.K G' (.lst (zs.filterMap id)) (.ref D)->B2 X pins H' C->(∃ m,s'.heap.Ns C m)->compPost (model X.prog X.w) X.A X.xe use Q (.ref D) C (.ok .next) s')
  (hs:∀ x,foldedSetIterable iter X.env x=pure x:=by intro _; rfl) :
  wpAny (model X.prog X.w) X.A (comprehension (.ListComp elt [⟨tg,iter,ifs,0⟩] scope pos) scope X.env (firstIterPos [⟨tg,iter,ifs,0⟩] pos) (newList []) false (eval iter X.env) use) Q X.xe s:=by
 refine ML (λ_=>O) rfl N js ρ0 hi hc hk hfr hnm hl0 h0 hzl hsz (λs H fp i x z q1 q2=>?_) I sa en (λD C s' H5 G5 vs I5 e5 sa5 hD is5 f5 n5=>?_) hs
 ·obtain ⟨ρ1,t1,t2,t3,t4⟩:=turn s H fp i x z q1 q2
  exact ⟨ρ1,t1,t2,t3,t4.s⟩
 ·obtain ⟨ed,sd⟩:=sa5.laid (p:=D) (o:=.lst vs) hD
  exact fin D C s' _ _ I5 (e5.trans ed) sd (.lst A5 (is5.ext ed)) f5 n5
def CC (XN:List Str) (xs cs:List (Str×NameKind)) (F:List Str) (js:List Nat):Bool:=
 (js.map λj=>XN[j]?)==F.map some&&(F.all λx=>cs.lookup x==some .free&&(cs.all λy=>y.1 != x||y.2 != .cell)&&(xs.lookup x==some .cell||xs.lookup x==some .free)) &&
 (cs.all λy=>(y.2 != .free||xs.lookup y.1==some .cell||xs.lookup y.1==some .free)&&(y.2 != .local||cs.lookup y.1==some .local))
def Ce (ρ:Ai) (js:List Nat):Ai:=js.map λj=>(ρ[j]?).getD none
theorem Jd {F:List Str} {js:List Nat} (h:CC X.N X.env.scope.names scope.names F js=true):Gy X scope:=λy hy e=>by
 unfold CC at h
 simp only [Bool.and_eq_true,List.all_eq_true] at h
 have q:=(h.2 y hy).1
 rw [e] at q
 have q:(X.env.scope.names.lookup y.1==some .cell||X.env.scope.names.lookup y.1==some .free)=true:=by simpa using q
 rcases (Bool.or_eq_true _ _).mp q with q | q
 ·exact .inl (show X.env.scope.names.lookup y.1=_ by simpa using q)
 ·exact .inr (show X.env.scope.names.lookup y.1=_ by simpa using q)
theorem Jc {F:List Str} {js:List Nat} (h:CC X.N X.env.scope.names scope.names F js=true):∀ x∈scope.names,x.2=.local->scope.names.lookup x.1=some .local:=λy hy e=>by
 unfold CC at h
 simp only [Bool.and_eq_true,List.all_eq_true] at h
 have q:=(h.2 y hy).2
 rw [e] at q
 simpa using q
theorem Je {T F:List Str} {js:List Nat} (h:CC X.N X.env.scope.names scope.names F js=true) (i:Nat) (d:D) (e:(T.map (λ_=>(none:Option D))++Ce ρ js)[i]?=some (some d)) :
  ∃ (x:Str) (j:Nat),(T++F)[i]?=some x/\scope.names.lookup x=some .free/\(∀ y∈scope.names,y.1=x->y.2≠.cell)/\X.N[j]?=some x/\ρ[j]?=some (some d)/\C7 X.env.scope x:=by
 unfold CC at h
 simp only [Bool.and_eq_true,List.all_eq_true,beq_iff_eq] at h
 obtain ⟨⟨h1,h2⟩,h3⟩:=h
 by_cases hi:i<T.length
 ·rw [List.getElem?_append_left (by simpa using hi),List.getElem?_map] at e
  cases q:T[i]? with
  | none=>rw [q] at e; cases e
  | some _=>rw [q] at e; cases e
 ·rw [List.getElem?_append_right (by simpa using hi),List.length_map] at e
  unfold Ce at e
  rw [List.getElem?_map] at e
  cases q:js[i-T.length]? with
  | none=>rw [q] at e; cases e
  | some j=>
   rw [q] at e
   have e:(ρ[j]?).getD none=some d:=Option.some.inj e
   have hρ:ρ[j]?=some (some d):=by
    cases q2:ρ[j]? with
    | none=>rw [q2] at e; cases e
    | some o=>rw [q2] at e; rw [show o=some d from e]
   have hF:=congrArg (λl=>l[i-T.length]?) h1
   simp only [List.getElem?_map,q,Option.map_some] at hF
   cases qF:F[i-T.length]? with
   | none=>rw [qF] at hF; cases hF
   | some x=>
    rw [qF] at hF
    have hF:X.N[j]?=some x:=Option.some.inj hF
    obtain ⟨⟨g1,g2⟩,g3⟩:=h2 x (List.mem_of_getElem? qF)
    refine ⟨x,j,by rw [List.getElem?_append_right wF]; exact qF,g1,λy hy ey=>?_,hF,hρ,?_⟩
    ·have:=g2 y hy
     rw [ey] at this
     simpa using this
    ·rcases (Bool.or_eq_true _ _).mp g3 with g | g
     ·exact .inr (.inl (by simpa using g))
     ·exact .inr (.inr (by simpa using g))
theorem HY {ts fr:Ai} {T:List Str} (h:ts.length=T.length):(ts++fr).length=(T.map (λ_=>(none:Option D))++fr).length/\∀ (j:Nat) (d:D),(T.map (λ_=>(none:Option D))++fr)[j]?=some (some d)->(ts++fr)[j]?=some (some d):=by
 refine ⟨by simp [h],λj d e=>?_⟩
 by_cases hj:j<T.length
 ·rw [List.getElem?_append_left (by simpa using hj),List.getElem?_map] at e
  cases q:T[j]? with
  | none=>rw [q] at e; cases e
  | some _=>rw [q] at e; cases e
 ·rw [List.getElem?_append_right (by simpa using hj),List.length_map] at e
  rw [List.getElem?_append_right wF,h]
  exact e
def Fl (X:Cx) (T F:List Str) (js:List Nat) (ρ:Ai) (O:Ae) (scope:Scope) (tg elt:Expr) (ifs:List Expr) (x:D) (z:Option D):Prop:=
 ∀ (s:Shared) (H:Hp) (fp:List Addr),∃ ts:Ai,ts.length=T.length/\Tg (CU X (T++F) scope s H fp) tg x (T.map (λ_=>(none:Option D))++Ce ρ js) (ts++Ce ρ js)/\HI (CU X (T++F) scope s H fp) (ts++Ce ρ js) O elt ifs z
theorem ZT (T F:List Str) (js:List Nat) (hi:BX X ρ O tg iter xs) (hzl:zs.length=xs.length) (hsz:xs.length<=sizeLine) (turn:∀ (i:Nat) (x:D) (z:Option D),xs[i]?=some x->zs[i]?=some z->Fl X T F js ρ O scope tg elt ifs x z)
  (hfl:F.length=js.length) (hB:CC X.N X.env.scope.names scope.names F js=true) (hc:X.calm=true) (hk:scope.kind=.function) (hs:∀ x,foldedSetIterable iter X.env x=pure x) :
  Ad X ρ O (.ListComp elt [⟨tg,iter,ifs,0⟩] scope pos) (.lst (zs.filterMap id)):=λG pins s σ H Q I ⟨h1,h2,h3⟩=>by
 rw [eval_ListComp]
 refine Rp (T++F) js (T.map (λ_=>(none:Option D))++Ce ρ js) hi hc hk (Jd hB) (Jc hB) (by simp [Ce,hfl]) (Je hB) hzl hsz (λs H fp i x z q1 q2=>?_) I h1 h2 (λdd C s' H' G' I' e' sa' is' fo ns=>?_) hs
 ·obtain ⟨ts,t1,t2,t3⟩:=turn i x z q1 q2 s H fp
  obtain ⟨u1,u2⟩:=HY (fr:=Ce ρ js) t1
  exact ⟨_,t2,u1,u2,t3⟩
 ·obtain ⟨m,hn⟩:=ns
  refine ⟨m,hn,λh' hs'=>?_⟩
  obtain ⟨f0,f1,f2,f3,f4,f5⟩:=fo
  exact ⟨.ref dd,H',I'.turned (t':=s'.toks) (λb o hb e=>(hs'.2 b hb).trans e) f0 f1 f3 f4 f5,rfl,h3 _ G' H' e' sa' is'⟩
theorem Sl {x:Str} {p spos:Pos} {P:A7} (k:Nat) (T F:List Str) (js:List Nat) (hi:BX X ρ O tg iter xs) (hzl:zs.length=xs.length) (hsz:xs.length<=sizeLine) (turn:∀ (i:Nat) (x:D) (z:Option D),xs[i]?=some x->zs[i]?=some z->Fl X T F js ρ O scope tg elt ifs x z)
  (h:P.nx (ρ.set k (some (.lst (zs.filterMap id)))) O) (hN:X.N.Nodup) (hx:X.N[k]?=some x) (hlc:DC X.env.scope x) (hf:X.fn x=true\/X.env.scope.names.lookup x=some .local)
  (hfl:F.length=js.length) (hB:CC X.N X.env.scope.names scope.names F js=true) (hc:X.calm=true) (hk:scope.kind=.function) (hs:∀ x,foldedSetIterable iter X.env x=pure x)
  (hsw:swapsWith (.ListComp elt [⟨tg,iter,ifs,0⟩] scope pos) (some (.Name x p)) spos.line X.env=pure true):Ex X ρ O (.Assign [.Name x p] (.ListComp elt [⟨tg,iter,ifs,0⟩] scope pos) spos) P:=λG pins s σ H E I ⟨h1,h2,h3⟩=>by
 rw [PySem.exec_Assign_Name_used _ _ _ _ hsw]
 refine wpAny_bind (wpAny_standAt (wpAny_bind ?_))
 show wpAny _ _ (do let _ <- comprehension (.ListComp elt [⟨tg,iter,ifs,0⟩] scope pos) scope X.env _ (newList []) false (eval iter X.env) (some (assign (.Name x p) X.env))) _ _ s
 refine wpAny_bind (Aq (Rp (use:=some (assign (.Name x p) X.env)) (Q:=λ_ s'=>SP X pins E .next s') (T++F) js (T.map (λ_=>(none:Option D))++Ce ρ js) hi hc hk (Jd hB) (Jc hB) (by simp [Ce,hfl]) (Je hB) hzl hsz (λs H fp i x z q1 q2=>?_) I h1 h2 (λdd C s' H' G' I' e' sa' is' fo ns=>?_) hs) λ_ s' hq=>wpAny_pure (wpAny_pure hq))
 ·obtain ⟨ts,t1,t2,t3⟩:=turn i x z q1 q2 s H fp
  obtain ⟨u1,u2⟩:=HY (fr:=Ce ρ js) t1
  exact ⟨_,t2,u1,u2,t3⟩
 ·obtain ⟨m,hn⟩:=ns
  obtain ⟨f0,f1,f2,f3,f4,f5⟩:=fo
  refine wpAny_assign_Name (J1 I' hN hx hlc (v:=.ref dd) rfl (λs2 I2 ⟨a,sb,ha⟩=>?_) hf)
  have hCa:C≠a:=by
   rcases ha with q | q
   ·rw [q]; exact f1
   ·exact Ne.symm (f4 _ _ q)
  refine ⟨m,hn.sameBut sb hCa,λh' hs'=>?_⟩
  exact ⟨_,H',I2.turned (t':=s2.toks) (λb o hb e=>(hs'.2 b hb).trans e) f0 f1 f3 f4 f5,h3.nx _ _ O G' H' e' sa' ((h2.ext e').set k is') h⟩
end
end DL
namespace DL
open PySem PySem.Spec PyProof.Rows L2 PySem.W
def Bf {α:Type} (lt:Nat->Nat->Bool):KasT α->α
 | .ret a=>a
 | .ask i j k=>Bf lt (k (lt i j))
theorem FI {α β:Type} (lt:Nat->Nat->Bool) (f:α->KasT β):∀ t:KasT α,Bf lt (t.bind f)=Bf lt (f (Bf lt t))
 | .ret _=>rfl
 | .ask i j k=>FI lt f (k (lt i j))
section
variable (key:Nat->Int)
abbrev BE (i j:Nat):Bool:=decide (key i<key j)
def KQ (p:Array Nat) (i:Nat):Int:=key (p.getD i 0)
theorem M7 (p:Array Nat):∀ (f n:Nat),∃ m,Bf (BE key) (kas_asc p f n)=m/\n<=m/\m<=n+f/\(∀ k,n<=k->k<m->KQ key p (k-1)<=KQ key p k)/\(m=n+f\/KQ key p m<KQ key p (m-1))
 | 0,n=>⟨n,rfl,Nat.le_refl _,Nat.le_refl _,λk h1 h2=>by omega,.inl rfl⟩
 | f+1,n=>by
  by_cases h:KQ key p n<KQ key p (n-1)
  ·refine ⟨n,?_,Nat.le_refl _,by omega,λk h1 h2=>by omega,.inr h⟩
   show Bf _ (if BE key _ _=true then _ else _)=_
   rw [if_pos (decide_eq_true (show key (p.getD n 0)<key (p.getD (n-1) 0) from h))]
   rfl
  ·obtain ⟨m,e,h1,h2,h3,h4⟩:=M7 p f (n+1)
   refine ⟨m,?_,by omega,by omega,λk g1 g2=>?_,by rcases h4 with h4 | h4; exact .inl wF; exact .inr h4⟩
   ·show Bf _ (if BE key _ _=true then _ else _)=_
    rw [if_neg (by simpa [BE] using (show ¬ key (p.getD n 0)<key (p.getD (n-1) 0) from h))]
    exact e
   ·by_cases hk:k=n
    ·subst hk; exact Int.not_lt.mp h
    ·exact h3 k wF g2
theorem EB {p:Array Nat} {i:Nat}:p.getD i 0=(p[i]?).getD 0:=by
 by_cases h:i<p.size
 ·simp [Array.getD,h]
 ·simp [Array.getD,h]
theorem Nl {p:Array Nat} {i j:Nat} (hj:j<=p.size) (k:Nat):KQ key (kas_rev p i j) k=if i<=k/\k<j then KQ key p (i+j-1-k) else KQ key p k:=by
 unfold KQ kas_rev
 rw [EB,getElem?_mirror_all hj k]
 split
 ·rw [EB]
 ·rw [EB]
theorem Nk {p:Array Nat} {i j:Nat} (hj:j<=p.size) (h:∀ k,i<=k->k<j->KQ key p k=KQ key p (j-1)) (k:Nat):KQ key (kas_rev p i j) k=KQ key p k:=by
 rw [Nl key hj k]
 split
 ·next hk=>rw [h k hk.1 hk.2,h _ wF wF]
 ·rfl
theorem Jm:∀ (f:Nat) (p:Array Nat) (n q:Nat),q+1<=n->n+f<=p.size->(∀ i j,i<=j->j<n->KQ key p j<=KQ key p i)->(∀ k,n-(q+1)<=k->k<n->KQ key p k=KQ key p (n-1))->
  ∃ p' n' q',Bf (BE key) (kas_desc f p n q)=(p',n',q')/\n<=n'/\n'<=n+f/\q'+1<=n'/\p'.Perm p/\p'.size=p.size/\(∀ i j,i<=j->j<n'->KQ key p' j<=KQ key p' i)/\(∀ k,n'-(q'+1)<=k->k<n'->KQ key p' k=KQ key p' (n'-1))
 | 0,p,n,q,h1,h2,h3,h4=>⟨p,n,q,rfl,Nat.le_refl _,Nat.le_refl _,h1,Array.Perm.refl _,rfl,h3,h4⟩
 | f+1,p,n,q,h1,h2,h3,h4=>by
  by_cases h:KQ key p n<KQ key p (n-1)
  ·have step:∀ p2:Array Nat,p2.Perm p->p2.size=p.size->(∀ k,KQ key p2 k=KQ key p k)->(∀ i j,i<=j->j<n+1->KQ key p2 j<=KQ key p2 i):=λp2 _ _ e i j hij hj=>by
    rw [e,e]
    by_cases hjn:j=n
    ·subst hjn
     by_cases hin:i=j
     ·subst hin; exact Int.le_refl _
     ·have:=h3 i (j-1) wF wF; omega
    ·exact h3 i j hij wF
   by_cases hq:q>0
   ·have hE:∀ k,KQ key (kas_rev p (n-(q+1)) n) k=KQ key p k:=Nk key wF h4
    obtain ⟨p',n',q',e,g⟩:=Jm f (kas_rev p (n-(q+1)) n) (n+1) 0 wF (by rw [kas_rev_size]; omega) (step _ (mirror_perm _ _ _ _) (kas_rev_size _ _) hE) (λk k1 k2=>by rw [show k=n+1-1 by omega])
    refine ⟨p',n',q',?_,by omega,by omega,g.2.2.1,g.2.2.2.1.trans (mirror_perm _ _ _ _),g.2.2.2.2.1.trans (kas_rev_size _ _),g.2.2.2.2.2⟩
    show Bf _ (if BE key _ _=true then _ else _)=_
    rw [if_pos (decide_eq_true (show key (p.getD n 0)<key (p.getD (n-1) 0) from h)),if_pos hq]
    exact e
   ·obtain ⟨p',n',q',e,g⟩:=Jm f p (n+1) 0 wF wF (step _ (Array.Perm.refl _) rfl λ_=>rfl) (λk k1 k2=>by rw [show k=n+1-1 by omega])
    refine ⟨p',n',q',?_,by omega,by omega,g.2.2⟩
    show Bf _ (if BE key _ _=true then _ else _)=_
    rw [if_pos (decide_eq_true (show key (p.getD n 0)<key (p.getD (n-1) 0) from h)),if_neg hq]
    exact e
  ·by_cases h':KQ key p (n-1)<KQ key p n
   ·refine ⟨p,n,q,?_,Nat.le_refl _,by omega,h1,Array.Perm.refl _,rfl,h3,h4⟩
    show Bf _ (if BE key _ _=true then _ else _)=_
    rw [if_neg (by simpa [BE] using (show ¬ key (p.getD n 0)<key (p.getD (n-1) 0) from h))]
    show Bf _ (if BE key _ _=true then _ else _)=_
    rw [if_pos (decide_eq_true (show key (p.getD (n-1) 0)<key (p.getD n 0) from h'))]
    rfl
   ·have he:KQ key p n=KQ key p (n-1):=by omega
    obtain ⟨p',n',q',e,g⟩:=Jm f p (n+1) (q+1) wF wF (λi j hij hj=>by
     by_cases hjn:j=n
     ·subst hjn
      by_cases hin:i=j
      ·subst hin; exact Int.le_refl _
      ·have:=h3 i (j-1) wF wF; omega
     ·exact h3 i j hij wF) (λk k1 k2=>by
     show _=KQ key p n
     by_cases hkn:k=n
     ·subst hkn; rfl
     ·rw [h4 k wF wF,he])
    refine ⟨p',n',q',?_,by omega,by omega,g.2.2⟩
    show Bf _ (if BE key _ _=true then _ else _)=_
    rw [if_neg (by simpa [BE] using (show ¬ key (p.getD n 0)<key (p.getD (n-1) 0) from h))]
    show Bf _ (if BE key _ _=true then _ else _)=_
    rw [if_neg (by simpa [BE] using (show ¬ key (p.getD (n-1) 0)<key (p.getD n 0) from h'))]
    exact e
def C8 (p:Array Nat) (m:Nat):Prop:=∀ i j,i<=j->j<m->KQ key p i<=KQ key p j
theorem N8 {p:Array Nat} {m:Nat} (h:∀ k,1<=k->k<m->KQ key p (k-1)<=KQ key p k):C8 key p m:=by
  intro i j hij hj
  induction j with
  | zero=>
            have:i=0:=by omega
            subst this; exact Int.le_refl _
  | succ j ih=>
    by_cases e:i=j+1
    · subst e; exact Int.le_refl _
    · exact Int.le_trans (ih wF wF) (h (j+1) wF hj)
theorem NX {n nrem:Nat} {p:Array Nat} (h1:1<=n) (hn:n<=nrem) (hz:nrem<=p.size) (h3:∀ i j,i<=j->j<n->KQ key p j<=KQ key p i):∃ m p',Bf (BE key) (kas_tail3 n nrem p)=(m,p')/\1<=m/\m<=nrem/\p'.Perm p/\p'.size=p.size/\C8 key p' m:=by
 obtain ⟨m,e,g1,g2,g3,g4⟩:=M7 key (kas_rev p 0 n) (nrem-n) n
 refine ⟨m,kas_rev p 0 n,?_,by omega,by omega,mirror_perm _ _ _ _,kas_rev_size _ _,N8 key λk k1 k2=>?_⟩
 ·unfold kas_tail3
  rw [FI,e]
  rfl
 ·by_cases hk:n<=k
  ·exact g3 k hk k2
  ·rw [Nl key wF,Nl key wF,if_pos wF,if_pos wF]
   exact h3 _ _ wF wF
theorem Q7 {n nrem:Nat} {p:Array Nat} (h1:1<=n) (hn:n+1<=nrem) (hz:nrem<=p.size) (h3:∀ i j,i<=j->j<n+1->KQ key p j<=KQ key p i):∃ m p',Bf (BE key) (kas_descPart n nrem p)=(m,p')/\1<=m/\m<=nrem/\p'.Perm p/\p'.size=p.size/\C8 key p' m:=by
 obtain ⟨p1,n1,q1,e,g1,g2,g3,g4,g5,g6,g7⟩:=Jm key (nrem-(n+1)) p (n+1) 0 wF wF h3 (λk k1 k2=>by rw [show k=n+1-1 by omega])
 unfold kas_descPart
 rw [FI,e]
 by_cases hq:q1>0
 ·have hE:∀ k,KQ key (kas_rev p1 (n1-(q1+1)) n1) k=KQ key p1 k:=Nk key wF g7
  obtain ⟨m,p',e',k1,k2,k3,k4,k5⟩:=NX key (n:=n1) (nrem:=nrem) (p:=kas_rev p1 (n1-(q1+1)) n1) wF wF (by rw [kas_rev_size]; omega) (λi j hij hj=>by rw [hE,hE]; exact g6 i j hij hj)
  refine ⟨m,p',?_,k1,k2,k3.trans ((mirror_perm _ _ _ _).trans g4),k4.trans ((kas_rev_size _ _).trans g5),k5⟩
  show Bf _ (if q1>0 then _ else _)=_
  rw [if_pos hq]
  exact e'
 ·obtain ⟨m,p',e',k1,k2,k3,k4,k5⟩:=NX key (n:=n1) (nrem:=nrem) (p:=p1) wF wF wF g6
  refine ⟨m,p',?_,k1,k2,k3.trans g4,k4.trans g5,k5⟩
  show Bf _ (if q1>0 then _ else _)=_
  rw [if_neg hq]
  exact e'
theorem Q0l {nrem:Nat} {p:Array Nat} (h1:1<=nrem) (hz:nrem<=p.size):∃ m p',Bf (BE key) (kas_count nrem p)=(m,p')/\1<=m/\m<=nrem/\p'.Perm p/\p'.size=p.size/\C8 key p' m:=by
 obtain ⟨n,e,g1,g2,g3,g4⟩:=M7 key p (nrem-1) 1
 have hs:C8 key p n:=N8 key λk k1 k2=>g3 k k1 k2
 unfold kas_count
 rw [FI,e]
 by_cases hn:n=nrem
 ·refine ⟨n,p,?_,g1,by omega,Array.Perm.refl _,rfl,hs⟩
  rw [if_pos (by simpa using hn)]
  rfl
 ·rw [if_neg (by simpa using hn)]
  have hlt:KQ key p n<KQ key p (n-1):=by
   rcases g4 with g4 | g4
   ·omega
   ·exact g4
  by_cases hn1:n>1
  ·rw [if_pos hn1]
   by_cases hr:KQ key p 0<KQ key p (n-1)
   ·refine ⟨n,p,?_,g1,by omega,Array.Perm.refl _,rfl,hs⟩
    show Bf _ (if BE key _ _=true then _ else _)=_
    rw [if_pos (decide_eq_true (show key (p.getD 0 0)<key (p.getD (n-1) 0) from hr))]
    rfl
   ·have heq:∀ k,0<=k->k<n->KQ key p k=KQ key p (n-1):=λk _ hk=>by
     have a:=hs 0 k wF hk
     have b:=hs k (n-1) wF wF
     omega
    have hE:=Nk key (p:=p) (i:=0) (j:=n) wF heq
    obtain ⟨m,p',e',k1,k2,k3,k4,k5⟩:=Q7 key (n:=n) (nrem:=nrem) (p:=kas_rev p 0 n) wF wF (by rw [kas_rev_size]; exact hz) (λi j hij hj=>by
     rw [hE,hE]
     by_cases hjn:j=n
     ·subst hjn
      by_cases hin:i=j
      ·subst hin; exact Int.le_refl _
      ·rw [heq i wF wF]; omega
     ·rw [heq i wF wF,heq j wF wF]
      exact Int.le_refl _)
    refine ⟨m,p',?_,k1,k2,k3.trans (mirror_perm _ _ _ _),k4.trans (kas_rev_size _ _),k5⟩
    show Bf _ (if BE key _ _=true then _ else _)=_
    rw [if_neg (by simpa [BE] using (show ¬ key (p.getD 0 0)<key (p.getD (n-1) 0) from hr))]
    exact e'
  ·rw [if_neg hn1]
   obtain rfl:n=1:=by omega
   exact Q7 key wF wF hz (λi j hij hj=>by
    by_cases hj1:j=1
    ·subst hj1
     by_cases hi1:i=1
     ·subst hi1; exact Int.le_refl _
     ·obtain rfl:i=0:=by omega
      exact Int.le_of_lt hlt
    ·obtain rfl:j=0:=by omega
     obtain rfl:i=0:=by omega
     exact Int.le_refl _)
theorem LZ (p:Array Nat) (k:Nat) (hs:C8 key p k):∀ (f l r:Nat),l<=r->r<=k->r-l<=f->(∀ i,i<l->KQ key p i<=KQ key p k)->(∀ i,r<=i->i<k->KQ key p k<KQ key p i)->
  ∃ m,Bf (BE key) (kas_place p k f l r)=m/\m<=k/\(∀ i,i<m->KQ key p i<=KQ key p k)/\(∀ i,m<=i->i<k->KQ key p k<KQ key p i)
 | 0,l,r,h1,h2,h3,h4,h5=>⟨l,rfl,by omega,h4,λi g1 g2=>h5 i wF g2⟩
 | f+1,l,r,h1,h2,h3,h4,h5=>by
  by_cases hlr:l>=r
  ·refine ⟨l,?_,by omega,h4,λi g1 g2=>h5 i wF g2⟩
   show Bf _ (if l>=r then _ else _)=_
   rw [if_pos hlr]; rfl
  ·by_cases hc:KQ key p k<KQ key p ((l+r)/2)
   ·obtain ⟨m,e,g1,g2,g3⟩:=LZ p k hs f l ((l+r)/2) wF wF wF h4 (λi i1 i2=>by
     have:=hs ((l+r)/2) i i1 i2; omega)
    refine ⟨m,?_,g1,g2,g3⟩
    show Bf _ (if l>=r then _ else _)=_
    rw [if_neg hlr]
    show Bf _ (if BE key _ _=true then _ else _)=_
    rw [if_pos (decide_eq_true (show key (p.getD k 0)<key (p.getD ((l+r)/2) 0) from hc))]
    exact e
   ·obtain ⟨m,e,g1,g2,g3⟩:=LZ p k hs f ((l+r)/2+1) r wF h2 wF (λi i1=>by
     have:=hs i ((l+r)/2) wF wF; omega) h5
    refine ⟨m,?_,g1,g2,g3⟩
    show Bf _ (if l>=r then _ else _)=_
    rw [if_neg hlr]
    show Bf _ (if BE key _ _=true then _ else _)=_
    rw [if_neg (by simpa [BE] using (show ¬ key (p.getD k 0)<key (p.getD ((l+r)/2) 0) from hc))]
    exact e
end
end DL
set_option maxHeartbeats 2000000
namespace DL
open PySem PySem.Spec PyProof.Rows L2 PySem.W
def Cw (k:Bool) (h:Heap) (it l:Addr) (i:Nat):Prop:=if k then h.IsListIter it l i else h.IsTupleIter it l i
def BH (k:Bool) (h:Heap) (l:Addr) (xs:Array Value):Prop:=if k then h.IsList l xs else h.IsTuple l xs
section
variable {k:Bool} {h h':Heap} {it l b:Addr} {i:Nat} {xs:Array Value}
theorem Cw.at (q:Cw k h it l i) (e:∀ o,h.get? it=some o->h'.get? it=some o):Cw k h' it l i:=by
 cases k with
 | true=>obtain ⟨o,g,r⟩:=(q:h.IsListIter it l i); exact ⟨o,e o g,r⟩
 | false=>obtain ⟨o,g,r⟩:=(q:h.IsTupleIter it l i); exact ⟨o,e o g,r⟩
theorem BH.at (q:BH k h l xs) (e:∀ o,h.get? l=some o->h'.get? l=some o):BH k h' l xs:=by
 cases k with
 | true=>obtain ⟨o,g,r⟩:=(q:h.IsList l xs); exact ⟨o,e o g,r⟩
 | false=>obtain ⟨o,g,r⟩:=(q:h.IsTuple l xs); exact ⟨o,e o g,r⟩
theorem Cw.obj (q:Cw k h it l i):∃ o,h.get? it=some o/\∀ v,o.data≠.cell v:=by
 cases k with
 | true=>obtain ⟨o,g,c,d⟩:=(q:h.IsListIter it l i); exact ⟨o,g,λv z=>by rw [d] at z; cases z⟩
 | false=>obtain ⟨o,g,c,d⟩:=(q:h.IsTupleIter it l i); exact ⟨o,g,λv z=>by rw [d] at z; cases z⟩
end
theorem Q5 {prog:Program} {w:World} {A:Around} {E:Value->Shared->Prop} {s:Shared} {T id:String} {b:Builtin} {v:Value} {Q:Value->Shared->Prop} (hT:s.TypeIs v T) (sl:Slot T (Str.ofString "__next__") id) (en:entryFor table id=some b) (ok:argsOk id ⟨[v],[]⟩)
  (h:wpAny (model prog w) A.in1 (b ⟨[v],[]⟩) (λfin s'=>∃ x,fin=.done (.ret x)/\Q x s') E s):wpAny (model prog w) A (Builtin.SmallTypes.nextOf v) Q E s:=
 wpAny_bind (wpAny_callSpecial?_slot hT sl (wpAny_call_entry sl hT en (wpAny_mono h (λfin s' ⟨x,e,q⟩=>⟨x,e,wpAny_pure q⟩) λ_ _ e=>e) ok))
section
variable {prog:Program} {w:World} {A:Around} {E:Value->Shared->Prop} {s:Shared} {it l:Addr} {i:Nat} {xs:Array Value} {Q:Value->Shared->Prop}
theorem SY {x:Value} (q:s.heap.IsTupleIter it l i) (t:s.heap.IsTuple l xs) (hx:xs[i]?=some x) (hQ:∀ h',h'.IsTupleIter it l (i+1)->Heap.SameBut it s.heap h'->Q x { s with heap:=h' }):wpAny (model prog w) A (Builtin.SmallTypes.nextOf (.ref it)) Q E s:=by
 refine Q5 q.typeIs F.slot_tuple_iterator_next F.entry_tuple_iterator_next (F.args_tuple_iterator_next_1 _) ?_
 obtain ⟨h,g,d,tk,os⟩:=s
 obtain ⟨⟨c,dc,da,sl⟩,gi,rfl,rfl⟩:=q
 obtain ⟨⟨c,dc,da,sl⟩,gt,rfl,n,rfl⟩:=t
 dsimp only at gi gt hQ
 wp_walk
 rw [Int.toNat_natCast,hx]
 wp_walk
 exact ⟨x,rfl,hQ _ ⟨_,Heap.get?_update_self _ gi rfl,rfl,by simp [Obj.mapFields,rawInt]⟩ (Heap.SameBut.update ..)⟩
theorem SZ (hh:A.handled=none) (q:s.heap.IsTupleIter it l i) (t:s.heap.IsTuple l xs) (hx:xs[i]?=none) (hE:∀ h' e,Heap.ExtBut it s.heap h'->(∃ o,h'.get? e=some o/\o.cls=.type "StopIteration")->E (.ref e) { s with heap:=h' }):wpAny (model prog w) A (Builtin.SmallTypes.nextOf (.ref it)) Q E s:=by
 refine Q5 q.typeIs F.slot_tuple_iterator_next F.entry_tuple_iterator_next (F.args_tuple_iterator_next_1 _) ?_
 obtain ⟨h,g,d,tk,os⟩:=s
 obtain ⟨⟨c,dc,da,sl⟩,gi,rfl,rfl⟩:=q
 obtain ⟨⟨c,dc,da,sl⟩,gt,rfl,n,rfl⟩:=t
 dsimp only at gi gt hE
 have hh1:A.in1.handled=none:=hh
 wp_walk
 rw [Int.toNat_natCast,hx]
 wp_walk
 unfold raiseNew
 wp_walk
 exact hE _ _ (λb u hb e=>Heap.get?_push_of_some _ (Heap.get?_push_of_some _ ((Heap.get?_update_ne _ _ _ _ hb).trans e))) ⟨_,Heap.get?_push_size _ rfl,rfl⟩
theorem J3 {k:Bool} {x:Value} (q:Cw k s.heap it l i) (t:BH k s.heap l xs) (hx:xs[i]?=some x) (hQ:∀ h',Cw k h' it l (i+1)->Heap.SameBut it s.heap h'->Q x { s with heap:=h' }):wpAny (model prog w) A (Builtin.SmallTypes.nextOf (.ref it)) Q E s:=
 match k with
 | true=>wpAny_nextOf_list_item q t hx hQ
 | false=>SY q t hx hQ
theorem J4 {k:Bool} (hh:A.handled=none) (q:Cw k s.heap it l i) (t:BH k s.heap l xs) (hx:xs[i]?=none) (hE:∀ h' e,Heap.ExtBut it s.heap h'->(∃ o,h'.get? e=some o/\o.cls=.type "StopIteration")->E (.ref e) { s with heap:=h' }):wpAny (model prog w) A (Builtin.SmallTypes.nextOf (.ref it)) Q E s:=
 match k with
 | true=>wpAny_nextOf_list_end hh q t hx hE
 | false=>SZ hh q t hx hE
end
def HQ (n:Nat) (f0 f1:Value):Obj:={ cls:=.type "zip",dict:=none,data:=.fields #[f0,f1,.bool false,.ref (n+2),.ref (n+3)],slots:=#[] }
structure ZW (n:Nat) (k1 k2:Bool) (l1 l2 i1 i2:Nat) (xs ys:Array Value) (f0 f1 a b:Value) (h:Heap):Prop where
 z:h.get? (n+4)=some { cls:=.type "zip",dict:=none,data:=.fields #[f0,f1,.bool false,.ref (n+2),.ref (n+3)],slots:=#[] }
 ti:h.get? (n+2)=some { cls:=.type "tuple",data:=.seq #[.ref n,.ref (n+1)] }
 to:h.get? (n+3)=some { cls:=.type "tuple",data:=.seq #[a,b] }
 w1:Cw k1 h n l1 i1
 w2:Cw k2 h (n+1) l2 i2
 s1:BH k1 h l1 xs
 s2:BH k2 h l2 ys
 b1:l1<n
 b2:l2<n
theorem ap {x y:Nat} (h:x≠y):@Ne Addr x y:=h
def Bx (n:Nat) (h h':Heap):Prop:=∀ c o,c≠n+4->c≠n+3->c≠n->c≠n+1->h.get? c=some o->h'.get? c=some o
theorem Bx.refl (n:Nat) (h:Heap):Bx n h h:=λ_ _ _ _ _ _ e=>e
theorem Bx.on {n:Nat} {h h1 h2:Heap} (p:Bx n h h1) (q:Bx n h1 h2):Bx n h h2:=λc o c1 c2 c3 c4 e=>q c o c1 c2 c3 c4 (p c o c1 c2 c3 c4 e)
theorem Bx.of {n c:Nat} {h h':Heap} (e:Heap.SameBut c h h') (m:c=n+4\/c=n+3\/c=n\/c=n+1):Bx n h h':=
 λd o d1 d2 d3 d4 q=>e.extBut _ _ (by rcases m with rfl | rfl | rfl | rfl <;> assumption) q
section
variable {prog:Program} {w:World} {A:Around} {E:Value->Shared->Prop} {s:Shared} {n l1 l2 i1 i2:Nat} {k1 k2:Bool} {xs ys:Array Value} {f0 f1 a b v:Value}
theorem ZW.mark0 {Q:Unit->Shared->Prop} (W:ZW n k1 k2 l1 l2 i1 i2 xs ys f0 f1 a b s.heap) (hQ:∀ h',ZW n k1 k2 l1 l2 i1 i2 xs ys v f1 a b h'->Bx n s.heap h'->h'.objs.size=s.heap.objs.size->Q () { s with heap:=h' }):wpAny (model prog w) A (setField (.ref (n+4)) 0 v) Q E s:=
 wpAny_setField_rec W.z (by simp) λh' g e=>hQ h' ⟨g,e.extBut _ _ (ap wF) W.ti,e.extBut _ _ (ap wF) W.to,W.w1.at λo=>e.extBut _ _ (ap wF),W.w2.at λo=>e.extBut _ _ (ap wF),W.s1.at λo=>e.extBut _ _ (ap (by have:=W.b1; omega)),W.s2.at λo=>e.extBut _ _ (ap (by have:=W.b2; omega)),W.b1,W.b2⟩ (.of e (.inl rfl)) e.1
theorem ZW.mark1 {Q:Unit->Shared->Prop} (W:ZW n k1 k2 l1 l2 i1 i2 xs ys f0 f1 a b s.heap) (hQ:∀ h',ZW n k1 k2 l1 l2 i1 i2 xs ys f0 v a b h'->Bx n s.heap h'->h'.objs.size=s.heap.objs.size->Q () { s with heap:=h' }):wpAny (model prog w) A (setField (.ref (n+4)) 1 v) Q E s:=
 wpAny_setField_rec W.z (by simp) λh' g e=>hQ h' ⟨g,e.extBut _ _ (ap wF) W.ti,e.extBut _ _ (ap wF) W.to,W.w1.at λo=>e.extBut _ _ (ap wF),W.w2.at λo=>e.extBut _ _ (ap wF),W.s1.at λo=>e.extBut _ _ (ap (by have:=W.b1; omega)),W.s2.at λo=>e.extBut _ _ (ap (by have:=W.b2; omega)),W.b1,W.b2⟩ (.of e (.inl rfl)) e.1
theorem ZW.put {j:Nat} {Q:Unit->Shared->Prop} (W:ZW n k1 k2 l1 l2 i1 i2 xs ys f0 f1 a b s.heap) (hQ:∀ h',ZW n k1 k2 l1 l2 i1 i2 xs ys f0 f1 (if j=0 then v else a) (if j=1 then v else b) h'->Bx n s.heap h'->h'.objs.size=s.heap.objs.size->Q () { s with heap:=h' }):wpAny (model prog w) A (updateSeq (n+3) (·.setIfInBounds j v)) Q E s:=
 wpAny_updateSeq_pair W.to λh' g e=>hQ h' ⟨e.extBut _ _ (ap wF) W.z,e.extBut _ _ (ap wF) W.ti,by rw [g]; match j with | 0=>rfl | 1=>rfl | _+2=>rfl,W.w1.at λo=>e.extBut _ _ (ap wF),W.w2.at λo=>e.extBut _ _ (ap wF),W.s1.at λo=>e.extBut _ _ (ap (by have:=W.b1; omega)),W.s2.at λo=>e.extBut _ _ (ap (by have:=W.b2; omega)),W.b1,W.b2⟩ (.of e (.inr (.inl rfl))) e.1
theorem ZW.draw1 {x:Value} {Q:Value->Shared->Prop} (W:ZW n k1 k2 l1 l2 i1 i2 xs ys f0 f1 a b s.heap) (hx:xs[i1]?=some x) (hQ:∀ h',ZW n k1 k2 l1 l2 (i1+1) i2 xs ys f0 f1 a b h'->Bx n s.heap h'->h'.objs.size=s.heap.objs.size->Q x { s with heap:=h' }):wpAny (model prog w) A (Builtin.SmallTypes.nextOf (.ref n)) Q E s:=
 J3 W.w1 W.s1 hx λh' g e=>hQ h' ⟨e.extBut _ _ (ap wF) W.z,e.extBut _ _ (ap wF) W.ti,e.extBut _ _ (ap wF) W.to,g,W.w2.at λo=>e.extBut _ _ (ap wF),W.s1.at λo=>e.extBut _ _ (ap (by have:=W.b1; omega)),W.s2.at λo=>e.extBut _ _ (ap (by have:=W.b2; omega)),W.b1,W.b2⟩ (.of e (.inr (.inr (.inl rfl)))) e.1
theorem ZW.draw2 {y:Value} {Q:Value->Shared->Prop} (W:ZW n k1 k2 l1 l2 i1 i2 xs ys f0 f1 a b s.heap) (hy:ys[i2]?=some y) (hQ:∀ h',ZW n k1 k2 l1 l2 i1 (i2+1) xs ys f0 f1 a b h'->Bx n s.heap h'->h'.objs.size=s.heap.objs.size->Q y { s with heap:=h' }):wpAny (model prog w) A (Builtin.SmallTypes.nextOf (.ref (n+1))) Q E s:=
 J3 W.w2 W.s2 hy λh' g e=>hQ h' ⟨e.extBut _ _ (ap wF) W.z,e.extBut _ _ (ap wF) W.ti,e.extBut _ _ (ap wF) W.to,W.w1.at λo=>e.extBut _ _ (ap wF),g,W.s1.at λo=>e.extBut _ _ (ap (by have:=W.b1; omega)),W.s2.at λo=>e.extBut _ _ (ap (by have:=W.b2; omega)),W.b1,W.b2⟩ (.of e (.inr (.inr (.inr rfl)))) e.1
def ZF (f0:Value):Prop:=f0=.none\/∃ c:Nat,f0=rawInt (c:Int)
theorem RP {M:Model} {c:Addr} {Q:Option Obj->Shared->Prop} (h:Q (s.heap.get? c) s):wpAny M A (loadIfAlive c) Q E s:=λ_ _ _=>h
theorem ZW.free {Q:Bool->Shared->Prop} (W:ZW n k1 k2 l1 l2 i1 i2 xs ys f0 f1 a b s.heap) (hf:ZF f0) (y:Q true s) (z:∀ h' f,ZW n k1 k2 l1 l2 i1 i2 xs ys f0 f a b h'->Bx n s.heap h'->h'.objs.size=s.heap.objs.size->Q false { s with heap:=h' }):wpAny (model prog w) A (Builtin.SmallTypes.ownedTupleIsFree (.ref (n+4))) Q E s:=by
 obtain ⟨h,g,d,tk,os⟩:=s
 have hz:=W.z
 dsimp only at hz
 rcases hf with rfl | ⟨c,rfl⟩
 ·wp_walk
  exact y
 ·wp_walk using RP
  cases h.get? (Int.toNat (c:Int)) with
  | none=>wp_walk; exact y
  | some o=>
   by_cases m:f1=.bool true
   ·subst m
    wp_walk
    exact z _ _ W (Bx.refl _ _) rfl
   ·wp_walk using W.mark1
    exact λh' V o1 o2=>wpAny_pure (z h' _ V o1 o2)
theorem MC {M:Model} {β:Type} {x y:Value} {b:β} {f:Value->β->Sem (ForInStep β)} {Q:β->Shared->Prop} (h:wpAny M A (forIn [x,y] b f) Q E s):wpAny M A (forIn #[x,y] b f) Q E s:=by
 rw [<- Array.forIn_toList]; exact h
theorem ZW.more {h:Heap} {o:Obj} (W:ZW n k1 k2 l1 l2 i1 i2 xs ys f0 f1 a b h):ZW n k1 k2 l1 l2 i1 i2 xs ys f0 f1 a b (h.push o):=
 have e:∀ c u,h.get? c=some u->(h.push o).get? c=some u:=λc u q=>Heap.get?_push_of_some _ q
 ⟨e _ _ W.z,e _ _ W.ti,e _ _ W.to,W.w1.at (e _),W.w2.at (e _),W.s1.at (e _),W.s2.at (e _),W.b1,W.b2⟩
theorem Bx.more {h h':Heap} {o:Obj} (p:Bx n h h'):Bx n h (h'.push o):=p.on λc u _ _ _ _ q=>Heap.get?_push_of_some _ q
theorem Se {i:Nat} {x y:Value} {Q:Value->Shared->Prop} (W:ZW n k1 k2 l1 l2 i i xs ys f0 f1 a b s.heap) (hf:ZF f0) (hx:xs[i]?=some x) (hy:ys[i]?=some y)
  (hQ:∀ h' f0' f1' a' b',ZW n k1 k2 l1 l2 (i+1) (i+1) xs ys f0' f1' a' b' h'->ZF f0'->IsPair h' s.heap.objs.size x y->Bx n s.heap h'->Q (.ref s.heap.objs.size) { s with heap:=h' }) :
  wpAny (model prog w) A (Builtin.«zip.__next__» ⟨[.ref (n+4)],[]⟩) (λfin s'=>∃ v,fin=.done (.ret v)/\Q v s') E s:=by
 obtain ⟨h,g,d,tk,os⟩:=s
 dsimp only at W hQ
 have z:=W.z
 have t:=W.ti
 have ok:∀ h4:Heap,h4.objs.size=h.objs.size->∀ v,(h4.push v).objs.size=h.objs.size+1:=λh4 e v=>by rw [Heap.size_push,e]
 have lt:n+4<h.objs.size:=Heap.lt_size z
 wp_walk using W.free hf,W.mark0
 ·-- the pair is used again
  intro h1 W1 o1 z1
  have t1:=W1.to
  wp_walk using wpAny_onRaise,W1.draw1 hx
  intro h2 W2 o2 z2
  have t2:=W2.to
  wp_walk using W2.put
  intro h3 W3 o3 z3
  wp_walk using wpAny_onRaise,W3.draw2 hy
  intro h4 W4 o4 z4
  have t4:=W4.to
  wp_walk using W4.put
  intro h5 W5 o5 z5
  have t5:=W5.to
  wp_walk using W5.more.mark0
  intro h6 W6 o6 z6
  wp_walk using W6.mark1
  intro h7 W7 o7 z7
  wp_walk
  have ol:Bx n h h5:=o1.on (o2.on (o3.on (o4.on o5)))
  have zl:h5.objs.size=h.objs.size:=z5.trans (z4.trans (z3.trans (z2.trans z1)))
  have pr:IsPair (h5.push { cls:=.type "tuple",data:=.seq #[x,y] }) h5.objs.size x y:=Heap.get?_push_size _ rfl
  have fin:=hQ h7 _ _ _ _ W7 (.inr ⟨_,rfl⟩)
  rw [<- zl] at fin
  have far:∀ j,j<=4->h5.objs.size≠n+j:=λj hj=>by omega
  exact ⟨_,rfl,fin (o7 _ _ (far 4 wE) (far 3 wE) (far 0 wE) (far 1 wE) (o6 _ _ (far 4 wE) (far 3 wE) (far 0 wE) (far 1 wE) pr)) (ol.more.on (o6.on o7))⟩
 ·intro h1 f W1 o1 z1
  wp_walk using MC,W1.draw1 hx
  intro h2 W2 o2 z2
  wp_walk using W2.draw2 hy
  intro h3 W3 o3 z3
  wp_walk
  have zl:h3.objs.size=h.objs.size:=z3.trans (z2.trans z1)
  have fin:=hQ (h3.push { cls:=.type "tuple",data:=.seq #[x,y] }) _ _ _ _ W3.more hf
  rw [<- zl] at fin
  exact ⟨_,rfl,fin (Heap.get?_push_size _ rfl) (o1.on (o2.on o3)).more⟩
def ZE (n:Nat) (h:Heap) (f0 f1:Value) (h':Heap) (e:Addr):Prop:=h'.get? (n+4)=some (HQ n f0 f1)/\Bx n h h'/\∃ o,h'.get? e=some o/\o.cls=.type "StopIteration"
theorem ZW.end1 {Q:Value->Shared->Prop} (hh:A.handled=none) (W:ZW n k1 k2 l1 l2 i1 i2 xs ys f0 f1 a b s.heap) (hx:xs[i1]?=none) (hE:∀ h' e,ZE n s.heap f0 f1 h' e->E (.ref e) { s with heap:=h' }):wpAny (model prog w) A (Builtin.SmallTypes.nextOf (.ref n)) Q E s:=
 J4 hh W.w1 W.s1 hx λh' e x y=>hE h' e ⟨x _ _ (ap wF) W.z,λc o _ _ c3 _ q=>x c o c3 q,y⟩
theorem ZW.end2 {Q:Value->Shared->Prop} (hh:A.handled=none) (W:ZW n k1 k2 l1 l2 i1 i2 xs ys f0 f1 a b s.heap) (hy:ys[i2]?=none) (hE:∀ h' e,ZE n s.heap f0 f1 h' e->E (.ref e) { s with heap:=h' }):wpAny (model prog w) A (Builtin.SmallTypes.nextOf (.ref (n+1))) Q E s:=
 J4 hh W.w2 W.s2 hy λh' e x y=>hE h' e ⟨x _ _ (ap wF) W.z,λc o _ _ _ c4 q=>x c o c4 q,y⟩
theorem Sf {i:Nat} {Q:PySem.Fin->Shared->Prop} (hh:A.handled=none) (W:ZW n k1 k2 l1 l2 i i xs ys f0 f1 a b s.heap) (hf:ZF f0) (he:xs[i]?=none\/ys[i]?=none)
  (hE:∀ h' e,Bx n s.heap h'->(∃ o,h'.get? e=some o/\o.cls=.type "StopIteration")->E (.ref e) { s with heap:=h' }) :
  wpAny (model prog w) A (Builtin.«zip.__next__» ⟨[.ref (n+4)],[]⟩) Q E s:=by
 obtain ⟨h,g,d,tk,os⟩:=s
 dsimp only at W hE
 have z:=W.z
 have t:=W.ti
 have hb:∀ h1 h2 e f,Bx n h h1->ZE n h1 f f1 h2 e->wpAny (model prog w) A (setField (.ref (n+4)) 0 .none) (λ_ s'=>E (.ref e) s') E ⟨h2,g,d,tk,os⟩:=λh1 h2 e f p ⟨g2,p2,o,q,c⟩=>
  wpAny_setField_rec g2 (by simp [HQ]) λh3 g3 e3=>hE h3 e (p.on (p2.on (.of e3 (.inl rfl)))) ⟨o,e3.extBut _ _ (λx=>by subst x; rw [g2] at q; cases q; simp [HQ] at c) q,c⟩
 wp_walk using W.free hf,W.mark0
 ·intro h1 W1 o1 z1
  have t1:=W1.to
  cases hx:xs[i]? with
  | none=>
   wp_walk using wpAny_onRaise,W1.end1 hh hx
   exact λh2 e q=>hb h1 h2 e _ o1 q
  | some x=>
   have hy:ys[i]?=none:=he.resolve_left (by rw [hx]; simp)
   wp_walk using wpAny_onRaise,W1.draw1 hx
   intro h2 W2 o2 z2
   have t2:=W2.to
   wp_walk using W2.put
   intro h3 W3 o3 z3
   wp_walk using wpAny_onRaise,W3.end2 hh hy
   exact λh4 e q=>hb h3 h4 e _ (o1.on (o2.on o3)) q
 ·intro h1 f W1 o1 z1
  cases hx:xs[i]? with
  | none=>
   wp_walk using MC,W1.end1 hh hx
   exact λh2 e q=>hE h2 e (o1.on q.2.1) q.2.2
  | some x=>
   have hy:ys[i]?=none:=he.resolve_left (by rw [hx]; simp)
   wp_walk using MC,W1.draw1 hx
   intro h2 W2 o2 z2
   wp_walk using W2.end2 hh hy
   exact λh3 e q=>hE h3 e (o1.on (o2.on q.2.1)) q.2.2
end
section
variable {prog:Program} {w:World} {A:Around} {E:Value->Shared->Prop} {s:Shared} {n l1 l2 i1 i2 i:Nat} {k1 k2:Bool} {xs ys:Array Value} {f0 f1 a b v:Value}
theorem IN {T id:String} {bi:Builtin} {Q:Option Value->Shared->Prop} (hT:s.TypeIs v T) (sl:Slot T (Str.ofString "__next__") id) (en:entryFor table id=some bi) (ok:argsOk id ⟨[v],[]⟩)
  (h:wpAny (model prog w) A.in1 (bi ⟨[v],[]⟩) (λfin s'=>∃ x,fin=.done (.ret x)/\Q (some x) s') (λe s'=>s'.TypeIs e "StopIteration" /\ Q none s') s):wpAny (model prog w) A (pyNext v) Q E s:=
 wpAny_bind (wpAny_attempt (wpAny_callSpecial?_slot hT sl (wpAny_call_entry sl hT en (wpAny_mono h (λfin s' ⟨x,e,q⟩=>⟨x,e,wpAny_pure q⟩) λe s' ⟨t,q⟩=>wpAny_bind (wpAny_isInstance (T := "StopIteration") (b:=true) t isSubtype_stop (wpAny_pure q))) ok)))
def Fm (k1 k2:Bool) (n l1 l2 i:Nat) (h:Heap):Prop:=∃ f0 f1 a b,ZF f0/\h.get? (n+4)=some (HQ n f0 f1)/\IsPair h (n+2) (.ref n) (.ref (n+1))/\IsPair h (n+3) a b/\Cw k1 h n l1 i/\Cw k2 h (n+1) l2 i
theorem ZW.tn {h:Heap} (W:ZW n k1 k2 l1 l2 i i xs ys f0 f1 a b h) (hf:ZF f0):Fm k1 k2 n l1 l2 i h:=⟨f0,f1,a,b,hf,W.z,W.ti,W.to,W.w1,W.w2⟩
theorem Yf {x y:Value} {Q:Option Value->Shared->Prop} (W:ZW n k1 k2 l1 l2 i i xs ys f0 f1 a b s.heap) (hf:ZF f0) (hx:xs[i]?=some x) (hy:ys[i]?=some y)
  (hQ:∀ h' f0' f1' a' b',ZW n k1 k2 l1 l2 (i+1) (i+1) xs ys f0' f1' a' b' h'->ZF f0'->IsPair h' s.heap.objs.size x y->Bx n s.heap h'->Q (some (.ref s.heap.objs.size)) { s with heap:=h' }):wpAny (model prog w) A (pyNext (.ref (n+4))) Q E s:=
 IN ⟨_,W.z,rfl⟩ F.slot_zip_next F.entry_zip_next (F.args_zip_next_1 _) (Se (Q:=λv s'=>Q (some v) s') W hf hx hy hQ)
theorem Ye {Q:Option Value->Shared->Prop} (hh:A.handled=none) (W:ZW n k1 k2 l1 l2 i i xs ys f0 f1 a b s.heap) (hf:ZF f0) (he:xs[i]?=none\/ys[i]?=none) (hQ:∀ h',Bx n s.heap h'->Q none { s with heap:=h' }):wpAny (model prog w) A (pyNext (.ref (n+4))) Q E s:=
 IN ⟨_,W.z,rfl⟩ F.slot_zip_next F.entry_zip_next (F.args_zip_next_1 _) (Sf hh W hf he λh' e p q=>⟨q,hQ h' p⟩)
theorem Zf {tg:Expr} {u:Value} {Q:Unit->Shared->Prop} (W:ZW n k1 k2 l1 l2 i1 i2 xs ys f0 f1 a b s.heap) (hf:ZF f0) (hQ:∀ h' f,ZW n k1 k2 l1 l2 i1 i2 xs ys f f1 a b h'->ZF f->Bx n s.heap h'->Q () { s with heap:=h' }):wpAny (model prog w) A (letOwnedTupleGo tg (.ref (n+4)) u) Q E s:=by
 have same:Q () s:=hQ s.heap _ W hf (Bx.refl _ _)
 obtain ⟨h,g,d,tk,os⟩:=s
 have z:=W.z
 dsimp only at z
 unfold letOwnedTupleGo
 cases tg <;> try exact wpAny_pure same
 all_goals cases u <;> try exact wpAny_pure same
 all_goals
  wp_walk
  split
  ·exact wpAny_bind (wpAny_rule (W.mark0 (s:=⟨h,g,d,tk,os⟩) (v:=.none) λh' V o z=>hQ h' _ V (.inl rfl) o))
  ·exact wpAny_pure same
theorem PP {T id nid:String} {bi:Builtin} {Q:Value->Shared->Prop} (hT:s.TypeIs v T) (sl:Slot T (Str.ofString "__iter__") id) (en:entryFor table id=some bi) (ok:argsOk id ⟨[v],[]⟩) (nx:Slot T (Str.ofString "__next__") nid)
  (h:wpAny (model prog w) A.in1 (bi ⟨[v],[]⟩) (λfin s'=>fin=.done (.ret v)/\s'=s) E s) (q:Q v s):wpAny (model prog w) A (pyIter v) Q E s:=
 wpAny_pyIter_slot hT sl (wpAny_call_entry sl hT en (wpAny_mono h (λfin s' ⟨e1,e2⟩=>⟨v,e1,T,_,by rw [e2]; exact hT,nx.lookup,by rw [e2]; exact q⟩) λ_ _ e=>e) ok)
theorem Mr {k:Bool} {l:Addr} {Q:Value->Shared->Prop} (t:BH k s.heap l xs) (hQ:∀ o,o.isFreed=false->(∀ h:Heap,∀ c,h.get? c=some o->Cw k h c l 0)->Q (.ref s.heap.objs.size) { s with heap:=s.heap.push o }):wpAny (model prog w) A (pyIter (.ref l)) Q E s:=
 match k with
 | true=>wpAny_pyIter_list t (hQ _ rfl λh c e=>⟨_,e,rfl,rfl⟩)
 | false=>wpAny_pyIter_tuple t (hQ _ rfl λh c e=>⟨_,e,rfl,rfl⟩)
end
theorem YF (h:Heap) (a b c d e:Obj) (fa:a.isFreed=false) (fb:b.isFreed=false) (fc:c.isFreed=false) (fd:d.isFreed=false) (fe:e.isFreed=false) :
  let m:=((((h.push a).push b).push c).push d).push e
  m.get? h.objs.size=some a/\m.get? (h.objs.size+1)=some b/\m.get? (h.objs.size+2)=some c/\m.get? (h.objs.size+3)=some d/\m.get? (h.objs.size+4)=some e/\∀ x o,h.get? x=some o->m.get? x=some o:=by
 have up:∀ (k:Heap) (o:Obj) x u,k.get? x=some u->(k.push o).get? x=some u:=λk o x u q=>Heap.get?_push_of_some _ q
 have at_:∀ (k:Heap) (o:Obj) x,o.isFreed=false->x=k.objs.size->(k.push o).get? x=some o:=λk o x f q=>by rw [q]; exact Heap.get?_push_size _ f
 exact ⟨up _ _ _ _ (up _ _ _ _ (up _ _ _ _ (up _ _ _ _ (at_ _ _ _ fa rfl)))),up _ _ _ _ (up _ _ _ _ (up _ _ _ _ (at_ _ _ _ fb (by simp [Heap.size_push])))),up _ _ _ _ (up _ _ _ _ (at_ _ _ _ fc (by simp [Heap.size_push]))),up _ _ _ _ (at_ _ _ _ fd (by simp [Heap.size_push])),at_ _ _ _ fe (by simp [Heap.size_push]),λx o q=>up _ _ _ _ (up _ _ _ _ (up _ _ _ _ (up _ _ _ _ (up _ _ _ _ q))))⟩
theorem Sd (k1 k2:Bool) (l1 l2:Addr) (xs ys:Array Value) :
  Meets (Builtin.«zip.__new__» ⟨[.type "zip",.ref l1,.ref l2],[]⟩) (λ_ R s=>BH k1 s.heap l1 xs/\BH k2 s.heap l2 ys /\
   ∀ h',ZW s.heap.objs.size k1 k2 l1 l2 0 0 xs ys .none (.bool false) .none .none h'->(∀ c o,s.heap.get? c=some o->h'.get? c=some o)->R (.ok (.ret (.ref (s.heap.objs.size+4)))) { s with heap:=h' }):=
 .of_wp λprog w A R s q=>by
  obtain ⟨h,g,d,tk,os⟩:=s
  obtain ⟨t1,t2,q⟩:=q
  have hsub:=sub_zip
  have lt:∀ {k:Bool} {l:Addr} {zs:Array Value},BH k h l zs->l<h.objs.size:=λ{k l zs} q=>by
   cases k with
   | true=>obtain ⟨o,g,_⟩:=(q:h.IsList l zs); exact Heap.lt_size g
   | false=>obtain ⟨o,g,_⟩:=(q:h.IsTuple l zs); exact Heap.lt_size g
  have p1:=lt t1
  have p2:=lt t2
  wp_walk using Mr t1
  intro a1 f1 i1
  wp_walk using Mr (s:=⟨h.push a1,g,d,tk,os⟩) (t2.at λo e=>Heap.get?_push_of_some _ e)
  intro a2 f2 i2
  wp_walk
  simp only [Heap.size_push,Nat.add_assoc,Nat.reduceAdd]
  obtain ⟨e0,e1,e2,e3,e4,up⟩:=YF h a1 a2 { cls:=.type "tuple",data:=.seq #[.ref h.objs.size,.ref (h.objs.size+1)] } { cls:=.type "tuple",data:=.seq #[.none,.none] } { cls:=.type "zip",data:=.fields #[.none,.bool false,.bool false,.ref (h.objs.size+2),.ref (h.objs.size+3)] } f1 f2 rfl rfl rfl
  exact ⟨_,rfl,q _ ⟨e4,e2,e3,i1 _ _ e0,i2 _ _ e1,t1.at (up _),t2.at (up _),p1,p2⟩ up⟩
theorem Q0x {prog:Program} {w:World} {A:Around} {E:Value->Shared->Prop} {s:Shared} {k1 k2:Bool} {l1 l2:Addr} {xs ys:Array Value} {Q:Value->Shared->Prop} (t1:BH k1 s.heap l1 xs) (t2:BH k2 s.heap l2 ys)
  (hQ:∀ h',Fm k1 k2 s.heap.objs.size l1 l2 0 h'->(∀ c o,s.heap.get? c=some o->h'.get? c=some o)->Q (.ref (s.heap.objs.size+4)) { s with heap:=h' }) :
  wpAny (model prog w) A (call (.type "zip") [.ref l1,.ref l2]) Q E s:=
 callType_new F.called_zip wE (F.typeCall_zip_2 _ _) (F.newCall_zip_2 _ _) (λobj=>F.args_object_init_3 obj _ _) F.entry_zip_new (Sd k1 k2 l1 l2 xs ys) ⟨t1,t2,λh' W up=>⟨⟨_,W.z,rfl⟩,hQ h' (W.tn (.inl rfl)) up⟩⟩
def Sq (k:Bool) (K:PySem.W.Frag) (H:Hp) (a:Addr) (xs:List V):Prop:=if k then A8 K H a xs else Bc K H a xs
def Nm (k1 k2:Bool) (K:PySem.W.Frag) (l1 l2:Addr):It:=
  ⟨λi H=>∃ as bs a b,Sq k1 K H l1 as/\Sq k2 K H l2 bs/\as[i]?=some a/\bs[i]?=some b,
   λi H x H'=>∃ T a b,H T=none/\H'=Ao H T (.tup [a,b])/\x=.ref T/\(∀ as,Sq k1 K H l1 as->as[i]?=some a)/\∀ bs,Sq k2 K H l2 bs->bs[i]?=some b,
   λi H=>∃ as bs,Sq k1 K H l1 as/\Sq k2 K H l2 bs/\(as.length<=i\/bs.length<=i)⟩
section
variable {X:Cx} {pins:List (Addr×Obj)} {σ:L2.St} {H:Hp} {s:Shared} {k:Bool} {a:Addr} {xs ys:List V}
theorem D0 (I:L2.Inv X pins σ H s) (h:Sq k X.K H a xs):∃ its:List Value,Ay xs its/\BH k s.heap a its.toArray/\xs.length<=sizeLine:=by
 cases k with
 | true=>obtain ⟨its,v,p,z⟩:=I.list h; exact ⟨its,v,p.isList,z⟩
 | false=>obtain ⟨its,v,p,z⟩:=I.tuple h; exact ⟨its,v,(p:IsTup _ _ _),z⟩
theorem Nr (I:L2.Inv X pins σ H s) (h:Sq k X.K H a xs) (h':Sq k X.K H a ys):xs=ys:=by
 cases k with
 | true=>exact I.list_inj h h'
 | false=>exact I.tuple_inj h h'
end
theorem JD {X:Cx} {pins:List (Addr×Obj)} {σ:L2.St} {H:Hp} {s:Shared} {h':Heap} {t':Nat} {fp:List Addr} (I:L2.Inv X pins σ H s) (hf:∀ b∈fp,B2 X pins H b) (k:∀ b o,b∉fp->s.heap.get? b=some o->h'.get? b=some o):L2.Inv X pins σ H { s with heap:=h',toks:=t' }:=by
 have nit:∀ b u,H b=some u->b∉fp:=λb u e z=>by rw [(hf b z).1] at e; cases e
 refine I.step (g':=s.gens) (d':=s.drawn) (ch:=fp) (λb hb=>?_) (λb o _ _ hc e _=>k b o hc e) (λb o _ _ hc e _=>⟨o.slots,k b o hc e⟩) (λ_ _ _ _ n=>n) (λb o hc e=>⟨o,k b o hc e⟩) (λ_ _ e=>e) (λ_ _ _ e=>e) (λb ps e=>⟨#[],by rw [e]; simp⟩) (λm hm=>?_) (λb u e=>?_) I.bare
 ·obtain ⟨f0,f1,f2,f3,f4,f5⟩:=hf b hb
  exact ⟨f3,f1,f4,f5⟩
 ·obtain ⟨o,es,ep,ho,r⟩:=hm
  exact ⟨o,es,ep,k _ o (λz=>(hf _ z).2.1 rfl) ho,r⟩
 ·refine (I.hok b u e).stay (λc v hc q=>k c v ?_ q) (λ_ q=>q) λ_ _ q=>q
  rcases hc with z | z
  ·rw [z]; exact nit b u e
  ·exact nit c _ z
theorem R1 {X:Cx} {pins:List (Addr×Obj)} {σ:L2.St} {H:Hp} {s:Shared} {T:Addr} {o:HO} (I:L2.Inv X pins σ H s) (hT:B2 X pins H T) (hs:X.s₀.heap.objs.size<=T) (new:BW X.prog X.w (Ao H T o) s.heap T o):L2.Inv X pins σ (Ao H T o) s:=by
 obtain ⟨f0,f1,f2,f3,f4,f5⟩:=hT
 have ne:∀ b u,H b=some u->b≠T:=λb u e z=>by rw [z,f0] at e; cases e
 have sn:∀ b o,X.s₀.heap.get? b=some o->b≠T:=λb o e=>Nat.ne_of_lt (Nat.lt_of_lt_of_le (Heap.lt_size e) hs)
 exact ⟨I.ok,I.os,I.bare,⟨I.base.keep,I.base.slot,λb ob q n hx=>by rw [AJ (sn b ob q)]; exact I.base.free b ob q n hx,I.base.there,λb xs q=>by have e:=I.base.tups b xs q; rw [AJ (ne b _ e)]; exact e,λb ob u q=>by have e:=I.base.frzs b ob u q; rw [AJ (ne b _ e)]; exact e,λb ps q=>by obtain ⟨m,e⟩:=I.base.tbls b ps q; exact ⟨m,by rw [AJ (ne b _ e)]; exact e⟩⟩,
  I.loc,I.cell,by rw [AJ (Ne.symm f1)]; exact I.free,λx c e=>by rw [AJ (f4 x c e)]; exact I.freeC x c e,λp hp=>by obtain ⟨a,b,c⟩:=I.pin p hp; exact ⟨a,by rw [AJ (f5 p hp)]; exact b,c⟩,R4 I.hok f0 new,I.len⟩
def B9 (n:Nat):List Addr:=[n,n+1,n+2,n+3,n+4]
theorem Sa {k1 k2:Bool} {n l1 l2 i:Nat} {h h':Heap} (st:Fm k1 k2 n l1 l2 i h) (k:∀ b∈B9 n,∀ o,h.get? b=some o->h'.get? b=some o):Fm k1 k2 n l1 l2 i h':=by
 obtain ⟨f0,f1,a,b,hf,z,ti,to,w1,w2⟩:=st
 exact ⟨f0,f1,a,b,hf,k _ (by simp [B9]) _ z,k _ (by simp [B9]) _ ti,k _ (by simp [B9]) _ to,w1.at (k _ (by simp [B9])),w2.at (k _ (by simp [B9]))⟩
theorem Ny {k1 k2:Bool} {n l1 l2 i:Nat} {h:Heap} (st:Fm k1 k2 n l1 l2 i h):∀ b∈B9 n,∃ o,h.get? b=some o/\∀ v,o.data≠.cell v:=by
 obtain ⟨f0,f1,a,b,hf,z,ti,to,w1,w2⟩:=st
 have all:∀ P:Addr->Prop,P n->P (n+1)->P (n+2)->P (n+3)->P (n+4)->∀ b∈B9 n,P b:=λP p0 p1 p2 p3 p4 b hb=>by
  simp only [B9,List.mem_cons,List.not_mem_nil,or_false] at hb
  rcases hb with rfl | rfl | rfl | rfl | rfl <;> assumption
 exact all _ w1.obj w2.obj ⟨_,ti,λv e=>by cases e⟩ ⟨_,to,λv e=>by cases e⟩ ⟨_,z,λv e=>by cases e⟩
theorem HP {n:Nat} {c:Addr} (h:c∉B9 n):c≠n+4/\c≠n+3/\c≠n/\c≠n+1:=
 ⟨λe=>h (by simp [B9,e]),λe=>h (by simp [B9,e]),λe=>h (by simp [B9,e]),λe=>h (by simp [B9,e])⟩
theorem Bx.fp {n:Nat} {h h':Heap} (p:Bx n h h'):∀ c o,c∉B9 n->h.get? c=some o->h'.get? c=some o:=λc o hc=>p c o (HP hc).1 (HP hc).2.1 (HP hc).2.2.1 (HP hc).2.2.2
theorem SR {P:Program} {w:World} {K:PySem.W.Frag} {tg:Expr} (k1 k2:Bool) (n l1 l2:Nat) (hl1:l1<n) (hl2:l2<n):Fb P w K tg (Nm k1 k2 K l1 l2) (B9 n) (n+4) (Fm k1 k2 n l1 l2) where
 mem:=by simp [B9]
 obj:=λi h st=>Ny st
 keep:=λi h h' st k=>Sa st k
 item:=by
  intro X hP hw hK hc i pins s σ H E I hf st hg
  subst hP hw hK
  obtain ⟨as,bs,a,b,q1,q2,ga,gb⟩:=hg
  obtain ⟨ia,va,sa,_⟩:=D0 I q1
  obtain ⟨ib,vb,sb,_⟩:=D0 I q2
  obtain ⟨ua,hua,rua⟩:=va.get ga
  obtain ⟨ub,hub,rub⟩:=vb.get gb
  have hTn:s.heap.objs.size∉B9 n:=λm=>let ⟨o,e,_⟩:=Ny st _ m; Nat.lt_irrefl _ (Heap.lt_size e)
  obtain ⟨f0,f1,a0,b0,zf,z,ti,to,w1,w2⟩:=st
  refine Yf (x:=ua) (y:=ub) ⟨z,ti,to,w1,w2,sa,sb,hl1,hl2⟩ zf (by simpa using hua) (by simpa using hub) λh1 f0' f1' a' b' W1 zf1 pr o1=>⟨_,rfl,Zf (s:={ s with heap:=h1 }) W1 zf1 λh2 f W2 zf2 o2=>?_⟩
  have Iz:L2.Inv X pins σ H { s with heap:=h2,toks:=s.toks }:=JD I hf (o1.on o2).fp
  have fr:H s.heap.objs.size=none:=I.hok.fresh (Nat.le_refl _)
  refine ⟨.ref s.heap.objs.size,Ao H s.heap.objs.size (.tup [a,b]),?_,rfl,⟨_,a,b,fr,rfl,rfl,λcs q=>?_,λcs q=>?_⟩,W2.tn zf2,λc hb=>?_⟩
  ·refine R1 Iz (I.fpOk (Nat.le_refl _) fr) I.sz ⟨show 2<=sizeLine by decide,[ua,ub],.cons rua (.cons rub .nil),?_⟩
   exact ⟨_,o2.fp _ _ hTn pr,rfl,rfl,_,rfl⟩
  ·rw [Nr I q q1]; exact ga
  ·rw [Nr I q q2]; exact gb
  ·rw [AJ (λe=>hTn (by rw [<- e]; exact hb))]; exact (hf c hb).1
 done:=by
  intro X hP hw hK hc i pins s σ H E I hf st hg
  subst hP hw hK
  obtain ⟨as,bs,q1,q2,hend⟩:=hg
  obtain ⟨ia,va,sa,_⟩:=D0 I q1
  obtain ⟨ib,vb,sb,_⟩:=D0 I q2
  obtain ⟨f0,f1,a0,b0,zf,z,ti,to,w1,w2⟩:=st
  have e1:=va.length
  have e2:=vb.length
  exact Ye (I.ok.hd hc) ⟨z,ti,to,w1,w2,sa,sb,hl1,hl2⟩ zf (hend.imp (λe=>by simp; omega) λe=>by simp; omega) λh' p=>⟨rfl,JD (t':=s.toks) I hf p.fp⟩
 self:=λA i s Q E st h=>by
  obtain ⟨f0,f1,a0,b0,zf,z,_⟩:=st
  exact PP ⟨_,z,rfl⟩ F.slot_zip_iter F.entry_zip_iter (F.args_zip_iter_1 _) F.slot_zip_next (wpAny_pure ⟨rfl,rfl⟩) h
end DL
set_option maxHeartbeats 1000000
namespace DL
open PySem PySem.Spec PyProof.Rows L2 PySem.W
def LF (d:D) (xs:List D):Prop:=d=.lst xs\/d=.scr xs\/d=.tup xs
theorem Sq.same {k:Bool} {K:PySem.W.Frag} {H H':Hp} {a:Addr} {xs:List V} (e:Bl H H') (h:Sq k K H a xs):Sq k K H' a xs:=by
 cases k with
 | true=>exact e.seq h
 | false=>exact Dm e h
theorem LF.sq {K:PySem.W.Frag} {G:Wd} {d:D} {xs:List D} {v:V} (h:LF d xs) (i:Is K G d v):∃ k a vs,v=.ref a/\Sq k K G.g a vs/\Ak K G xs vs:=by
 rcases h with rfl | rfl | rfl
 ·cases i with | lst h r=>exact ⟨true,_,_,rfl,A8.of h,r⟩
 ·cases i with | scr h r=>exact ⟨true,_,_,rfl,h,r⟩
 ·cases i with | tup h r=>exact ⟨false,_,_,rfl,h,r⟩
def GA (X:Cx) (ρ:Ai) (O:Ae) (e:Expr) (xs:List D) (T:String):Prop:=
 ∀ (G:Wd) (tg:Expr) (pins:List (Addr×Obj)) (s:Shared) (σ:L2.St) (H:Hp) (R:It->Hp->Prop),L2.Inv X pins σ H s->SA X.K G H O->Ax X.K G σ ρ->(∀ J G' H',Ah G G'->SA X.K G' H' O->DW X.K G' J xs->R J H')->
  wpAny (model X.prog X.w) X.A (eval e X.env) (λv s1=>Ni X pins σ tg R v s1/\s1.TypeIs v T) X.xe s
def Fo (xs ys:List D):List D:=List.zipWith (λa b=>.tup [a,b]) xs ys
theorem YQ {K:PySem.W.Frag} {G:Wd} {k1 k2:Bool} {l1 l2:Addr} {vs us:List V} {xs ys:List D} (h1:Sq k1 K G.g l1 vs) (h2:Sq k2 K G.g l2 us) (r1:Ak K G xs vs) (r2:Ak K G ys us):DW K G (Nm k1 k2 K l1 l2) (Fo xs ys) where
 go:=λi H e hi=>by
  have hi:i<min xs.length ys.length:=by simpa [Fo] using hi
  obtain ⟨a,ha,_⟩:=r1.get (i:=i) (d:=xs[i]'wF) (by simp)
  obtain ⟨b,hb,_⟩:=r2.get (i:=i) (d:=ys[i]'wF) (by simp)
  exact ⟨vs,us,a,b,h1.same e,h2.same e,ha,hb⟩
 stop:=λi H e hi=>by
  have hi:min xs.length ys.length<=i:=by simpa [Fo] using hi
  have e1:=r1.length
  have e2:=r2.length
  exact ⟨vs,us,h1.same e,h2.same e,by omega⟩
 yld:=λi v H H' G2 O2 e s y hi=>by
  obtain ⟨T,a,b,hT,rfl,rfl,y1,y2⟩:=y
  obtain ⟨x,hx,ix⟩:=r1.getV (y1 vs (h1.same (e.g.trans s.sub)))
  obtain ⟨y,hy,iy⟩:=r2.getV (y2 us (h2.same (e.g.trans s.sub)))
  obtain ⟨e3,s3⟩:=s.laid (o:=.tup [a,b]) hT
  refine ⟨.tup [x,y],_,?_,e3,s3,.tup (Bc.of A5) (.cons (ix.ext (e.trans e3)) (.cons (iy.ext (e.trans e3)) .nil))⟩
  unfold Fo
  rw [List.getElem?_zipWith,hx,hy]
section
variable {X:Cx} {ρ:Ai} {O:Ae} {e a b c:Expr} {es:List Expr} {d da db:D} {ds:List D} {R:D->Ae->Prop} {pos p:Pos} {x:Str} {xs ys:List D}
theorem Zt (ha:Ad X ρ O a da) (hb:Ad X ρ O b db) (fa:LF da xs) (fb:LF db ys) (hm:X.mg "zip" = none) (hg:Gl X "zip" := by rfl) (hs:starEach [a,b] X.env=[(false,eval a X.env),(false,eval b X.env)]:=by rfl) (hs2:starEach [b] X.env=[(false,eval b X.env)]:=by rfl) :
  GA X ρ O (.Call (.Name "zip" p) [a,b] [] pos) (Fo xs ys) "zip" := λG tg pins s σ H R I sa en k=>by
 refine Call_ (FH I hg hm boot_zip (PyProof.Rows.callWith_type1 (Aq (Ab ha (Ab hb Af hs2) (by rw [hs,hs2]) G pos pins s σ H (λvs H'=>∃ G',Ah G G'/\SA X.K G' H' O/\Ak X.K G' [da,db] vs) I ⟨sa,en,λvs G' H' e1 s1 i1=>⟨G',e1,s1,i1⟩⟩) λus s1 ⟨vs,H1,I1,r1,G1,e1,sa1,is1⟩=>?_) (by rw [hs,hs2]) (by rw [hs2]; rfl)))
 cases is1 with | cons i1 is1=>cases is1 with | cons i2 is1=>
 cases is1
 obtain ⟨k1,l1,v1,rfl,q1,j1⟩:=fa.sq i1
 obtain ⟨k2,l2,v2,rfl,q2,j2⟩:=fb.sq i2
 obtain ⟨u,u',rfl,ru,ru'⟩:=EM r1
 cases ru
 cases ru'
 obtain ⟨t1,w1,g1,z1⟩:=D0 I1 (q1.same sa1.sub)
 obtain ⟨t2,w2,g2,z2⟩:=D0 I1 (q2.same sa1.sub)
 have lt:∀ {k:Bool} {l:Addr} {ys:Array Value},BH k s1.heap l ys->l<s1.heap.objs.size:=λ{k l ys} q=>by
  cases k with
  | true=>obtain ⟨o,g,_⟩:=(q:s1.heap.IsList l ys); exact Heap.lt_size g
  | false=>obtain ⟨o,g,_⟩:=(q:s1.heap.IsTuple l ys); exact Heap.lt_size g
 refine Q0x g1 g2 λh' Z kp=>?_
 have Ik:L2.Inv X pins σ H1 { s1 with heap:=h',toks:=s1.toks }:=I1.kept kp
 refine ⟨⟨s1.heap.objs.size+4,B9 s1.heap.objs.size,Fm k1 k2 s1.heap.objs.size l1 l2,Nm k1 k2 X.K l1 l2,H1,rfl,Ik,SR k1 k2 _ l1 l2 (lt g1) (lt g2),Z,λb hb=>?_,k _ G1 H1 e1 sa1 (YQ q1 q2 j1 j2)⟩,?_⟩
 ·have hb':s1.heap.objs.size<=b:=by
   simp only [B9,List.mem_cons,List.not_mem_nil,or_false] at hb
   rcases hb with rfl | rfl | rfl | rfl | rfl
   ·exact Nat.le_refl _
   ·exact Nat.le_add_right _ 1
   ·exact Nat.le_add_right _ 2
   ·exact Nat.le_add_right _ 3
   ·exact Nat.le_add_right _ 4
  exact I1.fpOk hb' (I1.hok.fresh hb')
 ·obtain ⟨f0,f1,a0,b0,_,hz,_⟩:=Z
  exact ⟨_,hz,rfl⟩
theorem Gr {tg:Expr} {T:String} (h:GA X ρ O e xs T):BX X ρ O tg e xs:=λG pins s σ H R I ⟨h1,h2,h3⟩=>
 Aq (h G tg pins s σ H R I h1 h2 h3) λv s1 ⟨q,_⟩=>by
  obtain ⟨it,fp,tn,J,H',rfl,I',T,st,f,r⟩:=id q
  exact T.self X.A 0 s1 _ _ st q
end
def Cx.wA (X:Cx) (A:Around):Cx:={ X with A:=A }
theorem Q2y {X:Cx} {pins:List (Addr×Obj)} {σ:L2.St} {H:Hp} {s:Shared} {A:Around} (I:L2.Inv X pins σ H s) (h1:A.frames=X.A.frames) (h2:A.handled=X.A.handled):L2.Inv (Cx.wA X A) pins σ H s:=
 ⟨⟨I.ok.mod,I.ok.kind,I.ok.glob,I.ok.blt,I.ok.above,I.ok.inj,I.ok.has,I.ok.cab,λhc=>h2.trans (I.ok.hd hc),h1.trans I.ok.frames,I.ok.stk,I.ok.exf,I.ok.bs,I.ok.bsz,I.ok.noex,I.ok.exfs,I.ok.funs,I.ok.frf⟩,I.os,I.bare,I.base,I.loc,I.cell,I.free,I.freeC,I.pin,I.hok,I.len⟩
theorem Q2x {X:Cx} {pins:List (Addr×Obj)} {σ:L2.St} {H:Hp} {s:Shared} {A:Around} (I:L2.Inv (Cx.wA X A) pins σ H s) (ok:X.Ok):L2.Inv X pins σ H s:=⟨ok,I.os,I.bare,I.base,I.loc,I.cell,I.free,I.freeC,I.pin,I.hok,I.len⟩
def Cn {α:Type} (n:Nat) (P:α->Prop):KasT α->Prop
 | .ret a=>P a
 | .ask i j k=>i<n/\j<n/\∀ b,Cn n P (k b)
theorem Gm {α β:Type} {n:Nat} {f:α->KasT β} {P:α->Prop} {Q:β->Prop} (hf:∀ a,P a->Cn n Q (f a)):∀ (t:KasT α),Cn n P t->Cn n Q (t.bind f)
 | .ret a,h=>hf a h
 | .ask i j k,h=>⟨h.1,h.2.1,λb=>Gm hf (k b) (h.2.2 b)⟩
theorem Qu {α:Type} {n:Nat} {P:α->Prop} {cmp:Nat->Nat->(Bool->Shared->Prop)->Shared->Prop} {lt:Nat->Nat->Bool} {s:Shared} {Q:α->Shared->Prop} (hc:∀ i j C,i<n->j<n->C (lt i j) s->cmp i j C s):∀ (t:KasT α),Cn n P t->(P (Bf lt t)->Q (Bf lt t) s)->t.kasWp cmp Q s
 | .ret a,h,q=>q h
 | .ask i j k,h,q=>hc i j _ h.1 h.2.1 (Qu hc (k (lt i j)) (h.2.2 _) q)
def In (n:Nat) (p:Array Nat):Prop:=∀ k,p.getD k 0<n
theorem R3 {n:Nat} {p q:Array Nat} (h:In n p) (e:q.Perm p) (hn:0<n):In n q:=λk=>by
 rw [EB]
 cases hk:q[k]? with
 | none=>exact hn
 | some v=>
  have hv:v∈p:=e.mem_iff.mp (Array.mem_of_getElem? hk)
  obtain ⟨i,hi,ei⟩:=Array.mem_iff_getElem.mp hv
  have:=h i
  rw [EB,Array.getElem?_eq_getElem hi,ei] at this
  exact this
theorem M8 {n:Nat} {p:Array Nat} (h:In n p):∀ (f m:Nat),Cn n (λ_=>True) (kas_asc p f m)
 | 0,m=>trivial
 | f+1,m=>⟨h _,h _,λb=>by cases b; exact M8 h f (m+1); exact trivial⟩
theorem G6 {n:Nat} {p:Array Nat} (h:In n p) (hn:0<n) (i j:Nat):In n (kas_rev p i j):=R3 h (mirror_perm _ _ _ _) hn
theorem Jn {n:Nat} (hn:0<n):∀ (f:Nat) (p:Array Nat) (m q:Nat),In n p->Cn n (λr:Array Nat×Nat×Nat=>In n r.1) (kas_desc f p m q)
 | 0,p,m,q,h=>h
 | f+1,p,m,q,h=>⟨h _,h _,λb=>by
   cases b
   ·exact ⟨h _,h _,λc=>by
     cases c
     ·exact Jn hn f p _ _ h
     ·exact h⟩
   ·show Cn n _ (if true=true then _ else _)
    rw [if_pos rfl]
    split
    ·exact Jn hn f _ _ _ (G6 h hn _ _)
    ·exact Jn hn f p _ _ h⟩
theorem NY {n:Nat} (hn:0<n) {p:Array Nat} (h:In n p) (m r:Nat):Cn n (λr:Nat×Array Nat=>In n r.2) (kas_tail3 m r p):=by
 unfold kas_tail3
 refine Gm (P:=λ_=>True) (λa _=>?_) _ (M8 (G6 h hn 0 m) _ _)
 exact G6 h hn 0 m
theorem Q8 {n:Nat} (hn:0<n) {p:Array Nat} (h:In n p) (m r:Nat):Cn n (λr:Nat×Array Nat=>In n r.2) (kas_descPart m r p):=
 Gm (λa ha=>by
  show Cn n _ (if _>0 then _ else _)
  split
  ·exact NY hn (G6 ha hn _ _) _ _
  ·exact NY hn ha _ _) _ (Jn hn _ _ _ _ h)
theorem Q0m {n:Nat} (hn:0<n) {p:Array Nat} (h:In n p) (r:Nat):Cn n (λr:Nat×Array Nat=>In n r.2) (kas_count r p):=
 Gm (P:=λ_=>True) (λa _=>by
  show Cn n _ (if (_==_)=true then _ else _)
  split
  ·exact h
  ·split
   ·exact ⟨h _,h _,λb=>by
     cases b
     ·exact Q8 hn (G6 h hn _ _) _ _
     ·exact h⟩
   ·exact Q8 hn h _ _) _ (M8 h _ _)
theorem L0 {n:Nat} {p:Array Nat} (h:In n p) (k:Nat):∀ (f l r:Nat),Cn n (λ_=>True) (kas_place p k f l r)
 | 0,l,r=>trivial
 | f+1,l,r=>by
  show Cn n _ (if l>=r then _ else _)
  split
  ·exact trivial
  ·exact ⟨h _,h _,λb=>by cases b; exact L0 h k f _ _; exact L0 h k f _ _⟩
theorem RF {n:Nat} (hn:0<n):∀ (f:Nat) (p:Array Nat) (k:Nat),In n p->Cn n (λ_=>True) (kas_bin f p k)
 | 0,p,k,h=>trivial
 | f+1,p,k,h=>Gm (P:=λ_=>True) (λa _=>RF hn f _ _ (R3 h (bubble_perm _ _ _) hn)) _ (L0 h k _ _ _)
theorem TQ {n:Nat} (hn:0<n):Cn n (λ_=>True) (kas_sort n):=
 Gm (λa ha=>by
  show Cn n _ (if _<n then _ else _)
  split
  ·exact RF hn _ _ _ ha
  ·exact trivial) _ (Q0m hn (λk=>by
   rw [EB]
   by_cases hk:k<n
   ·simp [hk]
   ·simp [hk,hn]) n)
section
variable (key:Nat->Int)
theorem RE:∀ (f:Nat) (p:Array Nat) (k:Nat),k+f<=p.size->C8 key p k->∃ p',Bf (BE key) (kas_bin f p k)=p'/\p'.Perm p/\p'.size=p.size/\C8 key p' (k+f)
 | 0,p,k,h,hs=>⟨p,rfl,Array.Perm.refl _,rfl,hs⟩
 | f+1,p,k,h,hs=>by
  obtain ⟨m,e,h1,h2,h3⟩:=LZ key p k hs k 0 k (Nat.zero_le _) (Nat.le_refl _) wF (λi hi=>by omega) (λi i1 i2=>by omega)
  have hK:∀ i,KQ key (bubble p k (k-m)) i=if i=m then KQ key p k else if m<i/\i<=k then KQ key p (i-1) else KQ key p i:=λi=>by
   unfold KQ
   rw [EB,getElem?_bubble wF (k-m) wF i]
   rw [show k-(k-m)=m by omega]
   repeat' split
   all_goals rw [EB]
  obtain ⟨p',e',g1,g2,g3⟩:=RE f (bubble p k (k-m)) (k+1) (by rw [bubble_size]; omega) (λi j hij hj=>by
   rw [hK,hK]
   by_cases im:i=m
   ·rw [if_pos im]
    by_cases jm:j=m
    ·rw [if_pos jm]; exact Int.le_refl _
    ·rw [if_neg jm,if_pos wF]
     exact Int.le_of_lt (h3 (j-1) wF wF)
   ·rw [if_neg im]
    by_cases jm:j=m
    ·rw [if_pos jm,if_neg wF]
     exact h2 i wF
    ·rw [if_neg jm]
     by_cases hi:m<i/\i<=k
     ·rw [if_pos hi,if_pos wF]
      exact hs _ _ wF wF
     ·rw [if_neg hi]
      by_cases hj':m<j/\j<=k
      ·rw [if_pos hj']
       exact hs _ _ wF wF
      ·rw [if_neg hj']
       exact hs _ _ hij wF)
  refine ⟨p',?_,g1.trans (bubble_perm _ _ _),g2.trans (bubble_size _ _ _),?_⟩
  ·show Bf _ (KasT.bind _ _)=_
   rw [FI,e]
   exact e'
  ·rw [show k+(f+1)=k+1+f by omega]; exact g3
theorem TN {n:Nat} (hn:0<n):∃ p,Bf (BE key) (kas_sort n)=p/\p.Perm (List.toArray (List.range n))/\p.size=n/\C8 key p n:=by
 obtain ⟨m,p,e,h1,h2,h3,h4,h5⟩:=Q0l key (nrem:=n) (p:=List.toArray (List.range n)) hn (by simp)
 have hz:p.size=n:=by rw [h4]; simp
 by_cases hm:m<n
 ·obtain ⟨p',e',g1,g2,g3⟩:=RE key (n-max m 1) p (max m 1) wF (by rw [show max m 1=m by omega]; exact h5)
  refine ⟨p',?_,g1.trans h3,g2.trans hz,by rw [show max m 1+(n-max m 1)=n by omega] at g3; exact g3⟩
  unfold kas_sort
  rw [FI,e]
  show Bf _ (if m<n then _ else _)=_
  rw [if_pos hm]
  exact e'
 ·refine ⟨p,?_,h3,hz,by rw [show n=m by omega]; exact h5⟩
  unfold kas_sort
  rw [FI,e]
  show Bf _ (if m<n then _ else _)=_
  rw [if_neg hm]
  rfl
end
def Ep {α:Type} (lt:α->α->Bool) (l:List α) (x:α):Int:=((l.filter λz=>lt z x).length:Nat)
theorem Pt {α:Type} {lt:α->α->Bool} {l:List α} {x y:α} (irr:∀ a,lt a a=false) (tr:∀ a b c,lt a b=true->lt b c=true->lt a c=true) (hx:x∈l) (h:lt x y=true):Ep lt l x<Ep lt l y:=by
 have key:∀ l:List α,(l.filter λz=>lt z x).length<=(l.filter λz=>lt z y).length:=λl=>by
  induction l with
  | nil=>simp
  | cons a l ih=>
   simp only [List.filter_cons]
   by_cases ha:lt a x=true
   ·rw [if_pos ha,if_pos (tr _ _ _ ha h)]; simp; exact ih
   ·rw [if_neg ha]; split
    ·simp; omega
    ·exact ih
 have strict:∀ l:List α,x∈l->(l.filter λz=>lt z x).length<(l.filter λz=>lt z y).length:=λl=>by
  induction l with
  | nil=>intro h; cases h
  | cons a l ih=>
   intro hm
   have base:=key l
   simp only [List.filter_cons]
   rcases List.mem_cons.mp hm with rfl | hm
   ·rw [if_neg (by rw [irr]; simp),if_pos h]; simp; omega
   ·have:=ih hm
    by_cases ha:lt a x=true
    ·rw [if_pos ha,if_pos (tr _ _ _ ha h)]; simp; exact this
    ·rw [if_neg ha]; split
     ·simp; omega
     ·exact this
 unfold Ep
 have:=strict l hx
 omega
theorem Pu {α:Type} {lt:α->α->Bool} {l:List α} {x y:α} (irr:∀ a,lt a a=false) (tr:∀ a b c,lt a b=true->lt b c=true->lt a c=true) (tot:∀ a b,lt a b=false->lt b a=false->a=b) (hx:x∈l) (hy:y∈l):decide (Ep lt l x<Ep lt l y)=lt x y:=by
 cases h:lt x y with
 | true=>exact decide_eq_true (Pt irr tr hx h)
 | false=>
  refine decide_eq_false λz=>?_
  cases h':lt y x with
  | true=>have:=Pt irr tr hy h'; omega
  | false=>rw [tot _ _ h h'] at z; omega
abbrev Gn (h:Heap) (a:Addr) (vs:List Value):Heap:=((h.update a (Obj.mapSeq λ_=>(#[]:Array Value))).push (seqObj "tuple" vs.toArray 0)).push (seqObj "list" #[] 0)
theorem Y1 {h:Heap} {a b:Addr} {vs:List Value} {o:Obj} (hb:b≠a) (e:h.get? b=some o):(Gn h a vs).get? b=some o:=
 Heap.get?_push_of_some _ (Heap.get?_push_of_some _ ((Heap.get?_update_ne _ _ _ _ hb).trans e))
theorem Y0 {h:Heap} {a:Addr} {vs:List Value} {n:Nat} (e:h.get? a=some (seqObj "list" vs.toArray n)):∃ m,(h.update a (Obj.mapSeq λ_=>(#[]:Array Value))).get? a=some (seqObj "list" #[] m)/\(Gn h a vs).get? a=some (seqObj "list" #[] m):=
 ⟨_,get?_update_seq e _,Heap.get?_push_of_some _ (Heap.get?_push_of_some _ (get?_update_seq e _))⟩
section
variable {prog:Program} {w:World} {A:Around} {E:Value->Shared->Prop} {s:Shared}
def DN (p:Array Nat) (vs:List Value):List Value:=p.toList.map λi=>vs.getD i Value.none
def Ng (prog:Program) (w:World) (A:Around) (vs:List Value) (s:Shared) (G:SortSt->Prop):Prop:=
 ∀ E:Value->Shared->Prop,wpAny (model prog w) A (if vs.toArray.size<2 then pure general' else keyKind' vs.toArray)
  (λκ s1=>wpAny (model prog w) A ((if vs.toArray.size<2 then pure () else sortRuns').run (SortSt.mk' κ (vs.toArray.zip vs.toArray) #[] 7 none)) (λr s2=>s2=s/\failedOf r.2=none/\G r.2) E s1) E s
theorem Y4 {α β:Type} {M:Model} {c:Prop} [Decidable c] {x y:Sem α} {f:α->Sem β} {Q:β->Shared->Prop} (h:wpAny M A ((if c then x else y) >>= f) Q E s):wpAny M A (if c then x >>= f else y >>= f) Q E s:=by
 by_cases hc:c
 ·rw [if_pos hc] at h ⊢; exact h
 ·rw [if_neg hc] at h ⊢; exact h
theorem TM {a:Addr} {vs:List Value} {n:Nat} {G:SortSt->Prop} {P:PySem.Fin->Shared->Prop} (ho:s.heap.get? a=some (seqObj "list" vs.toArray n)) (lim:vs.length<=sizeLine) (hr:Ng prog w A vs { s with heap:=Gn s.heap a vs } G)
  (h:∀ st,G st->((arrOf st).map (·.2)).size<=sizeLine+1/\P (.done (.ret .none)) { s with heap:=sortedHeap s.heap a vs ((arrOf st).map (·.2)) }):wpAny (model prog w) A (Builtin.«list.sort» ⟨[.ref a],[]⟩) P E s:=by
 obtain ⟨m,g1,g2⟩:=Y0 ho
 rw [list_sort_plain]
 refine wpAny_bind (listItems_at ho rfl (wpAny_bind (listUpdate_at ho rfl ?_ (by simpa using lim) (Nat.zero_le _))))
 refine wpAny_bind (seqEpoch_at g1 rfl (wpAny_bind (wpAny_newTuple (wpAny_bind (wpAny_newList (wpAny_holding ?_) (Nat.zero_le _))) lim)))
 refine Y4 (wpAny_bind (wpAny_mono (hr E) (λκ s1 q1=>wpAny_bind (wpAny_mono q1 (λr s2 q2=>?_) λ_ _ e=>e)) λ_ _ e=>e))
 obtain ⟨⟨⟩,st⟩:=r
 obtain ⟨rfl,f0,gs⟩:=q2
 obtain ⟨z,q⟩:=h st gs
 refine wpAny_bind (seqEpoch_at g2 rfl (wpAny_bind (listUpdate_at g2 rfl ?_ (Nat.zero_le _) z)))
 dsimp only at f0
 rw [f0,bne_self_eq_false]
 exact wpAny_pure q
def HL (prog:Program) (w:World) (A:Around) (vs:List Value) (key:Nat->Int) (s:Shared):Prop:=
 ∃ κ,(∀ (E:Value->Shared->Prop) (Q:SortKind->Shared->Prop),Q κ s->wpAny (model prog w) A (keyKind' vs.toArray) Q E s)/\∀ i j (C:Bool->Shared->Prop),i<vs.length->j<vs.length->C (decide (key i<key j)) s->wpAny (model prog w) A (keyLt' κ (vs.getD i Value.none) (vs.getD j Value.none)) C (λ_ _=>False) s
def Jw (vs:List Value) (key:Nat->Int) (st:SortSt):Prop:=∃ p:Array Nat,p.Perm (List.toArray (List.range vs.length))/\p.size=vs.length/\C8 key p vs.length/\(arrOf st).map (·.2)=List.toArray (DN p vs)
theorem U6 {vs:List Value} {key:Nat->Int} (h:vs.length<2):Ng prog w A vs s (Jw vs key):=λE=>by
 have c:vs.toArray.size<2:=by simpa using h
 simp only [if_pos c]
 refine wpAny_pure (wpAny_pure ⟨rfl,rfl,List.toArray (List.range vs.length),Array.Perm.refl _,by simp,λi j hij hj=>?_,?_⟩)
 ·rw [show i=j by omega]
  exact Int.le_refl _
 ·show (vs.toArray.zip vs.toArray).map (·.2)=_
  match vs,h with
  | [],_=>simp [DN]
  | [v],_=>simp [DN]
theorem U5 {vs:List Value} {key:Nat->Int} (h:2<=vs.length) (h64:vs.length<64) (cm:HL prog w A vs key s):Ng prog w A vs s (Jw vs key):=λE=>by
 have c:¬ vs.toArray.size<2:=by simpa using h
 simp only [if_neg c]
 obtain ⟨κ,kd,cm⟩:=cm
 obtain ⟨p,ep,g1,g2,g3⟩:=TN key (n:=vs.length) wF
 refine kd _ _ (kat_run (ks:=vs) (Q:=λst s2=>s2=s/\failedOf st=none/\Jw vs key st) (G:=λq s2=>s2=s/\q=p) rfl h h64 (λq st s2 _ a2 a3 a4=>⟨a4.1,a3,p,g1,g2,g3,?_⟩) (Qu (n:=vs.length) (lt:=BE key) cm _ (TQ wF) λ_=>⟨rfl,ep⟩))
 rw [a4.2] at a2
 exact kat_snds (ks:=vs) (vs:=vs) rfl a2
theorem TR {a:Addr} {vs:List Value} {n:Nat} {key:Nat->Int} {P:PySem.Fin->Shared->Prop} (ho:s.heap.get? a=some (seqObj "list" vs.toArray n)) (h64:vs.length<64)
  (hk:2<=vs.length->HL prog w A vs key { s with heap:=Gn s.heap a vs })
  (h:∀ p:Array Nat,p.Perm (List.toArray (List.range vs.length))->p.size=vs.length->C8 key p vs.length->P (.done (.ret .none)) { s with heap:=sortedHeap s.heap a vs (List.toArray (DN p vs)) }):wpAny (model prog w) A (Builtin.«list.sort» ⟨[.ref a],[]⟩) P E s:=by
 have lim:vs.length<=sizeLine:=by rw [sizeLine_eq]; omega
 refine TM (G:=Jw vs key) ho lim ?_ λst ⟨p,p1,p2,p3,e⟩=>?_
 ·by_cases c:vs.length<2
  ·exact U6 c
  ·exact U5 wF h64 (hk wF)
 ·rw [e]
  exact ⟨by simp [DN]; omega,h p p1 p2 p3⟩
theorem Q0A {x:Value} {Q:Value->Shared->Prop}
  (hc:wpAny (model prog w) A.in1 (collect x) (λvs s1=>∃ key,vs.length<64/\(2<=vs.length->HL prog w A.in1.in1 vs key { s1 with heap:=Gn (s1.heap.push (seqObj "list" vs.toArray 0)) s1.heap.objs.size vs }) /\
   ∀ p:Array Nat,p.Perm (List.toArray (List.range vs.length))->p.size=vs.length->C8 key p vs.length->Q (.ref s1.heap.objs.size) { s1 with heap:=sortedHeap (s1.heap.push (seqObj "list" vs.toArray 0)) s1.heap.objs.size vs (List.toArray (DN p vs)) }) E s):wpAny (model prog w) A (call (.builtin "sorted") [x]) Q E s:=by
 have body:wpAny (model prog w) A.in1 (Builtin.«sorted» ⟨[x],[]⟩) (λfin s'=>∃ v,fin=.done (.ret v)/\Q v s') E s:=by
  refine wpAny_bind (m:=checkCount "sorted" 1 1 _) (wpAny_pure (wpAny_bind (Aq hc λvs s1 ⟨key,h64,hk,hq⟩=>wpAny_bind (wpAny_newList (wpAny_bind (wpAny_holding ?_)) (by rw [sizeLine_eq]; omega)))))
  have own:(s1.heap.push (seqObj "list" vs.toArray 0)).get? s1.heap.objs.size=some (seqObj "list" vs.toArray 0):=Heap.get?_push_size _ rfl
  exact wpAny_call_entry slot_list_sort ⟨_,own,rfl⟩ entry_list_sort (TR (s:={ s1 with heap:=s1.heap.push (seqObj "list" vs.toArray 0) }) own h64 hk λp p1 p2 p3=>⟨_,rfl,wpAny_pure ⟨_,rfl,hq p p1 p2 p3⟩⟩) (args_list_sort _)
 exact Calls.call_function_entry kind_sorted plain_sorted entry_sorted (args_sorted1 _) body
end
theorem FL {prog:Program} {w:World} {A:Around} {s:Shared} {id:String} {b:Builtin} {args:Args} {R:Result->Shared->Prop} (pl:plainId id=true) (en:entryFor table id=some b)
  (h:wpAny (model prog w) A.in1 (b args) (λfin s'=>match fin with | .done f=>R (.ok f) s' | .again c=>c.quiet=true/\codeAny (model prog w) A c R s') (λe s'=>R (.error e) s') s):codeAny (model prog w) A (.builtin id args) R s:=
 codeAny_builtin en (by rw [Around.under_plainId pl]; exact h)
abbrev Dt (its:List Value) (c:Nat):Obj:={ cls:=.type "list",dict:=none,data:=.seq its.toArray c,slots:=#[] }
theorem Q0S {M:Model} {A:Around} {E:Value->Shared->Prop} {s:Shared} {α:Type} {t:Sem α} {Q:α->Shared->Prop} {F:Shared->Prop} {u:Sem Unit} (hu:u=pure ()) (h:wpAny M A u (λ_ s2=>F s2) E s) (k:∀ s2,F s2->wpAny M A t Q E s2):wpAny M A t Q E s:=by
 subst hu
 have:=wpAny_bind (f:=λ_=>t) (wpAny_mono h (λ_ s2 q=>k s2 q) λ_ _ e=>e)
 simpa using this
theorem QI {X:Cx} {pins:List (Addr×Obj)} {H:Hp} {b S:Addr} {o:Obj} (h:B2 X pins H b) (hb:S≠b):B2 X ((S,o)::pins) H b:=by
 obtain ⟨f0,f1,f2,f3,f4,f5⟩:=h
 refine ⟨f0,f1,f2,f3,f4,λp hp=>?_⟩
 simp only [List.mem_append,List.mem_cons] at hp
 rcases hp with q | rfl | q
 ·exact f5 p (List.mem_append_left _ q)
 ·exact hb
 ·exact f5 p (List.mem_append_right _ q)
theorem R0 {X:Cx} {pins:List (Addr×Obj)} {σ:L2.St} {H:Hp} {s:Shared} {q:Addr×Obj} (I:L2.Inv X (q::pins) σ H s):L2.Inv X pins σ H s:=I.pins_of λp hp=>I.pin p (List.mem_append_right _ (List.mem_cons_of_mem _ hp))
structure HJ (X:Cx) (pins:List (Addr×Obj)) (σ:L2.St) (O:Ae) (G1:Wd) (xs:List D) (S:Addr) (i:Nat) (s:Shared) (H:Hp) (G:Wd) (vs:List V) (its:List Value) (c:Nat):Prop where
 inv:L2.Inv X ((S,Dt its c)::pins) σ H s
 ext:Ah G1 G
 sa:SA X.K G H O
 iss:Ak X.K G (xs.take i) vs
 vals:Ay vs its
section
variable {X:Cx} {A:Around} {tg:Expr} {J:It} {fp:List Addr} {it:Addr} {tn:Nat->Heap->Prop} {pins:List (Addr×Obj)} {σ:L2.St} {O:Ae} {G1:Wd} {xs:List D} {S:Addr} {res:Value} {R:Result->Shared->Prop}
theorem HJ.more {i:Nat} {s s2:Shared} {H H2:Hp} {G G2:Wd} {vs:List V} {its:List Value} {c:Nat} {x:D} {xv:V} {u:Value} (g:HJ X pins σ O G1 xs S i s H G vs its c) (I2:L2.Inv X ((S,Dt its c)::pins) σ H2 s2) (hSs:X.s₀.heap.objs.size<=S) (hSC:∀ x c,X.env.cells.lookup x=some c->c≠S) (hSp:∀ p∈X.pn++pins,p.1≠S) (hx:xs[i]?=some x) (e2:Ah G G2) (sa2:SA X.K G2 H2 O) (ix:Is X.K G2 x xv) (r:AX xv u) :
  HJ X pins σ O G1 xs S (i+1) { s2 with heap:=s2.heap.update S (Obj.mapSeq (·.push u)) } H2 G2 (vs++[xv]) (its++[u]) (c+1):=by
 have p:=I2.pin (S,Dt its c) (List.mem_append_right _ List.mem_cons_self)
 have Iq:L2.Inv X pins σ H2 { s2 with heap:=s2.heap.update S (Obj.mapSeq (·.push u)) }:=(R0 I2).turned (t':=s2.toks) (λb o hb q=>(Heap.get?_update_other _ _ (Ne.symm hb)).trans q) p.2.1 p.2.2.1 (.inr hSs) hSC hSp
 refine ⟨Iq.pins_of λq hq=>?_,g.ext.trans e2,sa2,?_,g.vals.append (.cons r .nil)⟩
 ·rcases List.mem_cons.mp hq with rfl | hq
  ·refine ⟨?_,p.2.1,p.2.2.1,p.2.2.2.1,λv z=>by cases z⟩
   rw [Heap.get?_update_self _ p.1 rfl]
   simp [Obj.mapSeq,Dt]
  ·exact Iq.pin q (List.mem_append_right _ hq)
 ·rw [List.take_add_one,hx]
  exact (g.iss.ext e2).append (.cons ix .nil)
theorem QC (hA:X.A=A.in1) (hc:X.calm=true) (T:Fb X.prog X.w X.K tg J fp it tn) (hgo:∀ v,letOwnedTupleGo tg (.ref it) v=pure ()) (Yi:DW X.K G1 J xs) (hsz:xs.length<=sizeLine) (hSs:X.s₀.heap.objs.size<=S) (hSC:∀ x c,X.env.cells.lookup x=some c->c≠S) (hSp:∀ p∈X.pn++pins,p.1≠S)
  (fpS:∀ (H:Hp),(∀ b∈fp,H b=none)->∀ b∈fp,B2 X pins H b) (hSf:S∉fp)
  (fin:∀ s H G vs its c,HJ X pins σ O G1 xs S xs.length s H G vs its c->R (.ok (.ret res)) s) :
  ∀ (k i:Nat) (s:Shared) (H:Hp) (G:Wd) (vs:List V) (its:List Value) (c:Nat),i+k=xs.length->HJ X pins σ O G1 xs S i s H G vs its c->tn i s.heap->(∀ b∈fp,H b=none)->
   codeAny (model X.prog X.w) A (.builtin "list.extend.loop" ⟨[.ref S,.ref it,res],[]⟩) R s
 | 0,i,s,H,G,vs,its,c,hk,g,st,fr=>by
  have hi:i=xs.length:=by omega
  subst hi
  have fps:∀ b∈fp,B2 X ((S,Dt its c)::pins) H b:=λb hb=>QI (fpS H fr b hb) λz=>hSf (z ▸ hb)
  refine FL F.plain_extend_loop F.entry_extend_loop (hA ▸ wpAny_bind (Aq (T.done X rfl rfl rfl hc xs.length _ s σ H _ g.inv fps st (Yi.stop _ H (g.ext.g.trans g.sa.sub) (Nat.le_refl _))) λr s' ⟨hr,I'⟩=>?_))
  subst hr
  exact wpAny_pure (fin s' H G vs its c ⟨I',g.ext,g.sa,g.iss,g.vals⟩)
 | k+1,i,s,H,G,vs,its,c,hk,g,st,fr=>by
  have hi:i<xs.length:=by omega
  have fps:∀ b∈fp,B2 X ((S,Dt its c)::pins) H b:=λb hb=>QI (fpS H fr b hb) λz=>hSf (z ▸ hb)
  have hl:its.length=i:=by
   rw [<- g.vals.length,<- g.iss.length,List.length_take]; omega
  refine FL F.plain_extend_loop F.entry_extend_loop (hA ▸ wpAny_bind (Aq (T.item X rfl rfl rfl hc i _ s σ H _ g.inv fps st (Yi.go i H (g.ext.g.trans g.sa.sub) hi)) λr s1 ⟨u,hr,h1⟩=>?_))
  subst hr
  refine Q0S (hgo u) h1 λs2 ⟨xv,H2,I2,r2,y2,st2,fr2⟩=>?_
  obtain ⟨x,G2,hx,e2,sa2,ix⟩:=Yi.yld i xv H H2 G O g.ext g.sa y2 hi
  have p2:=I2.pin (S,Dt its c) (List.mem_append_right _ List.mem_cons_self)
  refine wpAny_bind (listUpdate_at p2.1 rfl (wpAny_pure ⟨plainId_quiet F.plain_extend_loop _,QC hA hc T hgo Yi hsz hSs hSC hSp fpS hSf fin k (i+1) _ H2 G2 _ _ (c+1) wF (g.more I2 hSs hSC hSp hx e2 sa2 ix r2) ?_ fr2⟩) (by simp; omega) (by simp; omega))
  exact T.keep _ _ _ st2 λb hb o q=>(Heap.get?_update_other _ _ (λz=>hSf (by rw [z]; exact hb))).trans q
end
theorem Sb:typeLookup (.type "zip") "__len__" = pure none:=by rw [typeLookup_type,builtinLookup_eq_fast]; kernel_rfl
theorem Sc:typeLookup (.type "zip") "__length_hint__" = pure none:=by rw [typeLookup_type,builtinLookup_eq_fast]; kernel_rfl
structure Jz (T:String):Prop where
 len:typeLookup (.type T) "__len__" = pure none
 hint:typeLookup (.type T) "__length_hint__" = pure none
 nl:(Value.type T==Value.type "list")=false
 nt:(Value.type T==Value.type "tuple")=false
theorem Yc:Jz "zip" :=⟨Sb,Sc,by decide,by decide⟩
theorem Q0r {prog:Program} {w:World} {A:Around} {s:Shared} {E:Value->Shared->Prop} {it:Addr} {Ty:String} {Q:List Value->Shared->Prop} (hN:Jz Ty) (hT:s.TypeIs (.ref it) Ty)
  (hi:∀ (h:Heap) (F:Value->Shared->Prop) (E':Value->Shared->Prop),(∀ c o,s.heap.get? c=some o->h.get? c=some o)->F (.ref it) { s with heap:=h }->wpAny (model prog w) A.in1 (pyIter (.ref it)) F E' { s with heap:=h })
  (k:∀ (h:Heap) (c:Nat) (R:Result->Shared->Prop),(∀ b o,s.heap.get? b=some o->h.get? b=some o)->h.get? s.heap.objs.size=some (Dt [] c)->(∀ s' its c',s'.heap.get? s.heap.objs.size=some (Dt its c')->Q its s'->R (.ok (.ret (.ref s.heap.objs.size))) s')->
   codeAny (model prog w) A (.builtin "list.extend.loop" ⟨[.ref s.heap.objs.size,.ref it,.ref s.heap.objs.size],[]⟩) R { s with heap:=h }) :
  wpAny (model prog w) A (collect (.ref it)) Q E s:=by
 obtain ⟨h,g,d,tk,os⟩:=s
 obtain ⟨o,ho,hc⟩:=hT
 have lt:it<h.objs.size:=Heap.lt_size ho
 have ne:h.objs.size≠it:=Nat.ne_of_gt lt
 dsimp only at hi k
 wp_walk
 refine FL F.plain_proto_collect F.entry_proto_collect ?_
 wp_walk
 have up:∀ b u,h.get? b=some u->(h.push { cls:=.type "list",data:=.seq #[] }).get? b=some u:=λb u e=>Heap.get?_push_of_some _ e
 have own:(h.push { cls:=.type "list",data:=.seq #[] }).get? h.objs.size=some { cls:=.type "list",data:=.seq #[] }:=Heap.get?_push_size _ rfl
 have ty:Shared.TypeIs ⟨h.push { cls:=.type "list",data:=.seq #[] },g,d,tk,os⟩ (.ref it) Ty:=⟨o,up _ _ ho,hc⟩
 have len:=hN.len
 have hint:=hN.hint
 have nl:=hN.nl
 have nt:=hN.nt
 refine ⟨plainId_quiet F.plain_list_iadd _,FL F.plain_list_iadd F.entry_list_iadd ?_⟩
 have sr:Builtin.List.listSameRef (.ref h.objs.size) (.ref it)=false:=beq_eq_false_iff_ne.mpr ne
 wp_walk using hi _ _ _ up
 have g1:=Heap.get?_update_self (Obj.mapSeq λx=>x.push Value.none) own rfl
 refine ⟨plainId_quiet F.plain_extend_loop _,k _ _ _ (λb u e=>?_) (Heap.get?_update_self (Obj.mapSeq λx=>x.pop) g1 rfl) λs' its c' e q=>wpAny_bind (wpAny_load e (wpAny_pure q))⟩
 have nb:h.objs.size≠b:=λz=>Nat.lt_irrefl _ (z ▸ Heap.lt_size e)
 rw [Heap.get?_update_other _ _ nb,Heap.get?_update_other _ _ nb]
 exact up b u e
theorem Q0q {X:Cx} {A:Around} {tg:Expr} {J:It} {fp:List Addr} {it:Addr} {tn:Nat->Heap->Prop} {pins:List (Addr×Obj)} {σ:L2.St} {O:Ae} {G1:Wd} {xs:List D} {s:Shared} {H:Hp} {E:Value->Shared->Prop} {Ty:String} {Q:List Value->Shared->Prop}
  (hA:X.A=A.in1) (hc:X.calm=true) (T:Fb X.prog X.w X.K tg J fp it tn) (hgo:∀ v,letOwnedTupleGo tg (.ref it) v=pure ()) (Yi:DW X.K G1 J xs) (hsz:xs.length<=sizeLine) (hN:Jz Ty) (hT:s.TypeIs (.ref it) Ty) (I:L2.Inv X pins σ H s) (st:tn 0 s.heap) (f:∀ b∈fp,B2 X pins H b) (sa:SA X.K G1 H O)
  (hQ:∀ (s':Shared) (H':Hp) (G':Wd) (vs:List V) (its:List Value),L2.Inv X pins σ H' s'->Ah G1 G'->SA X.K G' H' O->Ak X.K G' xs vs->Ay vs its->Q its s'):wpAny (model X.prog X.w) A (collect (.ref it)) Q E s:=by
 have out:s.heap.objs.size∉fp:=λm=>let ⟨o,e,_⟩:=T.obj 0 _ st _ m; Nat.lt_irrefl _ (Heap.lt_size e)
 obtain ⟨g0,g1,g2,g3,g4,g5⟩:B2 X pins H s.heap.objs.size:=I.fpOk (Nat.le_refl _) (I.hok.fresh (Nat.le_refl _))
 refine Q0r hN hT (λh F E' up q=>T.self A.in1 0 _ _ _ (T.keep 0 _ _ st λb _ o e=>up b o e) q) λh c R up own kr=>?_
 have I3:L2.Inv X pins σ H { s with heap:=h,toks:=s.toks }:=I.kept up
 refine QC hA hc T hgo Yi hsz I.sz g4 g5 (λH' fr b hb=>⟨fr b hb,(f b hb).2⟩) out (λs' H' G' vs its c' g=>?_) xs.length 0 _ H G1 [] [] c wF ⟨I3.pins_of λp hp=>?_,Ah.refl _,sa,.nil,.nil⟩ (T.keep 0 _ _ st λb _ o e=>up b o e) λb hb=>(f b hb).1
 ·exact kr s' its c' (g.inv.pin (_,Dt its c') (List.mem_append_right _ List.mem_cons_self)).1 (hQ s' H' G' vs its (R0 g.inv) g.ext g.sa (by have:=g.iss; rwa [List.take_length] at this) g.vals)
 ·rcases List.mem_cons.mp hp with rfl | q
  ·exact ⟨own,g0,g1,g2,λv z=>by cases z⟩
  ·exact I3.pin p (List.mem_append_right _ q)
structure Ei {α:Type} (lt:α->α->Bool):Prop where
 irr:∀ a,lt a a=false
 tr:∀ a b c,lt a b=true->lt b c=true->lt a c=true
 tot:∀ a b,lt a b=false->lt b a=false->a=b
def Ca {α:Type} (lt:α->α->Bool) (l:List α):List α:=l.mergeSort λa b=>!lt b a
theorem H0 {α:Type} (lt:α->α->Bool) (l:List α):(Ca lt l).Perm l:=List.mergeSort_perm _ _
theorem Ei.trle {α:Type} {lt:α->α->Bool} (o:Ei lt):∀ a b c:α,(!lt b a)=true->(!lt c b)=true->(!lt c a)=true:=λa b c h1 h2=>by
 have h1:lt b a=false:=by simpa using h1
 have h2:lt c b=false:=by simpa using h2
 cases h:lt c a with
 | false=>rfl
 | true=>
  cases h3:lt a b with
  | true=>rw [o.tr _ _ _ h h3] at h2; cases h2
  | false=>rw [o.tot _ _ h3 h1] at h; rw [h] at h2; cases h2
theorem Ei.totle {α:Type} {lt:α->α->Bool} (o:Ei lt):∀ a b:α,((!lt b a)||(!lt a b))=true:=λa b=>by
 cases h:lt b a with
 | false=>rfl
 | true=>
  cases h2:lt a b with
  | false=>rfl
  | true=>have:=o.tr _ _ _ h h2; rw [o.irr] at this; cases this
theorem N7 {α:Type} {lt:α->α->Bool} (o:Ei lt) (l:List α):(Ca lt l).Pairwise λa b=>(!lt b a)=true:=List.pairwise_mergeSort o.trle o.totle l
theorem TJ {α:Type} {lt:α->α->Bool} (o:Ei lt) {l q:List α} (h1:q.Perm l) (h2:q.Pairwise λa b=>(!lt b a)=true):q=Ca lt l:=
 List.Perm.eq_of_pairwise (λa b _ _ x y=>o.tot a b (by simpa using y) (by simpa using x)) h2 (N7 o l) (h1.trans (H0 lt l).symm)
theorem VS {p:Array Nat} {n:Nat} (g:p.Perm (List.toArray (List.range n))):∀ i∈p.toList,i<n:=λi hi=>by
 have:i∈List.toArray (List.range n):=g.mem_iff.mp (Array.mem_toList_iff.mp hi)
 simpa using this
theorem VT {α:Type} [Inhabited α] {p:Array Nat} {ps:List α} (g:p.Perm (List.toArray (List.range ps.length))):(p.toList.map λi=>ps.getD i default).Perm ps:=by
 have e:(List.range ps.length).map (λi=>ps.getD i default)=ps:=by
  apply List.ext_getElem
  ·simp
  ·intro i h1 h2
   simp
   rw [List.getElem?_eq_getElem h2]
   rfl
 have q:p.toList.Perm (List.range ps.length):=by
  have:=Array.perm_iff_toList_perm.mp g
  simpa using this
 have:=q.map λi=>ps.getD i default
 rw [e] at this
 exact this
theorem TL {α:Type} [Inhabited α] {lt:α->α->Bool} (o:Ei lt) {K:PySem.W.Frag} {G:Wd} {ps:List α} {f:α->D} {vs:List V} {its:List Value} {key:Nat->Int} (hkey:∀ i,i<ps.length->key i=Ep lt ps (ps.getD i default)) (is:Ak K G (ps.map f) vs) (va:Ay vs its)
  {p:Array Nat} (g1:p.Perm (List.toArray (List.range ps.length))) (g2:p.size=ps.length) (g3:C8 key p ps.length):∃ us,Ay us (DN p its)/\Ak K G ((Ca lt ps).map f) us/\us.length=ps.length:=by
 have hb:=VS g1
 have e1:=is.length
 have e2:=va.length
 rw [List.length_map] at e1
 refine ⟨p.toList.map λi=>vs.getD i .non,?_,?_,by simp [g2]⟩
 ·unfold DN
  have:∀ l:List Nat,(∀ i∈l,i<ps.length)->Ay (l.map λi=>vs.getD i .non) (l.map λi=>its.getD i Value.none):=λl=>by
   induction l with
   | nil=>intro _; exact .nil
   | cons a l ih=>
    intro h
    have ha:=h a List.mem_cons_self
    obtain ⟨u,hu,ru⟩:=va.get (i:=a) (x:=vs[a]'wF) (by simp)
    refine .cons ?_ (ih λi hi=>h i (List.mem_cons_of_mem _ hi))
    dsimp only
    rw [List.getD_eq_getElem?_getD,List.getD_eq_getElem?_getD,List.getElem?_eq_getElem (show a<vs.length by omega),hu]
    exact ru
  exact this _ hb
 ·rw [<- TJ o (VT g1) ?_]
  ·have:∀ l:List Nat,(∀ i∈l,i<ps.length)->Ak K G ((l.map λi=>ps.getD i default).map f) (l.map λi=>vs.getD i .non):=λl=>by
    induction l with
    | nil=>intro _; exact .nil
    | cons a l ih=>
     intro h
     have ha:=h a List.mem_cons_self
     obtain ⟨v,hv,iv⟩:=is.get (i:=a) (d:=f ps[a]) (by simp [ha])
     refine .cons ?_ (ih λi hi=>h i (List.mem_cons_of_mem _ hi))
     dsimp only
     rw [List.getD_eq_getElem?_getD,List.getD_eq_getElem?_getD,List.getElem?_eq_getElem ha,hv]
     exact iv
   exact this _ hb
  ·rw [List.pairwise_iff_getElem]
   intro i j hi hj hij
   rw [List.length_map,Array.length_toList] at hi hj
   have kq:∀ i (h:i<p.size),KQ key p i=Ep lt ps (ps.getD p[i] default):=λi h=>by
    unfold KQ
    rw [EB,Array.getElem?_eq_getElem h,Option.getD_some]
    exact hkey _ (hb _ (Array.mem_toList_iff.mpr (Array.getElem_mem h)))
   have k:=g3 i j (Nat.le_of_lt hij) wF
   rw [kq i hi,kq j hj] at k
   rw [List.getElem_map,List.getElem_map,Array.getElem_toList,Array.getElem_toList]
   have mem:∀ i (h:i<p.size),ps.getD p[i] default∈ps:=λi h=>by
    have:=hb _ (Array.mem_toList_iff.mpr (Array.getElem_mem h))
    rw [List.getD_eq_getElem?_getD,List.getElem?_eq_getElem this]
    exact List.getElem_mem _
   have:=Pu o.irr o.tr o.tot (mem j hj) (mem i hi)
   rw [<- this]
   simp only [Bool.not_eq_true',decide_eq_false_iff_not]
   omega
def AY (a b:Int×Int):Bool:=decide (a.1<b.1\/(a.1=b.1/\a.2<b.2))
theorem Hb:Ei AY:=⟨λa=>by simp [AY],λa b c h1 h2=>by simp [AY] at *; omega,λa b h1 h2=>by
 simp [AY] at *
 obtain ⟨a1,a2⟩:=a; obtain ⟨b1,b2⟩:=b
 simp at *
 omega⟩
abbrev pD (p:Int×Int):D:=.tup [.int p.1,.int p.2]
def Nx {α:Type} [Inhabited α] (X:Cx) (lt:α->α->Bool) (f:α->D):Prop:=
 ∀ (A:Around) (G:Wd) (H:Hp) (pins:List (Addr×Obj)) (σ:L2.St) (s:Shared) (s':Shared) (O:Ae) (ps:List α) (vs:List V) (its:List Value),L2.Inv X pins σ H s->SA X.K G H O->Ak X.K G (ps.map f) vs->Ay vs its->2<=ps.length->(∀ b o,s.heap.get? b=some o->s'.heap.get? b=some o)->
  HL X.prog X.w A its (λi=>Ep lt ps (ps.getD i default)) s'
theorem QG {α:Type} {l:List α} {i:Nat} (h:i<l.length) (d:α):l.getD i d=l[i]:=by rw [List.getD_eq_getElem?_getD,List.getElem?_eq_getElem h]; rfl
theorem RK {α:Type} {l:List α} {i:Nat} (h:i<l.length) (d:α):l.getD i d∈l:=by rw [QG h]; exact List.getElem_mem _
theorem cmpP {X:Cx}:Nx X AY pD:=λA G H pins σ s s' O ps vs its I sa is va h2 up=>by
 have e1:=is.length
 have e2:=va.length
 rw [List.length_map] at e1
 have at':∀ i,i<ps.length->∃ a t u,its.getD i Value.none=.ref a/\∃ o n,s'.heap.get? a=some o/\o.cls=.type "tuple" /\ o.data=.seq #[.int (ps.getD i default).1 t,.int (ps.getD i default).2 u] n:=λi hi=>by
  obtain ⟨v,hv,iv⟩:=is.get (i:=i) (d:=pD ps[i]) (by simp [hi])
  obtain ⟨w,hw,rw'⟩:=va.get hv
  cases iv with
  | tup h r=>
  cases r with | cons j1 r=>cases r with | cons j2 r=>
  cases r
  cases j1
  cases j2
  cases rw'
  obtain ⟨its2,v2,⟨o,g1,g2,n,g3⟩,_⟩:=I.tuple (Dm sa.sub h)
  obtain ⟨u1,u2,rfl,q1,q2⟩:=EM v2
  obtain ⟨t,rfl⟩:=q1
  obtain ⟨t',rfl⟩:=q2
  refine ⟨_,t,t',by rw [List.getD_eq_getElem?_getD,hw]; rfl,o,n,up _ _ g1,g2,?_⟩
  rw [QG hi]
  exact g3
 refine ⟨tuples' (Value.type "int" != Value.type "tuple"),λE Q hq=>?_,λi j C hi hj hC=>?_⟩
 ·have tp:∀ (l:List Nat),(∀ i∈l,i<ps.length)->∃ fs,KatTups s'.heap (l.map λi=>its.getD i Value.none) fs/\fs.length=l.length/\∀ f∈fs,∃ k t,f=Value.int k t:=λl=>by
   induction l with
   | nil=>intro _; exact ⟨[],.nil,rfl,λf h=>by cases h⟩
   | cons a l ih=>
    intro h
    obtain ⟨fs,f1,f2,f3⟩:=ih λi hi=>h i (List.mem_cons_of_mem _ hi)
    obtain ⟨b,t,u,e,o,n,g1,g2,g3⟩:=at' a (h a List.mem_cons_self)
    refine ⟨.int (ps.getD a default).1 t::fs,?_,by simp [f2],λf hf=>?_⟩
    ·show KatTups s'.heap (its.getD a Value.none::_) _
     rw [e]
     exact .cons g1 g2 g3 rfl f1
    ·rcases List.mem_cons.mp hf with q | q
     ·exact ⟨_,_,q⟩
     ·exact f3 f q
  obtain ⟨fs,f1,f2,f3⟩:=tp (List.range ps.length) λi hi=>List.mem_range.mp hi
  have ei:((List.range ps.length).map λi=>its.getD i Value.none)=its:=by
   apply List.ext_getElem
   ·simp; omega
   ·intro i h1 h3
    simp
    rw [List.getElem?_eq_getElem h3]; rfl
  rw [ei] at f1
  refine kat_kind f1 (by rw [f2,List.length_range]; omega) (λf hf=>?_) wE hq
  obtain ⟨k,t,rfl⟩:=f3 f hf
  exact .now
 ·obtain ⟨a,t,u,ea,oa,na,a1,a2,a3⟩:=at' i wF
  obtain ⟨b,t',u',eb,ob,nb,b1,b2,b3⟩:=at' j wF
  have hr:=Pu Hb.irr Hb.tr Hb.tot (RK (show i<ps.length by omega) default) (RK (show j<ps.length by omega) default)
  rw [hr] at hC
  rw [ea,eb]
  generalize ps.getD i default=x at hC a3
  generalize ps.getD j default=y at hC b3
  refine kat_lt a1 a3 b1 b3 ?_
  show KatLex _ _ _ _ _ _ [(Value.int x.1 t,Value.int y.1 t'),(Value.int x.2 u,Value.int y.2 u')] 0 s'
  refine kat_cons (wpAny_eqBool_int ?_)
  by_cases h1:x.1=y.1
  ·rw [show (x.1==y.1)=true by simpa using h1]
   refine kat_yes (kat_cons (wpAny_eqBool_int ?_))
   by_cases h2:x.2=y.2
   ·rw [show (x.2==y.2)=true by simpa using h2]
    refine kat_yes (kat_nil ?_)
    have:AY x y=false:=by unfold AY; exact decide_eq_false wF
    rw [this] at hC
    exact hC
   ·rw [show (x.2==y.2)=false by simpa using h2]
    refine kat_no (kat_one _ _ (lt_int ?_))
    have:AY x y=decide (x.2<y.2):=by unfold AY; exact decide_eq_decide.mpr wF
    rw [this] at hC
    exact hC
  ·rw [show (x.1==y.1)=false by simpa using h1]
   refine kat_no ?_
   have e:((Value.type "int" != Value.type "tuple")&&(0:Nat)==0)=true:=by decide
   rw [e]
   refine oneLt_int ?_
   have:AY x y=decide (x.1<y.1):=by unfold AY; exact decide_eq_decide.mpr wF
   rw [this] at hC
   exact hC
section
variable {X:Cx} {ρ:Ai} {O:Ae} {e a b c:Expr} {es:List Expr} {d da db:D} {ds:List D} {R:D->Ae->Prop} {pos p:Pos} {x:Str} {xs ys:List D} {α:Type} [Inhabited α] {lt:α->α->Bool} {f:α->D} {ps:List α}
theorem TK (o:Ei lt) (cm:Nx X lt f) {pins:List (Addr×Obj)} {σ:L2.St} {s1:Shared} {H1:Hp} {G1:Wd} {vs:List V} {its:List Value} {Q:VK} (I:L2.Inv X pins σ H1 s1) (sa:SA X.K G1 H1 O) (is:Ak X.K G1 (ps.map f) vs) (va:Ay vs its) (h64:ps.length<64)
  (hq:∀ v G' H',Ah G1 G'->SA X.K G' H' O->Is X.K G' (.lst ((Ca lt ps).map f)) v->Q v H') :
  ∃ key,its.length<64/\(2<=its.length->HL X.prog X.w X.A.in1.in1 its key { s1 with heap:=Gn (s1.heap.push (seqObj "list" its.toArray 0)) s1.heap.objs.size its }) /\
   ∀ p:Array Nat,p.Perm (List.toArray (List.range its.length))->p.size=its.length->C8 key p its.length->EP X pins σ Q (.ref s1.heap.objs.size) { s1 with heap:=sortedHeap (s1.heap.push (seqObj "list" its.toArray 0)) s1.heap.objs.size its (List.toArray (DN p its)) }:=by
 have e1:=is.length
 have e2:=va.length
 rw [List.length_map] at e1
 have el:its.length=ps.length:=by omega
 refine ⟨λi=>Ep lt ps (ps.getD i default),by omega,λh2=>?_,λp p1 p2 p3=>?_⟩
 ·refine cm _ G1 H1 pins σ s1 _ O ps vs its I sa is va wF λb ob q=>?_
  exact Y1 (Nat.ne_of_lt (Heap.lt_size q)) (Heap.get?_push_of_some _ q)
 ·rw [el] at p1 p2 p3
  obtain ⟨us,u1,u2,u3⟩:=TL o (λi _=>rfl) is va p1 p2 p3
  obtain ⟨ec,hD⟩:=sortedHeap_at (h:=s1.heap.push (seqObj "list" its.toArray 0)) (a:=s1.heap.objs.size) (vs:=its) (n:=0) (out:=List.toArray (DN p its)) (Heap.get?_push_size _ rfl)
  have fr:H1 s1.heap.objs.size=none:=I.hok.fresh (Nat.le_refl _)
  obtain ⟨e3,s3⟩:=sa.laid (o:=.lst us) fr
  refine ⟨.ref s1.heap.objs.size,Ao H1 s1.heap.objs.size (.lst us),?_,rfl,hq _ _ _ e3 s3 (.lst A5 (u2.ext e3))⟩
  refine I.laid (t':=s1.toks) (λb u q=>?_) (Nat.le_refl _) ⟨by rw [u3,sizeLine_eq]; omega,DN p its,ec,u1,hD⟩
  have hb:b<s1.heap.objs.size:=Heap.lt_size q
  rw [sortedHeap_old (Nat.ne_of_lt hb) (by rw [Heap.size_push]; exact Nat.lt_succ_of_lt hb)]
  exact Heap.get?_push_of_some _ q
theorem ZI (o:Ei lt) (cm:∀ Y,Nx Y lt f) {Ty:String} (hN:Jz Ty) (hz:GA X ρ O e (ps.map f) Ty) (h64:ps.length<64) (hm:X.mg "sorted" = none) (hc:X.calm=true:=by rfl) (hg:Gl X "sorted" := by rfl) (hs:starEach [e] X.env=[(false,eval e X.env)]:=by rfl) :
  Ad X ρ O (.Call (.Name "sorted" p) [e] [] pos) (.lst ((Ca lt ps).map f)):=λG pins s σ H Q I ⟨h1,h2,h3⟩=>by
 refine wpAny_Call_Name_kw (FH I hg hm boot_sorted ?_)
 refine PyProof.Rows.callWith_builtin1 ?_ (by rw [hs]; rfl) rfl
 rw [hs]
 show wpAny _ _ (spliced ((false,eval e X.env)::backTo pos [])) _ _ s
 refine Calls.spliced_cons (Aq (hz G (.Name "" pos) pins s σ H (λJ H1=>∃ G1,Ah G G1/\SA X.K G1 H1 O/\DW X.K G1 J (ps.map f)) I h1 h2 λJ G' H' q1 q2 q3=>⟨G',q1,q2,q3⟩) λv s1 ⟨⟨it,fp,tn,J,H1,hv,I1,T,st,fo,G1,e1,sa1,Yi⟩,hT⟩=>Calls.spliced_nil ?_)
 subst hv
 refine Q0A (Q0q (X:=Cx.wA X X.A.in1.in1) (A:=X.A.in1) rfl hc T (λv=>rfl) Yi (by rw [List.length_map,sizeLine_eq]; omega) hN hT (Q2y I1 rfl rfl) st fo sa1 λs' H' G' vs its I' e' sa' is' va'=>?_)
 exact TK o (cm X) (Q2x I' I.ok) sa' is' va' h64 λv G'' H'' q1 q2 q3=>h3 v G'' H'' (e1.trans (e'.trans q1)) q2 q3
end
mutual
def Dl:D->PyData
 | .non=>.none | .bl b=>.bool b | .int i=>.int i | .str x=>.str x | .tup xs=>.tuple (DH xs) | .lst xs=>.list (DH xs) | .scr xs=>.list (DH xs) | .ptr _=>.none | .ty _=>.none | .fn _=>.none | .dct _ _=>.none
def DH:List D->List PyData
 | []=>[]
 | x::xs=>Dl x::DH xs
end
mutual
def Cj:D->Bool
 | .non=>true | .bl _=>true | .int _=>true | .str x=>PyData.strOk x | .tup xs=>Dq xs | .lst xs=>Dq xs | .scr xs=>Dq xs | .ptr _=>false | .ty _=>false | .fn _=>false | .dct _ _=>false
def Dq:List D->Bool
 | []=>true
 | x::xs=>Cj x&&Dq xs
end
mutual
def Dg:D->Nat
 | .tup xs=>DU xs+1 | .lst xs=>DU xs+1 | .scr xs=>DU xs+1 | .non=>0 | .bl _=>0 | .int _=>0 | .str _=>0 | .ptr _=>0 | .ty _=>0 | .fn _=>0 | .dct _ _=>0
def DU:List D->Nat
 | []=>0
 | x::xs=>max (Dg x) (DU xs)
end
def EF (a b:D):Bool:=PyData.eqv (Dl a) (Dl b)
def Q2 (a b:List D):Bool:=PyData.eqvAll (DH a) (DH b)
mutual
theorem Hy:∀ d:D,(Dl d).depth=Dg d
 | .non=>rfl | .bl _=>rfl | .int _=>rfl | .str _=>rfl | .ptr _=>rfl | .ty _=>rfl | .fn _=>rfl | .dct _ _=>rfl
 | .tup xs=>by simp only [Dl,PyData.depth,Dg]; rw [Jl xs]
 | .lst xs=>by simp only [Dl,PyData.depth,Dg]; rw [Jl xs]
 | .scr xs=>by simp only [Dl,PyData.depth,Dg]; rw [Jl xs]
theorem Jl:∀ xs:List D,PyData.depthAll (DH xs)=DU xs
 | []=>rfl
 | x::xs=>by simp only [DH,PyData.depthAll,DU]; rw [Hy x,Jl xs]
end
mutual
theorem Ha:∀ d:D,Cj d=true->(Dl d).canLay0=true
 | .non,_=>rfl | .bl _,_=>rfl | .int _,_=>rfl | .str x,h=>by simp only [Cj] at h; simp only [Dl,PyData.canLay0]; exact h | .ptr _,h=>nomatch h | .ty _,h=>nomatch h | .fn _,h=>nomatch h | .dct _ _,h=>nomatch h
 | .tup xs,h=>IH xs h
 | .lst xs,h=>IH xs h
 | .scr xs,h=>IH xs h
theorem IH:∀ xs:List D,Dq xs=true->PyData.canLayAll0 (DH xs)=true
 | [],_=>rfl
 | x::xs,h=>by
  have h:(Cj x&&Dq xs)=true:=h
  rw [Bool.and_eq_true] at h
  show (PyData.canLay0 (Dl x)&&PyData.canLayAll0 (DH xs))=true
  rw [Ha x h.1,IH xs h.2]; rfl
end
section
variable {X:Cx} {pins:List (Addr×Obj)} {σ:L2.St} {H:Hp} {s:Shared} {G:Wd}
mutual
theorem Ps (I:L2.Inv X pins σ H s) (sub:Bl G.g H):∀ {d:D} {v:V} {u:Value},Is X.K G d v->AX v u->Cj d=true->∃ as,Reads s.heap u (Dl d) as
 | _,_,_,.non,r,_=>by cases r; exact ⟨[],.none⟩
 | _,_,_,.bl b,r,_=>by cases r; exact ⟨[],.bool b⟩
 | _,_,_,.int i,r,_=>by obtain ⟨t,rfl⟩:=r; exact ⟨[],.int i t⟩
 | _,_,_,.str x,r,_=>by obtain ⟨t,rfl⟩:=r; exact ⟨[],.str x t⟩
 | _,_,_,.tup h q,r,p=>by
  cases r
  obtain ⟨its,va,⟨o,g1,g2,n,g3⟩,_⟩:=I.tuple (Dm sub h)
  obtain ⟨as,ra⟩:=G8 I sub q va p
  exact ⟨as,.tuple g1 g2 g3 (by simpa using ra)⟩
 | _,_,_,.lst h q,r,p=>by
  cases r
  obtain ⟨its,va,pl,_⟩:=I.list (A8.of (sub _ _ h))
  obtain ⟨o,g1,g2,n,g3⟩:=pl.isList
  obtain ⟨as,ra⟩:=G8 I sub q va p
  exact ⟨_,.list g1 g2 g3 (by simpa using ra)⟩
 | _,_,_,.scr h q,r,p=>by
  cases r
  obtain ⟨its,va,pl,_⟩:=I.list (sub.seq h)
  obtain ⟨o,g1,g2,n,g3⟩:=pl.isList
  obtain ⟨as,ra⟩:=G8 I sub q va p
  exact ⟨_,.list g1 g2 g3 (by simpa using ra)⟩
 | _,_,_,.ptr _ _,_,p=>by simp [Cj] at p
 | _,_,_,.ty _,_,p=>by simp [Cj] at p
 | _,_,_,.fn _,_,p=>by simp [Cj] at p
 | _,_,_,.dct _ _ _,_,p=>by simp [Cj] at p
theorem G8 (I:L2.Inv X pins σ H s) (sub:Bl G.g H):∀ {ds:List D} {vs:List V} {us:List Value},Ak X.K G ds vs->Ay vs us->Dq ds=true->∃ as,ReadsAll s.heap us (DH ds) as
 | _,_,_,.nil,.nil,_=>⟨[],.nil⟩
 | d::ds,_,_,.cons i is,.cons r rs,p=>by
  have p:(Cj d&&Dq ds)=true:=p
  rw [Bool.and_eq_true] at p
  obtain ⟨as,ra⟩:=Ps I sub i r p.1
  obtain ⟨bs,rb⟩:=G8 I sub is rs p.2
  exact ⟨_,.cons ra rb⟩
end
end
def RD (O:Ae) (d e:D):Prop:=e=d\/∃ n xs,d=.ptr n/\O[n]?=some (some (.lst xs))/\e=.lst xs
theorem RD.reads {X:Cx} {pins:List (Addr×Obj)} {σ:L2.St} {H:Hp} {s:Shared} {G:Wd} {O:Ae} {d e:D} {v:V} {u:Value} (h:RD O d e) (I:L2.Inv X pins σ H s) (sa:SA X.K G H O) (i:Is X.K G d v) (r:AX v u) (p:Cj e=true):∃ as,Reads s.heap u (Dl e) as:=by
 rcases h with rfl | ⟨n,xs,rfl,h,rfl⟩
 ·exact Ps I sa.sub i r p
 ·cases i with | ptr _ ha=>
  cases r
  obtain ⟨a,g0,_,vs,g1,g2⟩:=sa.mt n _ h
  have:=Option.some.inj (ha.symm.trans g0)
  subst this
  obtain ⟨its,va,pl,_⟩:=I.list (A8.of g1)
  obtain ⟨o,q1,q2,k,q3⟩:=pl.isList
  obtain ⟨as,ra⟩:=G8 I sa.sub g2 va p
  exact ⟨_,.list q1 q2 q3 (by simpa using ra)⟩
section
variable {X:Cx} {ρ:Ai} {O:Ae} {e a b c:Expr} {es:List Expr} {d da db ea eb:D} {ds xs ys:List D} {R:D->Ae->Prop} {pos p:Pos} {x:Str} {k:Nat}
theorem Rs (hr:AL k X.A) (ha:RD O da ea) (hb:RD O db eb) (pa:Cj ea=true) (pb:Cj eb=true) (hd:min (Dg ea) (Dg eb)<=60):Bm X O (compareOp .Eq) da db (.bl (EF ea eb)):=λG pins s σ H x y v u Q I rx ry ⟨h1,h2,h3,h4⟩=>by
 obtain ⟨as,ra⟩:=ha.reads I h1 h2 rx pa
 obtain ⟨bs,rb⟩:=hb.reads I h1 h3 ry pb
 have hu:=hr.units
 exact PySem.SeqAt.compareEq_reads ra rb (Ha _ pa) (Ha _ pb) (by rw [Hy,Hy]; omega) ⟨.bl _,H,I,rfl,h4 _ G H (Ah.refl _) h1 (.bl _)⟩
theorem Q0t (hr:AL k X.A) (ha:RD O da ea) (hb:RD O db eb) (pa:Cj ea=true) (pb:Cj eb=true) (hd:min (Dg ea) (Dg eb)<=60):Bm X O (compareOp .NotEq) da db (.bl (!EF ea eb)):=λG pins s σ H x y v u Q I rx ry ⟨h1,h2,h3,h4⟩=>by
 obtain ⟨as,ra⟩:=ha.reads I h1 h2 rx pa
 obtain ⟨bs,rb⟩:=hb.reads I h1 h3 ry pb
 have hu:=hr.units
 exact PySem.SeqAt.compareNe_reads ra rb (Ha _ pa) (Ha _ pb) (by rw [Hy,Hy]; omega) ⟨.bl _,H,I,rfl,h4 _ G H (Ah.refl _) h1 (.bl _)⟩
end
theorem VY {l:List D} (h:∀ d∈l,Cj d=true):Dq l=true:=by
 induction l with
 | nil=>rfl
 | cons x xs ih=>
  show (Cj x&&Dq xs)=true
  rw [h x List.mem_cons_self,ih λd hd=>h d (List.mem_cons_of_mem _ hd)]; rfl
theorem L4 {α:Type} {f:α->D} {l:List α} (h:∀ a∈l,Cj (f a)=true):Dq (l.map f)=true:=VY λd hd=>by obtain ⟨a,ha,rfl⟩:=List.mem_map.mp hd; exact h a ha
theorem Q0f {l:List D} {k:Nat} (h:∀ d∈l,Dg d<=k):DU l<=k:=by
 induction l with
 | nil=>exact Nat.zero_le _
 | cons x xs ih=>
  show max (Dg x) (DU xs)<=k
  have:=h x List.mem_cons_self
  have:=ih λd hd=>h d (List.mem_cons_of_mem _ hd)
  omega
theorem Q0e {α:Type} {f:α->D} {l:List α} {k:Nat} (h:∀ a∈l,Dg (f a)<=k):DU (l.map f)<=k:=Q0f λd hd=>by obtain ⟨a,ha,rfl⟩:=List.mem_map.mp hd; exact h a ha
theorem MJ {α:Type} {f:α->D} [DecidableEq α] (h:∀ a b,EF (f a) (f b)=decide (a=b)):∀ l m:List α,Q2 (l.map f) (m.map f)=decide (l=m)
 | [],[]=>rfl
 | [],_::_=>rfl
 | _::_,[]=>rfl
 | a::l,b::m=>by
  show (EF (f a) (f b)&&Q2 (l.map f) (m.map f))=_
  rw [h a b,MJ h l m]
  by_cases h1:a=b
  ·by_cases h2:l=m
   ·simp [h1,h2]
   ·simp [h1,h2]
  ·simp [h1]
theorem Q4 (a b:Int):EF (.int a) (.int b)=decide (a=b):=by
 show (a==b)=_
 by_cases h:a=b
 ·simp [h]
 ·simp [h]
theorem Z5 (a b:List Int):EF (.lst (a.map D.int)) (.lst (b.map D.int))=decide (a=b):=MJ Q4 a b
theorem Z4 (a b:List Int):EF (.tup (a.map D.int)) (.tup (b.map D.int))=decide (a=b):=MJ Q4 a b
theorem L5 (a:List Int):Dq (a.map D.int)=true:=L4 λ_ _=>rfl
theorem Q6 (a:List Int):DU (a.map D.int)<=0:=Q0e λ_ _=>Nat.le_refl _
theorem Jb {α:Type} {l:List α} {i:Nat} (h:i<l.length) (d:α):l.getD i d=l[i]:=by simp [h]
section
variable {X:Cx} {ρ:Ai} {O:Ae} {e a b c:Expr} {es:List Expr} {d da db ea eb:D} {ds xs ys:List D} {R:D->Ae->Prop} {pos p:Pos} {x:Str} {k:Nat}
theorem LT.sq {K:PySem.W.Frag} {G:Wd} {H:Hp} {O:Ae} {d:D} {xs:List D} {v:V} (h:LT O d xs) (s:SA K G H O) (i:Is K G d v):∃ k a vs,v=.ref a/\Sq k K H a vs/\Ak K G xs vs:=by
 rcases h with h | rfl
 ·obtain ⟨a,vs,rfl,q,r⟩:=h.sq s i; exact ⟨true,a,vs,rfl,q,r⟩
 ·obtain ⟨a,vs,rfl,q,r⟩:=Dk s i; exact ⟨false,a,vs,rfl,q,r⟩
theorem VR (ns:List Int):preSum (λi=>ns.getD i 0) ns.length=ns.sum:=by rw [preSum_getD,List.take_length]
theorem N6 {k:Bool} {h:Heap} {l:Addr} {ys:Array Value} (q:BH k h l ys):l<h.objs.size:=by
 cases k with
 | true=>obtain ⟨o,g,_⟩:=(q:h.IsList l ys); exact Heap.lt_size g
 | false=>obtain ⟨o,g,_⟩:=(q:h.IsTuple l ys); exact Heap.lt_size g
theorem Q0z {prog:Program} {w:World} {A:Around} {E:Value->Shared->Prop} {s:Shared} {k:Bool} {l:Addr} {its:List Value} {ns:List Int} {Q:Value->Shared->Prop} (hh:A.handled=none) (q:BH k s.heap l its.toArray) (hv:∀ (i:Nat) (v:Value),its[i]?=some v->∃ t,v=.int (ns.getD i 0) t) (hn:ns.length=its.length)
  (h:∀ h' tk t,(∀ b o,s.heap.get? b=some o->h'.get? b=some o)->Q (.int ns.sum t) { s with heap:=h',toks:=tk }):wpAny (model prog w) A (call (.builtin "sum") [.ref l]) Q E s:=by
 have hl:=N6 q
 have fin:∀ (h2:Heap),(∀ b o,s.heap.get? b=some o->h2.get? b=some o)->∀ h' tk t',(∀ b o,b∉[s.heap.objs.size]->h2.get? b=some o->h'.get? b=some o)->Q (.int (preSum (λi=>ns.getD i 0) its.toArray.size) t') { s with heap:=h',toks:=tk }:=λh2 up h' tk t' kp=>by
  rw [show its.toArray.size=ns.length by simp [hn],VR]
  exact h h' tk t' λb o e=>kp b o (by simpa using Nat.ne_of_lt (Heap.lt_size e)) (up b o e)
 cases k with
 | true=>
  refine call_sum_walkG (wpAny_pyIter_list q ⟨s.heap.objs.size,[s.heap.objs.size,l],[s.heap.objs.size],its.toArray.size,λi v=>its.toArray[i]?=some v,λi h=>h.IsListIter s.heap.objs.size l i/\h.IsList l its.toArray,λi=>ns.getD i 0,rfl,Walks.list (A:=A.in1) hh _ l (Nat.ne_of_lt hl) its.toArray,⟨⟨_,Heap.get?_push_size _ rfl,rfl,rfl⟩,Heap.IsList.push q _⟩,λb hb=>?_,λi v e=>hv i v (by simpa using e),fin _ λb o e=>Heap.get?_push_of_some _ e⟩)
  rw [Heap.size_push]
  rcases List.mem_cons.mp hb with rfl | hb
  ·exact Nat.lt_succ_self _
  ·rw [List.mem_singleton.mp hb]; exact Nat.lt_succ_of_lt hl
 | false=>
  refine call_sum_walkG (wpAny_pyIter_tuple q ⟨s.heap.objs.size,[s.heap.objs.size,l],[s.heap.objs.size],its.toArray.size,λi v=>its.toArray[i]?=some v,λi h=>h.IsTupleIter s.heap.objs.size l i/\h.IsTuple l its.toArray,λi=>ns.getD i 0,rfl,Walks.tuple (A:=A.in1) hh _ l (Nat.ne_of_lt hl) its.toArray,⟨⟨_,Heap.get?_push_size _ rfl,rfl,rfl⟩,(BH.at (k:=false) q λo e=>Heap.get?_push_of_some _ e:BH false _ l _)⟩,λb hb=>?_,λi v e=>hv i v (by simpa using e),fin _ λb o e=>Heap.get?_push_of_some _ e⟩)
  rw [Heap.size_push]
  rcases List.mem_cons.mp hb with rfl | hb
  ·exact Nat.lt_succ_self _
  ·rw [List.mem_singleton.mp hb]; exact Nat.lt_succ_of_lt hl
theorem MU {ns:List Int} (h:LT O d (ns.map D.int)) (hc:X.calm=true:=by rfl):B8 X O (.builtin "sum") [d] (.int ns.sum):=λG pins s σ H vs us Q I r ⟨h1,h2,h3⟩=>by
 cases h2 with | cons i r2=>
 cases r2
 obtain ⟨kk,ad,ws,rfl,q,is⟩:=h.sq h1 i
 obtain ⟨u,rfl,ru⟩:=EN r
 cases ru
 obtain ⟨its,va,sq,_⟩:=D0 I q
 have e:=is.toInts
 subst e
 have el:=va.length
 rw [List.length_map] at el
 refine Q0z (ns:=ns) (I.ok.hd hc) sq (λi v hv=>?_) el λh' tk t kp=>⟨.int ns.sum,H,I.kept kp,⟨t,rfl⟩,h3 _ G H (Ah.refl _) h1 (.int _)⟩
 have hi:i<ns.length:=by rw [el]; exact (List.getElem?_eq_some_iff.mp hv).1
 obtain ⟨w,hw,rw'⟩:=va.get (i:=i) (x:=.int ns[i]) (by simp [hi])
 rw [hv] at hw
 cases hw
 obtain ⟨t,e⟩:=rw'
 exact ⟨t,by rw [e,Jb hi]⟩
theorem Q0G {prog:Program} {w:World} {A:Around} {E:Value->Shared->Prop} {s:Shared} {k:Bool} {l:Addr} {its:List Value} {bs:List Bool} {Q:Value->Shared->Prop} (hh:A.handled=none) (q:BH k s.heap l its.toArray) (hv:∀ (i:Nat) (v:Value),its[i]?=some v->v=.bool (bs.getD i true)) (hn:bs.length=its.length) (al:Bool)
  (h:∀ h' tk,(∀ b o,s.heap.get? b=some o->h'.get? b=some o)->Q (.bool (if al then bs.all id else bs.any id)) { s with heap:=h',toks:=tk }):wpAny (model prog w) A (call (.builtin (if al then "all" else "any")) [.ref l]) Q E s:=by
 have hl:=N6 q
 have ea:(List.range its.toArray.size).all (λi=>bs.getD i true)=bs.all id:=by
  have:bs=(List.range bs.length).map λi=>bs.getD i true:=by
   apply List.ext_getElem
   ·simp
   ·intro i h1 h2; simp; rw [List.getElem?_eq_getElem h1]; rfl
  conv=>rhs; rw [this,List.all_map]
  rw [show its.toArray.size=bs.length by simp [hn]]
  rfl
 have eb:(List.range its.toArray.size).any (λi=>bs.getD i true)=bs.any id:=by
  have:bs=(List.range bs.length).map λi=>bs.getD i true:=by
   apply List.ext_getElem
   ·simp
   ·intro i h1 h2; simp; rw [List.getElem?_eq_getElem h1]; rfl
  conv=>rhs; rw [this,List.any_map]
  rw [show its.toArray.size=bs.length by simp [hn]]
  rfl
 have kp':∀ (h2:Heap),(∀ b o,s.heap.get? b=some o->h2.get? b=some o)->∀ h':Heap,(∀ b o,b∉[s.heap.objs.size]->h2.get? b=some o->h'.get? b=some o)->∀ b o,s.heap.get? b=some o->h'.get? b=some o:=λh2 up h' kp b o e=>kp b o (by simpa using Nat.ne_of_lt (Heap.lt_size e)) (up b o e)
 have tr:TruthOf prog w A.in1 (λi v=>its.toArray[i]?=some v) (λi=>bs.getD i true):=λi v s Q E hP hQ=>by
  rw [hv i v (by simpa using hP)]; exact wpAny_truthy_bool hQ
 cases k with
 | true=>
  have W:=Walks.list (prog:=prog) (w:=w) (A:=A.in1) hh s.heap.objs.size l (Nat.ne_of_lt hl) its.toArray
  have st:(s.heap.push { cls:=.type "list_iterator",data:=.fields #[.ref l,.int 0 0] }).IsListIter s.heap.objs.size l 0/\(s.heap.push { cls:=.type "list_iterator",data:=.fields #[.ref l,.int 0 0] }).IsList l its.toArray:=⟨⟨_,Heap.get?_push_size _ rfl,rfl,rfl⟩,Heap.IsList.push q _⟩
  cases al with
  | true=>exact call_all_walk (wpAny_pyIter_list q ⟨_,_,_,_,_,_,_,rfl,W,st,tr,λh' tk kp=>by rw [ea]; exact h h' tk (kp' _ (λb o e=>Heap.get?_push_of_some _ e) h' kp)⟩)
  | false=>exact call_any_walk (wpAny_pyIter_list q ⟨_,_,_,_,_,_,_,rfl,W,st,tr,λh' tk kp=>by rw [eb]; exact h h' tk (kp' _ (λb o e=>Heap.get?_push_of_some _ e) h' kp)⟩)
 | false=>
  have W:=Walks.tuple (prog:=prog) (w:=w) (A:=A.in1) hh s.heap.objs.size l (Nat.ne_of_lt hl) its.toArray
  have st:(s.heap.push { cls:=.type "tuple_iterator",data:=.fields #[.ref l,.int 0 0] }).IsTupleIter s.heap.objs.size l 0/\(s.heap.push { cls:=.type "tuple_iterator",data:=.fields #[.ref l,.int 0 0] }).IsTuple l its.toArray:=⟨⟨_,Heap.get?_push_size _ rfl,rfl,rfl⟩,(BH.at (k:=false) q λo e=>Heap.get?_push_of_some _ e:BH false _ l _)⟩
  cases al with
  | true=>exact call_all_walk (wpAny_pyIter_tuple q ⟨_,_,_,_,_,_,_,rfl,W,st,tr,λh' tk kp=>by rw [ea]; exact h h' tk (kp' _ (λb o e=>Heap.get?_push_of_some _ e) h' kp)⟩)
  | false=>exact call_any_walk (wpAny_pyIter_tuple q ⟨_,_,_,_,_,_,_,rfl,W,st,tr,λh' tk kp=>by rw [eb]; exact h h' tk (kp' _ (λb o e=>Heap.get?_push_of_some _ e) h' kp)⟩)
theorem Rw {bs:List Bool} (al:Bool) (h:LT O d (bs.map D.bl)) (hc:X.calm=true):B8 X O (.builtin (if al then "all" else "any")) [d] (.bl (if al then bs.all id else bs.any id)):=λG pins s σ H vs us Q I r ⟨h1,h2,h3⟩=>by
 cases h2 with | cons i r2=>
 cases r2
 obtain ⟨kk,ad,ws,rfl,q,is⟩:=h.sq h1 i
 obtain ⟨u,rfl,ru⟩:=EN r
 cases ru
 obtain ⟨its,va,sq,_⟩:=D0 I q
 have e1:=is.length
 have e2:=va.length
 rw [List.length_map] at e1
 refine Q0G (bs:=bs) (I.ok.hd hc) sq (λi v hv=>?_) wF al λh' tk kp=>⟨.bl _,H,I.kept kp,rfl,h3 _ G H (Ah.refl _) h1 (.bl _)⟩
 have hi:i<bs.length:=by rw [e1,e2]; exact (List.getElem?_eq_some_iff.mp hv).1
 obtain ⟨w,hw,iw⟩:=is.get (i:=i) (d:=.bl bs[i]) (by simp [hi])
 obtain ⟨z,hz,rz⟩:=va.get hw
 rw [hv] at hz
 cases hz
 cases iw
 rw [Jb hi]
 exact rz
theorem MY {bs:List Bool} (h:LT O d (bs.map D.bl)) (hc:X.calm=true:=by rfl):B8 X O (.builtin "all") [d] (.bl (bs.all id)):=Rw true h hc
theorem Q0L {bs:List Bool} (h:LT O d (bs.map D.bl)) (hc:X.calm=true:=by rfl):B8 X O (.builtin "any") [d] (.bl (bs.any id)):=Rw false h hc
theorem SX {prog:Program} {w:World} {A:Around} {E:Value->Shared->Prop} {s:Shared} {t sl:Addr} {its:Array Value} {vl vu:Value} {lo hi:Option Int} {Q:Value->Shared->Prop} (ht:IsTup s.heap t its) (hs:s.heap.IsSliceOf sl vl vu .none) (pl:IsPart vl lo) (pu:IsPart vu hi)
  (hw:HT.sIx its.size 0 lo=0/\HT.sIx its.size its.size hi=its.size) (h:Q (.ref t) s):wpAny (model prog w) A (getItem (.ref t) (.ref sl)) Q E s:=by
 obtain ⟨osl,hos,hcs,hds⟩:=id hs
 have hTs:s.TypeIs (.ref sl) "slice" :=⟨osl,hos,hcs⟩
 unfold getItem
 try with_reducible refine wpAny_holding ?_
 first | refine wpAny_bind (wpAny_pure ?_) | skip
 refine wpAny_bind (wpAny_sequenceKey ht.typeIs wE (wpAny_bind (wpAny_callSpecial?_slot (name:=Str.ofString "__getitem__") ht.typeIs PyProof.Rows.slot_tuple_getitem (wpAny_call_entry PyProof.Rows.slot_tuple_getitem ht.typeIs entry_tuple_getitem ?_ (args_tuple_getitem _ _)))))
 show wpAny (model prog w) _ (Builtin.Tuple.tupleItemsOf (.ref t) >>= _) _ _ s
 refine wpAny_bind (tupleItemsOf_ ht (wpAny_bind (wpAny_typeOf hTs ?_)))
 rw [if_pos wE]
 refine wpAny_bind (HT.sliceApplied_gen hs pl pu ?_)
 have hyes:((((HT.sIx its.size 0 lo:Nat):Int)==0&&(1:Int)==1&&(HT.sIx its.size its.size hi-HT.sIx its.size 0 lo)==its.size)=true):=by
  rw [hw.1,hw.2]; simp
 show wpAny (model prog w) _ (if (((HT.sIx its.size 0 lo:Nat):Int)==0&&(1:Int)==1&&(HT.sIx its.size its.size hi-HT.sIx its.size 0 lo)==its.size)=true then _ else _) _ _ s
 rw [if_pos hyes]
 first
  | exact wpAny_pure ⟨_,rfl,wpAny_pure h⟩
  | exact wpAny_bind (wpAny_rule (wpAny_pure ⟨_,rfl,wpAny_pure h⟩))
  | (refine wpAny_bind (wpAny_typeOf ht.typeIs ?_); rw [if_pos wE]; exact wpAny_pure ⟨_,rfl,wpAny_pure h⟩)
  | (refine wpAny_bind (wpAny_bind (wpAny_typeOf ht.typeIs (wpAny_pure ?_))); rw [if_pos wE]; exact wpAny_bind (wpAny_rule (wpAny_pure ⟨_,rfl,wpAny_pure h⟩)))
def Vk (K:PySem.W.Frag):V->Option Int->Option Int->Hp->VK->Prop:=λx lo hi H Q=>∃ a xs,x=.ref a/\Bc K H a xs/\(HT.sIx xs.length 0 lo=0/\HT.sIx xs.length xs.length hi=xs.length)/\Q (.ref a) H
theorem T6:Fd X (Vk X.K):=λpins s σ H x v vl vu lo hi sl Q I rx hs pl pu h=>by
 obtain ⟨a,xs,rfl,hx,hw,q⟩:=h
 cases rx
 obtain ⟨its,r,ht,hz⟩:=I.tuple hx
 have hlen:its.toArray.size=xs.length:=by rw [List.size_toArray]; exact r.length.symm
 exact ⟨"tuple",_,PyProof.Rows.slot_tuple_getitem.lookup,ht.typeIs,SX ht hs pl pu (by rw [hlen]; exact hw) ⟨.ref a,H,I,rfl,q⟩⟩
theorem T5 {xs:List D} {l u:Option Int} (h:HT.sIx xs.length 0 l=0/\HT.sIx xs.length xs.length u=xs.length):ES xs l u=xs:=by
 unfold ES
 rw [h.1,h.2]
 simp
theorem ZJ {xs:List D} {lo hi:Option Expr} {l u:Option Int} {p2:Pos} (ha:Ad X ρ O a (.tup xs)) (hl:Ej X ρ O lo l) (hh:Ej X ρ O hi u):Ad X ρ O (.Subscript a (.Slice lo hi none p2) pos) (.tup (ES xs l u)):=λG=>
 PE.imp (PH (T7.or T6) (ha G) (tl:=λσ H Q=>∃ G1,SA X.K G1 H O/\Ax X.K G1 σ ρ/\∀ G' H',Ah G1 G'->SA X.K G' H' O->Q l H') (λpins s σ H Q I ⟨G1,q⟩=>hl G1 pins s σ H Q I q)
  (th:=λσ H Q=>∃ G1,SA X.K G1 H O/\Ax X.K G1 σ ρ/\∀ G' H',Ah G1 G'->SA X.K G' H' O->Q u H') (λpins s σ H Q I ⟨G1,q⟩=>hh G1 pins s σ H Q I q)) λσ H Q ⟨h1,h2,h3⟩=>
  ⟨h1,h2,λv G1 H1 e1 s1 i1=>⟨G1,s1,h2.ext e1,λG2 H2 e2 s2=>⟨G2,s2,(h2.ext e1).ext e2,λG3 H3 e3 s3=>by
   have i3:=i1.ext (e2.trans e3)
   obtain ⟨q,vs,rfl,q1,r⟩:=Dk s3 i3
   by_cases hw:HT.sIx vs.length 0 l=0/\HT.sIx vs.length vs.length u=vs.length
   ·refine .inr ⟨q,vs,rfl,q1,hw,h3 _ _ _ ((e1.trans e2).trans e3) s3 ?_⟩
    rw [T5 (by rw [r.length]; exact hw)]
    exact i3
   ·refine .inl ⟨q,vs,rfl,q1,hw,λz hz=>?_⟩
    obtain ⟨e4,s4⟩:=s3.laid (o:=.tup (Ee vs l u)) hz
    exact h3 _ _ _ (((e1.trans e2).trans e3).trans e4) s4 (.tup (Bc.of A5) ((Rl r).ext e4))⟩⟩⟩
theorem X9 {xs ys:List D} (hx:xs≠[]) (hz:xs.length+ys.length<=sizeLine):Bm X O (binaryOp .Add) (.tup xs) (.tup ys) (.tup (xs++ys)):=
 .of WA λG v u H Q s h1 h2 k=>by
  have j1:=h1
  obtain ⟨q1,vs,rfl,g1,r1⟩:=Dk s h1
  obtain ⟨q2,us,rfl,g2,r2⟩:=Dk s h2
  refine ⟨_,_,_,_,rfl,rfl,g1,g2,?_,by rw [<- r1.length,<- r2.length]; exact hz,λz=>?_,λ_ p hp=>?_⟩
  ·intro z; apply hx; have:=r1.length; rw [z] at this; exact List.eq_nil_of_length_eq_zero this
  ·subst z
   cases r2
   rw [List.append_nil] at k
   exact k _ G H (Ah.refl _) s j1
  ·obtain ⟨e4,s4⟩:=s.laid (o:=.tup _) hp
   exact k _ _ _ e4 s4 (.tup (Bc.of A5) ((r1.append r2).ext e4))
end
end DL
namespace DL
open PySem PySem.Spec PyProof.Rows L2
mutual
def Cd:D->Bool
 | .ptr _=>false
 | .tup xs=>BS xs
 | .lst xs=>BS xs
 | .scr xs=>BS xs
 | .dct _ xs=>BS xs
 | _=>true
def BS:List D->Bool
 | []=>true
 | d::ds=>Cd d&&BS ds
end
theorem He {α:Type} {f:α->D} (h:∀ a,Cd (f a)=true) (l:List α):BS (l.map f)=true:=by
 induction l with
 | nil=>rfl
 | cons a l ih=>rw [List.map_cons]; unfold BS; rw [h,ih]; rfl
theorem P9 (l:List Int):BS (l.map D.int)=true:=He (λ_=>rfl) l
section
variable {K:PySem.W.Frag} {G G':Wd} {t:List Addr}
mutual
theorem Is.cut:∀ {d:D} {v:V},Is K G' d v->Cd d=true->∀ l,Is K ⟨G'.g,l⟩ d v
 | _,_,.non,_,l=>.non
 | _,_,.bl b,_,l=>.bl b
 | _,_,.int i,_,l=>.int i
 | _,_,.str x,_,l=>.str x
 | _,_,.tup h r,e,l=>.tup h (Ak.cut r e l)
 | _,_,.lst h r,e,l=>.lst h (Ak.cut r e l)
 | _,_,.scr h r,e,l=>.scr h (Ak.cut r e l)
 | _,_,.ptr n h,e,l=>by cases e
 | _,_,.ty n,_,l=>.ty n
 | _,_,.fn n,_,l=>.fn n
 | _,_,.dct h hl r,e,l=>.dct h hl (Ak.cut r e l)
theorem Ak.cut:∀ {ds:List D} {vs:List V},Ak K G' ds vs->BS ds=true->∀ l,Ak K ⟨G'.g,l⟩ ds vs
 | _,_,.nil,_,l=>.nil
 | _,_,.cons h r,e,l=>by
  have e:=(Bool.and_eq_true _ _).mp e
  exact .cons (Is.cut h e.1 l) (Ak.cut r e.2 l)
end
mutual
theorem Is.back (e:G'.l=G.l++t):∀ {d:D} {v v0:V},Is K G d v0->Is K G' d v->Is K ⟨G'.g,G.l⟩ d v
 | _,_,_,.non,h=>by cases h; exact .non
 | _,_,_,.bl b,h=>by cases h; exact .bl b
 | _,_,_,.int i,h=>by cases h; exact .int i
 | _,_,_,.str x,h=>by cases h; exact .str x
 | _,_,_,.tup _ r0,h=>by cases h with | tup h r=>exact .tup h (Ak.back e r0 r)
 | _,_,_,.lst _ r0,h=>by cases h with | lst h r=>exact .lst h (Ak.back e r0 r)
 | _,_,_,.scr _ r0,h=>by cases h with | scr h r=>exact .scr h (Ak.back e r0 r)
 | _,_,_,.ptr n q,h=>by
  cases h with
  | ptr _ h=>
   refine .ptr n ?_
   rw [e,List.getElem?_append_left (List.getElem?_eq_some_iff.mp q).1] at h
   exact h
 | _,_,_,.ty n,h=>by cases h; exact .ty n
 | _,_,_,.fn n,h=>by cases h; exact .fn n
 | _,_,_,.dct _ _ r0,h=>by cases h with | dct h hl r=>exact .dct h hl (Ak.back e r0 r)
theorem Ak.back (e:G'.l=G.l++t):∀ {ds:List D} {vs v0:List V},Ak K G ds v0->Ak K G' ds vs->Ak K ⟨G'.g,G.l⟩ ds vs
 | _,_,_,.nil,h=>by cases h; exact .nil
 | _,_,_,.cons q r,h=>by cases h with | cons h1 h2=>exact .cons (Is.back e q h1) (Ak.back e r h2)
end
theorem Bo.back (e:G'.l=G.l++t):∀ {fs:List (Str×D)} {vs v0:List (Str×V)},Bo K G fs v0->Bo K G' fs vs->Bo K ⟨G'.g,G.l⟩ fs vs
 | _,_,_,.nil,h=>by cases h; exact .nil
 | _,_,_,.cons q r,h=>by cases h with | cons h1 h2=>exact .cons (Is.back e q h1) (Bo.back e r h2)
theorem SA.cut {H H':Hp} {O O2:Ae} (s:SA K G H O) (e:Ah G G') (s':SA K G' H' (O++O2)):Ah G ⟨G'.g,G.l⟩/\SA K ⟨G'.g,G.l⟩ H' O:=by
 obtain ⟨t,et⟩:=e.l
 refine ⟨⟨e.g,[],(List.append_nil _).symm⟩,⟨s'.sub,s.len,s.nd,λa ha=>s'.liv a (by rw [et]; exact List.mem_append_left _ ha),λn m h=>?_⟩⟩
 have hn:=(List.getElem?_eq_some_iff.mp h).1
 obtain ⟨a,q1,q2,q3⟩:=s'.mt n m (by rw [List.getElem?_append_left hn]; exact h)
 obtain ⟨a0,p1,p2,p3⟩:=s.mt n m h
 rw [et,List.getElem?_append_left (by rw [s.len]; exact hn)] at q1
 refine ⟨a,q1,q2,?_⟩
 cases m with
 | lst xs=>
  obtain ⟨vs,g1,g2⟩:=q3
  obtain ⟨v0,h1,h2⟩:=p3
  exact ⟨vs,g1,Ak.back et h2 g2⟩
 | ins C fs=>
  obtain ⟨dx,vs,g1,g2⟩:=q3
  obtain ⟨dx0,v0,h1,h2⟩:=p3
  exact ⟨dx,vs,g1,Bo.back et h2 g2⟩
 | exc C fs ha=>
  obtain ⟨ob,g1,g2,g3,g4⟩:=q3
  obtain ⟨ob0,h1,h2,h3,_⟩:=p3
  refine ⟨ob,g1,g2,?_,g4⟩
  rcases h3 with h3 | ⟨dx0,v0,b1,b2,b3⟩
  ·exact .inl h3
  ·refine g3.imp id ?_
   rintro ⟨dx,vs,a1,a2,a3⟩
   exact ⟨dx,vs,a1,a2,Bo.back et b3 a3⟩
 | dct ks xs=>
  obtain ⟨vs,g1,g2,g3⟩:=q3
  obtain ⟨v0,h1,h2,h3⟩:=p3
  exact ⟨vs,g1,g2,Ak.back et h3 g3⟩
 | pin ob vs ks xs=>exact ⟨q3.1,q3.2.1,Ak.back et p3.2.2 q3.2.2⟩
end
section
variable {X:Cx} {ρ:Ai} {O:Ae} {e a b c:Expr} {es:List Expr} {d da db:D} {ds:List D} {R:D->Ae->Prop} {pos p:Pos} {x:Str} {rest:List Stmt} {P:A7}
theorem GD (h:Exs X ρ O rest { nx:=λ_ _=>False,rt:=λd O'=>(∃ O2,O'=O++O2)/\Cd d=true/\P.rt d O }):Exs X ρ O rest P:=λG pins s σ H E I ⟨q1,q2,q3⟩=>by
 refine h G pins s σ H E I ⟨q1,q2,⟨λσ' ρ' O' G3 H3 e3 s3 n3 q=>q.elim,λv d O' G3 H3 e3 s3 i3 r=>?_,λσ' ρ' O' G3 H3 e3 s3 n3 q=>q.elim,λσ' ρ' O' G3 H3 e3 s3 n3 q=>q.elim⟩⟩
 obtain ⟨⟨O2,rfl⟩,r2,r3⟩:=r
 obtain ⟨e4,s4⟩:=q1.cut e3 s3
 exact q3.rt v d O _ H3 e4 s4 (i3.cut r2 _) r3
def Pp (pre:List D->Prop) (f:List D->D->Prop):AS:=λds O R=>pre ds/\∀ d,f ds d->R d O
theorem Fp {tg:Expr} (he:Ev X ρ O e λd O'=>∃ ρ1,Tg X tg d ρ ρ1/\P.nx ρ1 O') (hs:swapsWithSole [tg] e pos.line X.env=pure false:=by rfl) (hw:swappedStores [tg] e X.env=pure none:=by rfl)
  (h1:(assignEach [tg] X.env).map (·.2)=[assign tg X.env]:=by rfl):Ex X ρ O (.Assign [tg] e pos) P:=λG=>
 PS.imp (LX (he G) (g:=λv σ H Q=>∃ G1 d ρ1,Tg X tg d ρ ρ1/\Is X.K G1 d v/\Bl G1.g H/\Ax X.K G1 σ ρ/\∀ σ',Ax X.K G1 σ' ρ1->Q σ' H) (λpins s σ H v u Q I r ⟨G1,d,ρ1,ht,q⟩=>ht G1 pins s σ H v u Q I r q) hs hw h1) λE σ H ⟨q1,q2,q3⟩=>
  ⟨q1,q2,λv d O' G' H' e1 s1 i1 ⟨ρ1,t1,r1⟩=>⟨G',d,ρ1,t1,i1,s1.sub,q2.ext e1,λσ' n'=>q3.nx _ _ O' G' H' e1 s1 n' r1⟩⟩
theorem Be {m:Option MO} {O2:Ae}:(O++m::O2)[O.length]?=some m:=by
 rw [List.getElem?_append_right (Nat.le_refl _),Nat.sub_self]; rfl
theorem CM {m z:Option MO} {O2:Ae}:(O++m::O2).set O.length z=O++z::O2:=by
 rw [List.set_append_right (h:=Nat.le_refl _),Nat.sub_self]; rfl
section
variable {α:Type} {ps:List α} {f g:α->D} {h:α->Option D} {tg iter elt:Expr} {ifs:List Expr} {scope:Scope}
theorem QL (ps:List α) (g:α->D):(ps.map λq=>some (g q)).filterMap id=ps.map g:=by
 induction ps with
 | nil=>rfl
 | cons a l ih=>rw [List.map_cons,List.filterMap_cons,ih]; rfl
theorem Hl (ps:List α) (h:α->Option D):(ps.map h).filterMap id=ps.filterMap h:=by
 rw [List.filterMap_map]; rfl
theorem Q0 (h:α->Option D) (T F:List Str) (js:List Nat) (hi:BX X ρ O tg iter (ps.map f)) (hsz:ps.length<=sizeLine) (turn:∀ q,q∈ps->Fl X T F js ρ O scope tg elt ifs (f q) (h q))
  (hfl:F.length=js.length:=by rfl) (hB:CC X.N X.env.scope.names scope.names F js=true:=by rfl) (hc:X.calm=true:=by rfl) (hk:scope.kind=.function:=by rfl) (hs:∀ x,foldedSetIterable iter X.env x=pure x:=by intro _; rfl) :
  Ad X ρ O (.ListComp elt [⟨tg,iter,ifs,0⟩] scope pos) (.lst (ps.filterMap h)):=by
 rw [<- Hl]
 refine ZT T F js hi (by rw [List.length_map,List.length_map]) (by rw [List.length_map]; exact hsz) (λi x z h1 h2=>?_) hfl hB hc hk hs
 rw [List.getElem?_map] at h1 h2
 cases e:ps[i]? with
 | none=>rw [e] at h1; cases h1
 | some q=>rw [e] at h1 h2; cases h1; cases h2; exact turn q (List.mem_of_getElem? e)
theorem CG (g:α->D) (T F:List Str) (js:List Nat) (hi:BX X ρ O tg iter (ps.map f)) (hsz:ps.length<=sizeLine) (turn:∀ q,q∈ps->Fl X T F js ρ O scope tg elt ifs (f q) (some (g q)))
  (hfl:F.length=js.length:=by rfl) (hB:CC X.N X.env.scope.names scope.names F js=true:=by rfl) (hc:X.calm=true:=by rfl) (hk:scope.kind=.function:=by rfl) (hs:∀ x,foldedSetIterable iter X.env x=pure x:=by intro _; rfl) :
  Ad X ρ O (.ListComp elt [⟨tg,iter,ifs,0⟩] scope pos) (.lst (ps.map g)):=by
 rw [<- QL,Hl]
 exact Q0 (λq=>some (g q)) T F js hi hsz turn hfl hB hc hk hs
theorem Sj {x:Str} {p spos:Pos} (k:Nat) (h:α->Option D) (T F:List Str) (js:List Nat) (hi:BX X ρ O tg iter (ps.map f)) (hsz:ps.length<=sizeLine) (turn:∀ q,q∈ps->Fl X T F js ρ O scope tg elt ifs (f q) (h q))
  (hP:P.nx (ρ.set k (some (.lst (ps.filterMap h)))) O) (hN:X.N.Nodup) (hx:X.N[k]?=some x:=by rfl) (hlc:DC X.env.scope x:=by first | exact Or.inl rfl | exact Or.inr rfl) (hf:X.fn x=true\/X.env.scope.names.lookup x=some .local:=by first | exact .inl rfl | exact .inr rfl | assumption)
  (hfl:F.length=js.length:=by rfl) (hB:CC X.N X.env.scope.names scope.names F js=true:=by rfl) (hc:X.calm=true:=by rfl) (hk:scope.kind=.function:=by rfl) (hs:∀ x,foldedSetIterable iter X.env x=pure x:=by intro _; rfl)
  (hsw:swapsWith (.ListComp elt [⟨tg,iter,ifs,0⟩] scope pos) (some (.Name x p)) spos.line X.env=pure true:=by rfl):Ex X ρ O (.Assign [.Name x p] (.ListComp elt [⟨tg,iter,ifs,0⟩] scope pos) spos) P:=by
 rw [<- Hl] at hP
 refine Sl k T F js hi (by rw [List.length_map,List.length_map]) (by rw [List.length_map]; exact hsz) (λi x z h1 h2=>?_) hP hN hx hlc hf hfl hB hc hk hs hsw
 rw [List.getElem?_map] at h1 h2
 cases e:ps[i]? with
 | none=>rw [e] at h1; cases h1
 | some q=>rw [e] at h1 h2; cases h1; cases h2; exact turn q (List.mem_of_getElem? e)
theorem Cp {xs:List D} (he:Ad X ρ O e d) (fa:LF d xs):BX X ρ O tg e xs:=by
 rcases fa with rfl | rfl | rfl
 ·exact Q0c he
 ·exact Q0b he
 ·exact Q0a he
end
end
def C6 {α:Type} (a:List α) (lo hi:Option Int):List α:=(a.drop (HT.sIx a.length 0 lo)).take (HT.sIx a.length a.length hi-HT.sIx a.length 0 lo)
theorem OU {α:Type} {f:α->D} (a:List α) (lo hi:Option Int):ES (a.map f) lo hi=(C6 a lo hi).map f:=by
 unfold ES C6
 rw [List.length_map,List.map_take,List.map_drop]
theorem HA {α:Type} (a:List α) (lo hi:Option Int):(C6 a lo hi).length<=a.length:=by
 unfold C6
 rw [List.length_take,List.length_drop]
 omega
theorem Q0j {α:Type} (a:List α) (k:Nat):C6 a none (some (k:Int))=a.take k:=by
 unfold C6
 rw [HT.sIx_none,HT.sIx_nat,List.drop_zero,Nat.sub_zero]
 rcases Nat.le_total k a.length with h | h
 ·rw [Nat.min_eq_left h]
 ·rw [Nat.min_eq_right h,List.take_of_length_le (Nat.le_refl _),List.take_of_length_le h]
theorem Rn {α:Type} (a:List α) (k:Nat):C6 a (some (k:Int)) none=a.drop k:=by
 unfold C6
 rw [HT.sIx_none,HT.sIx_nat]
 rcases Nat.le_total k a.length with h | h
 ·rw [Nat.min_eq_left h,List.take_of_length_le (by rw [List.length_drop]; exact Nat.le_refl _)]
 ·rw [Nat.min_eq_right h,Nat.sub_self,List.take_zero,List.drop_of_length_le h]
theorem NC {α β:Type} {f:α->D} {g:β->D}:∀ (a:List α) (b:List β),Fo (a.map f) (b.map g)=(a.zip b).map λq=>.tup [f q.1,g q.2]
 | [],_=>rfl
 | _::_,[]=>rfl
 | x::a,y::b=>by
  have ih:=NC (f:=f) (g:=g) a b
  unfold Fo at ih ⊢
  rw [List.map_cons,List.map_cons,List.zipWith_cons_cons,ih]
  rfl
section
variable {X:Cx} {ρ:Ai} {O:Ae} {e a b c:Expr} {es:List Expr} {d da db:D} {ds:List D} {R:D->Ae->Prop} {pos p:Pos} {x:Str} {rest:List Stmt} {P:A7}
theorem QT {α:Type} {f:α->D} {as:List α} {lo hi:Option Expr} {l u:Option Int} {p2:Pos} (ha:Ad X ρ O a da) (hx:LV O da (as.map f)) (hl:Ej X ρ O lo l) (hh:Ej X ρ O hi u):Ad X ρ O (.Subscript a (.Slice lo hi none p2) pos) (.lst ((C6 as l u).map f)):=by
 rw [<- OU]
 exact ZK ha hx hl hh
theorem MG {α:Type} {f:α->D} {as:List α} {lo hi:Option Expr} {l u:Option Int} {p2:Pos} (ha:Ad X ρ O a (.tup (as.map f))) (hl:Ej X ρ O lo l) (hh:Ej X ρ O hi u):Ad X ρ O (.Subscript a (.Slice lo hi none p2) pos) (.tup ((C6 as l u).map f)):=by
 rw [<- OU]
 exact ZJ ha hl hh
theorem Ho {α β:Type} {f:α->D} {g:β->D} {as:List α} {bs:List β} (ha:Ad X ρ O a da) (hb:Ad X ρ O b db) (fa:LF da (as.map f)) (fb:LF db (bs.map g)) (hm:X.mg "zip" = none) (hg:Gl X "zip" := by rfl) (hs:starEach [a,b] X.env=[(false,eval a X.env),(false,eval b X.env)]:=by rfl) (hs2:starEach [b] X.env=[(false,eval b X.env)]:=by rfl) :
  GA X ρ O (.Call (.Name "zip" p) [a,b] [] pos) ((as.zip bs).map λq=>.tup [f q.1,g q.2]) "zip" := by
 rw [<- NC]
 exact Zt ha hb fa fb hm hg hs hs2
end
theorem RM {α:Type} {f:α->D} {a:List α} {i:Int} {v:α} (h0:0<=i) (h:a[i.toNat]?=some v):Bv (a.map f) i=some (f v):=by
 obtain ⟨k,rfl⟩:=Int.eq_ofNat_of_zero_le h0
 rw [Int.toNat_natCast] at h
 exact EH (by rw [List.getElem?_map,h]; rfl)
theorem Q3 (a:List Int):EF (.lst (a.map D.int)) (.lst [])=decide (a=[]):=Z5 a []
def sm {α:Type} (g:α->Int):List α->Int
 | []=>0
 | a::l=>g a+sm g l
section
variable {α β:Type} {g h:α->Int} {l m:List α}
theorem Km:sm g (l++m)=sm g l+sm g m:=by
 induction l with
 | nil=>exact (Int.zero_add _).symm
 | cons a l ih=>show g a+sm g (l++m)=(g a+sm g l)+sm g m; rw [ih]; omega
theorem Kl (p:l.Perm m):sm g l=sm g m:=by
 induction p with
 | nil=>rfl
 | cons a _ ih=>unfold sm; rw [ih]
 | swap a b l=>unfold sm; unfold sm; omega
 | trans _ _ h1 h2=>rw [h1,h2]
theorem T0 {i:Nat} {a:α} (e:l[i]?=some a):sm g (l.take (i+1))=sm g (l.take i)+g a:=by
 rw [List.take_add_one,e,Km]
 show _+(g a+0)=_
 omega
theorem Ii (g:α->Int) (l:List α):(l.map g).sum=sm g l:=by
 induction l with
 | nil=>rfl
 | cons a l ih=>rw [List.map_cons,List.sum_cons,ih]; rfl
theorem TF (l:List Int):l.sum=sm (λi=>i) l:=by rw [<- Ii,List.map_id']
theorem OS (q:∀ a∈l,g a<=h a):sm g l<=sm h l:=by
 induction l with
 | nil=>exact Int.le_refl _
 | cons a l ih=>
  have h1:=q a List.mem_cons_self
  have h2:=ih λb hb=>q b (List.mem_cons_of_mem _ hb)
  unfold sm
  omega
theorem OT (q:∀ a∈l,g a=h a):sm g l=sm h l:=by
 induction l with
 | nil=>rfl
 | cons a l ih=>
  have h1:=q a List.mem_cons_self
  have h2:=ih λb hb=>q b (List.mem_cons_of_mem _ hb)
  unfold sm
  omega
theorem T2:sm (λa=>g a+h a) l=sm g l+sm h l:=by
 induction l with
 | nil=>rfl
 | cons a l ih=>unfold sm; rw [ih]; omega
theorem OR:sm (λ_:α=>(0:Int)) l=0:=by
 induction l with
 | nil=>rfl
 | cons a l ih=>unfold sm; rw [ih]; rfl
theorem Ij (q:∀ a∈l,0<=g a):0<=sm g l:=by
 have:=OS (g:=λ_=>0) (h:=g) q
 rw [OR] at this
 exact this
theorem T1 {B:Int} (q:∀ a∈l,g a<=B):sm g l<=l.length*B:=by
 induction l with
 | nil=>show (0:Int)<=((0:Nat):Int)*B; simp
 | cons a l ih=>
  have h1:=q a List.mem_cons_self
  have h2:=ih λb hb=>q b (List.mem_cons_of_mem _ hb)
  unfold sm
  rw [List.length_cons,Int.natCast_add,Int.add_mul]
  show _<=_+(1:Int)*B
  omega
theorem sm_bd' {B:Int} {n:Nat} (hB:0<=B) (hn:l.length<=n) (q:∀ a∈l,g a<=B):sm g l<=n*B:=by
 have h1:=T1 q
 have h2:(l.length:Int)*B<=(n:Int)*B:=Int.mul_le_mul_of_nonneg_right wF hB
 omega
theorem TZ {a:List β} {b:List Int} (e:a.length=b.length):sm (λq:β×Int=>q.2) (a.zip b)=b.sum:=by
 induction a generalizing b with
 | nil=>cases b with | nil=>rfl | cons _ _=>cases e
 | cons x a ih=>
  cases b with
  | nil=>cases e
  | cons y b=>
   rw [List.zip_cons_cons,List.sum_cons]
   unfold sm
   rw [ih (by simpa using e)]
end
theorem Ry {b:Int} {n:Nat} (h0:0<=b) (h1:b<2 ^ n):PySem.Builtin.Int.intBits b<=n:=by
 unfold PySem.Builtin.Int.intBits
 split
 ·exact Nat.zero_le _
 ·rename_i hz
  have hn:b.natAbs<2 ^ n:=by
   have e:((2 ^ n:Nat):Int)=2 ^ n:=by rw [Int.natCast_pow]; rfl
   omega
  have hp:b.natAbs≠0:=by
   intro z; apply hz; rw [Int.natAbs_eq_zero.mp z]; rfl
  have:=(Nat.log2_lt hp).mpr hn
  omega
theorem Eu {a b:Int} {m n:Nat} (a0:0<=a) (a1:a<2 ^ m) (b0:0<=b) (b1:b<2 ^ n) (h:m+n<=134217728:=by decide):IntMulOk a b:=IntMulOk.of_le (Ry a0 a1) (Ry b0 b1) h
section
variable {prog:Program} {w:World} {A:Around} {E:Value->Shared->Prop} {s:Shared}
end
section
variable {X:Cx} {ρ:Ai} {O:Ae} {e a b c st:Expr} {es:List Expr} {d da db:D} {ds xs:List D} {R:D->Ae->Prop} {pos p p2:Pos} {x:Str} {rest:List Stmt} {P:A7}
theorem Ve {K:PySem.W.Frag} {G:Wd} {vs:List V} (r:Ak K G xs vs) (k:Nat):Ak K G (List.replicate k xs).flatten (List.replicate k vs).flatten:=by
 induction k with
 | zero=>exact .nil
 | succ k ih=>rw [List.replicate_succ,List.replicate_succ,List.flatten_cons,List.flatten_cons]; exact r.append ih
theorem LQ {d:D} (n:Nat):(List.replicate n [d]).flatten=List.replicate n d:=by
 induction n with
 | zero=>rfl
 | succ n ih=>rw [List.replicate_succ,List.flatten_cons,ih]; rfl
end
theorem Zr {α:Type} (p:α->Bool) (g:α->D) (l:List α):l.filterMap (λq=>if p q=true then some (g q) else none)=(l.filter p).map g:=by
 induction l with
 | nil=>rfl
 | cons a l ih=>
  rw [List.filterMap_cons,List.filter_cons]
  cases h:p a with
  | true=>simp [ih]
  | false=>simp [ih]
section
variable {prog:Program} {w:World} {A:Around} {E:Value->Shared->Prop} {s:Shared}
theorem Yd:fillsNumberSlot (.type "tuple") "mul" = pure false:=
 PySem.fillsNumberSlot_seq (id := "tuple.__mul__") (r:=some (.builtin "tuple.__rmul__")) F.slot_tuple_mul.lookup wD F.slot_tuple_rmul.lookup wD
theorem Vf:seqRepeat? (.type "tuple")=pure (some (.builtin "tuple.__mul__")):=by
 unfold seqRepeat?
 rw [PySem.seqSlot_of (T := "tuple") (name := "__mul__") F.slot_tuple_mul.lookup wD,PySem.seqSlot_of (T := "tuple") (name := "__rmul__") F.slot_tuple_rmul.lookup wD]
 rfl
theorem Vb {a:Int} {t:Tok} {l:Addr} {its:List Value} {Q:Value->Shared->Prop} (ht:IsTup s.heap l its.toArray) (h:Q .notImplemented s):wpAny (model prog w) A (call (.builtin "int.__rmul__") [.int a t,.ref l]) Q E s:=by
 refine wpAny_call_entry F.slot_int_rmul (typeIs_int s a t) F.entry_int_rmul ?_ (F.args_int_rmul_2 _ _)
 obtain ⟨o,ho,hc,n,hd⟩:=ht
 show wpAny (model prog w) _ (asInt? (.ref l) >>= _) _ _ s
 refine wpAny_bind ?_
 unfold asInt?
 refine wpAny_bind (wpAny_load ho ?_)
 rw [hd]
 refine wpAny_pure ?_
 exact wpAny_bind (wpAny_rule (wpAny_pure ⟨_,rfl,h⟩))
theorem Yl {k:Int} {t:Tok} {l:Addr} {its:List Value} {Q:Value->Shared->Prop} (ht:IsTup s.heap l its.toArray) (h1:1<=k) (h2:k<2 ^ 62) (hn:its≠[]) (hz:its.length*k.toNat<=sizeLine)
  (hq1:k=1->Q (.ref l) s) (hq2:k≠1->Q (.ref s.heap.objs.size) { s with heap:=s.heap.push { cls:=.type "tuple",data:=.seq (List.replicate k.toNat its).flatten.toArray } }):wpAny (model prog w) A (call (.builtin "tuple.__mul__") [.ref l,.int k t]) Q E s:=by
 refine wpAny_call_entry F.slot_tuple_mul ht.typeIs F.entry_tuple_mul ?_ (F.args_tuple_mul_2 _ _)
 show wpAny (model prog w) _ (asIndex (.int k t) >>= _) _ _ s
 refine wpAny_bind ?_
 show wpAny (model prog w) _ (pure k) _ _ s
 refine wpAny_pure ?_
 rw [if_neg (by rw [Bool.or_eq_true,decide_eq_true_eq,decide_eq_true_eq]; omega)]
 refine wpAny_bind (tupleItemsOf_ ht ?_)
 have he:its.toArray.isEmpty=false:=by cases its with | nil=>exact absurd rfl hn | cons a l=>rfl
 by_cases hk:k=1
 ·rw [if_pos (by rw [hk,Bool.or_eq_true]; exact Or.inr rfl)]
  unfold Builtin.Tuple.tupleIsExact
  refine wpAny_bind (wpAny_bind (wpAny_typeOf ht.typeIs (wpAny_pure ?_)))
  rw [if_pos wE]
  exact wpAny_bind (wpAny_rule (wpAny_pure ⟨_,rfl,hq1 hk⟩))
 ·have hk2:(k==1)=false:=by simpa using hk
  rw [if_neg (by rw [he,hk2]; exact Bool.false_ne_true)]
  rw [if_neg (by rw [he,Bool.or_false,decide_eq_true_eq]; omega)]
  have hs:((its.toArray.size:Nat):Int)*k<=(sizeLine:Nat):=by
   rw [List.size_toArray]
   have e:k=((k.toNat:Nat):Int):=by omega
   rw [e]
   exact_mod_cast hz
  have hl:=sizeLine_eq
  rw [hl] at hs
  rw [if_neg wF]
  have ht2:Builtin.Tuple.tupleTooMany (((its.toArray.size:Nat):Int)*k)=false:=by
   unfold Builtin.Tuple.tupleTooMany
   rw [hl]
   exact decide_eq_false wF
  rw [if_neg (by rw [ht2]; exact Bool.false_ne_true)]
  have e:List.foldl (λx1 x2=>x1++x2) #[] (List.replicate k.toNat its.toArray)=(List.replicate k.toNat its).flatten.toArray:=by
   have:=QJ its k.toNat []
   rw [List.nil_append] at this
   exact this
  rw [e]
  exact wpAny_bind (m:=Builtin.Tuple.tupleExact _) (wpAny_newObj_type (wpAny_pure ⟨_,rfl,hq2 hk⟩) (by
   show (List.replicate k.toNat its).flatten.toArray.size<=sizeLine
   rw [List.size_toArray,Ql,Nat.mul_comm]
   exact hz))
end
section
variable {X:Cx} {O:Ae} {xs:List D}
theorem Ge {i:Int} (h1:1<=i) (h2:i<2 ^ 62) (hn:xs≠[]) (hz:xs.length*i.toNat<=sizeLine):Bm X O (binaryOp .Mult) (.tup xs) (.int i) (.tup (List.replicate i.toNat xs).flatten):=λG pins s σ H x y v u Q I rx ry ⟨sa,j1,j2,k⟩=>by
 cases j2
 have j:=j1
 obtain ⟨q,vs,rfl,g,r⟩:=Dk sa j1
 cases rx
 obtain ⟨t,rfl⟩:=ry
 obtain ⟨its,rr,ht,hzz⟩:=I.tuple g
 have hlen:=rr.length
 have hn2:its≠[]:=by
  rintro rfl
  have:=r.length
  rw [hlen] at this
  exact hn (List.eq_nil_of_length_eq_zero this)
 refine wpAny_binaryOp_repeat_ref (T := "tuple") (U := "int") wE ht.typeIs (λs'=>typeIs_int s' i t) Yd F.fills_int_mul F.slot_int_rmul Vf F.slot_int_index.lookup
  (Vb ht ⟨rfl,ht.typeIs,Yl ht h1 h2 hn2 (by rw [<- hlen,<- r.length]; exact hz) (λe=>?_) (λe=>?_)⟩)
 ·subst e
  refine ⟨.ref q,H,I,rfl,k _ G H (Ah.refl _) sa ?_⟩
  have:(List.replicate (1:Int).toNat xs).flatten=xs:=by show (xs++[])=xs; rw [List.append_nil]
  rw [this]
  exact j
 ·obtain ⟨e4,s4⟩:=sa.laid (o:=.tup (List.replicate i.toNat vs).flatten) (p:=s.heap.objs.size) (I.hok.fresh (Nat.le_refl _))
  refine ⟨.ref _,_,I.laid (t':=s.toks) (o:=.tup (List.replicate i.toNat vs).flatten) (λb ob q=>Heap.get?_push_of_some _ q) (Nat.le_refl _) ?_,rfl,k _ _ _ e4 s4 (.tup (Bc.of A5) ((Ve r _).ext e4))⟩
  exact ⟨by rw [Ql,Nat.mul_comm,<- r.length]; exact hz,_,rr.rep i.toNat,DY.new _ _⟩
end
def A6 (f:Str) (d:D):List (Str×D)->List (Str×D)
 | []=>[(f,d)]
 | (g,x)::r=>if g=f then (g,d)::r else (g,x)::A6 f d r
section
variable {K:PySem.W.Frag} {G:Wd}
theorem Bo.look {f:Str} {d:D}:∀ {fs:List (Str×D)} {vs:List (Str×V)},Bo K G fs vs->fs.lookup f=some d->∃ v,vs.lookup f=some v/\Is K G d v
 | _,_,.nil,e=>by cases e
 | _,_,.cons (f:=g) h r,e=>by
  rw [List.lookup_cons] at e
  cases hc:f==g with
  | true=>
   rw [hc] at e
   cases e
   exact ⟨_,by rw [List.lookup_cons,hc],h⟩
  | false=>
   rw [hc] at e
   obtain ⟨v,e1,e2⟩:=Bo.look r e
   exact ⟨v,by rw [List.lookup_cons,hc]; exact e1,e2⟩
theorem Bo.none {f:Str}:∀ {fs:List (Str×D)} {vs:List (Str×V)},Bo K G fs vs->fs.lookup f=Option.none->vs.lookup f=Option.none
 | _,_,.nil,e=>rfl
 | _,_,.cons (f:=g) h r,e=>by
  rw [List.lookup_cons] at e
  cases hc:f==g with
  | true=>rw [hc] at e; cases e
  | false=>
   rw [hc] at e
   rw [List.lookup_cons,hc]
   exact Bo.none r e
theorem Bo.put {f:Str} {d:D} {v:V} (i:Is K G d v):∀ {fs:List (Str×D)} {vs:List (Str×V)},Bo K G fs vs->Bo K G (A6 f d fs) (Cq f v vs)
 | _,_,.nil=>.cons i .nil
 | _,_,.cons (f:=g) h r=>by
  unfold A6 Cq
  by_cases e:g=f
  ·rw [if_pos e,if_pos e]; exact .cons i r
  ·rw [if_neg e,if_neg e]; exact .cons h (Bo.put i r)
theorem Bo.len:∀ {fs:List (Str×D)} {vs:List (Str×V)},Bo K G fs vs->fs.length=vs.length
 | _,_,.nil=>rfl
 | _,_,.cons _ r=>by rw [List.length_cons,List.length_cons,r.len]
end
theorem SA.ins {K:PySem.W.Frag} {G:Wd} {H:Hp} {O:Ae} {q:Nat} {C:Addr} {fs:List (Str×D)} {v:V} (s:SA K G H O) (i:Is K G (.ptr q) v) (h:O[q]?=some (some (.ins C fs))):∃ a dx vs,v=.ref a/\G.l[q]?=some a/\H a=some (.ins C dx vs)/\Bo K G fs vs:=by
 cases i with
 | ptr _ ha=>
  obtain ⟨a,h1,h2,dx,vs,h3,h4⟩:=s.mt q _ h
  cases Option.some.inj (ha.symm.trans h1)
  exact ⟨_,dx,vs,rfl,h1,h3,h4⟩
section
variable {X:Cx} {ρ:Ai} {O:Ae} {e a b c o value:Expr} {es:List Expr} {d da db:D} {ds:List D} {R:D->Ae->Prop} {pos p apos pos':Pos} {x f m:Str} {rest:List Stmt} {P:A7} {q:Nat} {C:Addr} {fs:List (Str×D)}
theorem Az (he:Ad X ρ O e (.ptr q)) (hq:O[q]?=some (some (.ins C fs))) (c:A4 X.K C) (n:As X.K C f) (hl:fs.lookup f=some d) (hb:attributeBase e f X.env (eval e X.env)=eval e X.env:=by rfl):Ad X ρ O (.Attribute e f pos) d:=λG=>
 PE.imp (Wi (he G) hb) λσ H Q ⟨h1,h2,h3⟩=>⟨h1,h2,λv G1 H1 e1 s1 i1=>by
  obtain ⟨a,dx,vs,rfl,g1,g2,g3⟩:=s1.ins i1 hq
  obtain ⟨v,l,iv⟩:=g3.look hl
  exact ⟨a,C,dx,vs,v,rfl,g2,c,n,l,h3 v G1 H1 e1 s1 iv⟩⟩
theorem BY (hv:Ad X ρ O value d) (ho:Ad X ρ O o (.ptr q)) (hq:O[q]?=some (some (.ins C fs))) (c:A4 X.K C) (n:As X.K C f) (hz:fs.length<1000) (h:P.nx ρ (O.set q (some (.ins C (A6 f d fs))))) (hs:swapsWith value (some (.Attribute o f pos')) pos.line X.env=pure false:=by rfl) :
  Ex X ρ O (.Assign [.Attribute o f pos'] value pos) P:=λG pins s σ H E I ⟨h1,h2,h3⟩=>by
 refine plainObj_wpAny_Assign_Attribute (Aq (hv G pins s σ H (λv H1=>∃ G1,Ah G G1/\SA X.K G1 H1 O/\Is X.K G1 d v) I ⟨h1,h2,λv G' H' e s i=>⟨G',e,s,i⟩⟩) λu s1 ⟨y,H1,I1,ry,G1,e1,sa1,i1⟩=>
  Aq (ho G1 pins s1 σ H1 (λv H2=>∃ G2,Ah G1 G2/\SA X.K G2 H2 O/\Is X.K G2 (.ptr q) v) I1 ⟨sa1,h2.ext e1,λv G' H' e s i=>⟨G',e,s,i⟩⟩) λov s2 ⟨x,H2,I2,rx,G2,e2,sa2,i2⟩=>?_) hs
 obtain ⟨a,dx,vs,rfl,g1,g2,g3⟩:=sa2.ins i2 hq
 obtain rfl:ov=Value.ref a:=rx
 refine O6 I2 g2 c n (by rw [<- g3.len]; exact hz) ry λs3 I3=>⟨σ,_,I3,?_⟩
 exact h3.nx σ ρ _ G2 _ (e1.trans e2) (sa2.put (m':=.ins C (A6 f d fs)) hq g1 ⟨dx,_,A5,g3.put (i1.ext e2)⟩) (h2.ext (e1.trans e2)) h
structure Al (P:Program) (w:World) (K:PySem.W.Frag) (mg:Str->Option Value) (base:Heap) (C:Addr) (k:Nat) (m:Str) (sp:AS):Prop where
 ex:∃ f fd ps,AF P w K mg base AI k f fd ps (AK K sp)/\JB K C m f/\Binds K fd ps []
 cls:A4 K C
theorem CQ {k:Nat} {sp:AS} {pl:Sem Bool} (M:Al X.prog X.w X.K X.mg X.base C k m sp) (hr:AL k X.A) (ho:Ad X ρ O o (.ptr q)) (hq:O[q]?=some (some (.ins C fs))) (hno:fs.lookup m=none) (ha:BI X ρ O (e::es) ds) (hs:sp (.ptr q::ds) O R)
  (hst:starEach (e::es) X.env=(false,eval e X.env)::starEach es X.env:=by rfl) (hpl:(backTo pos (starEach es X.env)).any (·.1)=false:=by rfl)
  (ht:eval (.Call (.Attribute o m apos) (e::es) [] pos) X.env=(do
   let ov <- eval o X.env
   standAt apos.atName
   let (f,first) <- holding [ov] (getMethod ov m pl)
   callWith pos f first (backTo pos (starEach (e::es) X.env)) (backToKw pos (keywordEach [] X.env))):=by rfl):Ev X ρ O (.Call (.Attribute o m apos) (e::es) [] pos) R:=λG pins s σ H Q I ⟨h1,h2,h3⟩=>by
 obtain ⟨f,fd,ps,g1,g2,g3⟩:=M.ex
 refine Wg (t:=λσ H Q=>∃ G1,SA X.K G1 H O/\Ax X.K G1 σ ρ/\∀ vs G' H',Ah G1 G'->SA X.K G' H' O->Ak X.K G' ds vs->Q vs H') (ho G) M.cls g2 g1 hr g3 .nil Gd (λpos pins s σ H Q I ⟨G1,z⟩=>ha G1 pos pins s σ H Q I z) hst hpl ht pins s σ H Q I ⟨h1,h2,λv G1 H1 e1 s1 i1=>?_⟩
 obtain ⟨a,dx,vs,rfl,k1,k2,k3⟩:=s1.ins i1 hq
 refine ⟨a,dx,vs,rfl,k2,k3.none hno,G1,s1,h2.ext e1,λus G2 H2 e2 s2 i2=>?_⟩
 show AK X.K sp (V.ref a::(us++[])) H2 Q E0
 rw [List.append_nil]
 exact ⟨G2,O,.ptr q::ds,R,s2,.cons (i1.ext e2) i2,hs,λv d O' G' H' e3 s3 i3 r3=>h3 v d O' G' H' ((e1.trans e2).trans e3) s3 i3 r3⟩
theorem ED {k:Nat} {sp:AS} {pl:Sem Bool} (M:Al X.prog X.w X.K X.mg X.base C k m sp) (hr:AL k X.A) (ho:Ad X ρ O o (.ptr q)) (hq:O[q]?=some (some (.ins C fs))) (hno:fs.lookup m=none) (hs:sp [.ptr q] O R)
  (ht:eval (.Call (.Attribute o m apos) [] [] pos) X.env=(do
   let ov <- eval o X.env
   standAt apos.atName
   let (f,first) <- holding [ov] (getMethod ov m pl)
   callWith pos f first (backTo pos (starEach [] X.env)) (backToKw pos (keywordEach [] X.env))):=by rfl):Ev X ρ O (.Call (.Attribute o m apos) [] [] pos) R:=λG pins s σ H Q I ⟨h1,h2,h3⟩=>by
 obtain ⟨f,fd,ps,g1,g2,g3⟩:=M.ex
 refine Wf (ho G) M.cls g2 g1 hr g3 .nil Gd ht pins s σ H Q I ⟨h1,h2,λv G1 H1 e1 s1 i1=>?_⟩
 obtain ⟨a,dx,vs,rfl,k1,k2,k3⟩:=s1.ins i1 hq
 refine ⟨a,dx,vs,rfl,k2,k3.none hno,?_⟩
 show AK X.K sp (V.ref a::[]) H1 Q E0
 exact ⟨G1,O,[.ptr q],R,s1,.cons i1 .nil,hs,λv d O' G' H' e3 s3 i3 r3=>h3 v d O' G' H' (e1.trans e3) s3 i3 r3⟩
structure Cy (P:Program) (w:World) (K:PySem.W.Frag) (mg:Str->Option Value) (base:Heap) (C:Addr) (k:Nat) (x:Str) (sp:AS):Prop where
 ex:∃ f fd ps,AF P w K mg base AI k f fd ps (AK K sp)/\Mk K C f/\Binds K fd ps []
 at_:mg x=some (.ref C)
theorem made {K:PySem.W.Frag} {G:Wd} {H:Hp} {y dx:Addr} (s:SA K G H O) (h1:H y=none) (h2:H dx=none) (h3:dx≠y):Ah G ⟨G.g,G.l++[y]⟩/\SA K ⟨G.g,G.l++[y]⟩ (Ao (Ao H dx (.own y)) y (.ins C dx [])) (O++[some (.ins C [])]):=
 (s.grow (GZ h2)).new (by rw [AJ]; exact h1; exact λe=>h3 e.symm) ⟨dx,[],A5,.nil⟩
theorem DR {k:Nat} {sp:AS} (M:Cy X.prog X.w X.K X.mg X.base C k x sp) (hr:AL (k+1) X.A) (ha:BI X ρ O (e::es) ds) (hs:sp (.ptr O.length::ds) (O++[some (.ins C [])]) λd O'=>d=.non/\R (.ptr O.length) O')
  (hg:Gl X x:=by rfl) (hdb:(x==("__debug__" : Str))=false:=by decide) (he:starEach (e::es) X.env=(false,eval e X.env)::starEach es X.env:=by rfl) (hpl:(backTo pos (starEach es X.env)).any (·.1)=false:=by rfl) :
  Ev X ρ O (.Call (.Name x p) (e::es) [] pos) R:=λG pins s σ H Q I ⟨h1,h2,h3⟩=>by
 obtain ⟨f,fd,ps,g1,g2,g3⟩:=M.ex
 refine PJ g2 g1 hr hg M.at_ g3 .nil Gd (ha G) hdb he hpl pins s σ H Q I ⟨h1,h2,λvs G1 H1 e1 s1 i1=>λy dx k1 k2 k3=>?_⟩
 obtain ⟨e2,s2⟩:=made (C:=C) s1 k1 k2 k3
 have iy:Is X.K ⟨G1.g,G1.l++[y]⟩ (.ptr O.length) (.ref y):=.ptr _ (by rw [<- s1.len,List.getElem?_append_right (Nat.le_refl _),Nat.sub_self]; rfl)
 show AK X.K sp (V.ref y::(vs++[])) _ _ E0
 rw [List.append_nil]
 refine ⟨_,_,.ptr O.length::ds,_,s2,.cons iy (i1.ext e2),hs,λv d O' G' H' e3 s3 i3 r3=>?_⟩
 obtain ⟨rfl,r⟩:=r3
 cases i3
 exact ⟨rfl,h3 _ _ O' G' H' ((e1.trans e2).trans e3) s3 (iy.ext e3) r⟩
end
section
variable {X:Cx} {ρ:Ai} {O:Ae} {e a b c o ix value:Expr} {es:List Expr} {d da db:D} {ds xs:List D} {R:D->Ae->Prop} {pos p apos tpos:Pos} {x f m:Str} {rest:List Stmt} {P:A7} {q j:Nat} {i:Int}
theorem SA.lstAt {K:PySem.W.Frag} {G:Wd} {H:Hp} {v:V} (s:SA K G H O) (h1:Is K G (.ptr q) v) (h:O[q]?=some (some (.lst xs))):∃ ad vs,v=.ref ad/\G.l[q]?=some ad/\H ad=some (.lst vs)/\Ak K G xs vs:=by
 cases h1 with
 | ptr _ ha=>
  obtain ⟨ad,g1,g2,vs,g3,g4⟩:=s.mt q _ h
  cases Option.some.inj (ha.symm.trans g1)
  exact ⟨_,vs,rfl,g1,g3,g4⟩
end
end DL
namespace DL
open PySem PySem.Spec PyProof.Rows L2 PySem.W
structure EW (n:Nat) (k:Bool) (l i:Nat) (j:Int) (xs:Array Value) (f0 f1 old:Value) (h:Heap):Prop where
 z:h.get? (n+1)=some { cls:=.type "enumerate",dict:=none,data:=.fields #[f0,f1,.ref n,.int j 0,.none,old],slots:=#[] }
 w:Cw k h n l i
 s:BH k h l xs
 b:l<n
def BK (n:Nat) (h h':Heap):Prop:=∀ c o,c≠n->c≠n+1->h.get? c=some o->h'.get? c=some o
theorem BK.refl (n:Nat) (h:Heap):BK n h h:=λ_ _ _ _ e=>e
theorem BK.on {n:Nat} {h h1 h2:Heap} (p:BK n h h1) (q:BK n h1 h2):BK n h h2:=λc o c1 c2 e=>q c o c1 c2 (p c o c1 c2 e)
theorem BK.more {n:Nat} {h h':Heap} {o:Obj} (p:BK n h h'):BK n h (h'.push o):=p.on λc u _ _ q=>Heap.get?_push_of_some _ q
section
variable {prog:Program} {w:World} {A:Around} {E:Value->Shared->Prop} {s:Shared} {n l i:Nat} {j:Int} {k:Bool} {xs:Array Value} {f0 f1 old v:Value}
theorem EW.set {m:Nat} {vs:Array Value} {Q:Unit->Shared->Prop} (W:EW n k l i j xs f0 f1 old s.heap) (hm:m<6)
  (hQ:∀ h',h'.get? (n+1)=some { cls:=.type "enumerate",dict:=none,data:=.fields ((#[f0,f1,.ref n,.int j 0,.none,old]:Array Value).setIfInBounds m v),slots:=#[] }->Cw k h' n l i->BH k h' l xs->BK n s.heap h'->h'.objs.size=s.heap.objs.size->Q () { s with heap:=h' }):wpAny (model prog w) A (setField (.ref (n+1)) m v) Q E s:=
 wpAny_setField_rec W.z hm λh' g e=>hQ h' g (W.w.at λo=>e.extBut _ _ (ap wF)) (W.s.at λo=>e.extBut _ _ (ap (by have:=W.b; omega))) (λc o _ c2 q=>e.extBut _ _ c2 q) e.1
theorem EW.set0 {Q:Unit->Shared->Prop} (W:EW n k l i j xs f0 f1 old s.heap) (hQ:∀ h',EW n k l i j xs v f1 old h'->BK n s.heap h'->h'.objs.size=s.heap.objs.size->Q () { s with heap:=h' }):wpAny (model prog w) A (setField (.ref (n+1)) 0 v) Q E s:=W.set (vs:=#[]) wE λh' a b c d e=>hQ h' ⟨a,b,c,W.b⟩ d e
theorem EW.set1 {Q:Unit->Shared->Prop} (W:EW n k l i j xs f0 f1 old s.heap) (hQ:∀ h',EW n k l i j xs f0 v old h'->BK n s.heap h'->h'.objs.size=s.heap.objs.size->Q () { s with heap:=h' }):wpAny (model prog w) A (setField (.ref (n+1)) 1 v) Q E s:=W.set (vs:=#[]) wE λh' a b c d e=>hQ h' ⟨a,b,c,W.b⟩ d e
theorem EW.set3 {j':Int} {Q:Unit->Shared->Prop} (W:EW n k l i j xs f0 f1 old s.heap) (hQ:∀ h',EW n k l i j' xs f0 f1 old h'->BK n s.heap h'->h'.objs.size=s.heap.objs.size->Q () { s with heap:=h' }):wpAny (model prog w) A (setField (.ref (n+1)) 3 (rawInt j')) Q E s:=W.set (vs:=#[]) wE λh' a b c d e=>hQ h' ⟨a,b,c,W.b⟩ d e
theorem EW.set4 {Q:Unit->Shared->Prop} (W:EW n k l i j xs f0 f1 old s.heap) (hQ:∀ h',EW n k l i j xs f0 f1 old h'->BK n s.heap h'->h'.objs.size=s.heap.objs.size->Q () { s with heap:=h' }):wpAny (model prog w) A (setField (.ref (n+1)) 4 .none) Q E s:=W.set (vs:=#[]) wE λh' a b c d e=>hQ h' ⟨a,b,c,W.b⟩ d e
theorem EW.set5 {Q:Unit->Shared->Prop} (W:EW n k l i j xs f0 f1 old s.heap) (hQ:∀ h',EW n k l i j xs f0 f1 v h'->BK n s.heap h'->h'.objs.size=s.heap.objs.size->Q () { s with heap:=h' }):wpAny (model prog w) A (setField (.ref (n+1)) 5 v) Q E s:=W.set (vs:=#[]) wE λh' a b c d e=>hQ h' ⟨a,b,c,W.b⟩ d e
theorem EW.inner {Q:Value->Shared->Prop} (W:EW n k l i j xs f0 f1 old s.heap) (h:Q (.ref n) s):wpAny (model prog w) A (field (.ref (n+1)) 2) Q E s:=wpAny_field W.z rfl (x:=.ref n) rfl h
theorem EW.draw {x:Value} {Q:Value->Shared->Prop} (W:EW n k l i j xs f0 f1 old s.heap) (hx:xs[i]?=some x) (hQ:∀ h',EW n k l (i+1) j xs f0 f1 old h'->BK n s.heap h'->h'.objs.size=s.heap.objs.size->Q x { s with heap:=h' }):wpAny (model prog w) A (Builtin.SmallTypes.nextOf (.ref n)) Q E s:=
 J3 W.w W.s hx λh' g e=>hQ h' ⟨e.extBut _ _ (ap wF) W.z,g,W.s.at λo=>e.extBut _ _ (ap (by have:=W.b; omega)),W.b⟩ (λc o c1 _ q=>e.extBut _ _ c1 q) e.1
theorem EW.free {Q:Bool->Shared->Prop} (W:EW n k l i j xs f0 f1 old s.heap) (hf:ZF f0) (y:Q true s) (z:∀ h' f,EW n k l i j xs f0 f old h'->BK n s.heap h'->h'.objs.size=s.heap.objs.size->Q false { s with heap:=h' }):wpAny (model prog w) A (Builtin.SmallTypes.ownedTupleIsFree (.ref (n+1))) Q E s:=by
 obtain ⟨h,g,d,tk,os⟩:=s
 have hz:=W.z
 dsimp only at hz
 rcases hf with rfl | ⟨c,rfl⟩
 ·wp_walk
  exact y
 ·wp_walk using RP
  cases h.get? (Int.toNat (c:Int)) with
  | none=>wp_walk; exact y
  | some o=>
   by_cases m:f1=.bool true
   ·subst m
    wp_walk
    exact z _ _ W (BK.refl _ _) rfl
   ·wp_walk using W.set1
    exact λh' V o1 o2=>wpAny_pure (z h' _ V o1 o2)
theorem EW.more {h:Heap} {o:Obj} (W:EW n k l i j xs f0 f1 old h):EW n k l i j xs f0 f1 old (h.push o):=
 have e:∀ c u,h.get? c=some u->(h.push o).get? c=some u:=λc u q=>Heap.get?_push_of_some _ q
 ⟨e _ _ W.z,W.w.at (e _),W.s.at (e _),W.b⟩
theorem Z8 {x:Value} {Q:Value->Shared->Prop} (W:EW n k l i j xs f0 f1 old s.heap) (hf:ZF f0) (hx:xs[i]?=some x)
  (hQ:∀ h' t f0' f1' old' tk',EW n k l (i+1) (j+1) xs f0' f1' old' h'->ZF f0'->IsPair h' s.heap.objs.size (.int j t) x->BK n s.heap h'->Q (.ref s.heap.objs.size) { s with heap:=h',toks:=tk' }) :
  wpAny (model prog w) A (Builtin.«enumerate.__next__» ⟨[.ref (n+1)],[]⟩) (λfin s'=>∃ v,fin=.done (.ret v)/\Q v s') E s:=by
 obtain ⟨h,g,d,tk,os⟩:=s
 dsimp only at W hQ
 have z:=W.z
 have lt:n+1<h.objs.size:=Heap.lt_size z
 wp_walk using W.inner,W.draw hx
 intro h1 W1 o1 z1
 have t1:=W1.z
 wp_walk using EW.set3 (s:=⟨h1,g,d,tk+1,os⟩) W1
 intro h2 W2 o2 z2
 wp_walk using EW.set4 (s:=⟨h2,g,d,tk+1,os⟩) W2
 intro h3 W3 o3 z3
 have zl:h3.objs.size=h.objs.size:=z3.trans (z2.trans z1)
 have ol:BK n h h3:=o1.on (o2.on o3)
 have W4:EW n k l (i+1) (j+1) xs f0 f1 old (h3.push { cls:=.type "tuple",data:=.seq #[.int j tk,x] }):=W3.more
 have t4:=W4.z
 have pr:IsPair (h3.push { cls:=.type "tuple",data:=.seq #[.int j tk,x] }) h3.objs.size (.int j tk) x:=Heap.get?_push_size _ rfl
 have far:∀ m,m<=1->h3.objs.size≠n+m:=λm hm=>by omega
 have far0:h3.objs.size≠n:=far 0 wE
 have far1:h3.objs.size≠n+1:=far 1 wE
 rw [<- zl] at hQ
 wp_walk using EW.free (s:=⟨h3.push _,g,d,tk+1,os⟩) W4 hf,EW.set5 (s:=⟨h3.push _,g,d,tk+1,os⟩) W4
 ·intro h5 W5 o5 z5
  wp_walk using EW.set0 (s:=⟨h5,g,d,tk+1,os⟩) W5
  intro h6 W6 o6 z6
  wp_walk using EW.set1 (s:=⟨h6,g,d,tk+1,os⟩) W6
  intro h7 W7 o7 z7
  wp_walk
  exact ⟨_,rfl,hQ h7 tk _ _ _ _ W7 (.inr ⟨_,rfl⟩) (o7 _ _ far0 far1 (o6 _ _ far0 far1 (o5 _ _ far0 far1 pr))) (ol.more.on (o5.on (o6.on o7)))⟩
 ·intro h5 f W5 o5 z5
  wp_walk
  exact ⟨_,rfl,hQ h5 tk _ _ _ _ W5 hf (o5 _ _ far0 far1 pr) (ol.more.on o5)⟩
theorem Z9 {Q:PySem.Fin->Shared->Prop} (hh:A.handled=none) (W:EW n k l i j xs f0 f1 old s.heap) (he:xs[i]?=none) (hE:∀ h' e,BK n s.heap h'->(∃ o,h'.get? e=some o/\o.cls=.type "StopIteration")->E (.ref e) { s with heap:=h' }) :
  wpAny (model prog w) A (Builtin.«enumerate.__next__» ⟨[.ref (n+1)],[]⟩) Q E s:=by
 obtain ⟨h,g,d,tk,os⟩:=s
 dsimp only at W hE
 wp_walk using W.inner,J4 hh W.w W.s he
 exact λh' e x y=>hE h' e (λc o c1 _ q=>x c o c1 q) y
def FK (k:Bool) (n l i:Nat) (h:Heap):Prop:=∃ f0 f1 old,ZF f0/\h.get? (n+1)=some { cls:=.type "enumerate",dict:=none,data:=.fields #[f0,f1,.ref n,.int i 0,.none,old],slots:=#[] }/\Cw k h n l i
theorem EW.tn {h:Heap} (W:EW n k l i i xs f0 f1 old h) (hf:ZF f0):FK k n l i h:=⟨f0,f1,old,hf,W.z,W.w⟩
theorem Zg {tg:Expr} {u:Value} {Q:Unit->Shared->Prop} (W:EW n k l i j xs f0 f1 old s.heap) (hf:ZF f0) (hQ:∀ h' f,EW n k l i j xs f f1 old h'->ZF f->BK n s.heap h'->Q () { s with heap:=h' }):wpAny (model prog w) A (letOwnedTupleGo tg (.ref (n+1)) u) Q E s:=by
 have same:Q () s:=hQ s.heap _ W hf (BK.refl _ _)
 obtain ⟨h,g,d,tk,os⟩:=s
 have z:=W.z
 dsimp only at z
 unfold letOwnedTupleGo
 cases tg <;> try exact wpAny_pure same
 all_goals cases u <;> try exact wpAny_pure same
 all_goals
  wp_walk
  split
  ·exact wpAny_bind (wpAny_rule (W.set0 (s:=⟨h,g,d,tk,os⟩) (v:=.none) λh' V o z=>hQ h' _ V (.inl rfl) o))
  ·exact wpAny_pure same
theorem S6 {M:Model} {c:Value} {Q:Bool->Shared->Prop} (h:∀ b,Q b s):wpAny M A (Builtin.SmallTypes.calledThroughType c) Q E s:=wpAny_bind (wpAny_stack_any λ_=>wpAny_pure (h _))
end
theorem Z7 (k:Bool) (l:Addr) (xs:Array Value) :
  Meets (Builtin.«enumerate.__new__» ⟨[.type "enumerate",.ref l],[]⟩) (λ_ R s=>BH k s.heap l xs /\
   ∀ h',EW s.heap.objs.size k l 0 0 xs .none (.bool false) .none h'->(∀ c o,s.heap.get? c=some o->h'.get? c=some o)->R (.ok (.ret (.ref (s.heap.objs.size+1)))) { s with heap:=h' }):=
 .of_wp λprog w A R s q=>by
  obtain ⟨h,g,d,tk,os⟩:=s
  obtain ⟨t,q⟩:=q
  have hsub:=sub_enumerate
  have lt:l<h.objs.size:=by
   cases k with
   | true=>obtain ⟨o,g,_⟩:=(t:h.IsList l xs); exact Heap.lt_size g
   | false=>obtain ⟨o,g,_⟩:=(t:h.IsTuple l xs); exact Heap.lt_size g
  wp_walk using S6
  intro b
  have fin:∀ a,a.isFreed=false->(∀ (h:Heap) c,h.get? c=some a->Cw k h c l 0)->R (.ok (.ret (.ref (h.push a).objs.size))) ⟨(h.push a).push { cls:=.type "enumerate",data:=.fields #[.none,.bool false,.ref h.objs.size,.int 0 0,.none,.none] },g,d,tk,os⟩:=λa fa ia=>by
   have up:∀ c u,h.get? c=some u->((h.push a).push { cls:=.type "enumerate",data:=.fields #[.none,.bool false,.ref h.objs.size,.int 0 0,.none,.none] }).get? c=some u:=λc u e=>Heap.get?_push_of_some _ (Heap.get?_push_of_some _ e)
   rw [Heap.size_push]
   refine q _ ⟨?_,ia _ _ (Heap.get?_push_of_some _ (Heap.get?_push_size _ fa)),t.at (up _),lt⟩ up
   rw [<- Heap.size_push h a]
   exact Heap.get?_push_size _ rfl
  cases b
  all_goals
   wp_walk using Mr t
   intro a fa ia
   wp_walk
   exact ⟨_,rfl,fin a fa ia⟩
theorem Q0F {prog:Program} {w:World} {A:Around} {E:Value->Shared->Prop} {s:Shared} {k:Bool} {l:Addr} {xs:Array Value} {Q:Value->Shared->Prop} (t:BH k s.heap l xs)
  (hQ:∀ h',FK k s.heap.objs.size l 0 h'->(∀ c o,s.heap.get? c=some o->h'.get? c=some o)->Q (.ref (s.heap.objs.size+1)) { s with heap:=h' }):wpAny (model prog w) A (call (.type "enumerate") [.ref l]) Q E s:=
 callType_new F.called_enumerate wE (F.typeCall_enumerate_1 _) (F.newCall_enumerate_1 _) (λobj=>F.args_object_init_2 obj _) F.entry_enumerate_new (Z7 k l xs) ⟨t,λh' W up=>⟨⟨_,W.z,rfl⟩,hQ h' (W.tn (.inl rfl)) up⟩⟩
def Nq (k:Bool) (K:PySem.W.Frag) (l:Addr):It:=
  ⟨λi H=>∃ as a,Sq k K H l as/\as[i]?=some a,
   λi H x H'=>∃ T a,H T=none/\H'=Ao H T (.tup [.int (i:Nat),a])/\x=.ref T/\∀ as,Sq k K H l as->as[i]?=some a,
   λi H=>∃ as,Sq k K H l as/\as.length<=i⟩
def DT (n:Nat):List Addr:=[n,n+1]
theorem Z1 {k:Bool} {n l i:Nat} {h h':Heap} (st:FK k n l i h) (q:∀ b∈DT n,∀ o,h.get? b=some o->h'.get? b=some o):FK k n l i h':=by
 obtain ⟨f0,f1,old,hf,z,w⟩:=st
 exact ⟨f0,f1,old,hf,q _ (by simp [DT]) _ z,w.at (q _ (by simp [DT]))⟩
theorem Q1 {k:Bool} {n l i:Nat} {h:Heap} (st:FK k n l i h):∀ b∈DT n,∃ o,h.get? b=some o/\∀ v,o.data≠.cell v:=by
 obtain ⟨f0,f1,old,hf,z,w⟩:=st
 intro b hb
 rcases List.mem_cons.mp hb with rfl | hb
 ·exact w.obj
 ·cases List.mem_singleton.mp hb
  exact ⟨_,z,λv e=>by cases e⟩
theorem BK.fp {n:Nat} {h h':Heap} (p:BK n h h'):∀ c o,c∉DT n->h.get? c=some o->h'.get? c=some o:=λc o hc=>p c o (λe=>hc (by simp [DT,e])) (λe=>hc (by simp [DT,e]))
theorem SV {P:Program} {w:World} {K:PySem.W.Frag} {tg:Expr} (k:Bool) (n l:Nat) (hl:l<n):Fb P w K tg (Nq k K l) (DT n) (n+1) (FK k n l) where
 mem:=by simp [DT]
 obj:=λi h st=>Q1 st
 keep:=λi h h' st q=>Z1 st q
 item:=by
  intro X hP hw hK hc i pins s σ H E I hf st hg
  subst hP hw hK
  obtain ⟨as,a,q1,ga⟩:=hg
  obtain ⟨ia,va,sa,_⟩:=D0 I q1
  obtain ⟨ua,hua,rua⟩:=va.get ga
  have hTn:s.heap.objs.size∉DT n:=λm=>let ⟨o,e,_⟩:=Q1 st _ m; Nat.lt_irrefl _ (Heap.lt_size e)
  obtain ⟨f0,f1,old,zf,z,w1⟩:=st
  refine IN ⟨_,z,rfl⟩ F.slot_enumerate_next F.entry_enumerate_next (F.args_enumerate_next_1 _) (Z8 (x:=ua) ⟨z,w1,sa,hl⟩ zf (by simpa using hua) λh1 t f0' f1' old' tk' W1 zf1 pr o1=>⟨_,rfl,Zg (s:={ s with heap:=h1,toks:=tk' }) W1 zf1 λh2 f W2 zf2 o2=>?_⟩)
  have Iz:L2.Inv X pins σ H { s with heap:=h2,toks:=tk' }:=JD I hf (o1.on o2).fp
  have fr:H s.heap.objs.size=none:=I.hok.fresh (Nat.le_refl _)
  refine ⟨.ref s.heap.objs.size,Ao H s.heap.objs.size (.tup [.int (i:Nat),a]),?_,rfl,⟨_,a,fr,rfl,rfl,λcs q=>?_⟩,?_,λc hb=>?_⟩
  ·refine R1 Iz (I.fpOk (Nat.le_refl _) fr) I.sz ⟨show 2<=sizeLine by decide,[.int i t,ua],.cons ⟨t,rfl⟩ (.cons rua .nil),?_⟩
   exact ⟨_,o2.fp _ _ hTn pr,rfl,rfl,_,rfl⟩
  ·rw [Nr I q q1]; exact ga
  ·exact EW.tn (i:=i+1) W2 zf2
  ·rw [AJ (λe=>hTn (by rw [<- e]; exact hb))]; exact (hf c hb).1
 done:=by
  intro X hP hw hK hc i pins s σ H E I hf st hg
  subst hP hw hK
  obtain ⟨as,q1,hend⟩:=hg
  obtain ⟨ia,va,sa,_⟩:=D0 I q1
  obtain ⟨f0,f1,old,zf,z,w1⟩:=st
  have e1:=va.length
  exact IN ⟨_,z,rfl⟩ F.slot_enumerate_next F.entry_enumerate_next (F.args_enumerate_next_1 _) (Z9 (I.ok.hd hc) ⟨z,w1,sa,hl⟩ (by simp; omega) λh' e p q=>⟨q,rfl,JD (t':=s.toks) I hf p.fp⟩)
 self:=λA i s Q E st h=>by
  obtain ⟨f0,f1,old,zf,z,_⟩:=st
  exact PP ⟨_,z,rfl⟩ F.slot_enumerate_iter F.entry_enumerate_iter (F.args_enumerate_iter_1 _) F.slot_enumerate_next (wpAny_pure ⟨rfl,rfl⟩) h
theorem YT {K:PySem.W.Frag} {G:Wd} {k:Bool} {l:Addr} {vs:List V} {xs:List D} (h1:Sq k K G.g l vs) (r1:Ak K G xs vs):DW K G (Nq k K l) (xs.zipIdx.map λp=>.tup [.int (p.2:Nat),p.1]) where
 go:=λi H e hi=>by
  have hi:i<xs.length:=by simpa using hi
  obtain ⟨a,ha,_⟩:=r1.get (i:=i) (d:=xs[i]) (by simp)
  exact ⟨vs,a,h1.same e,ha⟩
 stop:=λi H e hi=>by
  have hi:xs.length<=i:=by simpa using hi
  exact ⟨vs,h1.same e,by rw [<- r1.length]; exact hi⟩
 yld:=λi v H H' G2 O2 e s y hi=>by
  obtain ⟨T,a,hT,rfl,rfl,y1⟩:=y
  obtain ⟨x,hx,ix⟩:=r1.getV (y1 vs (h1.same (e.g.trans s.sub)))
  obtain ⟨e3,s3⟩:=s.laid (o:=.tup [.int (i:Nat),a]) hT
  refine ⟨.tup [.int (i:Nat),x],_,?_,e3,s3,.tup (Bc.of A5) (.cons (.int _) (.cons (ix.ext (e.trans e3)) .nil))⟩
  rw [List.getElem?_map,List.getElem?_zipIdx,hx]
  simp
section
variable {X:Cx} {ρ:Ai} {O:Ae} {e a b c:Expr} {es:List Expr} {d da db:D} {ds:List D} {R:D->Ae->Prop} {pos p:Pos} {x:Str} {xs ys:List D}
theorem Zu (ha:Ad X ρ O a da) (fa:LF da xs) (hm:X.mg "enumerate" = none) (hg:Gl X "enumerate" := by rfl) (hs:starEach [a] X.env=[(false,eval a X.env)]:=by rfl) :
  GA X ρ O (.Call (.Name "enumerate" p) [a] [] pos) (xs.zipIdx.map λp=>.tup [.int (p.2:Nat),p.1]) "enumerate" := λG tg pins s σ H R I sa en k=>by
 refine Call_ (FH I hg hm boot_enumerate (PyProof.Rows.callWith_type1 (Aq (Ab ha Af hs G pos pins s σ H (λvs H'=>∃ G',Ah G G'/\SA X.K G' H' O/\Ak X.K G' [da] vs) I ⟨sa,en,λvs G' H' e1 s1 i1=>⟨G',e1,s1,i1⟩⟩) λus s1 ⟨vs,H1,I1,r1,G1,e1,sa1,is1⟩=>?_) (by rw [hs]; rfl) rfl))
 cases is1 with | cons i1 is1=>
 cases is1
 obtain ⟨k1,l1,v1,rfl,q1,j1⟩:=fa.sq i1
 obtain ⟨u,rfl,ru⟩:=EN r1
 cases ru
 obtain ⟨t1,w1,g1,z1⟩:=D0 I1 (q1.same sa1.sub)
 have lt:l1<s1.heap.objs.size:=by
  cases k1 with
  | true=>obtain ⟨o,g,_⟩:=(g1:s1.heap.IsList l1 _); exact Heap.lt_size g
  | false=>obtain ⟨o,g,_⟩:=(g1:s1.heap.IsTuple l1 _); exact Heap.lt_size g
 refine Q0F g1 λh' Z kp=>?_
 have Ik:L2.Inv X pins σ H1 { s1 with heap:=h',toks:=s1.toks }:=I1.kept kp
 refine ⟨⟨s1.heap.objs.size+1,DT s1.heap.objs.size,FK k1 s1.heap.objs.size l1,Nq k1 X.K l1,H1,rfl,Ik,SV k1 _ l1 lt,Z,λb hb=>?_,k _ G1 H1 e1 sa1 (YT q1 j1)⟩,?_⟩
 ·have hb':s1.heap.objs.size<=b:=by
   rcases List.mem_cons.mp hb with rfl | hb
   ·exact Nat.le_refl _
   ·cases List.mem_singleton.mp hb; exact Nat.le_succ _
  exact I1.fpOk hb' (I1.hok.fresh hb')
 ·obtain ⟨f0,f1,old,_,hz,_⟩:=Z
  exact ⟨_,hz,rfl⟩
theorem QN {α:Type} {f:α->D} {as:List α} (ha:Ad X ρ O a da) (fa:LF da (as.map f)) (hm:X.mg "enumerate" = none) (hg:Gl X "enumerate" := by rfl) (hs:starEach [a] X.env=[(false,eval a X.env)]:=by rfl) :
  GA X ρ O (.Call (.Name "enumerate" p) [a] [] pos) (as.zipIdx.map λp=>.tup [.int (p.2:Nat),f p.1]) "enumerate" := by
 have e:(as.zipIdx.map λp=>D.tup [.int (p.2:Nat),f p.1])=((as.map f).zipIdx.map λp=>D.tup [.int (p.2:Nat),p.1]):=by
  rw [List.zipIdx_map,List.map_map]
  rfl
 rw [e]
 exact Zu ha fa hm hg hs
end
end DL
namespace DL
open PySem PySem.Spec PyProof.Rows L2
section
variable {X:Cx} {ρ:Ai} {O:Ae} {e a b c o value:Expr} {es:List Expr} {d da db:D} {ds:List D} {R:D->Ae->Prop} {pos p p2 apos pos':Pos} {x y f m:Str} {rest:List Stmt} {P:A7} {q:Nat} {C C2:Addr} {fs:List (Str×D)}
theorem Hu {i:Int} {t:Tok} (hm:X.mg x=some (.int i t)) (hg:Gl X x:=by rfl) (hd:(x==("__debug__" : Str))=false:=by decide):Ad X ρ O (.Name x pos) (.int i):=λG=>
 PE.imp (L7 (v:=.int i) hg hm ⟨t,rfl⟩ hd) λσ H Q ⟨h1,h2,h3⟩=>h3 _ G H (Ah.refl _) h1 (.int i)
structure Cl (K:PySem.W.Frag) (C:Addr):Prop where
 cls:A4 K C
 ha:PySem.W.findIn K (.ref C) "__class__" = some (some (.builtin "object.__class__"))
 hn:PySem.W.specialIn K (.builtin "object.__class__") "__get__" = some (some (.builtin "getset_descriptor.__get__"))
 htk:PySem.W.takesIn K (.builtin "object.__class__")=some true
 hm:PySem.W.mroIn K C (.type "object")=some true
theorem Go {k:Bool} (hm:X.mg "isinstance" = none) (he:Ad X ρ O e (.ptr q)) (hq:O[q]?=some (some (.ins C fs))) (T:Cl X.K C) (hx:X.mg x=some (.ref C2)) (hk:PySem.W.kitOne X.K (.ref C) (.ref C2)=some k)
  (hg:Gl X "isinstance" := by rfl) (hgx:Gl X x:=by rfl) (hdx:(x==("__debug__" : Str))=false:=by decide) (hs:starEach [e,.Name x p2] X.env=(false,eval e X.env)::starEach [.Name x p2] X.env:=by rfl) (hpl:(backTo pos (starEach [.Name x p2] X.env)).any (·.1)=false:=by rfl) :
  Ad X ρ O (.Call (.Name "isinstance" p) [e,.Name x p2] [] pos) (.bl k):=λG=>by
 refine PE.imp (II (id := "isinstance") (r:=λvs H Q=>∃ a dx fs,vs=[.ref a,.ref C2]/\H a=some (.ins C dx fs)/\Q (.bl k) H) (λpins s σ H xs us Q I r h=>?_) hg hm (by first | rfl | decide +kernel) (DM (he G) (DM (L7 (v:=.ref C2) hgx hx rfl hdx) FA rfl) hs) wE wE hs hpl) λσ H Q ⟨h1,h2,h3⟩=>?_
 ·obtain ⟨a,dx,fs,rfl,ha,hQ⟩:=h
  obtain ⟨u,u',rfl,ru,ru'⟩:=EM r
  cases ru'
  exact YU I ru (.ins ha T.cls T.ha T.hn T.htk T.hm) hk λtk=>⟨.bl k,H,I.kept λ_ _ e=>e,rfl,hQ⟩
 ·refine ⟨h1,h2,λv G1 H1 e1 s1 i1=>?_⟩
  obtain ⟨a,dx,vs,rfl,g1,g2,g3⟩:=s1.ins i1 hq
  exact ⟨a,dx,vs,rfl,g2,h3 _ G1 H1 e1 s1 (.bl k)⟩
structure Ff (P:Program) (w:World) (K:PySem.W.Frag) (mg:Str->Option Value) (base:Heap) (x:Str) (k:Nat) (m:Str) (sp:AS):Prop where
 ex:∃ C mc f fd ps,mg x=some (.ref C)/\PySem.W.specialIn K (.ref C) "__getattribute__" = some (some (.builtin "type.__getattribute__"))/\PySem.W.readsIn K C mc=true/\PySem.W.findCls K (.ref C) mc m=some (.val (.ref f))/\PySem.W.handedIn (.ref f)=true /\
  AF P w K mg base AI k f fd ps (AK K sp)/\PySem.W.keepIn K (.ref f)=true/\Binds K fd ps []
theorem Hs {k:Nat} {sp:AS} {pl:Sem Bool} (M:Ff X.prog X.w X.K X.mg X.base x k m sp) (hr:AL k X.A) (ha:BI X ρ O (e::es) ds) (hs:sp ds O R) (hg:Gl X x:=by rfl) (hdb:(x==("__debug__" : Str))=false:=by decide)
  (hst:starEach (e::es) X.env=(false,eval e X.env)::starEach es X.env:=by rfl) (hpl:(backTo pos (starEach es X.env)).any (·.1)=false:=by rfl)
  (ht:eval (.Call (.Attribute (.Name x p) m apos) (e::es) [] pos) X.env=(do
   let ov <- eval (.Name x p) X.env
   standAt apos.atName
   let (f,first) <- holding [ov] (getMethod ov m pl)
   callWith pos f first (backTo pos (starEach (e::es) X.env)) (backToKw pos (keywordEach [] X.env))):=by rfl):Ev X ρ O (.Call (.Attribute (.Name x p) m apos) (e::es) [] pos) R:=λG pins s σ H Q I ⟨h1,h2,h3⟩=>by
 obtain ⟨C,mc,f,fd,ps,g1,g2,g3,g4,g5,g6,g7,g8⟩:=M.ex
 refine PySem.W.methodCall_KW (pl:=pl) (EU I hg g1 (PySem.W.method_cls I.kIn g2 (PySem.W.cls_value I.kIn g3 g4 g5 ?_)) hdb) ht
 have I1:L2.Inv X pins σ H { s with toks:=s.toks+1 }:=I.kept λ_ _ e=>e
 refine PySem.W.callWith_K (first:=[]) (h₀:=X.base) I.ok.mod.kin g7 (Aq (ha G pos pins _ σ H (λvs H'=>∃ G',Ah G G'/\SA X.K G' H' O/\Ak X.K G' ds vs) I1 ⟨h1,h2,λvs G' H' e1 s1 i1=>⟨G',e1,s1,i1⟩⟩) λus s2 ⟨vs,H2,I2,r,G1,e1,s1,i1⟩=>⟨I2.kIn,?_⟩) hst hpl
 refine IB (us:=us) (vs:=vs) (dvs:=[]) (E:=E0) g6 hr g8 .nil Gd I2 r ?_
 show AK X.K sp (vs++[]) H2 Q E0
 rw [List.append_nil]
 exact ⟨G1,O,ds,R,s1,i1,hs,λv d O' G' H' e2 s2 i2 r2=>h3 v d O' G' H' (e1.trans e2) s2 i2 r2⟩
end
section
variable {X:Cx} {ρ:Ai} {O:Ae} {e a b c:Expr} {body orelse:List Stmt} {d da db:D} {pos:Pos} {P:A7}
end
section
variable {X:Cx} {ρ:Ai} {O:Ae} {a b:Expr} {pos:Pos} {R:D->Ae->Prop} {xs:List D}
end
end DL
namespace DL
open PySem PySem.Spec PyProof.Rows L2 PySem.W
section
variable {X:Cx} {ρ:Ai} {O:Ae} {d:D} {xs ys:List D}
theorem Ak.toBls {K:PySem.W.Frag} {G:Wd}:∀ {bs:List Bool} {vs:List V},Ak K G (bs.map D.bl) vs->vs=bs.map V.bl
 | [],_,.nil=>rfl
 | b::bs,_,.cons h r=>by cases h; rw [Ak.toBls r]; rfl
theorem RG (bt:Nat->Nat->Bool):∀ k,argBest bt k<=k
 | 0=>Nat.le_refl _
 | k+1=>by
  have:=RG bt k
  unfold argBest
  split <;> omega
end
structure HK (K:PySem.W.Frag) (x qual:Str) (st:Stmt) (f:Addr) (fd:FuncData) (dv:List Value):Prop where
 ex:∃ (T:Addr) (cT:Value) (dT:Option Addr) (nT:Nat) (sT:Array (Option Value)) (oc:Value) (od:Option Addr) (kV doc pm:Value) (an:Option Addr) (cdv ct:Value) (osl:Array (Option Value)),
  fd=PySem.W.fnOf x qual (C5 st) (Cf st) (An st) (.ref T) kV doc pm an cdv ct/\K.lookup f=some ⟨oc,od,.func fd,osl⟩/\PySem.W.codeIn K cdv qual=true/\K.lookup T=some ⟨cT,dT,.seq dv.toArray nT,sT⟩
 kp:PySem.W.keepIn K (.ref f)=true
theorem Zp {K:PySem.W.Frag} {x qual:Str} {st:Stmt} {f T:Addr} {cT oc:Value} {dT od an:Option Addr} {nT:Nat} {sT osl:Array (Option Value)} {kV doc pm cdv ct:Value} {dv:List Value} (l:K.lookup f=some ⟨oc,od,.func (PySem.W.fnOf x qual (C5 st) (Cf st) (An st) (.ref T) kV doc pm an cdv ct),osl⟩)
  (t:K.lookup T=some ⟨cT,dT,.seq dv.toArray nT,sT⟩) (c:PySem.W.codeIn K cdv qual=true) (k:PySem.W.keepIn K (.ref f)=true):HK K x qual st f (PySem.W.fnOf x qual (C5 st) (Cf st) (An st) (.ref T) kV doc pm an cdv ct) dv:=⟨⟨T,cT,dT,nT,sT,oc,od,kV,doc,pm,an,cdv,ct,osl,rfl,l,c,t⟩,k⟩
theorem HK.binds {K:PySem.W.Frag} {x qual:Str} {st:Stmt} {f:Addr} {fd:FuncData} {dv rest:List Value} {ps:List Str} (F:HK K x qual st f fd dv)
  (h:∀ (T:Addr) (kV doc pm:Value) (an:Option Addr) (cdv ct:Value) (us:List Value),(us++rest).length=ps.length->∃ k,bindArgs (PySem.W.fnOf x qual (C5 st) (Cf st) (An st) (.ref T) kV doc pm an cdv ct) ⟨us,[]⟩=seqItems? (.ref T) >>= k/\k (some dv.toArray)=pure (ps.zip (us++rest))):Binds K fd ps rest:=by
 obtain ⟨T,cT,dT,nT,sT,oc,od,kV,doc,pm,an,cdv,ct,osl,rfl,l,c,t⟩:=F.ex
 intro s us X hl
 obtain ⟨k,h1,h2⟩:=h T kV doc pm an cdv ct us hl
 exact PySem.W.binds_K X rfl t rfl h1 h2
section
variable {P:Program} {w:World} {K:PySem.W.Frag} {mg:Str->Option Value} {base:Heap}
theorem X4 {x qual:Str} {st:Stmt} {f:Addr} {fd:FuncData} {N ps:List Str} {k:Nat} {sp:AS} {dv:List Value} (F:HK K x qual st f fd dv) (S:AB N ps (An st))
  (len:∀ ds O R,sp ds O R->ds.length=ps.length)
  (hbody:∀ (cdv:Value) (A:Around) (outer:List Env) (s:Shared) (H:Hp) (E:XK) (ds:List D) (O:Ae) (R:D->Ae->Prop),AL k (A.deeper (envOfC qual (An st) s.heap.objs.size f cdv))->sp ds O R->
   Exs (Dh AI P w K mg base N qual (An st) f cdv A outer s H E).nox (Ft N ds) O (Cf st) { nx:=λ_ O'=>R .non O',rt:=R }):AF P w K mg base AI (k+1) f fd ps (AK K sp):=by
 obtain ⟨T,cT,dT,nT,sT,oc,od,kV,doc,pm,an,cdv,ct,osl,rfl,l,c,t⟩:=F.ex
 refine MD l c S (λvs H Q E h=>?_) λA outer s H vs Q E hr h=>?_
 ·obtain ⟨G,O,ds,R,h1,h2,h3,h4⟩:=h
  rw [<- h2.length]
  exact len _ _ _ h3
 ·obtain ⟨G,O,ds,R,h1,h2,h3,h4⟩:=h
  exact ⟨_,(hbody cdv A outer s H E ds O R hr h3 G).nox,h1,J2 h2,⟨λσ ρ O' G' H' e1 s1 n1 q=>h4 _ _ O' G' H' e1 s1 .non q,λv d O' G' H' e1 s1 i1 q=>h4 v d O' G' H' e1 s1 i1 q,λσ ρ O' G' H' e1 s1 n1 q=>q.elim,λσ ρ O' G' H' e1 s1 n1 q=>q.elim⟩⟩
end
section
variable {X:Cx} {ρ:Ai} {O:Ae} {a:Expr} {pos p:Pos} {R:D->Ae->Prop} {xs:List D} {d:D}
end
def FF (ps:List (Int×Int)):Int×Int:=ps.getD (argBest (λi j=>AY (ps.getD i (0,0)) (ps.getD j (0,0))) (ps.length-1)) (0,0)
theorem Qh (g:Nat->Int×Int):∀ k i,i<=k->AY (g i) (g (argBest (λi j=>AY (g i) (g j)) k))=false
 | 0,i,h=>by
  have:i=0:=by omega
  subst this
  show AY (g 0) (g 0)=false
  unfold AY
  exact decide_eq_false wF
 | k+1,i,h=>by
  have ih:=Qh g k
  unfold argBest
  by_cases hd:AY (g (k+1)) (g (argBest (λi j=>AY (g i) (g j)) k))=true
  ·rw [if_pos hd]
   by_cases he:i=k+1
   ·subst he; unfold AY; exact decide_eq_false wF
   ·have:=ih i wF
    generalize argBest (λi j=>AY (g i) (g j)) k=b at *
    unfold AY at *
    have h1:=of_decide_eq_true hd
    have h2:=of_decide_eq_false this
    exact decide_eq_false wF
  ·rw [if_neg hd]
   by_cases he:i=k+1
   ·subst he; exact Bool.eq_false_iff.mpr hd
   ·exact ih i wF
theorem Yo {ps:List (Int×Int)} (h:ps≠[]):FF ps∈ps:=by
 have h0:=List.length_pos_iff.mpr h
 unfold FF
 rw [Jb (by have:=RG (λi j=>AY (ps.getD i (0,0)) (ps.getD j (0,0))) (ps.length-1); omega)]
 exact List.getElem_mem _
theorem Yp {ps:List (Int×Int)} {q:Int×Int} (h:q∈ps):AY q (FF ps)=false:=by
 obtain ⟨i,hi,rfl⟩:=List.getElem_of_mem h
 have:=Qh (λi=>ps.getD i (0,0)) (ps.length-1) i wF
 rw [Jb hi] at this
 exact this
def HE (h:Heap) (v:Value) (p:Int×Int):Prop:=∃ a o n t u,v=.ref a/\h.get? a=some o/\o.cls=.type "tuple" /\ o.data=.seq #[.int p.1 t,.int p.2 u] n
section
variable {prog:Program} {w:World} {A:Around} {E:Value->Shared->Prop} {s:Shared}
theorem Qg {a b:Int} {t u:Tok} {Q:Value->Shared->Prop} (h:Q (.bool (decide (a<b))) s):wpAny (model prog w) A (richCompare .Lt (.int a t) (.int b u)) Q E s:=
 CmpOf.ints_lt (P:=λi v=>v=if i=0 then .int a t else .int b u) (λi=>if i=0 then a else b) (λi v e=>⟨if i=0 then t else u,by subst e; split <;> rfl⟩) 0 1 _ _ s Q E rfl rfl h
theorem Yy {x y:Value} {p q:Int×Int} {Q:Value->Shared->Prop} (hx:HE s.heap x p) (hy:HE s.heap y q) (hu:A.units<cLine) (h:Q (.bool (AY p q)) s):wpAny (model prog w) A (richCompare .Lt x y) Q E s:=by
 obtain ⟨a,oa,na,ta,ua,rfl,a1,a2,a3⟩:=hx
 obtain ⟨b,ob,nb,tb,ub,rfl,b1,b2,b3⟩:=hy
 have Ta:s.TypeIs (.ref a) "tuple" :=⟨oa,a1,a2⟩
 have Tb:s.TypeIs (.ref b) "tuple" :=⟨ob,b1,b2⟩
 refine wpAny_richCompare_same_room (op:=.Lt) Ta Tb PySem.F.slot_tuple_lt (wpAny_call_entry PySem.F.slot_tuple_lt Ta PySem.F.entry_tuple_lt ?_ (PySem.F.args_tuple_lt_2 _ _)) hu
 obtain ⟨h0,g,d,tk,os⟩:=s
 obtain ⟨ca,da,xa,sa⟩:=oa
 obtain ⟨cb,db,xb,sb⟩:=ob
 simp only at a2 a3 b2 b3
 subst a2 a3 b2 b3
 dsimp only at a1 b1
 have f2:=AutoSeq1.sub_tuple_tuple
 have hq1:((p.1==q.1)=true) ↔ p.1=q.1:=by simp
 by_cases e1:p.1=q.1
 ·have z1:(p.1==q.1)=true:=by simpa using e1
  by_cases e2:p.2=q.2
  ·have z2:(p.2==q.2)=true:=by simpa using e2
   have z:AY p q=false:=by unfold AY; exact decide_eq_false wF
   rw [z] at h
   wp_walk using wpAny_loadPart' a1,wpAny_loadPart' b1,wpAny_eqBool_int
   exact ⟨.bool false,rfl,λz=>(by cases z),h⟩
  ·have z2:(p.2==q.2)=false:=by simpa using e2
   have z:AY p q=decide (p.2<q.2):=by unfold AY; exact decide_eq_decide.mpr wF
   rw [z] at h
   wp_walk using wpAny_loadPart' a1,wpAny_loadPart' b1,wpAny_eqBool_int,Qg
   exact ⟨_,rfl,λz=>(by cases z),h⟩
 ·have z1:(p.1==q.1)=false:=by simpa using e1
  have z:AY p q=decide (p.1<q.1):=by unfold AY; exact decide_eq_decide.mpr wF
  rw [z] at h
  wp_walk using wpAny_loadPart' a1,wpAny_loadPart' b1,wpAny_eqBool_int,Qg
  exact ⟨_,rfl,λz=>(by cases z),h⟩
theorem Mh {R:Result->Shared->Prop} {I S:Addr} {fp wr:List Addr} {n:Nat} {P:Nat->Value->Prop} {St:Nat->Heap->Prop} {Kp:Heap->Prop} {bt:Nat->Nat->Bool} (W:Walks prog w A.in1 I fp wr n P St)
  (hc:∀ i j vi vj (s:Shared) (Q:Value->Shared->Prop) (E:Value->Shared->Prop),P i vi->P j vj->Kp s.heap->Q (.bool (bt i j)) s->wpAny (model prog w) A.in1 (richCompare .Lt vi vj) Q E s)
  (hK:∀ h h':Heap,Kp h->(∀ b o,b∉wr->b≠S->h.get? b=some o->h'.get? b=some o)->Kp h') (hS:S∉fp) :
  ∀ (k j:Nat) (s:Shared) (vb:Value) (c:Nat),j+1+k=n->St (j+1) s.heap->Kp s.heap->P (argBest bt j) vb->s.heap.get? S=some (Dt [vb,vb] c)->
   (∀ v h' tk,P (argBest bt (n-1)) v->(∀ b o,b∉wr->b≠S->s.heap.get? b=some o->h'.get? b=some o)->R (.ok (.ret v)) { s with heap:=h',toks:=tk })->codeAny (model prog w) A (.builtin "min.loop" ⟨[.ref I,.none,.ref S],[]⟩) R s
 | 0,j,s,vb,c,hk,st,kp,pb,own,fin=>by
  refine FL F.plain_min_loop F.entry_min_loop ?_
  obtain ⟨h,g,d,tk,os⟩:=s
  have hn:j+1=n:=hk
  subst hn
  have nx:∀ (Q:Option Value->Shared->Prop) (E:Value->Shared->Prop) (f:Value->Sem (Option Value)),(∀ h' tk',(∀ b o,b∉wr->h.get? b=some o->h'.get? b=some o)->Q none ⟨h',g,d,tk',os⟩)->wpAny (model prog w) A.in1 ((pyNext (.ref I)).tryCatch f) Q E ⟨h,g,d,tk,os⟩:=λQ E f q=>wpAny_tryCatch (W.done _ _ _ st q)
  wp_walk using wpAny_seqItems own rfl,nx
  intro h' tk' ke
  have own':=ke S _ (λz=>hS (W.sub _ z)) own
  wp_walk using wpAny_updateSeq own' rfl
  exact fin vb _ _ pb λb o hb hbS e=>(Heap.get?_update_other _ _ (Ne.symm hbS)).trans (ke b o hb e)
 | k+1,j,s,vb,c,hk,st,kp,pb,own,fin=>by
  refine FL F.plain_min_loop F.entry_min_loop ?_
  obtain ⟨h,g,d,tk,os⟩:=s
  have nx:∀ (Q:Option Value->Shared->Prop) (E:Value->Shared->Prop) (f:Value->Sem (Option Value)),(∀ v h' tk',P (j+1) v->St (j+2) h'->(∀ b o,b∉wr->h.get? b=some o->h'.get? b=some o)->Q (some v) ⟨h',g,d,tk',os⟩)->wpAny (model prog w) A.in1 ((pyNext (.ref I)).tryCatch f) Q E ⟨h,g,d,tk,os⟩:=λQ E f q=>wpAny_tryCatch (W.item _ _ _ _ wF st q)
  wp_walk using wpAny_seqItems own rfl,nx
  intro v h' tk' pv st' ke
  have own':=ke S _ (λz=>hS (W.sub _ z)) own
  have kp':Kp h':=hK h h' kp λb o hb _ e=>ke b o hb e
  have cmp:∀ (Q:Value->Shared->Prop) (E:Value->Shared->Prop),Q (.bool (bt (j+1) (argBest bt j))) ⟨h',g,d,tk',os⟩->wpAny (model prog w) A.in1 (richCompare .Lt v vb) Q E ⟨h',g,d,tk',os⟩:=λQ E q=>hc _ _ _ _ _ Q E pv pb kp' q
  wp_walk
  refine wpAny_tryCatch ?_
  have nm:(toString "min" ++ toString ".loop" : String) = "min.loop" := by decide
  rw [nm]
  have hb1:argBest bt (j+1)=if bt (j+1) (argBest bt j) then j+1 else argBest bt j:=rfl
  cases hz:bt (j+1) (argBest bt j) with
  | true=>
   rw [hz] at cmp hb1
   wp_walk using cmp,wpAny_truthy_bool,wpAny_updateSeq own' rfl
   refine ⟨plainId_quiet F.plain_min_loop _,Mh W hc hK hS k (j+1) _ v _ wF (W.frame _ _ _ st' λb hbf o e=>(Heap.get?_update_other _ _ (λz:S=b=>hS (by rw [z]; exact hbf))).trans e) (hK _ _ kp' λb o _ hbS e=>(Heap.get?_update_other _ _ (Ne.symm hbS)).trans e) (by rw [hb1]; exact pv) (Heap.get?_update_self _ own' rfl) λv2 h2 tk2 p2 ke2=>fin v2 h2 tk2 p2 λb o hbw hbS e=>ke2 b o hbw hbS ((Heap.get?_update_other _ _ (Ne.symm hbS)).trans (ke b o hbw e))⟩
  | false=>
   rw [hz] at cmp hb1
   wp_walk using cmp,wpAny_truthy_bool
   exact ⟨plainId_quiet F.plain_min_loop _,Mh W hc hK hS k (j+1) _ vb _ wF st' kp' (by rw [hb1]; exact pb) own' λv2 h2 tk2 p2 ke2=>fin v2 h2 tk2 p2 λb o hbw hbS e=>ke2 b o hbw hbS (ke b o hbw e)⟩
theorem Yn {R:Result->Shared->Prop} {I S:Addr} {fp wr:List Addr} {n:Nat} {P:Nat->Value->Prop} {St:Nat->Heap->Prop} {Kp:Heap->Prop} {bt:Nat->Nat->Bool} {c:Nat} (W:Walks prog w A.in1 I fp wr n P St)
  (hc:∀ i j vi vj (s:Shared) (Q:Value->Shared->Prop) (E:Value->Shared->Prop),P i vi->P j vj->Kp s.heap->Q (.bool (bt i j)) s->wpAny (model prog w) A.in1 (richCompare .Lt vi vj) Q E s)
  (hK:∀ h h':Heap,Kp h->(∀ b o,b∉wr->b≠S->h.get? b=some o->h'.get? b=some o)->Kp h') (hS:S∉fp) (hn:0<n) (st:St 0 s.heap) (kp:Kp s.heap) (own:s.heap.get? S=some (Dt [] c))
  (fin:∀ v h' tk,P (argBest bt (n-1)) v->(∀ b o,b∉wr->b≠S->s.heap.get? b=some o->h'.get? b=some o)->R (.ok (.ret v)) { s with heap:=h',toks:=tk }):codeAny (model prog w) A (.builtin "min.loop" ⟨[.ref I,.none,.ref S],[]⟩) R s:=by
 refine FL F.plain_min_loop F.entry_min_loop ?_
 obtain ⟨h,g,d,tk,os⟩:=s
 have nx:∀ (Q:Option Value->Shared->Prop) (E:Value->Shared->Prop) (f:Value->Sem (Option Value)),(∀ v h' tk',P 0 v->St 1 h'->(∀ b o,b∉wr->h.get? b=some o->h'.get? b=some o)->Q (some v) ⟨h',g,d,tk',os⟩)->wpAny (model prog w) A.in1 ((pyNext (.ref I)).tryCatch f) Q E ⟨h,g,d,tk,os⟩:=λQ E f q=>wpAny_tryCatch (W.item _ _ _ _ hn st q)
 wp_walk using wpAny_seqItems own rfl,nx
 intro v h' tk' pv st' ke
 have own':=ke S _ (λz=>hS (W.sub _ z)) own
 wp_walk using wpAny_updateSeq own' rfl
 have nm:(toString "min" ++ toString ".loop" : String) = "min.loop" := by decide
 rw [nm]
 exact ⟨plainId_quiet F.plain_min_loop _,Mh W hc hK hS (n-1) 0 _ v _ wF (W.frame _ _ _ st' λb hbf o e=>(Heap.get?_update_other _ _ (λz:S=b=>hS (by rw [z]; exact hbf))).trans e) (hK _ _ (hK _ _ kp λb o hb _ e=>ke b o hb e) λb o _ hbS e=>(Heap.get?_update_other _ _ (Ne.symm hbS)).trans e) pv (Heap.get?_update_self _ own' rfl) λv2 h2 tk2 p2 ke2=>fin v2 h2 tk2 p2 λb o hbw hbS e=>ke2 b o hbw hbS ((Heap.get?_update_other _ _ (Ne.symm hbS)).trans (ke b o hbw e))⟩
theorem Q0B {l:Addr} {its:List Value} {ps:List (Int×Int)} {Q:Value->Shared->Prop} (hh:A.handled=none) (hu:A.in1.units<cLine) (q:s.heap.IsList l its.toArray) (hv:∀ (i:Nat) (v:Value),its[i]?=some v->HE s.heap v (ps.getD i (0,0))) (hn:ps.length=its.length) (h0:0<ps.length)
  (h:∀ v h' tk,its[argBest (λi j=>AY (ps.getD i (0,0)) (ps.getD j (0,0))) (ps.length-1)]?=some v->(∀ b o,s.heap.get? b=some o->h'.get? b=some o)->Q v { s with heap:=h',toks:=tk }):wpAny (model prog w) A (call (.builtin "min") [.ref l]) Q E s:=by
 obtain ⟨h1,g,d,tk,os⟩:=s
 dsimp only at q hv h
 have hl:l<h1.objs.size:=by obtain ⟨o,e,_⟩:=q; exact Heap.lt_size e
 refine call_function_tree F.kind_min F.plain_min F.entry_min (F.args_min1 (.ref l)) ?_
 have bp:Builtin.Builtins.bindParams "min" ["key","default"] 0 ⟨[],[]⟩=pure [none,none]:=rfl
 wp_walk using wpAny_pyIter_list q
 have nm:(toString "min" ++ toString ".loop" : String) = "min.loop" := by decide
 rw [nm]
 have W:=Walks.list (prog:=prog) (w:=w) (A:=A.in1) hh h1.objs.size l (Nat.ne_of_lt hl) its.toArray
 have ez:its.toArray.size=ps.length:=by simp [hn]
 have up:∀ b o,h1.get? b=some o->((h1.push { cls:=.type "list_iterator",data:=.fields #[.ref l,.int 0 0] }).push { cls:=.type "list",data:=.seq #[] }).get? b=some o:=λb o e=>Heap.get?_push_of_some _ (Heap.get?_push_of_some _ e)
 have es:(h1.push { cls:=.type "list_iterator",data:=.fields #[.ref l,.int 0 0] }).objs.size=h1.objs.size+1:=Heap.size_push ..
 refine ⟨plainId_quiet F.plain_min_loop _,Yn (c:=0) (Kp:=λh'=>∀ b o,h1.get? b=some o->h'.get? b=some o) (bt:=λi j=>AY (ps.getD i (0,0)) (ps.getD j (0,0))) W (λi j vi vj s' Q' E' pi pj kp hq=>?_) (λh2 h3 kp ke b o e=>?_) ?_ (by rw [ez]; exact h0) ⟨⟨_,Heap.get?_push_of_some _ (Heap.get?_push_size _ rfl),rfl,rfl⟩,?_⟩ up (Heap.get?_push_size _ rfl) λv h2 tk2 pv ke=>?_⟩
 ·have far:∀ {x:Value} {p:Int×Int},HE h1 x p->HE s'.heap x p:=λ⟨a,o,n,t,u,e,e1,r⟩=>⟨a,o,n,t,u,e,kp a o e1,r⟩
  exact Yy (far (hv i vi (by simpa using pi))) (far (hv j vj (by simpa using pj))) hu hq
 ·have hb:=Heap.lt_size e
  refine ke b o (by simpa using Nat.ne_of_lt hb) (λz=>?_) (kp b o e)
  rw [z] at hb
  have hb:h1.objs.size+1<h1.objs.size:=by rw [<- es]; exact hb
  omega
 ·intro z
  have z:h1.objs.size+1∈[h1.objs.size,l]:=by rw [<- es]; exact z
  rcases List.mem_cons.mp z with z | z
  ·exact Nat.succ_ne_self _ z
  ·have z:=List.mem_singleton.mp z
   rw [<- z] at hl
   exact Nat.lt_irrefl _ (Nat.lt_of_succ_lt hl)
 ·obtain ⟨o,e,r⟩:=q
  exact ⟨o,up _ _ e,r⟩
 ·rw [ez] at pv
  refine h v h2 tk2 (by simpa using pv) λb o e=>ke b o (by simpa using Nat.ne_of_lt (Heap.lt_size e)) (λz=>?_) (up b o e)
  have hb:=Heap.lt_size e
  rw [z] at hb
  have hb:h1.objs.size+1<h1.objs.size:=by rw [<- es]; exact hb
  omega
end
section
variable {X:Cx} {O:Ae} {d:D} {k:Nat}
theorem Q0I {ps:List (Int×Int)} (hr:AL k X.A) (h:LV O d (ps.map pD)) (h0:ps≠[]) (hc:X.calm=true:=by rfl):B8 X O (.builtin "min") [d] (pD (FF ps)):=λG pins s σ H vs us Q I r ⟨h1,h2,h3⟩=>by
 cases h2 with | cons i r2=>
 cases r2
 obtain ⟨ad,ws,rfl,q,is⟩:=h.sq h1 i
 obtain ⟨u,rfl,ru⟩:=EN r
 cases ru
 obtain ⟨its,va,sq,_⟩:=I.list q
 have e1:=is.length
 have e2:=va.length
 rw [List.length_map] at e1
 have hp:=List.length_pos_iff.mpr h0
 have at':∀ i (v:Value),its[i]?=some v->∃ x,ws[i]?=some x/\AX x v/\∃ p,ps[i]?=some p/\Is X.K G (pD p) x:=λi v hv=>by
  have hi:i<ps.length:=by rw [e1,e2]; exact (List.getElem?_eq_some_iff.mp hv).1
  obtain ⟨x,hx,ix⟩:=is.get (i:=i) (d:=pD ps[i]) (by simp [hi])
  obtain ⟨z,hz,rz⟩:=va.get hx
  rw [hv] at hz
  cases hz
  exact ⟨x,hx,rz,ps[i],List.getElem?_eq_getElem hi,ix⟩
 refine Q0B (ps:=ps) (I.ok.hd hc) (show X.A.in1.units<cLine from ?_) sq.isList (λi v hv=>?_) wF hp λv h' tk hv kp=>?_
 ·exact Y8 hr
 ·obtain ⟨x,hx,rx,p,hpp,ix⟩:=at' i v hv
  rw [List.getD_eq_getElem?_getD,hpp]
  cases ix with
  | tup hh rr=>
  cases rr with | cons j1 rr=>cases rr with | cons j2 rr=>
  cases rr
  cases j1
  cases j2
  cases rx
  obtain ⟨its2,v2,⟨o,g1,g2,n,g3⟩,_⟩:=I.tuple (Dm h1.sub hh)
  obtain ⟨u1,u2,rfl,q1,q2⟩:=EM v2
  obtain ⟨t,rfl⟩:=q1
  obtain ⟨t',rfl⟩:=q2
  exact ⟨_,o,n,t,t',rfl,g1,g2,g3⟩
 ·obtain ⟨x,hx,rx,p,hpp,ix⟩:=at' _ v hv
  have e:FF ps=p:=by
   unfold FF
   rw [List.getD_eq_getElem?_getD,hpp]
   rfl
  rw [e] at h3
  exact ⟨x,H,I.kept kp,rx,h3 _ G H (Ah.refl _) h1 ix⟩
end
section
variable {X:Cx} {ρ:Ai} {O:Ae} {e:Expr} {p p2 pos pos2:Pos}
end
section
variable {X:Cx} {ρ:Ai} {O:Ae} {e:Expr} {es:List Expr} {ds:List D} {R:D->Ae->Prop} {pos p:Pos} {x:Str} {C:Addr}
end
end DL
namespace DL
open PySem PySem.Spec PyProof.Rows L2
theorem Ev.keep {X:Cx} {ρ:Ai} {O:Ae} {e:Expr} {d0:D} (h:Ev X ρ O e λd O'=>(∃ O2,O'=O++O2)/\Cd d=true/\d=d0):Ad X ρ O e d0:=λG=>PE.imp (h G) λσ H Q ⟨q1,q2,q3⟩=>⟨q1,q2,λv d O' G' H' e1 s1 i1 r=>by
 obtain ⟨⟨O2,rfl⟩,hn,rfl⟩:=r
 obtain ⟨e2,s2⟩:=q1.cut e1 s1
 exact q3 v _ H' e2 s2 (i1.cut hn _)⟩
section
variable {X:Cx} {ρ:Ai} {O:Ae} {a b:Expr} {pos:Pos}
end
section
variable {X:Cx} {ρ:Ai} {O:Ae} {a e:Expr} {d:D}
end
section
variable {prog:Program} {w:World} {A:Around} {E:Value->Shared->Prop} {s:Shared}
end
section
variable {X:Cx} {O:Ae} {xs:List D}
end
section
variable {X:Cx} {ρ:Ai} {O:Ae} {a b:Expr} {d:D} {pos:Pos}
end
section
variable {X:Cx} {ρ:Ai} {O:Ae} {e a b c st:Expr} {d da db:D} {xs ys:List D} {R:D->Ae->Prop} {pos p p2:Pos} {P:A7} {q:Nat}
end
section
variable {prog:Program} {w:World} {A:Around} {E:Value->Shared->Prop} {s:Shared}
end
section
variable {X:Cx} {ρ:Ai} {O:Ae} {a st lo:Expr} {xs:List D} {pos p2:Pos}
end
section
variable {X:Cx} {ρ:Ai} {O:Ae} {e:Expr} {C C2:Addr} {x:Str} {p p2 pos:Pos} {R:D->Ae->Prop}
end
section
variable {X:Cx} {ρ:Ai} {O:Ae} {o ix e:Expr} {pos tpos:Pos} {P:A7} {q:Nat}
end
end DL
namespace DL
open PySem PySem.Spec PyProof.Rows L2 PySem.W
section
variable {prog:Program} {w:World} {A:Around} {E:Value->Shared->Prop} {s:Shared} {n l:Nat} {j:Int} {xs:Array Value} {v:Value}
end
section
variable {X:Cx} {ρ:Ai} {O:Ae} {a:Expr} {pos p:Pos} {xs:List D}
end
section
variable {prog:Program} {w:World} {A:Around} {E:Value->Shared->Prop} {s:Shared} {l:Nat} {k:Int} {t:Tok} {vs:List Value} {ns:List Int}
end
section
variable {X:Cx} {ρ:Ai} {O:Ae} {a e:Expr}
end
end DL
namespace L2
open PySem PySem.Spec PyProof.Rows
def AT {α:Type}:Sem α->Prop
 | .pure _=>True
 | .raise _=>True
 | .unsupported _=>True
 | .finish _=>True
 | .rule _ k=>AT (k ())
 | .at _ k=>AT (k ())
 | .load _ _ k=>∀ o,AT (k o)
 | .update _ _ f k=>(∀ o:Obj,((f o).dict=o.dict/\ctxOf (f o)=ctxOf o)/\(o.data≠.freed->(f o).data≠.freed))/\AT (k ())
 | .alloc _ k=>∀ a,AT (k a)
 | .loadIfAlive _ k=>∀ o,AT (k o)
 | .point _ k=>AT (k ())
 | .fresh k=>∀ t,AT (k t)
 | .ask k=>∀ t,AT (k t)
 | .handled _ k=>∀ t,AT (k t)
 | .stack k=>∀ t,AT (k t)
 | .thread k=>∀ t,AT (k t)
 | _=>False
theorem AT.bind {α β:Type} {t:Sem α} {k:α->Sem β} (h:AT t) (g:∀ a,AT (k a)):AT (t >>= k):=by
 show AT (Sem.bind t k)
 induction t with
 | pure a=>exact g a
 | raise _=>trivial
 | unsupported _=>trivial
 | finish _=>trivial
 | rule _ _ ih=>exact ih () h
 | «at» _ _ ih=>exact ih () h
 | load _ _ _ ih=>exact λo=>ih o (h o)
 | update _ _ _ _ ih=>exact ⟨h.1,ih () h.2⟩
 | alloc _ _ ih=>exact λo=>ih o (h o)
 | loadIfAlive _ _ ih=>exact λo=>ih o (h o)
 | point _ _ ih=>exact ih () h
 | fresh _ ih=>exact λo=>ih o (h o)
 | ask _ ih=>exact λo=>ih o (h o)
 | handled _ _ ih=>exact λo=>ih o (h o)
 | stack _ ih=>exact λo=>ih o (h o)
 | thread _ ih=>exact λo=>ih o (h o)
 | _=>exact h.elim
def DK (h h':Heap):Prop:=∀ b o,h.get? b=some o->∃ o',h'.get? b=some o'/\o'.dict=o.dict/\ctxOf o'=ctxOf o
theorem DK.refl (h:Heap):DK h h:=λ_ o e=>⟨o,e,rfl,rfl⟩
theorem DK.trans {h h1 h2:Heap} (x:DK h h1) (y:DK h1 h2):DK h h2:=λb o e=>by
 obtain ⟨o1,e1,d1⟩:=x b o e
 obtain ⟨o2,e2,d2⟩:=y b o1 e1
 exact ⟨o2,e2,d2.1.trans d1.1,d2.2.trans d1.2⟩
theorem DK.push {h:Heap} (o:Obj):DK h (h.push o):=λb o' e=>⟨o',Heap.get?_push_of_some _ e,rfl,rfl⟩
theorem DK.update {h:Heap} {a:Addr} {f:Obj->Obj} (hf:∀ o:Obj,((f o).dict=o.dict/\ctxOf (f o)=ctxOf o)/\(o.data≠.freed->(f o).data≠.freed)):DK h (h.update a f):=λb o e=>by
 by_cases hb:a=b
 ·subst hb
  have hn:o.data≠.freed:=λz=>by
   unfold Heap.get? at e
   split at e
   ·cases e
   ·rename_i hx
    obtain ⟨c,d,x,l⟩:=o
    subst z
    exact hx _ _ _ e
  refine ⟨f o,Heap.get?_update_self f e ?_,(hf o).1⟩
  have:=(hf o).2 hn
  revert this
  generalize f o=z
  obtain ⟨c,d,y,l⟩:=z
  intro this
  cases y <;> first | rfl | exact absurd rfl this
 ·exact ⟨o,(Heap.get?_update_other _ _ hb).trans e,rfl,rfl⟩
theorem AT.wp {α:Type} {M:Model} {Γ:PySem.Ctx} {t:Sem α} (h:AT t):∀ {Q:α->Pos->Shared->Prop} {E:Value->Pos->Shared->Prop} {p:Pos} {s:Shared} {h0:Heap},DK h0 s.heap->Sem.wp M Γ t Q E p s->Sem.wp M Γ t (λa p' s'=>Q a p' s'/\DK h0 s'.heap) (λe p' s'=>E e p' s'/\DK h0 s'.heap) p s:=by
 induction t with
 | pure a=>exact λd q=>⟨q,d⟩
 | raise _=>exact λd q=>⟨q,d⟩
 | unsupported _=>exact λd q=>q.elim
 | finish _=>exact λd q=>q.elim
 | rule _ _ ih=>exact λd q=>ih () h d q
 | «at» _ _ ih=>exact λd q=>ih () h d q
 | load _ _ _ ih=>exact λd ⟨o,e,q⟩=>⟨o,e,ih o (h o) d q⟩
 | update _ _ _ _ ih=>exact λd ⟨e,q⟩=>⟨e,ih () h.2 (d.trans (DK.update h.1)) q⟩
 | alloc _ _ ih=>exact λd q=>ih _ (h _) (d.trans (DK.push _)) q
 | loadIfAlive _ _ ih=>exact λd q=>ih _ (h _) d q
 | point _ _ ih=>exact λd q=>ih () h d q
 | fresh _ ih=>exact λd q=>ih _ (h _) d q
 | ask _ ih=>exact λd q=>ih _ (h _) d q
 | handled _ _ ih=>exact λd q=>ih _ (h _) d q
 | stack _ ih=>exact λd q=>ih _ (h _) d q
 | thread _ ih=>exact λd q=>ih _ (h _) d q
 | _=>exact h.elim
theorem AT.any {α:Type} {M:Model} {A:Around} {t:Sem α} {Q:α->Shared->Prop} {E:Value->Shared->Prop} {s:Shared} (h:AT t) (q:wpAny M A t Q E s):wpAny M A t (λa s'=>Q a s'/\DK s.heap s'.heap) (λe s'=>E e s'/\DK s.heap s'.heap) s:=
 λΓ p hi=>h.wp (DK.refl _) (q Γ p hi)
theorem IS {v:Value} {i:Nat}:AT (field v i):=by
 unfold field fieldsOf
 refine AT.bind ?_ λvs=>?_
 ·cases v with
  | ref a=>
   refine AT.bind (λ_=>trivial) λo=>?_
   split <;> trivial
  | _=>trivial
 ·split <;> trivial
theorem Ml {v x:Value} {i:Nat} (hi:i≠2:=by decide):AT (setField v i x):=by
 unfold setField
 cases v with
 | ref a=>
  show AT (updateField a i x)
  unfold updateField
  refine AT.bind (λ_=>trivial) λo=>?_
  split
  ·split
   ·refine ⟨λo=>?_,trivial⟩
    obtain ⟨c,d,y,l⟩:=o
    cases y <;> refine ⟨⟨rfl,?_⟩,λz=>by first | exact z | (intro q; cases q)⟩
    all_goals first | rfl | (show (Array.setIfInBounds _ i x)[2]?=_; rw [Array.getElem?_setIfInBounds_ne hi]; rfl)
   ·trivial
  ·trivial
 | _=>trivial
theorem Mj {e:Value} {f:Option Addr}:AT (setFlight e f):=by
 unfold setFlight
 refine AT.bind IS λtb=>?_
 split
 ·exact Ml
 ·trivial
theorem Mi:AT stack:=λ_=>trivial
theorem Qd:∀ l:List Env,AT (readyFrames l)
 | []=>trivial
 | env::outer=>by
  unfold readyFrames
  split
  ·refine AT.bind (λ_=>trivial) λo=>?_
   split
   ·trivial
   ·refine AT.bind ?_ λim=>AT.bind ?_ λback=>AT.bind ⟨λo=>⟨⟨rfl,rfl⟩,id⟩,trivial⟩ λ_=>Qd outer
    ·unfold behindIsImport
     split
     ·trivial
     ·split
      ·trivial
      ·exact AT.bind IS λ_=>trivial
    ·unfold keptBack underTheClaimsCaller
     split
     ·split
      ·trivial
      ·exact AT.bind (AT.bind Mi λ_=>trivial) λ_=>trivial
     ·trivial
  ·trivial
theorem Yt {env:Env}:AT (PySem.frameOf env):=by
 unfold PySem.frameOf frameEnvs
 refine AT.bind (AT.bind Mi λ_=>trivial) λes=>AT.bind ?_ λo=>?_
 ·unfold frameObject
  split
  ·trivial
  ·exact AT.bind (Qd _) λ_=>trivial
 ·split <;> trivial
theorem Yr {f:Addr} {b:Bool}:AT (entryPlaceOf f b):=by
 unfold entryPlaceOf
 refine AT.bind Mi λa=>?_
 split <;> trivial
theorem Ys {a b c d e:Value} {l:List Value}:AT (EntryCells.newEntry a b c d e l):=by
 unfold EntryCells.newEntry newFields newObj newObjAsIs
 dsimp only
 split <;> split <;> first | trivial | exact λ_=>trivial
theorem Qe {e:Value} {env:Env}:AT (noteFrame e env):=by
 unfold noteFrame
 split
 ·refine AT.bind IS λhd=>?_
  have rest:∀ (f:Addr) (hd:Value),AT (do setField e 1 (<- EntryCells.newEntry hd (<- PySem.frameOf env) .none (rawInt f) .none (<- entryPlaceOf f (hd != .none)))):=λf hd=>
   AT.bind Yt λ_=>AT.bind Yr λ_=>AT.bind Ys λ_=>Ml
  split
  ·refine AT.bind IS λx=>?_
   split
   ·trivial
   ·exact AT.bind Ml λ_=>rest _ _
  ·exact rest _ _
 ·trivial
theorem Qf {e:Value} {env:Env}:AT (leaving env e):=AT.bind Qe λ_=>Mj
def Q2z (B:Heap) (l:List Env) (a C:Addr) (od:Option Addr) (h:Heap):Prop:=
 (∃ t,Heap.FlyingW B l a (.ref C) (.ref t) h)/\∃ oe,h.get? a=some oe/\oe.dict=od/\ctxOf oe=some .none
structure EI (P:Program) (w:World) (outer:List Env) (H H':Hp) (s s':Shared) (a C:Addr) (od:Option Addr) (B:Heap):Prop where
 os:s'.os=s.os
 bare:AllBare s'.gens
 fly:Q2z B outer a C od s'.heap
 un:Un (A3 outer) [] H H' s.heap s'.heap
 hok:Bn P w H' s'.heap
 old:∀ b o,s.heap.get? b=some o->b∉A3 outer->∃ o',B.get? b=some o'
 trk:∀ b u,H' b=some u->∃ o',B.get? b=some o'
def Fk (P:Program) (w:World):CJ:=λouter H s E e s'=>∃ a C od B H',e=.ref a/\EI P w outer H H' s s' a C od B/\E (.ref C) od H'
section
variable {P:Program} {w:World}
theorem Mx {H:Hp} {h h' B:Heap} (ok:Bn P w H h) (k1:B.StaysIn h) (k2:B.StaysIn h') (t:∀ b u,H b=some u->∃ o',B.get? b=some o'):Bn P w H h':=λa o e=>
 (ok a o e).stay (λb u hb q=>by
  have hb':∃ v,H b=some v:=by
   rcases hb with rfl | hb
   ·exact ⟨o,e⟩
   ·exact ⟨_,hb⟩
  obtain ⟨v,hv⟩:=hb'
  obtain ⟨o',h1⟩:=t b v hv
  have h2:=k1 b o' h1
  rw [q] at h2
  cases h2
  exact k2 b _ h1) (λ_ q=>q) λ_ _ q=>q
theorem Bn.get {H:Hp} {h:Heap} {a:Addr} {o:HO} (x:Bn P w H h) (e:H a=some o):∃ ob,h.get? a=some ob:=by
 have x:=x a o e
 induction o with
 | lst xs=>obtain ⟨_,_,_,_,e⟩:=x; exact ⟨_,e⟩
 | tup xs=>obtain ⟨_,_,_,_,e,_⟩:=x; exact ⟨_,e⟩
 | dK kvs=>obtain ⟨_,_,_,_,o,_,_,e,_⟩:=x; exact ⟨_,e⟩
 | dT kvs=>obtain ⟨_,_,_,_,o,_,_,e,_⟩:=x; exact ⟨_,e⟩
 | set S n=>obtain ⟨o,_,_,_,e,_⟩:=x; exact ⟨_,e⟩
 | ins C dx fs=>obtain ⟨_,_,_,e,_⟩:=x; exact ⟨_,e⟩
 | own y=>exact x
 | xd fs=>obtain ⟨_,⟨_,_,_,e,_⟩,_⟩:=x; exact ⟨_,e⟩
 | rng lo hi=>obtain ⟨_,_,_,e⟩:=x; exact ⟨_,e⟩
 | frz ob u=>obtain ⟨e,_⟩:=x; exact ⟨_,e⟩
 | tbl ps=>exact ⟨_,show h.get? a=some _ from x⟩
 | met f y=>exact ⟨_,show h.get? a=some _ from x⟩
 | ext φ=>obtain ⟨_,q,_⟩:=x; exact q
theorem Zb {h:Heap} {as:List Addr} {b:Addr} {o:Obj} (e:h.get? b=some o) (n:b∉as):(PySem.W.hideAll h as).get? b=some o:=PySem.W.hideAll_get _ e n
end
section
variable {CX:CJ} {P:Program} {w:World} {K:PySem.W.Frag} {mg:Str->Option Value} {base:Heap} {N:List Str} {qual:Str} {scope:Scope} {f:Addr} {cd:Value} {A:Around} {outer:List Env} {s:Shared} {H:Hp} {E:XK}
theorem Wl:Fe (Fk P w) (Dh (Fk P w) P w K mg base N qual scope f cd A outer s H E) E:=λpins σ H1 s1 e s2 I hc=>by
 obtain ⟨a,C,od,B,H2,rfl,g,he⟩:=hc
 obtain ⟨⟨t,fl⟩,hd⟩:=g.fly
 show wpAny _ _ (leaving _ _) _ _ s2
 have hne:∀ b o,s.heap.get? b=some o->b≠s.heap.objs.size:=λb o e z=>Nat.lt_irrefl _ (z ▸ Heap.lt_size e)
 have hst:∀ b o,s.heap.get? b=some o->b∉A3 outer->b∉A3 (envOfC qual scope s.heap.objs.size f cd::outer):=λb o e n z=>by
  unfold A3 at z n
  rw [List.filterMap_cons] at z
  have z:b∈s.heap.objs.size::List.filterMap (λx:Env=>x.frame) outer:=z
  rcases List.mem_cons.mp z with z | z
  ·exact hne b o e z
  ·exact n z
 have hin:∀ b,b∈A3 outer->b∈A3 (envOfC qual scope s.heap.objs.size f cd::outer):=λb z=>by
  unfold A3 at z ⊢
  rw [List.filterMap_cons]
  exact List.mem_cons_of_mem _ z
 obtain ⟨oe,ho0,ho1⟩:=hd
 refine wpAny_mono (Qf.any (wpAny_leaves_onW (E:=λ_ _=>False) (Q:=λ_ s'=>∃ h',s'={ s2 with heap:=h' }/\Heap.FlyingW B outer a (.ref C) (.ref t) h'/\s2.heap.UpToSlots h') I.ok.frames rfl fl λh' fl' sm=>⟨h',rfl,fl',sm⟩)) (λ_ s3 ⟨⟨h',e3,fl',sm⟩,dk⟩=>?_) λ_ _ z=>z.1.elim
 subst e3
 obtain ⟨oe',ho2,ho3⟩:=dk a oe ho0
 refine ⟨a,C,od,B,H2,rfl,⟨g.os.trans I.os,g.bare,⟨⟨t,fl'⟩,oe',ho2,ho3.1.trans ho1.1,ho3.2.trans ho1.2⟩,?_,Mx g.hok fl.1 fl'.1 g.trk,?_,g.trk⟩,he⟩
 ·have hu:Un (A3 outer) [] H H1 s.heap s1.heap:=I.base
  refine ⟨λb o q n hb _=>?_,λb o q n hb _=>?_,λb o q n _=>?_,λb o q _=>?_,λb xs q=>g.un.tups b xs (hu.tups b xs q),λb o u q=>g.un.frzs b o u (hu.frzs b o u q),λb ps q=>?_⟩
  ·have q1:=hu.keep b o q n hb (by simp)
   have n1:=hu.free b o q n (by simp)
   have q2:=g.un.keep b o q1 n1 (hst b o q hb) (by simp)
   obtain ⟨o',ho⟩:=g.old b o q1 (hst b o q hb)
   have h2:=fl.1 b o' ho
   rw [q2] at h2
   cases h2
   exact fl'.1 b _ ho
  ·obtain ⟨sl,q1⟩:=hu.slot b o q n hb (by simp)
   have n1:=hu.free b o q n (by simp)
   obtain ⟨sl2,q2⟩:=g.un.slot b _ q1 n1 (hin b hb) (by simp)
   obtain ⟨_,oo,ho,hnf⟩:=fl.2.2.1.mem (hin b hb)
   rw [q2] at ho
   cases ho
   obtain ⟨sl3,q3⟩:=sm b _ q2 hnf
   exact ⟨sl3,q3⟩
  ·obtain ⟨o1,q1⟩:=hu.there b o q (by simp)
   exact g.un.free b o1 q1 (hu.free b o q n (by simp)) (by simp)
  ·obtain ⟨o1,q1⟩:=hu.there b o q (by simp)
   by_cases hb:b∈A3 outer
   ·obtain ⟨_,oo,ho,hnf⟩:=fl.2.2.1.mem (hin b hb)
    obtain ⟨sl3,q3⟩:=sm b _ ho hnf
    exact ⟨_,q3⟩
   ·obtain ⟨o',ho⟩:=g.old b o1 q1 (hst b o q hb)
    exact ⟨o',fl'.1 b _ ho⟩
  ·obtain ⟨m1,e1⟩:=hu.tbls b ps q
   obtain ⟨m2,e2⟩:=g.un.tbls b _ e1
   exact ⟨m1++m2,by rw [e2,Array.append_assoc]⟩
 ·intro b o q hb
  have hu:Un (A3 outer) [] H H1 s.heap s1.heap:=I.base
  obtain ⟨o1,q1⟩:=hu.there b o q (by simp)
  exact g.old b o1 q1 (hst b o q hb)
theorem Vj {pins:List (Addr×Obj)} {σ:St} {H1:Hp} {s1:Shared} {a C t:Addr} {oe:Obj} {vs:Array Value} (I:Inv (Dh (Fk P w) P w K mg base N qual scope f cd A outer s H E) pins σ H1 s1) (n1:H1 a=none) (n0:s.heap.get? a=none)
  (ho:s1.heap.get? a=some oe) (hc:oe.cls=.ref C) (hv:oe.data=.fields vs) (h1:vs[1]?=some .none) (h0:vs[0]?=some (.ref t)) (h2:vs[2]?=some .none) (he:E (.ref C) oe.dict H1):(Dh (Fk P w) P w K mg base N qual scope f cd A outer s H E).xe (.ref a) s1:=by
 show wpAny _ _ (leaving _ _) _ _ _
 have hu:Un (A3 outer) [] H H1 s.heap s1.heap:=I.base
 have hne:∀ b o,s.heap.get? b=some o->b≠s.heap.objs.size:=λb o e z=>Nat.lt_irrefl _ (z ▸ Heap.lt_size e)
 have hst:∀ b o,s.heap.get? b=some o->b∉A3 outer->b∉A3 (envOfC qual scope s.heap.objs.size f cd::outer):=λb o e n z=>by
  unfold A3 at z n
  rw [List.filterMap_cons] at z
  have z:b∈s.heap.objs.size::List.filterMap (λx:Env=>x.frame) outer:=z
  rcases List.mem_cons.mp z with z | z
  ·exact hne b o e z
  ·exact n z
 have hsub:∀ b,b∈A3 outer->b∈A3 (envOfC qual scope s.heap.objs.size f cd::outer):=λb z=>by
  unfold A3 at z ⊢
  rw [List.filterMap_cons]
  exact List.mem_cons_of_mem _ z
 generalize hB:PySem.W.hideAll s1.heap (a::A3 (envOfC qual scope s.heap.objs.size f cd::outer))=B
 have hin:∀ env∈(envOfC qual scope s.heap.objs.size f cd::outer),∀ b,env.frame=some b->b∈a::A3 (envOfC qual scope s.heap.objs.size f cd::outer):=λenv he b hb=>List.mem_cons_of_mem _ (List.mem_filterMap.mpr ⟨env,he,hb⟩)
 have ff:s1.heap.FunFrames B (envOfC qual scope s.heap.objs.size f cd::outer):=hB ▸ PySem.W.funFrames_hide I.stack hin
 have of:∀ b o,B.get? b=some o->s1.heap.get? b=some o:=λb o q=>PySem.W.of_hideAll _ (hB ▸ q)
 have to:∀ b o,s1.heap.get? b=some o->b≠a->b∉A3 (envOfC qual scope s.heap.objs.size f cd::outer)->B.get? b=some o:=λb o q n1 n2=>hB ▸ Zb q (λz=>by
  rcases List.mem_cons.mp z with z | z
  ·exact n1 z
  ·exact n2 z)
 have ba:B.get? a=none:=hB ▸ PySem.W.hideAll_none _ List.mem_cons_self
 have trk:∀ b u,H1 b=some u->∃ o',B.get? b=some o':=λb u q=>by
  have hb:b∉A3 (envOfC qual scope s.heap.objs.size f cd::outer):=λz=>by
   have:=I.stkFree b z
   rw [q] at this
   cases this
  obtain ⟨o,ho⟩:∃ o,s1.heap.get? b=some o:=I.hok.get q
  exact ⟨o,to b o ho (BT q n1) hb⟩
 refine wpAny_mono (Qf.any (wpAny_leaving_firstW (E:=λ_ _=>False) (Q:=λ_ s'=>∃ h',s'={ s1 with heap:=h' }/\Heap.LeftW B (envOfC qual scope s.heap.objs.size f cd::outer) a oe.cls (.ref t) s1.heap h') I.ok.frames ff rfl ho of ba hv h1 h0 λh' l=>⟨h',rfl,l⟩)) (λ_ s3 ⟨⟨h',e3,k1,⟨_,_,k2⟩,k3,sm⟩,dk⟩=>?_) λ_ _ z=>z.1.elim
 subst e3
 obtain ⟨oe',ho2,ho3⟩:=dk a oe ho
 have na:∀ b o,s.heap.get? b=some o->b≠a:=λb o q z=>by rw [z,n0] at q; cases q
 refine ⟨a,C,oe.dict,B,H1,rfl,⟨I.os,I.bare,⟨⟨t,k1,ba,k2,hc ▸ k3⟩,oe',ho2,ho3.1,ho3.2.trans (by unfold ctxOf; rw [hv]; exact h2)⟩,?_,Mx I.hok of k1 trk,?_,trk⟩,he⟩
 ·refine ⟨λb o q n hb _=>?_,λb o q n hb _=>?_,λb o q n _=>hu.free b o q n (by simp),λb o q _=>?_,hu.tups,hu.frzs,hu.tbls⟩
  ·exact k1 b o (to b o (hu.keep b o q n hb (by simp)) (na b o q) (hst b o q hb))
  ·obtain ⟨sl,q1⟩:=hu.slot b o q n hb (by simp)
   obtain ⟨_,oo,ho,hnf⟩:=ff.mem (hsub b hb)
   rw [q1] at ho
   cases ho
   obtain ⟨sl3,q3⟩:=sm b _ q1 hnf
   exact ⟨sl3,q3⟩
  ·obtain ⟨o1,q1⟩:=hu.there b o q (by simp)
   by_cases hb:b∈A3 outer
   ·obtain ⟨_,oo,ho,hnf⟩:=ff.mem (hsub b hb)
    obtain ⟨sl3,q3⟩:=sm b _ ho hnf
    exact ⟨_,q3⟩
   ·exact ⟨o1,k1 b _ (to b o1 q1 (na b o q) (hst b o q hb))⟩
 ·intro b o q hb
  obtain ⟨o1,q1⟩:=hu.there b o q (by simp)
  exact ⟨o1,to b o1 q1 (na b o q) (hst b o q hb)⟩
end
end L2
namespace DL
open PySem PySem.Spec PyProof.Rows L2
def Fds (K:PySem.W.Frag) (G:Wd) (od:Option Addr) (fs:List (Str×D)):Prop:=fs=[]\/∃ dx vs,od=some dx/\G.g dx=some (.xd vs)/\Bo K G fs vs
abbrev XR:=Addr->List (Str×D)->Ae->Prop
abbrev Fc:=List D->Ae->(D->Ae->Prop)->XR->Prop
def NU (K:PySem.W.Frag) (sp:Fc):Sp:=λvs H Q E=>∃ G O ds R RX,SA K G H O/\Ak K G ds vs/\sp ds O R RX/\(∀ v d O' G' H',Ah G G'->SA K G' H' O'->Is K G' d v->R d O'->Q v H') /\
 ∀ C fs od O' G' H',Ah G G'->SA K G' H' O'->Fds K G' od fs->RX C fs O'->E (.ref C) od H'
def Ju (X:Cx) (C:Addr) (od:Option Addr) (σ:L2.St) (H':Hp):Prop:=∀ pins H1 s1 a B s2,L2.Inv X pins σ H1 s1->EI X.prog X.w X.stack H1 H' s1 s2 a C od B->X.xe (.ref a) s2
def ThrM (X:Cx) (C:Addr) (od:Option Addr) (σ:L2.St) (H':Hp):Prop:=∀ pins s1 a t oe vs,L2.Inv X pins σ H' s1->H' a=none->X.s₀.heap.get? a=none->s1.heap.get? a=some oe->oe.cls=.ref C->oe.data=.fields vs->vs[1]?=some .none->vs[0]?=some (.ref t)->vs[2]?=some .none->oe.dict=od->X.xe (.ref a) s1
abbrev XC:=Addr->List (Str×D)->Ai->Ae->Prop
def El (X:Cx) (mk:Prop) (G:Wd) (RX:XC):Prop:=∀ C fs od σ ρ O' G' H',Ah G G'->SA X.K G' H' O'->Ax X.K G' σ ρ->Fds X.K G' od fs->RX C fs ρ O'->Ju X C od σ H'/\(mk->ThrM X C od σ H')
theorem El.ext {X:Cx} {mk:Prop} {G G':Wd} {RX:XC} (h:El X mk G RX) (e:Ah G G'):El X mk G' RX:=λC fs od σ ρ O' G2 H' e2=>h C fs od σ ρ O' G2 H' (e.trans e2)
def JE (X:Cx) (mk:Prop) (ρ:Ai) (O:Ae) (e:Expr) (R:D->Ae->Prop) (RX:XC):Prop:=
 ∀ G,PE X e (λσ H Q=>SA X.K G H O/\Ax X.K G σ ρ/\(∀ v d O' G' H',Ah G G'->SA X.K G' H' O'->Is X.K G' d v->R d O'->Q v H')/\El X mk G RX)
def Fi (X:Cx) (mk:Prop) (ρ:Ai) (O:Ae) (st:Stmt) (P:A7) (RX:XC):Prop:=∀ G,PS X st (λE σ H=>SA X.K G H O/\Ax X.K G σ ρ/\C0 X.K G P E/\El X mk G RX)
def DD (X:Cx) (mk:Prop) (ρ:Ai) (O:Ae) (st:List Stmt) (P:A7) (RX:XC):Prop:=∀ G,PSs X st (λE σ H=>SA X.K G H O/\Ax X.K G σ ρ/\C0 X.K G P E/\El X mk G RX)
section
variable {X:Cx} {mk:Prop} {ρ:Ai} {O:Ae} {e a b c o:Expr} {es:List Expr} {d da db:D} {ds:List D} {R:D->Ae->Prop} {RX:XC} {pos p apos:Pos} {x m:Str} {st:Stmt} {rest body orelse:List Stmt} {P:A7} {C:Addr} {q:Nat} {fs:List (Str×D)}
theorem _root_.DL.Exs.x_ (h:Exs X ρ O rest P):DD X mk ρ O rest P RX:=λG=>PSs.imp (h G) λE σ H ⟨h1,h2,h3,_⟩=>⟨h1,h2,h3⟩
theorem Fq (h:P.nx ρ O):DD X mk ρ O [] P RX:=Exs.x_ (Ar h)
theorem CK (h:Fi X mk ρ O st { P with nx:=λρ' O'=>DD X mk ρ' O' rest P RX } RX):DD X mk ρ O (st::rest) P RX:=λG=>
 PSs.imp (LW (h G) (u:=λE σ H=>∃ G1 ρ1 O1,SA X.K G1 H O1/\Ax X.K G1 σ ρ1/\DD X mk ρ1 O1 rest P RX/\C0 X.K G1 P E/\El X mk G1 RX) (λpins s σ H E I ⟨G1,ρ1,O1,q1,q2,q3,q4,q5⟩=>q3 G1 pins s σ H E I ⟨q1,q2,q4,q5⟩)) λE σ H ⟨h1,h2,h3,h4⟩=>
  ⟨h1,h2,⟨λσ1 ρ1 O1 G1 H1 e1 s1 n1 q1=>⟨G1,ρ1,O1,s1,n1,q1,h3.ext e1,h4.ext e1⟩,h3.rt,h3.bk,h3.ct⟩,h4⟩
theorem GE {k:Bool} (hc:AV X ρ O c k) (h1:k=true->DD X mk ρ O body P RX) (h2:k=false->DD X mk ρ O orelse P RX):Fi X mk ρ O (.If c body orelse pos) P RX:=λG=>
 PS.imp (Py (hc G) (t:=λE σ H=>∃ G1,k=true/\SA X.K G1 H O/\Ax X.K G1 σ ρ/\C0 X.K G1 P E/\El X mk G1 RX) (λpins s σ H E I ⟨G1,z,q⟩=>h1 z G1 pins s σ H E I q)
  (u:=λE σ H=>∃ G1,k=false/\SA X.K G1 H O/\Ax X.K G1 σ ρ/\C0 X.K G1 P E/\El X mk G1 RX) (λpins s σ H E I ⟨G1,z,q⟩=>h2 z G1 pins s σ H E I q)) λE σ H ⟨q1,q2,q3,q4⟩=>
  ⟨q1,q2,λG' H' e1 s1=>by
   cases k with
   | true=>exact Ms ⟨G',rfl,s1,q2.ext e1,q3.ext e1,q4.ext e1⟩
   | false=>exact Mt ⟨G',rfl,s1,q2.ext e1,q3.ext e1,q4.ext e1⟩⟩
theorem HS (h:JE X mk ρ O e (λ_ O'=>P.nx ρ O') RX) (hs:swapsWith e none pos.line X.env=pure false:=by rfl):Fi X mk ρ O (.Expr e pos) P RX:=λG=>PS.imp (IG (h G) hs) λE σ H ⟨h1,h2,h3,h4⟩=>
 ⟨h1,h2,λv d O' G' H' e1 s1 i1 r1=>h3.nx σ ρ O' G' H' e1 s1 (h2.ext e1) r1,h4⟩
theorem NE (i:Nat) (he:JE X mk ρ O e (λd O'=>P.nx (ρ.set i (some d)) O') RX) (hN:X.N.Nodup) (hi:X.N[i]?=some x:=by rfl) (hx:DC X.env.scope x:=by first | exact Or.inl rfl | exact Or.inr rfl) {p:Pos}
  (hs:swapsWith e (some (.Name x p)) pos.line X.env=pure false:=by rfl) (hf:X.fn x=true\/X.env.scope.names.lookup x=some .local:=by first | exact .inl rfl | exact .inr rfl | assumption):Fi X mk ρ O (.Assign [.Name x p] e pos) P RX:=λG=>
 PS.imp (Px hN hi hx (he G) hs hf) λE σ H ⟨h1,h2,h3,h4⟩=>⟨h1,h2,λv d O' G' H' e1 s1 i1 r1=>h3.nx _ _ O' G' H' e1 s1 ((h2.ext e1).set i i1) r1,h4⟩
theorem U8 {CX:CJ} {k:Nat} {f:Addr} {fd:FuncData} {ps:List Str} {sp:Sp} {E:XK} {pins:List (Addr×Obj)} {σ:L2.St} {H:Hp} {s:Shared} {Q:VK} {us:List Value} {vs:List V} (F:AF X.prog X.w X.K X.mg X.base CX k f fd ps sp) (hr:AL k X.A) (hb:Binds X.K fd ps [])
  (I:L2.Inv X pins σ H s) (r:Ay vs us) (h:sp vs H Q E) (hx:∀ e s',CX X.stack H s E e s'->X.xe e s'):wpAny (model X.prog X.w) X.A (call (.ref f) us) (EP X pins σ Q) X.xe s:=by
 have hl:us.length=ps.length:=by rw [<- r.length]; exact F.len _ _ _ _ h
 have hb':=hb s us I.kIn (by rw [List.append_nil]; exact hl)
 rw [List.append_nil] at hb'
 refine wpAny_call (codeAny_mono (F.run X.A X.stack s H ⟨us,[]⟩ us vs Q E hr I.env0 hb' r h) λr s' hq=>?_)
 match r,hq with
 | .error e,hq=>exact hx e s' hq
 | .ok (.ret u),hq=>exact I.after hq
theorem S7 {G:Wd} {H' H1:Hp} {σ:L2.St} {pins:List (Addr×Obj)} {s1 s2:Shared} {e:Value} {E:XK} (I:L2.Inv X pins σ H1 s1) (k:∀ C od H2,E (.ref C) od H2->Ju X C od σ H2) (h:Fk X.prog X.w X.stack H1 s1 E e s2):X.xe e s2:=by
 obtain ⟨a,C,od,B,H2,rfl,g,he⟩:=h
 exact k C od H2 he pins H1 s1 a B s2 I g
def EOf (X:Cx) (σ:L2.St):XK:=λc od H'=>∀ C,c=.ref C->Ju X C od σ H'
theorem Z6 {σ:L2.St}:∀ C od H2,EOf X σ (.ref C) od H2->Ju X C od σ H2:=λC od H2 h=>h C rfl
structure Ek (P:Program) (w:World) (K:PySem.W.Frag) (mg:Str->Option Value) (base:Heap) (k:Nat) (x:Str) (sp:Fc):Prop where
 ex:∃ f fd ps,AF P w K mg base (Fk P w) k f fd ps (NU K sp)/\mg x=some (.ref f)/\PySem.W.keepIn K (.ref f)=true/\Binds K fd ps []
theorem Gp {k:Nat} {sp:Fc} (F:Ek X.prog X.w X.K X.mg X.base k x sp) (hr:AL k X.A) (ha:BI X ρ O (e::es) ds) (hs:sp ds O R λC fs O'=>RX C fs ρ O') (hg:Gl X x:=by rfl) (hdb:(x==("__debug__" : Str))=false:=by decide)
  (he:starEach (e::es) X.env=(false,eval e X.env)::starEach es X.env:=by rfl) (hpl:(backTo pos (starEach es X.env)).any (·.1)=false:=by rfl):JE X mk ρ O (.Call (.Name x p) (e::es) [] pos) R RX:=λG pins s σ H Q I ⟨h1,h2,h3,h4⟩=>by
 obtain ⟨f,fd,ps,g1,g2,g3,g4⟩:=F.ex
 refine wpAny_Call_Name_kw (EU I hg g2 ?_ hdb)
 refine PySem.W.callWith_K (h₀:=X.base) I.ok.mod.kin g3 (Aq (ha G pos pins s σ H (λvs H'=>∃ G',Ah G G'/\SA X.K G' H' O/\Ak X.K G' ds vs) I ⟨h1,h2,λvs G' H' e1 s1 i1=>⟨G',e1,s1,i1⟩⟩) λus s1 ⟨vs,H1,I1,r,G1,e1,sa,i1⟩=>⟨I1.kIn,?_⟩) he hpl
 refine U8 (E:=EOf X σ) g1 hr g4 I1 r ⟨G1,O,ds,R,_,sa,i1,hs,λv d O' G' H' e2 s2 i2 r2=>h3 v d O' G' H' (e1.trans e2) s2 i2 r2,λC fs od O' G' H' e2 s2 f2 r2=>?_⟩ λe s' hx=>S7 (G:=G) (H':=H) I1 Z6 hx
 intro C' hC
 cases hC
 exact (h4 _ fs od σ ρ O' G' H' (e1.trans e2) s2 (h2.ext (e1.trans e2)) f2 r2).1
end
section
variable {P:Program} {w:World} {K:PySem.W.Frag} {mg:Str->Option Value} {base:Heap}
theorem Ma {x qual:Str} {st:Stmt} {f:Addr} {fd:FuncData} {N ps:List Str} {k:Nat} {sp:Fc} (F:Au K x qual st f fd) (S:AB N ps (An st)) (len:∀ ds O R RX,sp ds O R RX->ds.length=ps.length)
  (hbody:∀ (cdv:Value) (A:Around) (outer:List Env) (s:Shared) (H:Hp) (E:XK) (ds:List D) (O:Ae) (R:D->Ae->Prop) (RX:XR),AL k (A.deeper (envOfC qual (An st) s.heap.objs.size f cdv))->sp ds O R RX->
   DD (Dh (Fk P w) P w K mg base N qual (An st) f cdv A outer s H E) True (Ft N ds) O (Cf st) { nx:=λ_ O'=>R .non O',rt:=R } λC fs _ O'=>RX C fs O'):AF P w K mg base (Fk P w) (k+1) f fd ps (NU K sp):=by
 obtain ⟨oc,od,kV,doc,pm,an,cdv,ct,osl,rfl,lk,hcd⟩:=F.ex
 refine MD lk hcd S (λvs H Q E h=>?_) λA outer s H vs Q E hr h=>?_
 ·obtain ⟨G,O,ds,R,RX,h1,h2,h3,h4⟩:=h
  rw [<- h2.length]
  exact len _ _ _ _ h3
 ·obtain ⟨G,O,ds,R,RX,h1,h2,h3,h4,h5⟩:=h
  refine ⟨_,hbody cdv A outer s H E ds O R RX hr h3 G,h1,J2 h2,⟨λσ ρ O' G' H' e1 s1 n1 q=>h4 _ _ O' G' H' e1 s1 .non q,λv d O' G' H' e1 s1 i1 q=>h4 v d O' G' H' e1 s1 i1 q,λσ ρ O' G' H' e1 s1 n1 q=>q.elim,λσ ρ O' G' H' e1 s1 n1 q=>q.elim⟩,?_⟩
  intro C fs od σ ρ O' G' H' e1 s1 n1 f1 r1
  have hE:=h5 C fs od O' G' H' e1 s1 f1 r1
  refine ⟨λpins H1 s1 a B s2 I g=>Wl pins σ H1 s1 (.ref a) s2 I ⟨a,C,od,B,H',rfl,g,hE⟩,λ_ pins s1 a t oe vs I x1 x2 x3 x4 x5 x6 x7 x9 x8=>Vj I x1 x2 x3 x4 x5 x6 x7 x9 (x8 ▸ hE)⟩
end
end DL
namespace L2
open PySem PySem.Spec PyProof.Rows
theorem QP {K:PySem.W.Frag} {h:Heap} {C:Addr} {bmB:List Value} {newId:String} (X:K.In h) (q:PySem.W.excIn K C bmB newId=true):OwnCls "e" C bmB newId (λ_=>some (.ref C)) h:=by
 unfold PySem.W.excIn at q
 split at q
 ·rename_i dd cd sl ho
  split at q
  ·rename_i C' bm k0 k1 k2 k3 n k5 hm hs
   have e:=X _ _ ho
   obtain ⟨nm,bs,mro,ns,qn,hd,sn,sub,ab,col,del⟩:=cd
   obtain ⟨l⟩:=sl
   simp only [Bool.and_eq_true,beq_iff_eq,Bool.not_eq_true'] at q hm hs
   obtain ⟨⟨⟨⟨⟨q1,q2⟩,q3⟩,q4⟩,q5⟩,q6⟩:=q
   subst q1 q2 hm hs
   subst q3
   exact ⟨rfl,bm,ns,nm,qn,bs,hd,sn,sub,ab,col,dd,k0,k1,k2,k3,k5,_,e,.of_isNs (PySem.W.isNs_of_in X q5),PySem.W.nsMap_none_of_in X q5 q6,PySem.W.tail_of_in X q4⟩
  ·cases q
 ·cases q
section
variable {X:Cx} {pins:List (Addr×Obj)} {σ:St} {H:Hp} {s:Shared}
theorem IR {M:Model} {A:Around} {E:Value->Shared->Prop} {i:Nat} {n:Str} {pos:Pos} {Q:Unit->Shared->Prop} (I:Inv X pins σ H s) (hN:X.N.Nodup) (hi:X.N[i]?=some n) (hl:X.env.kindOf n=some .local)
  (h:∀ s',Inv X pins (σ.set i none) H s'->Q () s'):wpAny M A (do bindName X.env n .none; unbindBehindTheSuite X.env n pos) Q E s:=by
 refine wpAny_bind (wpAny_bindName (HZ I hN hi (.inl hl) (v:=.non) (u:=.none) rfl (λs1 I1=>?_) (.inr hl)))
 have hiσ:i<σ.length:=by rw [I.len]; exact (List.getElem?_eq_some_iff.mp hi).1
 obtain ⟨m,hn,hk⟩:=id I1.loc
 obtain ⟨u,ru,lu⟩:=hk i n .non hi (List.getElem?_set_self hiσ) (.inl hl)
 have hv:m n=some u:=by
  rcases lu with ⟨_,e⟩ | ⟨k | k,_⟩
  ·exact e
  ·rw [hl] at k; cases k
  ·rw [hl] at k; cases k
 unfold unbindBehindTheSuite
 refine wpAny_onRaise (wpAny_unbindName_local hl hn hv (by rw [I.ok.kind]; rfl) λh' u' hn' hs=>h _ ?_)
 have ne:∀ b o,X.s₀.heap.get? b=some o->b≠X.env.locals:=λb o e=>Nat.ne_of_lt (Nat.lt_of_lt_of_le (Heap.lt_size e) I.ok.above)
 refine ⟨I1.ok,I1.os,I1.bare,⟨λb o e n hb hx=>(hs.2 b (ne b o e)).trans (I1.base.keep b o e n hb hx),λb o e n hb hx=>?_,I1.base.free,λb o e hx=>?_,I1.base.tups,I1.base.frzs,I1.base.tbls⟩,⟨_,hn',λj y v' e1 e2 e3=>?_⟩,λy c e=>?_,I1.free,I1.freeC,λp hp=>?_,λb ob e=>?_,by simpa using I.len⟩
 ·obtain ⟨sl,q⟩:=I1.base.slot b o e n hb hx
  exact ⟨sl,(hs.2 b (ne b o e)).trans q⟩
 ·obtain ⟨o',q⟩:=I1.base.there b o e hx
  exact ⟨o',(hs.2 b (ne b o e)).trans q⟩
 ·have hj:j≠i:=by
   rintro rfl
   rw [List.getElem?_set_self hiσ] at e2
   cases e2
  rw [List.getElem?_set_ne (Ne.symm hj)] at e2
  obtain ⟨u2,r2,q⟩:=hk j y v' e1 (by rw [List.getElem?_set_ne (Ne.symm hj)]; exact e2) e3
  refine ⟨u2,r2,?_⟩
  rcases q with ⟨k,e⟩ | ⟨k,c,e,z⟩
  ·refine .inl ⟨k,?_⟩
   have:y≠n:=λe=>hj (Me hN e1 (e ▸ hi))
   simp [this,e]
  ·exact .inr ⟨k,c,e,z.sameBut hs (I.cne y c e)⟩
 ·obtain ⟨w',z⟩:=I1.cell y c e
  exact ⟨w',z.sameBut hs (I.cne y c e)⟩
 ·obtain ⟨e,n,ne,nf,d⟩:=I1.pin p hp
  exact ⟨(hs.2 p.1 ne).trans e,n,ne,nf,d⟩
 ·refine (I1.hok b ob e).stay (λc w' hc q=>(hs.2 c ?_).trans q) (λ_ q=>q) λ_ _ q=>q
  intro z
  subst z
  rcases hc with hc | hc
  ·rw [<- hc,I1.free] at e; cases e
  ·rw [I1.free] at hc; cases hc
theorem EI.on {P:Program} {w:World} {l:List Env} {H H':Hp} {s s':Shared} {a C t:Addr} {od:Option Addr} {B h':Heap} (g:EI P w l H H' s s' a C od B) (fl':Heap.FlyingW B l a (.ref C) (.ref t) h') (sm:s'.heap.UpToSlots h') (dk:DK s'.heap h') :
  EI P w l H H' s { s' with heap:=h' } a C od B:=by
 obtain ⟨⟨t0,fl⟩,oe,ho0,ho1⟩:=g.fly
 obtain ⟨oe',ho2,ho3⟩:=dk a oe ho0
 refine ⟨g.os,g.bare,⟨⟨t,fl'⟩,oe',ho2,ho3.1.trans ho1.1,ho3.2.trans ho1.2⟩,⟨λb o q n hb _=>?_,λb o q n hb _=>?_,λb o q n hx=>g.un.free b o q n hx,λb o q _=>?_,g.un.tups,g.un.frzs,g.un.tbls⟩,Mx g.hok fl.1 fl'.1 g.trk,g.old,g.trk⟩
 ·obtain ⟨o',ho⟩:=g.old b o q hb
  have h2:=fl.1 b o' ho
  rw [g.un.keep b o q n hb (by simp)] at h2
  cases h2
  exact fl'.1 b _ ho
 ·obtain ⟨sl,q1⟩:=g.un.slot b o q n hb (by simp)
  obtain ⟨_,oo,ho,hnf⟩:=fl.2.2.1.mem hb
  rw [q1] at ho
  cases ho
  obtain ⟨sl3,q3⟩:=sm b _ q1 hnf
  exact ⟨sl3,q3⟩
 ·by_cases hb:b∈A3 l
  ·obtain ⟨_,oo,ho,hnf⟩:=fl.2.2.1.mem hb
   obtain ⟨sl3,q3⟩:=sm b _ ho hnf
   exact ⟨_,q3⟩
  ·obtain ⟨o',ho⟩:=g.old b o q hb
   exact ⟨o',fl'.1 b _ ho⟩
theorem EI.new {P:Program} {w:World} {l:List Env} {H H':Hp} {s s':Shared} {a C:Addr} {od:Option Addr} {B:Heap} (g:EI P w l H H' s s' a C od B):s.heap.get? a=none/\a∉A3 l/\H' a=none:=by
 obtain ⟨⟨t,fl⟩,hd⟩:=g.fly
 have hn:a∉A3 l:=λz=>by
  obtain ⟨_,o,ho,hnf⟩:=fl.2.2.1.mem z
  obtain ⟨oe,vs,h1,h2,h3,h4⟩:=fl.first
  rw [h1] at ho
  cases ho
  exact hnf _ h3
 have hb:=fl.2.1
 refine ⟨?_,hn,?_⟩
 ·cases q:s.heap.get? a with
  | none=>rfl
  | some o=>
   obtain ⟨o',ho⟩:=g.old a o q hn
   rw [hb] at ho
   cases ho
 ·cases q:H' a with
  | none=>rfl
  | some u=>
   obtain ⟨o',ho⟩:=g.trk a u q
   rw [hb] at ho
   cases ho
abbrev Cx.as (X:Cx) (A:Around) (calm:Bool) (pn:List (Addr×Obj)) (E:Value->Shared->Prop):Cx:={ X with A:=A,calm:=calm,pn:=pn,xe:=E }
theorem Inv.as {A:Around} {calm:Bool} {pn pins':List (Addr×Obj)} {E:Value->Shared->Prop} (I:Inv X pins σ H s) (hd:calm=true->A.handled=none) (hf:A.frames=some X.stack) (hp:∀ p∈pn++pins',p∈X.pn++pins):Inv (X.as A calm pn E) pins' σ H s:=
 ⟨⟨I.ok.mod,I.ok.kind,I.ok.glob,I.ok.blt,I.ok.above,I.ok.inj,I.ok.has,I.ok.cab,hd,hf,I.ok.stk,I.ok.exf,I.ok.bs,I.ok.bsz,I.ok.noex,I.ok.exfs,I.ok.funs,I.ok.frf⟩,I.os,I.bare,I.base,I.loc,I.cell,I.free,I.freeC,λp q=>I.pin p (hp p q),I.hok,I.len⟩
theorem Inv.asI {A:Around} {calm:Bool} {pn pins':List (Addr×Obj)} {E:Value->Shared->Prop} (I:Inv (X.as A calm pn E) pins' σ H s) (hd:X.calm=true->X.A.handled=none) (hf:X.A.frames=some X.stack) (hp:∀ p∈X.pn++pins,p∈pn++pins'):Inv X pins σ H s:=
 ⟨⟨I.ok.mod,I.ok.kind,I.ok.glob,I.ok.blt,I.ok.above,I.ok.inj,I.ok.has,I.ok.cab,hd,hf,I.ok.stk,I.ok.exf,I.ok.bs,I.ok.bsz,I.ok.noex,I.ok.exfs,I.ok.funs,I.ok.frf⟩,I.os,I.bare,I.base,I.loc,I.cell,I.free,I.freeC,λp q=>I.pin p (hp p q),I.hok,I.len⟩
theorem Inv.tracked {a:Addr} {ob:Obj} (I:Inv X pins σ H s) (hx:X.ex=[]) (h1:s.heap.get? a=some ob) (h2:H a=none) (h3:X.s₀.heap.get? a=none) (h4:a≠X.env.locals) (h5:∀ x c,X.env.cells.lookup x=some c->c≠a) (h6:∀ p∈X.pn++pins,p.1≠a) :
  Inv X pins σ (Ao H a (.ext λh=>h.get? a=some ob)) s:=by
 refine ⟨I.ok,I.os,I.bare,⟨I.base.keep,I.base.slot,λb o q n hb=>?_,I.base.there,λb xs q=>?_,λb o u q=>?_,λb ps q=>?_⟩,I.loc,I.cell,by rw [AJ (Ne.symm h4)]; exact I.free,λx c q=>by rw [AJ (h5 x c q)]; exact I.freeC x c q,λp hp=>?_,λb u q=>?_,I.len⟩
 ·rw [AJ]
  ·exact I.base.free b o q n hb
  ·rintro rfl; rw [h3] at q; cases q
 ·have:=I.base.tups b xs q
  rw [AJ (BT this h2)]; exact this
 ·have:=I.base.frzs b o u q
  rw [AJ (BT this h2)]; exact this
 ·obtain ⟨m,this⟩:=I.base.tbls b ps q
  exact ⟨m,by rw [AJ (BT this h2)]; exact this⟩
 ·obtain ⟨e,n,r⟩:=I.pin p hp
  exact ⟨e,by rw [AJ (h6 p hp)]; exact n,r⟩
 ·by_cases hb:b=a
  ·subst hb
   rw [A5] at q
   cases q
   exact ⟨h1,⟨ob,h1⟩,λx y e k=>k ob e⟩
  ·rw [AJ hb] at q
   exact (I.hok b u q).stay (λ_ _ _ e=>e) (λc e=>by rw [AJ (BT e h2)]; exact e) λc xs e=>by rw [AJ (BT e h2)]; exact e
end
end L2
namespace DL
open PySem PySem.Spec PyProof.Rows L2
abbrev CY:List Value:=[.type "ValueError",.type "Exception",.type "BaseException",.type "object"]
section
variable {X:Cx} {mk:Prop} {ρ:Ai} {O:Ae} {e a b c o:Expr} {es:List Expr} {d da db:D} {ds:List D} {R:D->Ae->Prop} {RX:XC} {pos p np cpos hpos:Pos} {x y n:Str} {st b₀:Stmt} {rest body suite:List Stmt} {P:A7} {C CB:Addr} {fs:List (Str×D)}
theorem So (hx:PySem.W.excIn X.K C CY "ValueError.__new__" = true) (hm:X.mg x=some (.ref C)) (ha:BI X ρ O (e::es) ds) (hr:RX C [] ρ O) (hmk:mk) (hz:ds.length<=1000:=by simp) (hc:X.calm=true:=by rfl) (hex:X.ex=[]:=by rfl) (hg:Gl X x:=by rfl)
  (hdb:(x==("__debug__" : Str))=false:=by decide) (he:starEach (e::es) X.env=(false,eval e X.env)::starEach es X.env:=by rfl) (hpl:(backTo cpos (starEach es X.env)).any (·.1)=false:=by rfl) :
  Fi X mk ρ O (.Raise (some (.Call (.Name x np) (e::es) [] cpos)) none pos) P RX:=λG pins s σ H E I ⟨h1,h2,h3,h4⟩=>by
 obtain ⟨tl,N,nm,q,bs,hdct,sn,sub,ab,col,dd,k0,k1,k2,k3,k5,mN,hC,hN,hni,T⟩:=(QP I.mod.kin hx).obj
 have ha':=ha G cpos pins s σ H (λvs H'=>∃ G',Ah G G'/\SA X.K G' H' O/\Ak X.K G' ds vs) I ⟨h1,h2,λvs G' H' e1 s1 i1=>⟨G',e1,s1,i1⟩⟩
 refine wpAny_Raise_call_subU (k5:=k5) (k3:=k3) (k2:=k2) (k1:=k1) (k0:=k0) (dd:=dd) (col:=col) (ab:=ab) (sub:=sub) (sn:=sn) (hdct:=hdct) (bs:=bs) (N:=N) (q:=q) (nm:=nm) (C:=C) (bm:=tl) (mN:=mN) PySem.F.excBase_ValueError wD PySem.F.excBase_ValueError (T.hasType PySem.F.excBase_ValueError.hasBase) (I.ok.hd hc) (by rw [he]; exact hpl) hni (EU I hg hm ⟨rfl,?_⟩ hdb)
 rw [he] at ha' ⊢
 refine Calls.evalArgs_plain (Aq ha' λus s2 ⟨vs,H2,I2,r,G2,e2,sa,i2⟩=>⟨rfl,?_,I2.bk _ _ hC,hN.keeps I2.bk,T.keeps I2.bk,λh' a' hx=>?_⟩)
 ·show us.length<=sizeLine
  rw [<- r.length,<- i2.length]
  exact Nat.le_of_lt (TX hz)
 ·obtain ⟨t,he',_,_⟩:=hx.there
  refine (h4 C [] none σ ρ O G2 H2 e2 sa (h2.ext e2) (.inl rfl) hr).2 hmk pins { s2 with heap:=h' } a' t _ _ (I2.kept (t':=s2.toks) hx.keeps) ?_ ?_ he' rfl rfl rfl rfl rfl rfl
  ·cases z:H2 a' with
   | none=>rfl
   | some u=>
    obtain ⟨o,z'⟩:=I2.hok.get z
    rw [hx.new] at z'
    cases z'
  ·cases z:X.s₀.heap.get? a' with
   | none=>rfl
   | some o=>
    have hu:Un X.fs X.ex X.H₀ H2 X.s₀.heap s2.heap:=I2.base
    obtain ⟨o',z'⟩:=hu.there a' o z (by rw [hex]; simp)
    rw [hx.new] at z'
    cases z'
abbrev _root_.L2.Cx.tried (X:Cx) (pn:List (Addr×Obj)) (E:Value->Shared->Prop):Cx:=X.as X.A X.calm pn E
abbrev _root_.L2.Cx.held (X:Cx) (v:Value):Cx:=X.as (X.A.mark (some v)) false X.pn λ_ _=>False
abbrev MS (X:Cx) (pins:List (Addr×Obj)) (E:Fj) (x n:Str) (np hpos:Pos) (b₀:Stmt) (suite:List Stmt):Value->Shared->Prop:=λe s₁=>wpAny (model X.prog X.w) X.A (noteFrame e X.env) (λ_ s₂=>wpAny (model X.prog X.w) X.A (setFlight e none) (λ_ s₃=>wpAny (model X.prog X.w) X.A (handleBy e X.env [.ExceptHandler (some (.Name x np)) (some n) (b₀::suite) hpos]) (SP X pins E) X.xe s₃) X.xe s₂) X.xe s₁
theorem HR (i:Nat) (hN:X.N.Nodup) (hm:X.mg x=some (.ref CB)) (hb:∀ pn E,DD (X.tried pn E) False ρ O body P RX)
  (hh:∀ v C fs ρ' O',RX C fs ρ' O'->PySem.W.exmOne X.K (.ref C) (.ref CB)=some true /\
   Exs (X.held v) (ρ'.set i (some (.ptr O'.length))) (O'++[some (.exc C fs)]) (b₀::suite) { nx:=λρ2 O2=>P.nx (ρ2.set i none) O2,rt:=P.rt,bk:=λρ2 O2=>P.bk (ρ2.set i none) O2,ct:=λρ2 O2=>P.ct (ρ2.set i none) O2 })
  (hi:X.N[i]?=some n:=by rfl) (hl:X.env.kindOf n=some .local:=by rfl) (hg:Gl X x:=by rfl) (hst:X.stack=X.env::X.outer:=by rfl) (hfr:X.env.frame=some X.env.locals:=by rfl) (hex:X.ex=[]:=by rfl) (hdb:(x==("__debug__" : Str))=false:=by decide) :
  Ex X ρ O (.Try body [.ExceptHandler (some (.Name x np)) (some n) (b₀::suite) hpos] [] [] pos) P:=λG pins s σ H E I ⟨h1,h2,h3⟩=>by
 refine wpAny_Try_except ?_
 have I0:L2.Inv (X.tried (X.pn++pins) (MS X pins E x n np hpos b₀ suite)) [] σ H s:=
  I.as I.ok.hd I.ok.frames λp q=>by simpa using q
 refine wpAny_mono (hb (X.pn++pins) (MS X pins E x n np hpos b₀ suite) G [] s σ H E I0 ⟨h1,h2,h3,λC fs od σ2 ρ2 O2 G2 H2 e2 sa2 n2 f2 r2=>⟨λpins2 H1 s1 a' B s2 I1 g=>?_,λz=>z.elim⟩⟩) (λf s1 hs=>?_) λe s1 z=>z
 ·obtain ⟨hq,hsu⟩:=hh (.ref a') C fs ρ2 O2 r2
  have hg1:EI X.prog X.w (X.env::X.outer) H1 H2 s1 s2 a' C od B:=hst ▸ g
  obtain ⟨⟨t,fl⟩,hd⟩:=hg1.fly
  obtain ⟨n1,n3,n4⟩:=hg1.new
  have hfrm:X.A.frames=some (X.env::X.outer):=hst ▸ I.ok.frames
  show wpAny (model X.prog X.w) X.A (noteFrame _ X.env) _ _ s2
  refine wpAny_mono (Qe.any (wpAny_looks_onW (E:=λ_ _=>False) (Q:=λ_ s'=>∃ h',s'={ s2 with heap:=h' }/\Heap.HeldW B (X.env::X.outer) a' (.ref C) (.ref t) X.env.locals h'/\s2.heap.UpToSlots h') hfrm hfr fl λh4 held4 sm4=>⟨h4,rfl,held4,sm4⟩)) (λ_ s4 ⟨⟨h4,e4,held4,sm4⟩,dk4⟩=>?_) λ_ _ z=>z.1.elim
  subst e4
  refine wpAny_mono (Mj.any (wpAny_landsW (E:=λ_ _=>False) (s:={ s2 with heap:=h4 }) (Q:=λ_ s'=>∃ h',s'={ s2 with heap:=h' }/\Heap.FlyingW B (X.env::X.outer) a' (.ref C) (.ref t) h'/\h4.UpToSlots h') held4 λh5 fl5 sm5=>⟨h5,rfl,fl5,sm5⟩)) (λ_ s5 ⟨⟨h5,e5,fl5,sm5⟩,dk5⟩=>?_) λ_ _ z=>z.1.elim
  subst e5
  have g5:=hg1.on fl5 (sm4.trans sm5) (dk4.trans dk5)
  have J:∀ (s':Shared),EI X.prog X.w (X.env::X.outer) H1 H2 s1 s' a' C od B->L2.Inv X pins σ2 H2 s':=λs' g'=>by
   have:=I1.call' (ch:=[]) g'.os (by show Un (A3 X.stack) _ _ _ _ _; rw [hst]; exact g'.un) g'.hok g'.bare (λb z=>absurd z (by simp))
   exact this.asI I.ok.hd I.ok.frames λp q=>List.mem_append_left _ q
  have hmark:(X.A.mark (some (.ref a'))).frames=some X.stack:=I.ok.frames
  have I5:=J _ g5
  have I5h:L2.Inv (X.held (.ref a')) pins σ2 H2 _:=I5.as (by intro z; cases z) hmark λp q=>q
  refine wpAny_handleBy_cons (codeAny_handlers_test (EU (X:=X.held (.ref a')) I5h hg hm ?_ hdb)) (by intro q; cases q)
  obtain ⟨ob,ho1,ho2⟩:=fl5.there
  have LT:PySem.W.Looks (model X.prog X.w) h5 (typeOf (.ref a')) (.ref C):=ho2 ▸ (PySem.W.Looks.ld ho1).andThen .now
  refine (PySem.W.exm_one I5.kIn LT hq).here (codeAny_handlers_suite_as ?_)
  refine wpAny_mono (Mj.any (lands_againW (E:=λ_ _=>False) (Q:=λ_ s'=>∃ h',s'={ s2 with heap:=h' }/\Heap.FlyingW B (X.env::X.outer) a' (.ref C) (.ref t) h'/\h5.UpToSlots h') fl5 λh6 fl6 sm6=>⟨h6,rfl,fl6,sm6⟩)) (λ_ s6 ⟨⟨h6,e6,fl6,sm6⟩,dk6⟩=>?_) λ_ _ z=>z.1.elim
  subst e6
  have g6:=g5.on fl6 sm6 dk6
  have I6:=J _ g6
  obtain ⟨ob6,ws,u1,u2,u3,u4⟩:=fl6.first
  obtain ⟨_,ob6',u1',hd6,hcx6⟩:=g6.fly
  cases Option.some.inj (u1.symm.trans u1')
  have hloc:a'≠X.env.locals:=λz=>n3 (List.mem_filterMap.mpr ⟨X.env,List.mem_cons_self,by rw [hfr,z]⟩)
  have hs0:X.s₀.heap.get? a'=none:=by
   cases z:X.s₀.heap.get? a' with
   | none=>rfl
   | some o=>
    have hu:Un X.fs X.ex X.H₀ H1 X.s₀.heap s1.heap:=I1.base
    obtain ⟨o',z'⟩:=hu.there a' o z (by rw [hex]; simp)
    rw [n1] at z'
    cases z'
  have I7:=I6.tracked hex u1 n4 hs0 hloc (λy c q z=>by
   obtain ⟨v,o,z',_⟩:=I1.cell y c q
   rw [z,n1] at z'
   cases z') (λp hp z=>by
   obtain ⟨z',_⟩:=I1.pin p (List.mem_append_left _ hp)
   rw [z,n1] at z'
   cases z')
  have I7h:L2.Inv (X.held (.ref a')) pins σ2 _ _:=I7.as (by intro z; cases z) hmark λp q=>q
  have eG:Ah G2 ⟨G2.g,G2.l++[a']⟩:=⟨Bl.refl _,[a'],rfl⟩
  have hfd:fs=[]\/∃ dx vs,ob6.dict=some dx/\G2.g dx=some (.xd vs)/\Bo X.K ⟨G2.g,G2.l++[a']⟩ fs vs:=by
   rcases f2 with z | ⟨dx,vs,z1,z2,z3⟩
   ·exact .inl z
   ·exact .inr ⟨dx,vs,hd6.trans z1,z2,Bo.ext eG z3⟩
  obtain ⟨e3,sa3⟩:=sa2.new (p:=a') (o:=.ext λh=>h.get? a'=some ob6) (m:=.exc C fs) n4 ⟨ob6,A5,⟨u2,ws,u3⟩,hfd,λa z=>by cases z⟩
  have ia:Is X.K ⟨G2.g,G2.l++[a']⟩ (.ptr O2.length) (.ref a'):=.ptr _ (by rw [<- sa2.len,List.getElem?_append_right (Nat.le_refl _),Nat.sub_self]; rfl)
  refine HZ (X:=X.held (.ref a')) I7h hN hi (.inl hl) (v:=.ref a') rfl (λs8 I8=>?_) (.inr hl)
  have e23:=e2.trans e3
  refine wpAny_mono (hsu _ pins s8 _ _ { nx:=λσ3 H3=>E.nx (σ3.set i none) H3,rt:=E.rt,bk:=λσ3 H3=>E.bk (σ3.set i none) H3,ct:=λσ3 H3=>E.ct (σ3.set i none) H3 } I8 ⟨sa3,(n2.ext e3).set i ia,?_⟩) (λf s9 hs=>?_) λ_ _ z=>z.elim
  ·have dr:∀ {K:PySem.W.Frag} {G:Wd} {σ:L2.St} {ρ:Ai},Ax K G σ ρ->Ax K G (σ.set i none) (ρ.set i none):=λ{K G σ ρ} h=>⟨by simp [h.len],λj d' hj=>by
    by_cases hij:i=j
    ·subst hij
     rw [List.getElem?_set] at hj
     simp at hj
    ·rw [List.getElem?_set_ne hij] at hj ⊢
     exact h.get j d' hj⟩
   exact ⟨λσ3 ρ3 O3 G3 H3 e4 s4 n4 q=>h3.nx _ _ O3 G3 H3 (e23.trans e4) s4 (dr n4) q,λv d' O3 G3 H3 e4 s4 i4 q=>h3.rt v d' O3 G3 H3 (e23.trans e4) s4 i4 q,λσ3 ρ3 O3 G3 H3 e4 s4 n4 q=>h3.bk _ _ O3 G3 H3 (e23.trans e4) s4 (dr n4) q,λσ3 ρ3 O3 G3 H3 e4 s4 n4 q=>h3.ct _ _ O3 G3 H3 (e23.trans e4) s4 (dr n4) q⟩
  ·have fin:∀ {σ3:L2.St} {H3:Hp},L2.Inv (X.held (.ref a')) pins σ3 H3 s9->L2.Inv X pins σ3 H3 s9:=λI9=>I9.asI I.ok.hd I.ok.frames λp q=>q
   cases f with
   | next=>
    obtain ⟨σ3,H3,I9,q⟩:=hs
    exact IR (fin I9) hN hi hl λs' I'=>⟨_,_,I',q⟩
   | ret u=>
    obtain ⟨v,σ3,H3,I9,r,q⟩:=hs
    exact IR (fin I9) hN hi hl λs' I'=>⟨v,_,_,I',r,q⟩
   | brk=>
    obtain ⟨σ3,H3,I9,q⟩:=hs
    exact IR (fin I9) hN hi hl λs' I'=>⟨_,_,I',q⟩
   | cont=>
    obtain ⟨σ3,H3,I9,q⟩:=hs
    exact IR (fin I9) hN hi hl λs' I'=>⟨_,_,I',q⟩
 ·have fin:∀ {σ3:L2.St} {H3:Hp},L2.Inv (X.tried (X.pn++pins) (MS X pins E x n np hpos b₀ suite)) [] σ3 H3 s1->L2.Inv X pins σ3 H3 s1:=
   λI9=>I9.asI I.ok.hd I.ok.frames λp q=>by simpa using q
  cases f with
  | next=>
   obtain ⟨σ3,H3,I9,q⟩:=hs
   exact LU pins s1 σ3 H3 E (fin I9) q
  | ret u=>
   obtain ⟨v,σ3,H3,I9,r,q⟩:=hs
   exact ⟨v,σ3,H3,fin I9,r,q⟩
  | brk=>
   obtain ⟨σ3,H3,I9,q⟩:=hs
   exact ⟨σ3,H3,fin I9,q⟩
  | cont=>
   obtain ⟨σ3,H3,I9,q⟩:=hs
   exact ⟨σ3,H3,fin I9,q⟩
end
end DL
namespace L2
open PySem PySem.Spec PyProof.Rows Builtin.ObjectAttr Builtin.Getset_descriptor
structure Cz (K:PySem.W.Frag) (C:Addr):Prop where
 ga:PySem.W.findIn K (.ref C) "__getattribute__" = some (some (.builtin "BaseException.__getattribute__"))
 hk:PySem.W.findIn K (.ref C) "__getattr__" = some none
 mb:PySem.W.mroIn K C (.type "BaseException")=some true
 mo:PySem.W.mroIn K C (.type "object")=some true
 ca:PySem.W.findIn K (.ref C) "__class__" = some (some (.builtin "object.__class__"))
 gn:PySem.W.specialIn K (.builtin "object.__class__") "__get__" = some (some (.builtin "getset_descriptor.__get__"))
 gt:PySem.W.takesIn K (.builtin "object.__class__")=some true
 hd:PySem.W.hasDictIn K C=true
section
variable {prog:Program} {w:World} {A:Around} {E:Value->Shared->Prop} {s:Shared} {K:PySem.W.Frag} {x C:Addr} {n:Str}
theorem QQ {nv:Value} {Q:Unit->Shared->Prop} (T:Cz K C) (X:K.In s.heap) (LT:PySem.W.Looks (model prog w) s.heap (typeOf (.ref x)) (.ref C)) (h:Q () s):wpAny (model prog w) A (checkBuiltinCall "BaseException.__getattribute__" ⟨[.ref x,nv],[]⟩) Q E s:=by
 have LI:PySem.W.Looks (model prog w) s.heap (isInstance (.ref x) (.type "BaseException")) true:=LT.andThen (PySem.W.looks_mroIn X T.mb)
 exact @PySem.W.check_slot (model prog w) _ _ s "BaseException.__getattribute__" "BaseException" "__getattribute__" (.ref x) [nv] [] _ wD wD LI (F.args_bexc_ga (.ref x) nv) h
theorem ZB (T:Cz K C) {h:Heap} {M:Model} (X:K.In h):PySem.W.Looks M h (find (.ref x) (.ref C) "__class__") (.bind (.builtin "getset_descriptor.__get__") (.builtin "object.__class__")):=by
 have L1:=PySem.W.looks_findIn (M:=M) X T.ca
 have L2:=PySem.W.looks_specialIn (M:=M) X T.gn
 have L3:=PySem.W.looks_takesIn (M:=M) X T.gt
 refine L1.andThen (PySem.W.Looks.andThen (t:=getOf _) L2 ?_)
 refine PySem.W.Looks.andThen (t:=dataDescriptor? _ _) (L3.andThen .now) ?_
 exact PySem.W.Looks.tag .now
theorem ZG {R:Result->Shared->Prop} {tp:Value} (T:Cz K C) (X:K.In s.heap) (LT:PySem.W.Looks (model prog w) s.heap (typeOf (.ref x)) (.ref C)) (h:R (.ok (.ret (.ref C))) s) :
  codeAny (model prog w) A (.call (.builtin "getset_descriptor.__get__") ⟨[.builtin "object.__class__",.ref x,tp],[]⟩) R s:=by
 have LS:=PySem.W.looks_mroIn (M:=model prog w) X T.mo
 cases s
 refine codeAny_call_builtin PySem.W.KF.slot_gs.plain PySem.W.KF.entry_gs (PySem.W.KF.slot_gs.check _ _ _ _ _ _ _ _ PySem.W.KF.type_class (PySem.W.KF.args_gs _ _ _) ?_)
 unfold Builtin.«getset_descriptor.__get__» descrGet descrGetter descrCheckInstance descrNameAndClass isInstance; rw [PySem.W.dga_obj]
 refine wpAny_bind (wpAny_pure ?_); simp only [PySem.W.KF.owner_class]; repeat lk
 refine ⟨Code.quiet_builtin _ wD,codeAny_builtin PySem.W.KF.entry_class ?_⟩; unfold Builtin.«object.__class__» shownTypeOf; repeat lk
 exact h
theorem ZC {tk:Tok} {P:Value->Shared->Prop} (T:Cz K C) (X:K.In s.heap) (LT:PySem.W.Looks (model prog w) s.heap (typeOf (.ref x)) (.ref C)) (h:P (.ref C) s) :
  wpAny (model prog w) A (Builtin.«object.__getattribute__» ⟨[.ref x,.str "__class__" tk],[]⟩) (λfin s'=>match fin with | .done (.ret v)=>P v s' | _=>False) E s:=by
 have LF:=ZB (x:=x) (M:=model prog w) T X
 obtain ⟨hh,gg,d,t,os⟩:=s
 unfold Builtin.«object.__getattribute__» slotArgs
 refine wpAny_bind (wpAny_bind (wpAny_pure (wpAny_bind (wpAny_pure (wpAny_pure ?_)))))
 refine wpAny_bind (wpAny_pure (wpAny_bind (LT.at (wpAny_bind (LF.at ?_)))))
 show wpAny _ _ (holding [_] (call _ [_,.ref x,.ref C]) >>= ret) _ _ _
 exact wpAny_bind (wpAny_holding (wpAny_call (ZG T X LT (wpAny_pure h))))
theorem ZD {Q:Option Value->Shared->Prop} (T:Cz K C) (X:K.In s.heap) (LT:PySem.W.Looks (model prog w) s.heap (typeOf (.ref x)) (.ref C)) (h:Q (some (.ref C)) { s with toks:=s.toks+1 }) :
  wpAny (model prog w) A (getAttr? (.ref x) "__class__") Q E s:=by
 have LG:=PySem.W.looks_findIn (M:=model prog w) X T.ga
 have LH:=PySem.W.looks_findIn (M:=model prog w) X T.hk
 unfold getAttr? getAttrBy? getAttrBy
 refine wpAny_bind (wpAny_mkText (wpAny_bind (wpAny_attempt (wpAny_holding (wpAny_bind (LT.at (wpAny_bind (LG.at ?_))))))))
 show wpAny _ _ (getAttrByItsOwn _ _ _ _ _ _) _ _ _
 unfold getAttrByItsOwn
 refine wpAny_bind (LH.at (wpAny_bind (wpAny_attempt (wpAny_holding ?_))))
 show wpAny _ _ (boundAndCalled _ _ _) _ _ _
 unfold boundAndCalled
 rw [F.excAttr_ValueError.ga.bind]
 refine wpAny_bind (wpAny_pure (wpAny_call (codeAny_call_builtin F.excAttr_ValueError.ga.plain F.entry_bexc_ga (QQ T X LT (wpAny_mono (ZC (s:={ s with toks:=s.toks+1 }) (P:=λv s'=>v=.ref C/\s'={ s with toks:=s.toks+1 }) T X LT ⟨rfl,rfl⟩) (λfin s' z=>?_) λ_ _ z=>z)))))
 rcases fin with (v | _ | _ | _) | _ <;> first | exact z.elim | skip
 obtain ⟨rfl,rfl⟩:=z
 exact PySem.W.handed_on rfl (wpAny_pure h)
theorem Qr (T:Cz K C):PySem.W.KitX K (.ref x) (.ref C) (λh=>∀ M,PySem.W.Looks M h (typeOf (.ref x)) (.ref C)) where
 ty:=λM _ _ L=>L M
 it:=λ_ _ X _=>by
  obtain ⟨cd,hc,_⟩:=PySem.W.any_some T.hd
  unfold PySem.W.clsIn at hc; split at hc
  ·rename_i ho
   intro _ _ _ _ k q
   exact wpAny_bind (wpAny_loadPart (k _ _ (X _ _ ho)) (wpAny_pure q))
  ·cases hc
 ne:=λh tp dd its n sl X ht=>by
  obtain ⟨cd,hc,_⟩:=PySem.W.any_some T.hd
  unfold PySem.W.clsIn at hc; split at hc
  ·rename_i ho
   by_cases e:C=tp
   ·subst e; cases (X _ _ ho).symm.trans ht
   ·exact Bool.eq_false_iff.mpr λq=>e (Value.ref.inj (beq_iff_eq.mp q))
  ·cases hc
 ca:=λX L k=>ZD T X (L _) k
end
end L2
namespace DL
open PySem PySem.Spec PyProof.Rows L2
section
variable {X:Cx} {ρ:Ai} {O:Ae} {e:Expr} {es:List Expr} {p p2 pos:Pos} {x:Str} {C C2:Addr} {q:Nat} {fs:List (Str×D)} {k:Bool} {x1:Nat}
theorem QO {pins:List (Addr×Obj)} {σ:L2.St} {H:Hp} {s:Shared} {a:Addr} {ob:Obj} (I:L2.Inv X pins σ H s) (h:H a=some (.ext λh=>h.get? a=some ob)) (hc:ob.cls=.ref C):∀ M,PySem.W.Looks M s.heap (typeOf (.ref a)) (.ref C):=λM=>by
 obtain ⟨ho,_⟩:=I.hok a _ h
 exact hc ▸ (PySem.W.Looks.ld ho).andThen .now
def Nw (C:Addr) (v:V) (H:Hp):Prop:=∃ a ob,v=.ref a/\H a=some (.ext λh=>h.get? a=some ob)/\ob.cls=.ref C
theorem QR {K:PySem.W.Frag} {G:Wd} {H:Hp} {v:V} (s:SA K G H O) (i:Is K G (.ptr q) v) {hx':Option Addr} (hq:O[q]?=some (some (.exc C fs hx'))):Nw C v H:=by
 cases i with
 | ptr _ ha=>
  obtain ⟨a,h1,h2,ob,h3,⟨h4,_⟩,_⟩:=s.mt q _ hq
  cases Option.some.inj (ha.symm.trans h1)
  exact ⟨_,ob,rfl,h3,h4⟩
theorem Dx (hm:X.mg "isinstance" = none) (he:Ad X ρ O e (.ptr q)) {hx':Option Addr} (hq:O[q]?=some (some (.exc C fs hx'))) (T:Cz X.K C) (hx:X.mg x=some (.ref C2)) (hk:PySem.W.kitOne X.K (.ref C) (.ref C2)=some k)
  (hg:Gl X "isinstance" := by rfl) (hgx:Gl X x:=by rfl) (hdx:(x==("__debug__" : Str))=false:=by decide) (hs:starEach [e,.Name x p2] X.env=(false,eval e X.env)::starEach [.Name x p2] X.env:=by rfl) (hpl:(backTo pos (starEach [.Name x p2] X.env)).any (·.1)=false:=by rfl) :
  Ad X ρ O (.Call (.Name "isinstance" p) [e,.Name x p2] [] pos) (.bl k):=λG=>by
 refine PE.imp (II (id := "isinstance") (r:=λvs H Q=>∃ v,vs=[v,.ref C2]/\Nw C v H/\Q (.bl k) H) (λpins s σ H xs us Q I r h=>?_) hg hm (by first | rfl | decide +kernel) (DM (he G) (DM (L7 (v:=.ref C2) hgx hx rfl hdx) FA rfl) hs) wE wE hs hpl) λσ H Q ⟨h1,h2,h3⟩=>?_
 ·obtain ⟨v,rfl,⟨a,ob,rfl,ha,hc⟩,hQ⟩:=h
  obtain ⟨u,u',rfl,ru,ru'⟩:=EM r
  cases ru'; cases ru
  exact PySem.W.kia_one (Qr T) I.kIn (QO I ha hc) hk (by intro z; cases z) λtk=>⟨.bl k,H,I.kept λ_ _ e=>e,rfl,hQ⟩
 ·exact ⟨h1,h2,λv G1 H1 e1 s1 i1=>⟨v,rfl,QR s1 i1 hq,h3 _ G1 H1 e1 s1 (.bl k)⟩⟩
theorem QX {U:String} (hm:X.mg "isinstance" = none) (he:Ad X ρ O e (.ptr q)) {hx':Option Addr} (hq:O[q]?=some (some (.exc C fs hx'))) (T:Cz X.K C) (hx:X.mg x=none) (hk:PySem.W.kitOne X.K (.ref C) (.type U)=some k) (hv:bootBuiltins x=some (.type U):=by first | rfl | decide +kernel)
  (hg:Gl X "isinstance" := by rfl) (hgx:Gl X x:=by rfl) (hn:x ≠ "__name__" := by decide) (hdx:(x==("__debug__" : Str))=false:=by decide) (hs:starEach [e,.Name x p2] X.env=(false,eval e X.env)::starEach [.Name x p2] X.env:=by rfl) (hpl:(backTo pos (starEach [.Name x p2] X.env)).any (·.1)=false:=by rfl) :
  Ad X ρ O (.Call (.Name "isinstance" p) [e,.Name x p2] [] pos) (.bl k):=λG=>by
 refine PE.imp (II (id := "isinstance") (r:=λvs H Q=>∃ v,vs=[v,.ty U]/\Nw C v H/\Q (.bl k) H) (λpins s σ H xs us Q I r h=>?_) hg hm (by first | rfl | decide +kernel) (DM (he G) (DM (PN (v:=.ty U) hgx hx hv rfl hn hdx) FA rfl) hs) wE wE hs hpl) λσ H Q ⟨h1,h2,h3⟩=>?_
 ·obtain ⟨v,rfl,⟨a,ob,rfl,ha,hc⟩,hQ⟩:=h
  obtain ⟨u,u',rfl,ru,ru'⟩:=EM r
  cases ru'; cases ru
  exact PySem.W.kia_one (Qr T) I.kIn (QO I ha hc) hk (by intro z; cases z) λtk=>⟨.bl k,H,I.kept λ_ _ e=>e,rfl,hQ⟩
 ·exact ⟨h1,h2,λv G1 H1 e1 s1 i1=>⟨v,rfl,QR s1 i1 hq,h3 _ G1 H1 e1 s1 (.bl k)⟩⟩
end
end DL
namespace L2
open PySem PySem.Spec PyProof.Rows
section
variable {X:Cx} {tg a b c:Expr} {p pos:Pos}
end
end L2
namespace DL
open PySem PySem.Spec PyProof.Rows L2
section
variable {X:Cx} {ρ:Ai} {O:Ae} {a b c:Expr} {p pos:Pos} {P:A7} {st:Stmt} {rest:List Stmt}
end
end DL
namespace L2
open PySem PySem.Spec PyProof.Rows Builtin.ObjectAttr
open DL (CY)
abbrev ZH (vs:List Value):Obj:={ cls:=.type "tuple",data:=.seq vs.toArray }
abbrev Eb (C t:Addr):Obj:={ cls:=.ref C,data:=.fields #[.ref t,.none,.none,.none,.bool false,.none] }
abbrev Ea (h:Heap) (C:Addr) (vs:List Value):Heap:=(h.push (ZH vs)).push (Eb C h.objs.size)
section
variable {prog:Program} {w:World} {A:Around} {s:Shared} {K:PySem.W.Frag} {C f N:Addr} {nm q:Str} {bs bm:List Value} {hdct:Bool} {sn:List Str} {sub:List Value} {ab:Bool} {col:Option Bool} {dd:Option Addr} {k0 k1 k2 k3 k5:Option Value}
theorem Zx {vs:List Value} {R:Result->Shared->Prop} (X:K.In s.heap) (hC:s.heap.get? C=some (excClassObj nm q C N bs bm hdct sn sub ab col dd k0 k1 k2 k3 k5 "ValueError.__new__")) (T:OwnTail s.heap CY bm)
  (hi:PySem.W.findIn K (.ref C) "__init__" = some (some (.ref f))) (hf:PySem.W.typeIn K (.ref f)=some (.type "function")) (hz:vs.length<=sizeLine)
  (h:codeAny (model prog w) (A.under (.builtin "type.__call__" ⟨.ref C::vs,[]⟩)) (.call (.ref f) ⟨.ref (s.heap.objs.size+1)::vs,[]⟩) (PySem.W.InitBack (s.heap.objs.size+1) R) { s with heap:=Ea s.heap C vs }) :
  codeAny (model prog w) A (.call (.ref C) ⟨vs,[]⟩) R s:=by
 obtain ⟨hp,g,d,t,os⟩:=s
 have f1:=tc_lookup
 have f2:=tc_bind (.ref C)
 have hT:(⟨hp,g,d,t,os⟩:Shared).TypeIs (.ref C) "type" :=⟨_,hC,rfl⟩
 have kp:∀ b o,hp.get? b=some o->(Ea hp C vs).get? b=some o:=λb o e=>Heap.get?_push_of_some _ (Heap.get?_push_of_some _ e)
 have X1:K.In (Ea hp C vs):=λb o e=>kp b o (X b o e)
 have LI:=PySem.W.looks_findIn (M:=model prog w) X1 hi
 have LB:=PySem.W.bind_fn (M:=model prog w) X1 (.ref (hp.objs.size+1)) hf
 have hC1:=kp _ _ hC
 have hget:(Ea hp C vs).get? (hp.objs.size+1)=some (Eb C hp.objs.size):=by heap_get
 have hcC:(Value.ref C::bm).contains (.ref C)=true:=by simp
 refine codeAny_of_tree ?_
 show wpAny _ _ (callAny (.ref C) _) _ _ _
 repeat (any_goals (first | assumption | with_reducible refine wpAny_loadPart_at hC ?_ | wp_step))
 refine ⟨rfl,codeAny_call_builtin_at (Code.quiet_builtin _ wD) entry_typeCall (wpAny_check_type_call_sub hC ?_)⟩
 repeat (first | with_reducible refine wpAny_loadPart_at hC ?_ | with_reducible refine wpAny_madeBy_exc hC ?_ | wp_step)
 refine codeAny_call_builtin_code (Code.quiet_builtin _ F.excBase_ValueError.quiet) (wpAny_check_new_subU F.excBase_ValueError wD T hC (codeAny_exc_new_subU F.excBase_ValueError wD F.excBase_ValueError T hC ?_ hz))
 show wpAny _ _ _ _ _ _
 have LT:PySem.W.Looks (model prog w) (Ea hp C vs) (typeOf (.ref (hp.objs.size+1))) (.ref C):=(PySem.W.Looks.ld hget).andThen .now
 have LS:PySem.W.Looks (model prog w) (Ea hp C vs) (isSubtype (.ref C) (.ref C)) true:=λ{_ _ _ s'} k z=>by
  obtain ⟨h1,g1,d1,t1,o1⟩:=s'
  refine wpAny_isSubtype_exc (k _ _ hC1) ?_
  rw [hcC]
  exact z
 show wpAny _ _ _ _ _ ⟨Ea hp C vs,g,d,t,os⟩
 unfold isInstance callSpecial? specialOf
 refine wpAny_bind (wpAny_bind (LT.at (LS.at ?_)))
 show wpAny _ _ (holding [_] _ >>= _) _ _ _
 refine wpAny_bind (wpAny_holding (wpAny_bind (wpAny_bind (LT.at (LI.at ?_)))))
 show wpAny _ _ (holding _ _) _ _ _
 refine wpAny_holding (wpAny_bind (LB.at (wpAny_bind (wpAny_call (codeAny_mono h λr s' z=>?_)))))
 rcases r with e | (v | _ | _ | _) <;> first | exact z | exact z.elim | skip
 obtain ⟨rfl,z⟩:=z
 exact wpAny_pure (wpAny_pure z)
theorem Vg {h:Heap} {tl:List Value} (T:OwnTail h CY tl) (self:Value):refuseLoop self "__setattr__" tl=pure ():=by
 induction T with
 | base=>exact F.store_ValueError.passes self
 | own _ _ _ _ ih=>rw [refuseLoop_ref]; exact ih
theorem Zw {E:Value->Shared->Prop} {a t:Addr} {name:Str} {v:Value} {Q:Unit->Shared->Prop} (X:K.In s.heap) (hC:s.heap.get? C=some (excClassObj nm q C N bs bm true sn sub ab col dd k0 k1 k2 k3 k5 "ValueError.__new__")) (T:OwnTail s.heap CY bm)
  (ho:s.heap.get? a=some (Eb C t)) (sa:PySem.W.findIn K (.ref C) "__setattr__" = some (some (.builtin "object.__setattr__"))) (na:PySem.W.findIn K (.ref C) name=some none) (mo:PySem.W.mroIn K C (.type "object")=some true) (hd:PySem.W.hasDictIn K C=true)
  (h:∀ h' tk,h'.get? a=some { Eb C t with dict:=some s.heap.objs.size }->h'.Ns1 s.heap.objs.size (λy=>if y=name then some v else none)->(∀ b o,b≠a->s.heap.get? b=some o->h'.get? b=some o)->Q () { s with heap:=h',toks:=tk }) :
  wpAny (model prog w) A (setAttr (.ref a) name v) Q E s:=by
 obtain ⟨hp,g,d,tk,os⟩:=s
 have LT:PySem.W.Looks (model prog w) hp (typeOf (.ref a)) (.ref C):=(PySem.W.Looks.ld ho).andThen .now
 have LS:=PySem.W.looks_findIn (M:=model prog w) X sa
 have LN:=PySem.W.looks_findIn (M:=model prog w) X na
 have LO:PySem.W.Looks (model prog w) hp (isInstance (.ref a) (.type "object")) true:=LT.andThen (PySem.W.looks_mroIn X mo)
 have SF:=F.store_ValueError
 have hxs:a≠hp.objs.size:=Nat.ne_of_lt (Heap.lt_size ho)
 unfold setAttr callSpecial? specialOf
 refine wpAny_bind (wpAny_mkText (wpAny_bind (wpAny_bind (wpAny_bind (LT.at (LS.at (wpAny_holding ?_)))))))
 rw [SF.slot.bind]
 refine wpAny_bind (wpAny_pure (wpAny_bind (wpAny_call (codeAny_call_builtin SF.slot.plain SF.entry (@PySem.W.check_slot (model prog w) _ _ _ "object.__setattr__" "object" "__setattr__" (.ref a) [.str name tk,v] [] _ SF.kind SF.split LO (SF.args (.ref a) (.str name tk) v) ?_)))))
 show wpAny _ _ (Builtin.«object.__setattr__» ⟨[.ref a,.str name tk,v],[]⟩) _ _ ⟨hp,g,d,tk+1,os⟩
 rw [PySem.W.osa_eq,refuse_eq]
 refine wpAny_bind (wpAny_bind (LT.at (wpAny_bind (wpAny_mroOf_exc hC ?_))))
 rw [refuseLoop_ref,Vg T]
 refine wpAny_pure (wpAny_bind (LT.at (wpAny_bind (LN.at (wpAny_bind (wpAny_pure ?_))))))
 show wpAny _ _ (storeInOwnDict _ _ _ _ _ _) _ _ _
 obtain ⟨cd,hc,hd'⟩:=PySem.W.any_some hd
 refine wpAny_bind (wpAny_pure (wpAny_bind (wpAny_bind (wpAny_loadPart ho (wpAny_bind ((PySem.W.looks_clsIn X hc).at ?_))))))
 rw [hd']
 have hx1:(hp.push { cls:=.type "dict",data:=.dict #[] }).get? a=some (Eb C t):=Heap.get?_push_of_some _ ho
 generalize hH:((hp.push { cls:=.type "dict",data:=.dict #[] }).update a λo=>{ o with dict:=some hp.objs.size })=h1
 have ha1:h1.get? a=some { Eb C t with dict:=some hp.objs.size }:=hH ▸ Heap.get?_update_self _ hx1 rfl
 have hd1:h1.get? hp.objs.size=some { cls:=.type "dict",data:=.dict #[] }:=hH ▸ (Heap.get?_update_ne _ _ _ _ (Ne.symm hxs)).trans (Heap.get?_push_at rfl rfl)
 have hk1:∀ b o,b≠a->hp.get? b=some o->h1.get? b=some o:=λb o n e=>hH ▸ (Heap.get?_update_ne _ _ _ _ n).trans (Heap.get?_push_of_some _ e)
 have hn1:h1.Ns hp.objs.size (λ_=>none):=⟨_,#[],_,hd1,rfl,λe he=>absurd he (by simp),λ_=>rfl⟩
 show wpAny _ _ (alloc _ >>= λd=>update a (λo=>{ o with dict:=some d }) >>= λ_=>dictMade (.ref C) a d) _ _ _
 refine wpAny_bind (wpAny_alloc' (wpAny_bind (wpAny_update' hx1 (wpAny_pure ?_))))
 show wpAny _ _ (storeInDict hp.objs.size (.str name tk) name v) _ _ ⟨_,_,_,_,_⟩
 rw [show ((⟨hp,g,d,tk+1,os⟩:Shared).heap.push { cls:=.type "dict",data:=.dict #[] })=hp.push { cls:=.type "dict",data:=.dict #[] } from rfl,hH]
 unfold storeInDict newKeyGuard
 refine wpAny_bind (wpAny_pure (wpAny_bind (wpAny_nsSet1 (Heap.Ns1.of_empty hn1) λh' hn' hs=>?_)))
 obtain ⟨oD,esD,epD,hoD,hdD,hcD⟩:=hn'.count (Within.cons name v Within.nil)
 refine wpAny_bind (wpAny_lookBehind hoD (by rw [hdD]; exact pastItsLine_dict (Nat.le_trans hcD (by rw [List.length_cons,List.length_nil,sizeLine_eq]; omega))) ?_)
 refine wpAny_pure (wpAny_pure (wpAny_pure (h h' _ ((hs.2 a hxs).trans ha1) hn' λb o n e=>(hs.2 b (Nat.ne_of_lt (Heap.lt_size e))).trans (hk1 b o n e))))
end
end L2
namespace L2
open PySem PySem.Spec PyProof.Rows Builtin.ObjectAttr DL
structure Gz (K:PySem.W.Frag) (C f:Addr) (name:Str):Prop where
 cls:∃ (nm q:Str) (N:Addr) (bs bm:List Value) (sn:List Str) (sub:List Value) (ab:Bool) (col:Option Bool) (dd:Option Addr) (k0 k1 k2 k3 k5:Option Value),
  K.lookup C=some (excClassObj nm q C N bs bm true sn sub ab col dd k0 k1 k2 k3 k5 "ValueError.__new__")/\∀ h,K.In h->OwnTail h CY bm
 init:PySem.W.findIn K (.ref C) "__init__" = some (some (.ref f))
 fn:PySem.W.typeIn K (.ref f)=some (.type "function")
 sa:PySem.W.findIn K (.ref C) "__setattr__" = some (some (.builtin "object.__setattr__"))
 na:PySem.W.findIn K (.ref C) name=some none
 kp:PySem.W.keepIn K (.ref C)=true
section
variable {X:Cx} {pins:List (Addr×Obj)} {σ:St} {H:Hp} {s:Shared} {C f a t:Addr} {name:Str}
abbrev Gv (C a t:Addr):HO:=.ext λh=>h.get? a=some (Eb C t)
abbrev EK (C a t dx:Addr):HO:=.ext λh=>h.get? a=some { Eb C t with dict:=some dx }
theorem Inv.track {b:Addr} {o:HO} (I:Inv X pins σ H s) (fp:B2 X pins H b) (hs:X.s₀.heap.get? b=none) (new:BW X.prog X.w (Ao H b o) s.heap b o):Inv X pins σ (Ao H b o) s:=by
 obtain ⟨h2,h4,_,_,h5,h6⟩:=fp
 refine ⟨I.ok,I.os,I.bare,⟨I.base.keep,I.base.slot,λc o q n hb=>?_,I.base.there,λc xs q=>?_,λc o u q=>?_,λc ps q=>?_⟩,I.loc,I.cell,by rw [AJ (Ne.symm h4)]; exact I.free,λx c q=>by rw [AJ (h5 x c q)]; exact I.freeC x c q,λp hp=>?_,λc u q=>?_,I.len⟩
 ·rw [AJ]
  ·exact I.base.free c o q n hb
  ·rintro rfl; rw [hs] at q; cases q
 ·have:=I.base.tups c xs q
  rw [AJ (BT this h2)]; exact this
 ·have:=I.base.frzs c o u q
  rw [AJ (BT this h2)]; exact this
 ·obtain ⟨m,this⟩:=I.base.tbls c ps q
  exact ⟨m,by rw [AJ (BT this h2)]; exact this⟩
 ·obtain ⟨e,n,r⟩:=I.pin p hp
  exact ⟨e,by rw [AJ (h6 p hp)]; exact n,r⟩
 ·by_cases hb:c=b
  ·subst hb
   rw [A5] at q
   cases q
   exact new
  ·rw [AJ hb] at q
   exact (I.hok c u q).stay (λ_ _ _ e=>e) (λc e=>by rw [AJ (BT e h2)]; exact e) λc xs e=>by rw [AJ (BT e h2)]; exact e
theorem Zy {y:V} {u:Value} {A:Around} {E:Value->Shared->Prop} {Q:Unit->Shared->Prop} (Z:Gz X.K C f name) (T:Cz X.K C) (I:Inv X pins σ H s) (e:H a=some (Gv C a t)) (ry:AX y u)
  (h:∀ s' dx,H dx=none->Inv X pins σ (Ao (Ao H a (EK C a t dx)) dx (.xd [(name,y)])) s'->Q () s'):wpAny (model X.prog X.w) A (setAttr (.ref a) name u) Q E s:=by
 obtain ⟨nm,q,N,bs,bm,sn,sub,ab,col,dd,k0,k1,k2,k3,k5,hC,hT⟩:=Z.cls
 obtain ⟨ho,_⟩:=I.hok a _ e
 refine Zw I.kIn (I.kIn _ _ hC) (hT _ I.kIn) ho Z.sa Z.na T.mo T.hd λh' tk h1 h2 h3=>h _ s.heap.objs.size (I.hok.fresh (Nat.le_refl _)) ?_
 have hne:a≠s.heap.objs.size:=Nat.ne_of_lt (Heap.lt_size ho)
 have hf:H s.heap.objs.size=none:=I.hok.fresh (Nat.le_refl _)
 have I1:Inv X pins σ (Ao H a (EK C a t s.heap.objs.size)) { s with heap:=h',toks:=tk }:=
  I.write (x:=a) (e:=a) (by rw [e]; exact True.intro) (.inl rfl) (λb u n z=>h3 b u n z) ⟨_,h1⟩ ⟨h1,⟨_,h1⟩,λx y e k=>k _ e⟩
 have fp:=I.fpOk (b:=s.heap.objs.size) (H':=Ao H a (EK C a t s.heap.objs.size)) (Nat.le_refl _) (by rw [AJ (Ne.symm hne)]; exact hf)
 refine I1.track fp ?_ ⟨_,h2,λg=>?_⟩
 ·cases z:X.s₀.heap.get? s.heap.objs.size with
  | none=>rfl
  | some o=>exact absurd (Heap.lt_size z) (Nat.not_lt.mpr I.sz)
 ·show DB (List.lookup g [(name,y)]) (if g=name then some u else none)
  by_cases z:g=name
  ·rw [if_pos z,z,List.lookup_cons,beq_self_eq_true]; exact ry
  ·rw [if_neg z,List.lookup_cons,beq_eq_false_iff_ne.mpr z]; trivial
theorem Inv.forget {φ:Heap->Prop} (I:Inv X pins σ (Ao H a (.ext φ)) s) (hn:H a=none):Inv X pins σ H s:=by
 have hs:∀ b u,H b=some u->Ao H a (.ext φ) b=some u:=λb u q=>by rw [AJ (BT q hn)]; exact q
 have back:∀ b u,Ao H a (.ext φ) b=some u->u≠.ext φ->H b=some u:=λb u q n=>by
  by_cases hb:b=a
  ·subst hb; rw [A5] at q; exact absurd (Option.some.inj q).symm n
  ·rw [AJ hb] at q; exact q
 have no:∀ b,Ao H a (.ext φ) b=none->H b=none:=λb q=>by
  by_cases hb:b=a
  ·subst hb; exact hn
  ·rw [AJ hb] at q; exact q
 refine ⟨I.ok,I.os,I.bare,⟨I.base.keep,I.base.slot,λc o q n hb=>no c (I.base.free c o q n hb),I.base.there,λc xs q=>back c _ (I.base.tups c xs q) (λz=>by cases z),λc o u q=>back c _ (I.base.frzs c o u q) (λz=>by cases z),λc ps q=>?_⟩,I.loc,I.cell,no _ I.free,λx c q=>no _ (I.freeC x c q),λp hp=>?_,λc u q=>?_,I.len⟩
 ·obtain ⟨m,z⟩:=I.base.tbls c ps q
  exact ⟨m,back c _ z (λz=>by cases z)⟩
 ·obtain ⟨e,n,r⟩:=I.pin p hp
  exact ⟨e,no _ n,r⟩
 ·refine (I.hok c u (hs c u q)).stay (λ_ _ _ e=>e) (λb e=>back b _ e λz=>by cases z) λb xs e=>back b _ e λz=>by cases z
end
end L2
namespace L2
open PySem PySem.Spec PyProof.Rows Builtin.ObjectAttr DL
def GO (C:Addr) (name:Str):Sp:=λvs H Q _=>∃ a t v,vs=[.ref a,v]/\H a=some (Gv C a t)/\∀ dx,H dx=none->Q .non (Ao (Ao H a (EK C a t dx)) dx (.xd [(name,v)]))
section
variable {P:Program} {w:World} {K:PySem.W.Frag} {mg:Str->Option Value} {base:Heap} {C f:Addr} {name sn nn qual:Str} {st:Stmt} {fd:FuncData} {p1 p2 p3 p4:Pos}
theorem VQ {X:Cx} (Z:Gz X.K C f name) (T:Cz X.K C) (h0:X.N[0]?=some sn) (h1:X.N[1]?=some nn) (v0:C7 X.env.scope sn) (v1:C7 X.env.scope nn) (d0:(sn==("__debug__" : Str))=false) (d1:(nn==("__debug__" : Str))=false) (c0:(sn==("__classdict__" : Str))=false) (c1:(nn==("__classdict__" : Str))=false)
  (hs:swapsWith (.Name nn p3) (some (.Attribute (.Name sn p1) name p2)) p4.line X.env=pure false) :
  PS X (.Assign [.Attribute (.Name sn p1) name p2] (.Name nn p3) p4) (λD σ H=>∃ a t v,σ[0]?=some (some (.ref a))/\σ[1]?=some (some v)/\H a=some (Gv C a t)/\∀ dx,H dx=none->D.nx σ (Ao (Ao H a (EK C a t dx)) dx (.xd [(name,v)]))):=by
 intro pins s σ H D I ⟨a,t,v,q0,q1,ha,hD⟩
 refine plainObj_wpAny_Assign_Attribute (Aq (L6 h1 v1 d1 c1 pins s σ H (λy H1=>y=v/\H1=H) I ⟨v,q1,rfl,rfl⟩) λu s1 ⟨y,H1,I1,ry,e1,e2⟩=>Aq (L6 h0 v0 d0 c0 pins s1 σ H1 (λy H2=>y=.ref a/\H2=H1) I1 ⟨_,q0,rfl,rfl⟩) λov s2 ⟨x,H2,I2,rx,e3,e4⟩=>?_) hs
 subst e1 e2 e3 e4
 obtain rfl:ov=Value.ref a:=rx
 exact Zy Z T I2 ha ry λs3 dx hn I3=>⟨σ,_,I3,hD dx hn⟩
theorem okI (F:Au K "__init__" qual st f fd) (S:AB [sn,nn] [sn,nn] (An st)) (Z:Gz K C f name) (T:Cz K C) (hb:Cf st=[.Assign [.Attribute (.Name sn p1) name p2] (.Name nn p3) p4]) (d0:(sn==("__debug__" : Str))=false) (d1:(nn==("__debug__" : Str))=false) (c0:(sn==("__classdict__" : Str))=false) (c1:(nn==("__classdict__" : Str))=false)
  (v0:C7 (An st) sn) (v1:C7 (An st) nn) (hs:∀ env,swapsWith (.Name nn p3) (some (.Attribute (.Name sn p1) name p2)) p4.line env=pure false):AF P w K mg base AI 1 f fd [sn,nn] (GO C name):=by
 refine F.ok (k:=0) S (λvs H Q E h=>?_) (λcdv A outer s H vs Q E hr h=>?_)
 ·obtain ⟨_,_,_,rfl,_⟩:=h; rfl
 ·obtain ⟨a,t,v,rfl,ha,hQ⟩:=h
  rw [hb]
  exact ⟨_,LW (VQ Z T rfl rfl v0 v1 d0 d1 c0 c1 (hs _)) LU,a,t,v,rfl,rfl,ha,hQ⟩
theorem Vi {M:Model} {A:Around} {E:Value->Shared->Prop} {s:Shared} {env:Env} {x:Sem Value} {Q:Flow->Shared->Prop} {nm q:Str} {N:Addr} {bs bm:List Value} {sn:List Str} {sub:List Value} {ab:Bool} {col:Option Bool} {dd:Option Addr} {k0 k1 k2 k3 k5:Option Value} (hh:A.handled=none)
  (h:wpAny M A x (λv s₁=>∃ e t dx,v=.ref e/\s₁.heap.get? C=some (excClassObj nm q C N bs bm true sn sub ab col dd k0 k1 k2 k3 k5 "ValueError.__new__")/\OwnTail s₁.heap CY bm/\s₁.heap.get? e=some { Eb C t with dict:=some dx }/\E (.ref e) s₁) E s) :
  wpAny M A (raiseStmt env (some x) none) Q E s:=by
 unfold raiseStmt
 refine wpAny_bind (wpAny_mono h (λv s1 h1=>?_) λ_ _ x=>x)
 obtain ⟨e,t,dx,rfl,hC,T,he,hE⟩:=h1
 have hcB:(Value.ref C::bm).contains (.type "BaseException")=true:=by rw [List.contains_cons,T.hasType F.excBase_ValueError.hasBase,Bool.or_true]
 obtain ⟨hp,g,d,tk,os⟩:=s1
 repeat (first | with_reducible refine wpAny_loadPart_at he ?_ | with_reducible refine wpAny_loadPart_at hC ?_ | (with_reducible refine wpAny_isSubtype_exc hC ?_; rw [hcB]) | wp_step)
 exact wpAny_raiseNew_none hh hE
end
end L2
namespace DL
open PySem PySem.Spec PyProof.Rows L2
structure Nt (P:Program) (w:World) (K:PySem.W.Frag) (mg:Str->Option Value) (base:Heap) (C:Addr) (k:Nat) (x name:Str):Prop where
 ex:∃ f fd ps,AF P w K mg base AI k f fd ps (GO C name)/\Gz K C f name/\Binds K fd ps []
 ty:Cz K C
 at_:mg x=some (.ref C)
section
variable {X:Cx} {mk:Prop} {ρ:Ai} {O:Ae} {e:Expr} {d:D} {RX:XC} {pos np cpos:Pos} {x name:Str} {P:A7} {C:Addr} {k:Nat}
theorem NF (M:Nt X.prog X.w X.K X.mg X.base C k x name) (hr:AL (k+1) X.A) (ha:BI X ρ O [e] [d]) (hR:RX C [(name,d)] ρ O) (hmk:mk) (hc:X.calm=true:=by rfl) (hex:X.ex=[]:=by rfl) (hg:Gl X x:=by rfl)
  (hdb:(x==("__debug__" : Str))=false:=by decide) (he:starEach [e] X.env=(false,eval e X.env)::starEach [] X.env:=by rfl) (hpl:(backTo cpos (starEach [] X.env)).any (·.1)=false:=by rfl) :
  Fi X mk ρ O (.Raise (some (.Call (.Name x np) [e] [] cpos)) none pos) P RX:=λG pins s σ H E I ⟨h1,h2,h3,h4⟩=>by
 obtain ⟨f,fd,ps,g1,g2,g3⟩:=M.ex
 obtain ⟨nm,q,N,bs,bm,sn,sub,ab,col,dd,k0,k1,k2,k3,k5,hC,hT⟩:=g2.cls
 rw [arm_exec_Raise]
 refine wpAny_bind (wpAny_standAt (Vi (C:=C) (nm:=nm) (q:=q) (N:=N) (bs:=bs) (bm:=bm) (sn:=sn) (sub:=sub) (ab:=ab) (col:=col) (dd:=dd) (k0:=k0) (k1:=k1) (k2:=k2) (k3:=k3) (k5:=k5) (I.ok.hd hc) (wpAny_bind (wpAny_mono (wpAny_Call_Name_kw (EU I hg M.at_ ?_ hdb)) (λv s3 h3=>wpAny_bind (wpAny_standAt (wpAny_pure h3))) λ_ _ z=>z))))
 refine PySem.W.callWith_K (h₀:=X.base) I.ok.mod.kin g2.kp (Aq (ha G cpos pins s σ H (λvs H'=>∃ G',Ah G G'/\SA X.K G' H' O/\Ak X.K G' [d] vs) I ⟨h1,h2,λvs G' H' e1 s1 i1=>⟨G',e1,s1,i1⟩⟩) λus s1 ⟨vs,H1,I1,r,G1,e1,sa,i1⟩=>⟨I1.kIn,?_⟩) he hpl
 obtain ⟨v,rfl,iv⟩:∃ v,vs=[v]/\Is X.K G1 d v:=by
  cases i1 with | cons i r'=>cases r' with | nil=>exact ⟨_,rfl,i⟩
 have ul:us.length=1:=r.length.symm
 have ha1:H1 (s1.heap.objs.size+1)=none:=I1.hok.fresh (Nat.le_succ _)
 have kp:∀ b o,s1.heap.get? b=some o->(Ea s1.heap C us).get? b=some o:=λb o e=>Heap.get?_push_of_some _ (Heap.get?_push_of_some _ e)
 have hget:(Ea s1.heap C us).get? (s1.heap.objs.size+1)=some (Eb C s1.heap.objs.size):=by heap_get
 have s0n:X.s₀.heap.get? (s1.heap.objs.size+1)=none:=by
  cases z:X.s₀.heap.get? (s1.heap.objs.size+1) with
  | none=>rfl
  | some o=>exact absurd (Heap.lt_size z) (Nat.not_lt.mpr (Nat.le_succ_of_le I1.sz))
 have I2:L2.Inv X pins σ (Ao H1 (s1.heap.objs.size+1) (Gv C (s1.heap.objs.size+1) s1.heap.objs.size)) { s1 with heap:=Ea s1.heap C us }:=
  (I1.kept (t':=s1.toks) kp).track (I1.fpOk (Nat.le_succ _) ha1) s0n ⟨hget,⟨_,hget⟩,λ_ _ e k=>k _ e⟩
 generalize hH2:Ao H1 (s1.heap.objs.size+1) (Gv C (s1.heap.objs.size+1) s1.heap.objs.size)=H2 at I2
 have hsp:GO C name [V.ref (s1.heap.objs.size+1),v] H2 (λu H'=>u=.non/\∃ dx,H2 dx=none/\H'=Ao (Ao H2 (s1.heap.objs.size+1) (EK C (s1.heap.objs.size+1) s1.heap.objs.size dx)) dx (.xd [(name,v)])) (λ_ _ _=>False):=
  ⟨_,_,v,rfl,by rw [<- hH2]; exact A5,λdx hn=>⟨rfl,dx,hn,rfl⟩⟩
 have r2:Ay [V.ref (s1.heap.objs.size+1),v] (Value.ref (s1.heap.objs.size+1)::us):=.cons rfl r
 have hl:(Value.ref (s1.heap.objs.size+1)::us).length=ps.length:=by rw [<- r2.length]; exact g1.len _ _ _ _ hsp
 have hb:=g3 { s1 with heap:=_ } (Value.ref (s1.heap.objs.size+1)::us) I2.kIn (by rw [List.append_nil]; exact hl)
 rw [List.append_nil] at hb
 refine wpAny_call (Zx (f:=f) I1.kIn (I1.kIn _ _ hC) (hT _ I1.kIn) g2.init g2.fn (by rw [List.nil_append,ul,sizeLine_eq]; decide) (codeAny_mono (g1.run _ X.stack _ _ ⟨Value.ref (s1.heap.objs.size+1)::us,[]⟩ _ _ _ (λ_ _ _=>False) (hr.make C us []) (I2.env0.make C us []) hb r2 hsp) λr s' hq'=>?_))
 match r,hq' with
 | .error e,hq'=>exact hq'.elim
 | .ok (.ret u),hq'=>
  obtain ⟨v',H',I3,rv,ev,dx,hn,hH'⟩:=I2.after hq'
  subst ev
  refine ⟨rv,?_⟩
  have h2a:H2 (s1.heap.objs.size+1)=some (Gv C (s1.heap.objs.size+1) s1.heap.objs.size):=by rw [<- hH2]; exact A5
  have hne:s1.heap.objs.size+1≠dx:=BT h2a hn
  have h1d:H1 dx=none:=by rw [<- hH2,AJ (Ne.symm hne)] at hn; exact hn
  have hcomm:H'=Ao (Ao H1 dx (.xd [(name,v)])) (s1.heap.objs.size+1) (EK C (s1.heap.objs.size+1) s1.heap.objs.size dx):=by
   rw [hH',<- hH2,SL]
   funext b
   unfold Ao
   by_cases hb:b=dx
   ·subst hb; rw [if_pos rfl,if_neg (Ne.symm hne),if_pos rfl]
   ·rw [if_neg hb,if_neg hb]
  have h3n:Ao H1 dx (.xd [(name,v)]) (s1.heap.objs.size+1)=none:=by rw [AJ hne]; exact ha1
  obtain ⟨ho,_⟩:=I3.hok (s1.heap.objs.size+1) (EK C (s1.heap.objs.size+1) s1.heap.objs.size dx) (by rw [hcomm]; exact A5)
  have I4:L2.Inv X pins σ (Ao H1 dx (.xd [(name,v)])) s':=(hcomm ▸ I3).forget h3n
  obtain ⟨e2,sa2⟩:=sa.laid (o:=.xd [(name,v)]) h1d
  exact ⟨_,_,dx,rfl,I3.kIn _ _ hC,hT _ I3.kIn,ho,(h4 C [(name,d)] (some dx) σ ρ O _ _ (e1.trans e2) sa2 (h2.ext (e1.trans e2)) (.inr ⟨dx,_,rfl,A5,.cons (iv.ext e2) .nil⟩) hR).2 hmk pins s' _ _ _ _ I4 h3n s0n ho rfl rfl rfl rfl rfl rfl⟩
end
end DL
namespace L2
open PySem PySem.Spec PyProof.Rows Builtin.ObjectAttr
section
variable {prog:Program} {w:World} {A:Around} {E:Value->Shared->Prop} {s:Shared} {K:PySem.W.Frag} {x C:Addr} {n:Str} {ox od:Obj} {u:Value}
theorem ZA (T:Cz K C) (na:PySem.W.findIn K (.ref C) n=some none) (hl:PySem.W.lookIn n od=some (some u)):PySem.W.findObj K C (some od) n=some (.value u):=by
 obtain ⟨cd,hc,hd⟩:=PySem.W.any_some T.hd
 have ho:PySem.W.ownOf cd (some od) n=some (some u):=by unfold PySem.W.ownOf; rw [if_pos hd]; exact hl
 unfold PySem.W.findObj
 rw [hc,Option.bind_some,na,Option.bind_some]
 dsimp only
 rw [Option.bind_some,Option.bind_some,ho]
 rfl
theorem Zv {tk:Tok} {P:Value->Shared->Prop} (X:K.In s.heap) (I:PySem.W.InstAt s.heap x ox C (some od)) (hf:PySem.W.findObj K C (some od) n=some (.value u)) (h:P u s) :
  wpAny (model prog w) A (Builtin.«object.__getattribute__» ⟨[.ref x,.str n tk],[]⟩) (λfin s'=>match fin with | .done (.ret v)=>P v s' | _=>False) E s:=by
 have LT:=I.type (M:=model prog w)
 have LF:=PySem.W.looks_find (M:=model prog w) X I hf
 obtain ⟨hh,gg,d,t,os⟩:=s
 unfold Builtin.«object.__getattribute__» slotArgs
 refine wpAny_bind (wpAny_bind (wpAny_pure (wpAny_bind (wpAny_pure (wpAny_pure ?_)))))
 exact wpAny_bind (wpAny_pure (wpAny_bind (LT.at (wpAny_bind (LF.at (wpAny_pure h))))))
theorem Zz {b:Bool} {Q:Value->Shared->Prop} (T:Cz K C) (X:K.In s.heap) (I:PySem.W.InstAt s.heap x ox C (some od)) (na:PySem.W.findIn K (.ref C) n=some none) (hl:PySem.W.lookIn n od=some (some u)) (hu:PySem.W.handedIn u=true) (h:Q u { s with toks:=s.toks+1 }) :
  wpAny (model prog w) A (getAttr (.ref x) n b) Q E s:=by
 have LT:=I.type (M:=model prog w)
 have LG:=PySem.W.looks_findIn (M:=model prog w) X T.ga
 have LH:=PySem.W.looks_findIn (M:=model prog w) X T.hk
 unfold getAttr getAttrBy
 refine wpAny_bind (wpAny_mkText (wpAny_holding (wpAny_bind (LT.at (wpAny_bind (LG.at ?_))))))
 show wpAny _ _ (getAttrByItsOwn _ _ _ _ _ _) _ _ _
 unfold getAttrByItsOwn
 refine wpAny_bind (LH.at (wpAny_bind (wpAny_attempt (wpAny_holding ?_))))
 have e0:∀ o nv,callGetattribute o nv (.builtin "BaseException.__getattribute__") b=boundAndCalled (.builtin "BaseException.__getattribute__") o nv:=λo nv=>by cases b <;> rfl
 rw [e0]
 unfold boundAndCalled
 rw [F.excAttr_ValueError.ga.bind]
 refine wpAny_bind (wpAny_pure (wpAny_call (codeAny_call_builtin F.excAttr_ValueError.ga.plain F.entry_bexc_ga (QQ T X LT (wpAny_mono (Zv (s:={ s with toks:=s.toks+1 }) (P:=λv s'=>v=u/\s'={ s with toks:=s.toks+1 }) X I (ZA T na hl) ⟨rfl,rfl⟩) (λfin s' z=>?_) λ_ _ z=>z)))))
 rcases fin with (v | _ | _ | _) | _ <;> first | exact z.elim | skip
 obtain ⟨rfl,rfl⟩:=z
 exact PySem.W.handed_on hu h
end
end L2
namespace DL
open PySem PySem.Spec PyProof.Rows L2
section
variable {X:Cx} {ρ:Ai} {O:Ae} {e:Expr} {d:D} {pos:Pos} {f:Str} {C:Addr} {q:Nat} {fs:List (Str×D)}
theorem ZS (he:Ad X ρ O e (.ptr q)) {hx':Option Addr} (hq:O[q]?=some (some (.exc C fs hx'))) (T:Cz X.K C) (na:PySem.W.findIn X.K (.ref C) f=some none) (hl:fs.lookup f=some d) (hb:attributeBase e f X.env (eval e X.env)=eval e X.env:=by rfl) :
  Ad X ρ O (.Attribute e f pos) d:=λG pins s σ H Q I ⟨h1,h2,h3⟩=>by
 refine RI hb (Aq (he G pins s σ H (λv H'=>∃ G',Ah G G'/\SA X.K G' H' O/\Is X.K G' (.ptr q) v) I ⟨h1,h2,λv G' H' e1 s1 i1=>⟨G',e1,s1,i1⟩⟩) λu s1 ⟨y,H1,I1,ry,G1,e1,sa1,i1⟩=>?_)
 cases i1 with
 | ptr _ ha=>
  obtain ⟨a,g1,g2,ob,g3,⟨g4,ws,g5⟩,g6,_⟩:=sa1.mt q _ hq
  cases Option.some.inj (ha.symm.trans g1)
  obtain rfl:u=Value.ref _:=ry
  rcases g6 with z | ⟨dx,vs,k1,k2,k3⟩
  ·subst z; cases hl
  obtain ⟨v,l,iv⟩:=k3.look hl
  obtain ⟨ho,_⟩:=I1.hok _ _ g3
  obtain ⟨mA,n1,r1⟩:=I1.hok dx _ (sa1.sub _ _ k2)
  obtain ⟨od,hod,hlk⟩:=Qj n1
  obtain ⟨u',hu,ru⟩:=DB.some_of (v:=v) (o:=mA f) (by rw [<- l]; exact r1 f)
  have J:PySem.W.InstAt s1.heap _ ob C (some od):=⟨ho,g4,by obtain ⟨c0,d0,dt,sl⟩:=ob; subst g5; rfl,by rw [k1]; exact hod⟩
  exact Zz T I1.kIn J na (by rw [hlk,hu]) (QB ru) ⟨v,H1,I1.tok _,ru,h3 v G1 H1 e1 sa1 iv⟩
theorem S8 {K:PySem.W.Frag} {h:Heap} {Cb:Addr} (X:K.In h) (q:PySem.W.excIn K Cb CY "ValueError.__new__" = true):OwnTail h CY (.ref Cb::CY):=by
 obtain ⟨tl,N,nm,q,bs,hdct,sn,sub,ab,col,dd,k0,k1,k2,k3,k5,mN,hC,hN,hni,T⟩:=(QP X q).obj
 exact .own hC hN hni .base
end
section
variable {P:Program} {w:World} {K:PySem.W.Frag} {mg:Str->Option Value} {base:Heap} {C:Addr} {k:Nat} {x m:Str} {sp:Fc}
end
end DL
namespace L2
open PySem PySem.Spec PyProof.Rows
theorem Wz {X:Cx}:BQ X (binaryOp .Add) (λx y H Q=>∃ a b ys,x=.ref a/\y=.ref b/\Bc X.K H a []/\Bc X.K H b ys/\Q (.ref b) H):=by
 intro pins s σ H x y v u Q I rx ry ⟨a,b,ys,ex,ey,ha,hb,q⟩
 subst ex ey
 cases rx; cases ry
 obtain ⟨i1,r1,p1,_⟩:=I.tuple ha
 obtain ⟨i2,r2,p2,_⟩:=I.tuple hb
 cases r1
 obtain ⟨⟨c1,d1,t1,l1⟩,o1,rfl,n1,rfl⟩:=id p1
 obtain ⟨⟨c2,d2,t2,l2⟩,o2,rfl,n2,rfl⟩:=id p2
 exact concat_meets ⟨_,o1,rfl⟩ ⟨_,o2,rfl⟩ noFill_tuple_add seq_tuple_add PySem.F.slot_tuple_add PySem.F.entry_tuple_add (PySem.F.args_tuple_add_2 _ _) (tuple_addW0 a b _ i2.toArray n1 n2 d1 d2 l1 l2 rfl) ⟨o1,o2,⟨.ref b,H,I,rfl,q⟩⟩
end L2
namespace DL
open PySem PySem.Spec PyProof.Rows L2
section
variable {X:Cx} {O:Ae}
theorem X8 {ys:List D}:Bm X O (binaryOp .Add) (.tup []) (.tup ys) (.tup ys):=.of Wz λG v u H Q s h1 h2 k=>by
 obtain ⟨q1,vs,rfl,g1,r1⟩:=Dk s h1
 have j2:=h2
 obtain ⟨q2,us,rfl,g2,r2⟩:=Dk s h2
 cases r1
 exact ⟨_,_,_,rfl,rfl,g1,g2,k _ G H (Ah.refl _) s j2⟩
theorem Mc {xs ys:List D} (hz:xs.length+ys.length<=sizeLine):Bm X O (binaryOp .Add) (.tup xs) (.tup ys) (.tup (xs++ys)):=by
 cases xs with
 | nil=>exact X8
 | cons x r=>exact X9 (by simp) hz
end
section
variable {X:Cx} {mk:Prop} {ρ:Ai} {O:Ae} {P:A7} {RX:XC} {pos:Pos}
theorem Sr {tg iter:Expr} {body:List Stmt} {xs:List D} (hi:BX X ρ O tg iter xs) (inv:Nat->Ai->Ae->Prop) (h0:inv 0 ρ O)
  (hs:∀ i x ρ' O',xs[i]?=some x->inv i ρ' O'->∃ ρ1,Tg X tg x ρ' ρ1/\DD X mk ρ1 O' body { P with nx:=inv (i+1),ct:=inv (i+1),bk:=P.nx } RX) (hd:∀ ρ' O',inv xs.length ρ' O'->P.nx ρ' O')
  (hp:PassesOwn (model X.prog X.w) X.A X.env X.xe:=by exact PassesOwn.leaving) (hc:X.calm=true:=by rfl) (hf:∀ x,foldedSetIterable iter X.env x=pure x:=by intro _; rfl):Fi X mk ρ O (.For tg iter body [] pos) P RX:=λG=>
 PS.imp (Pz hp hc (hi G) (g:=λv σ H Q=>∃ G1 ρ1 ρ2 x,Tg X tg x ρ1 ρ2/\Is X.K G1 x v/\Bl G1.g H/\Ax X.K G1 σ ρ1/\∀ σ',Ax X.K G1 σ' ρ2->Q σ' H) (λpins s σ H v u Q I r ⟨G1,ρ1,ρ2,x,q,q'⟩=>q G1 pins s σ H v u Q I r q')
  (tb:=λE σ H=>∃ G1 ρ1 O1 P1,SA X.K G1 H O1/\Ax X.K G1 σ ρ1/\DD X mk ρ1 O1 body P1 RX/\C0 X.K G1 P1 E/\El X mk G1 RX) (λpins s σ H E I ⟨G1,ρ1,O1,P1,q1,q2,q3,q4,q5⟩=>q3 G1 pins s σ H E I ⟨q1,q2,q4,q5⟩) hf) λE σ H ⟨q1,q2,q3,q5⟩=>by
  refine ⟨q1,q2,λJ G1 H1 e1 s1 Y=>?_⟩
  refine ⟨λi m σ H=>∃ G2 ρ2 O2,Ah G1 G2/\SA X.K G2 H O2/\Ax X.K G2 σ ρ2/\inv i ρ2 O2/\i<=xs.length/\m=xs.length-i,⟨_,G1,ρ,O,Ah.refl _,s1,q2.ext e1,h0,Nat.zero_le _,rfl⟩,?_⟩
  rintro i m σ2 H2 ⟨G2,ρ2,O2,e2,s2,n2,v2,l2,rfl⟩
  by_cases hlt:i<xs.length
  ·refine .inr ⟨Y.go i H2 (e2.g.trans s2.sub) hlt,λσ' H'=>∃ G3 ρ3 O3,Ah G1 G3/\SA X.K G3 H' O3/\Ax X.K G3 σ' ρ3/\inv (i+1) ρ3 O3,λσ' H' ⟨G3,ρ3,O3,e3,s3,n3,v3⟩=>⟨xs.length-(i+1),by omega,G3,ρ3,O3,e3,s3,n3,v3,hlt,rfl⟩,λv H3 y=>?_⟩
   obtain ⟨x,G3,hx,e3,s3,i3⟩:=Y.yld i v H2 H3 G2 O2 e2 s2 y hlt
   obtain ⟨ρ3,t3,b3⟩:=hs i x ρ2 O2 hx v2
   have e13:Ah G1 G3:=e2.trans e3
   refine ⟨G3,ρ2,ρ3,x,t3,i3,s3.sub,n2.ext e3,λσ' n'=>⟨G3,ρ3,O2,_,s3,n',b3,⟨λσ4 ρ4 O4 G4 H4 e4 s4 n4 q=>⟨G4,ρ4,O4,e13.trans e4,s4,n4,q⟩,λv d O4 G4 H4 e4 s4 i4 r=>q3.rt v d O4 G4 H4 (e1.trans (e13.trans e4)) s4 i4 r,
    λσ4 ρ4 O4 G4 H4 e4 s4 n4 q=>q3.nx σ4 ρ4 O4 G4 H4 (e1.trans (e13.trans e4)) s4 n4 q,λσ4 ρ4 O4 G4 H4 e4 s4 n4 q=>⟨G4,ρ4,O4,e13.trans e4,s4,n4,q⟩⟩,q5.ext (e1.trans e13)⟩⟩
  ·have ei:i=xs.length:=by omega
   subst ei
   exact .inl ⟨Y.stop _ H2 (e2.g.trans s2.sub) (Nat.le_refl _),q3.nx σ2 ρ2 O2 G2 H2 (e1.trans e2) s2 n2 (hd _ _ v2)⟩
end
section
variable {X:Cx} {O:Ae} {da db ea eb:D} {k:Nat} {v:Value}
end
section
variable {X:Cx} {ρ:Ai} {O:Ae} {value o ix:Expr} {P:A7} {pos tpos:Pos} {q j:Nat} {i:Int} {xs:List D}
theorem Sm (hv:Ev X ρ O value λd O'=>O'=O/\P.nx ρ (O.set q (some (.lst (xs.set j d))))) (ho:Ad X ρ O o (.ptr q)) (hq:O[q]?=some (some (.lst xs))) (hi:Ad X ρ O ix (.int i)) (hj:DP xs.length i=some j)
  (hs:swapsWithSole [.Subscript o ix tpos] value pos.line X.env=pure false:=by rfl) (hw:swappedStores [.Subscript o ix tpos] value X.env=pure none:=by rfl) (h1:(assignEach [.Subscript o ix tpos] X.env).map (·.2)=[assign (.Subscript o ix tpos) X.env]:=by rfl)
  (ha:∀ v,assign (.Subscript o ix tpos) X.env v=(do
   let ov <- holding [v] (eval o X.env)
   let iv <- holding [v,ov] (eval ix X.env)
   standAt tpos
   holding [v,ov,iv] (setItem ov iv v)
   release [v,ov,iv] []):=by intro _; rfl):Ex X ρ O (.Assign [.Subscript o ix tpos] value pos) P:=λG=>by
 refine PS.imp (LX (hv G) (V5 (to:=λσ H Q=>∃ G1,SA X.K G1 H O/\Ax X.K G1 σ ρ/\∀ v G' H',Ah G1 G'->SA X.K G' H' O->Is X.K G' (.ptr q) v->Q v H') (ti:=λσ H Q=>∃ G1,SA X.K G1 H O/\Ax X.K G1 σ ρ/\∀ v G' H',Ah G1 G'->SA X.K G' H' O->Is X.K G' (.int i) v->Q v H')
  (λpins s σ H Q I ⟨G1,z⟩=>ho G1 pins s σ H Q I z) (λpins s σ H Q I ⟨G1,z⟩=>hi G1 pins s σ H Q I z) Ub ha) hs hw h1) λE σ H ⟨q1,q2,q3⟩=>?_
 refine ⟨q1,q2,λy d O' G1 H1 e1 s1 i1 ⟨eO,h⟩=>?_⟩
 subst eO
 refine ⟨G1,s1,q2.ext e1,λov G2 H2 e2 s2 i2=>⟨G2,s2,q2.ext (e1.trans e2),λiv G3 H3 e3 s3 i3=>?_⟩⟩
 obtain ⟨ad,vs,rfl,g1,g3,g4⟩:=s3.lstAt (i2.ext e3) hq
 cases i3
 refine ⟨ad,vs,i,j,rfl,rfl,g3,by rw [<- g4.length]; exact hj,?_⟩
 exact q3.nx σ ρ _ G3 _ ((e1.trans e2).trans e3) (s3.put (m':=.lst (xs.set j d)) hq g1 ⟨_,A5,g4.set (i1.ext (e2.trans e3)) j⟩) (q2.ext ((e1.trans e2).trans e3)) h
end
end DL
namespace L2
open PySem PySem.Spec PyProof.Rows
def JL (n:Int):Str:=if n=1 then "0" else ⟨(List.replicate n.toNat (("0" : Str).cps)).foldl (·++·) #[]⟩
end L2
namespace DL
open PySem PySem.Spec PyProof.Rows L2
theorem Rx:∀ {bs:List Bool} {us:List Value},Ay (bs.map V.bl) us->us=bs.map Value.bool
 | [],_,.nil=>rfl
 | b::bs,_,.cons r t=>by cases r; rw [Rx t]; rfl
theorem Pr {h:Heap}:∀ bs:List Bool,ReadsAll h (bs.map Value.bool) (bs.map PyData.bool) []
 | []=>.nil
 | b::bs=>ReadsAll.cons (as:=[]) (.bool b) (Pr bs)
theorem Ro (k:Bool):∀ bs:List Bool,countIn (.bool k) (bs.map PyData.bool)=((bs.count k:Nat):Int)
 | []=>rfl
 | b::bs=>by
  rw [List.map_cons,countIn,Ro k bs,List.count_cons]
  cases b <;> cases k <;> simp [same] <;> omega
section
variable {X:Cx} {ρ:Ai} {O:Ae} {a e:Expr} {d:D}
def Vs (K:PySem.W.Frag):V->List V->Hp->VK->Prop:=λx vs H Q=>∃ (p:Addr) (bs:List Bool) (k:Bool),x=.ref p/\vs=[.bl k]/\A8 K H p (bs.map V.bl)/\Q (.int ((bs.count k:Nat):Int)) H
theorem Ym:MtR X "list.count" (Vs X.K):=by
 intro pins s σ H x vs v us Q I rx rv h
 obtain ⟨p,bs,k,rfl,rfl,hq,q⟩:=h
 cases rx
 obtain ⟨u,rfl,ru⟩:=rv.one
 cases ru
 obtain ⟨its,r,pl,hz⟩:=I.list hq
 have e:=Rx r
 subst e
 refine count_list_bools pl.isList (Pr (h:=s.heap) bs) ?_ ?_
 ·rw [List.all_map]; exact List.all_eq_true.mpr λ_ _=>rfl
 ·rw [Ro]
  exact ⟨.int _,H,I.tok _,⟨_,rfl⟩,q⟩
theorem QZ {k:Bool} {bs:List Bool} {apos cpos:Pos} (ho:Ad X ρ O a d) (hl:LV O d (bs.map D.bl)) (he:Ad X ρ O e (.bl k))
  (hbase:attributeBase a ("count" : Str) X.env (eval a X.env)=eval a X.env:=by rfl) (hline:(apos.endLine==cpos.line)=true:=by rfl) (hst:starEach [e] X.env=[(false,eval e X.env)]:=by rfl) :
  Ad X ρ O (.Call (.Attribute a ("count" : Str) apos) [e] [] cpos) (.int ((bs.count k:Nat):Int)):=λG=>
 PE.imp (L8 PySem.F.plainAttrs_list PySem.F.slot_list_count PySem.F.type_list_count Ym (ho G)
  (DM (te:=λσ H Q=>∃ G1,SA X.K G1 H O/\Ax X.K G1 σ ρ/\∀ v G' H',Ah G1 G'->SA X.K G' H' O->Is X.K G' (.bl k) v->Q v H') (λpins s σ H Q I ⟨G1,q⟩=>he G1 pins s σ H Q I q) FA hst) hbase
  (by rw [hst]; rfl) hline hst (by rfl)) λσ H Q ⟨q1,q2,q3⟩=>⟨q1,q2,λv G1 H1 e1 s1 i1=>by
   obtain ⟨p,vs,rfl,g1,g2⟩:=hl.sq s1 i1
   have:=Ak.toBls g2
   subst this
   refine ⟨.inl ⟨rfl,_,g1⟩,G1,s1,q2.ext e1,λw G2 H2 e2 s2 i2=>?_⟩
   cases i2
   obtain ⟨p2,vs2,h2,g3,g4⟩:=hl.sq s2 (i1.ext e2)
   cases h2
   have:=Ak.toBls g4
   subst this
   exact ⟨p,bs,k,rfl,rfl,g3,q3 _ G2 H2 (e1.trans e2) s2 (.int _)⟩⟩
end
section
variable {X:Cx} {ρ:Ai} {O:Ae} {elt tg iter:Expr} {ifs:List Expr} {scope:Scope} {pos:Pos} {xs:List D} {zs:List (Option D)}
theorem Q0o (N:List Str) (js:List Nat) (ρ0:Ai) (hi:BX X ρ O tg iter xs) (hc:X.calm=true) (hk:scope.kind=.function) (hfr:Gy X scope) (hnm:∀ x∈scope.names,x.2=.local->scope.names.lookup x.1=some .local)
  (hl0:ρ0.length=N.length)
  (h0:∀ (i:Nat) (d:D),ρ0[i]?=some (some d)->∃ (x:Str) (j:Nat),N[i]?=some x/\scope.names.lookup x=some .free/\(∀ y∈scope.names,y.1=x->y.2≠.cell)/\X.N[j]?=some x/\ρ[j]?=some (some d)/\C7 X.env.scope x)
  (hzl:zs.length=xs.length) (hsz:xs.length<=sizeLine)
  (turn:∀ (s:Shared) (H:Hp) (fp:List Addr) (i:Nat) (x:D) (z:Option D),xs[i]?=some x->zs[i]?=some z->∃ ρ1,Tg (CU X N scope s H fp) tg x ρ0 ρ1/\ρ1.length=ρ0.length/\(∀ (j:Nat) (d:D),ρ0[j]?=some (some d)->ρ1[j]?=some (some d))/\HI (CU X N scope s H fp) ρ1 O elt ifs z)
  {use:Option (Value->Sem Unit)} {pins:List (Addr×Obj)} {s:Shared} {σ:L2.St} {H:Hp} {G:Wd} {Q:Value->Shared->Prop} (I:L2.Inv X pins σ H s) (sa:SA X.K G H O) (en:Ax X.K G σ ρ)
  (fin:∀ (D C:Addr) (s':Shared) (H5:Hp) (G5:Wd) (vs:List V),L2.Inv X pins σ (Ao H5 D (.lst vs)) s'->Ah G G5->SA X.K G5 H5 O->H5 D=none->Ak X.K G5 (zs.filterMap id) vs->B2 X pins (Ao H5 D (.lst vs)) C->(∃ m,s'.heap.Ns C m)->compPost (model X.prog X.w) X.A X.xe use Q (.ref D) C (.ok .next) s')
  (hs:∀ x,foldedSetIterable iter X.env x=pure x:=by intro _; rfl) :
  wpAny (model X.prog X.w) X.A (comprehension (.ListComp elt [⟨tg,iter,ifs,0⟩] scope pos) scope X.env (firstIterPos [⟨tg,iter,ifs,0⟩] pos) (newList []) false (eval iter X.env) use) Q X.xe s:=by
 refine ML (λ_=>O) rfl N js ρ0 hi hc hk hfr hnm hl0 h0 hzl hsz (λs H fp i x z q1 q2=>?_) I sa en fin hs
 obtain ⟨ρ1,t1,t2,t3,t4⟩:=turn s H fp i x z q1 q2
 exact ⟨ρ1,t1,t2,t3,t4.s⟩
theorem Sk {x:Str} {p spos:Pos} {P:A7} (k:Nat) (T F:List Str) (js:List Nat) (hi:BX X ρ O tg iter xs) (hzl:zs.length=xs.length) (hsz:xs.length<=sizeLine) (turn:∀ (i:Nat) (x:D) (z:Option D),xs[i]?=some x->zs[i]?=some z->Fl X T F js ρ O scope tg elt ifs x z)
  (h:P.nx (ρ.set k (some (.ptr O.length))) (O++[some (.lst (zs.filterMap id))])) (hN:X.N.Nodup) (hx:X.N[k]?=some x) (hlc:DC X.env.scope x) (hf:X.fn x=true\/X.env.scope.names.lookup x=some .local)
  (hfl:F.length=js.length) (hB:CC X.N X.env.scope.names scope.names F js=true) (hc:X.calm=true) (hk:scope.kind=.function) (hs:∀ x,foldedSetIterable iter X.env x=pure x)
  (hsw:swapsWith (.ListComp elt [⟨tg,iter,ifs,0⟩] scope pos) (some (.Name x p)) spos.line X.env=pure true):Ex X ρ O (.Assign [.Name x p] (.ListComp elt [⟨tg,iter,ifs,0⟩] scope pos) spos) P:=λG pins s σ H E I ⟨h1,h2,h3⟩=>by
 rw [PySem.exec_Assign_Name_used _ _ _ _ hsw]
 refine wpAny_bind (wpAny_standAt (wpAny_bind ?_))
 show wpAny _ _ (do let _ <- comprehension (.ListComp elt [⟨tg,iter,ifs,0⟩] scope pos) scope X.env _ (newList []) false (eval iter X.env) (some (assign (.Name x p) X.env))) _ _ s
 refine wpAny_bind (Aq (Q0o (use:=some (assign (.Name x p) X.env)) (Q:=λ_ s'=>SP X pins E .next s') (T++F) js (T.map (λ_=>(none:Option D))++Ce ρ js) hi hc hk (Jd hB) (Jc hB) (by simp [Ce,hfl]) (Je hB) hzl hsz (λs H fp i x z q1 q2=>?_) I h1 h2 (λdd C s' H5 G5 vs I' e' sa5 hd5 is5 fo ns=>?_) hs) λ_ s' hq=>wpAny_pure (wpAny_pure hq))
 ·obtain ⟨ts,t1,t2,t3⟩:=turn i x z q1 q2 s H fp
  obtain ⟨u1,u2⟩:=HY (fr:=Ce ρ js) t1
  exact ⟨_,t2,u1,u2,t3⟩
 ·obtain ⟨m,hn⟩:=ns
  obtain ⟨f0,f1,f2,f3,f4,f5⟩:=fo
  refine wpAny_assign_Name (J1 I' hN hx hlc (v:=.ref dd) rfl (λs2 I2 ⟨a,sb,ha⟩=>?_) hf)
  have hCa:C≠a:=by
   rcases ha with q | q
   ·rw [q]; exact f1
   ·exact Ne.symm (f4 _ _ q)
  refine ⟨m,hn.sameBut sb hCa,λh' hs'=>?_⟩
  have eG:Ah G5 ⟨G5.g,G5.l++[dd]⟩:=⟨Bl.refl _,[dd],rfl⟩
  obtain ⟨e2,s2'⟩:=sa5.new (o:=.lst vs) (m:=.lst (zs.filterMap id)) hd5 ⟨vs,A5,is5.ext eG⟩
  have ip:Is X.K ⟨G5.g,G5.l++[dd]⟩ (.ptr O.length) (.ref dd):=.ptr _ (by rw [<- sa5.len,List.getElem?_append_right (Nat.le_refl _),Nat.sub_self]; rfl)
  exact ⟨_,_,I2.turned (t':=s2.toks) (λb o hb e=>(hs'.2 b hb).trans e) f0 f1 f3 f4 f5,h3.nx _ _ _ _ _ (e'.trans e2) s2' ((h2.ext (e'.trans e2)).set k ip) h⟩
end
section
variable {X:Cx} {ρ:Ai} {O:Ae} {P:A7} {pos:Pos}
variable {α:Type} {ps:List α} {f g:α->D} {h:α->Option D} {tg iter elt:Expr} {ifs:List Expr} {scope:Scope}
theorem Si {x:Str} {p spos:Pos} (k:Nat) (h:α->Option D) (T F:List Str) (js:List Nat) (hi:BX X ρ O tg iter (ps.map f)) (hsz:ps.length<=sizeLine) (turn:∀ q,q∈ps->Fl X T F js ρ O scope tg elt ifs (f q) (h q))
  (hP:P.nx (ρ.set k (some (.ptr O.length))) (O++[some (.lst (ps.filterMap h))])) (hN:X.N.Nodup) (hx:X.N[k]?=some x:=by rfl) (hlc:DC X.env.scope x:=by first | exact Or.inl rfl | exact Or.inr rfl) (hf:X.fn x=true\/X.env.scope.names.lookup x=some .local:=by first | exact .inl rfl | exact .inr rfl | assumption)
  (hfl:F.length=js.length:=by rfl) (hB:CC X.N X.env.scope.names scope.names F js=true:=by rfl) (hc:X.calm=true:=by rfl) (hk:scope.kind=.function:=by rfl) (hs:∀ x,foldedSetIterable iter X.env x=pure x:=by intro _; rfl)
  (hsw:swapsWith (.ListComp elt [⟨tg,iter,ifs,0⟩] scope pos) (some (.Name x p)) spos.line X.env=pure true:=by rfl):Ex X ρ O (.Assign [.Name x p] (.ListComp elt [⟨tg,iter,ifs,0⟩] scope pos) spos) P:=by
 rw [<- Hl] at hP
 refine Sk k T F js hi (by rw [List.length_map,List.length_map]) (by rw [List.length_map]; exact hsz) (λi x z h1 h2=>?_) hP hN hx hlc hf hfl hB hc hk hs hsw
 rw [List.getElem?_map] at h1 h2
 cases e:ps[i]? with
 | none=>rw [e] at h1; cases h1
 | some q=>rw [e] at h1 h2; cases h1; cases h2; exact turn q (List.mem_of_getElem? e)
theorem Sh {x:Str} {p spos:Pos} (k:Nat) (g:α->D) (T F:List Str) (js:List Nat) (hi:BX X ρ O tg iter (ps.map f)) (hsz:ps.length<=sizeLine) (turn:∀ q,q∈ps->Fl X T F js ρ O scope tg elt ifs (f q) (some (g q)))
  (hP:P.nx (ρ.set k (some (.ptr O.length))) (O++[some (.lst (ps.map g))])) (hN:X.N.Nodup) (hx:X.N[k]?=some x:=by rfl) (hlc:DC X.env.scope x:=by first | exact Or.inl rfl | exact Or.inr rfl) (hf:X.fn x=true\/X.env.scope.names.lookup x=some .local:=by first | exact .inl rfl | exact .inr rfl | assumption)
  (hfl:F.length=js.length:=by rfl) (hB:CC X.N X.env.scope.names scope.names F js=true:=by rfl) (hc:X.calm=true:=by rfl) (hk:scope.kind=.function:=by rfl) (hs:∀ x,foldedSetIterable iter X.env x=pure x:=by intro _; rfl)
  (hsw:swapsWith (.ListComp elt [⟨tg,iter,ifs,0⟩] scope pos) (some (.Name x p)) spos.line X.env=pure true:=by rfl):Ex X ρ O (.Assign [.Name x p] (.ListComp elt [⟨tg,iter,ifs,0⟩] scope pos) spos) P:=by
 rw [<- QL,Hl] at hP
 exact Si k (λq=>some (g q)) T F js hi hsz turn hP hN hx hlc hf hfl hB hc hk hs hsw
end
section
variable {P:Program} {w:World} {K:PySem.W.Frag} {mg:Str->Option Value} {base:Heap}
end
section
variable {prog:Program} {w:World} {A:Around} {E:Value->Shared->Prop} {s:Shared}
end
section
variable {X:Cx} {O:Ae}
end
section
variable {X:Cx} {mk:Prop} {ρ:Ai} {O:Ae} {value o:Expr} {RX:XC} {pos pos':Pos} {f:Str} {P:A7} {C:Addr} {q:Nat} {fs:List (Str×D)}
end
end DL
namespace DL
open PySem PySem.Spec PyProof.Rows L2 PySem.SeqAt PySem.MeetsSeq
section
variable {X:Cx} {ρ:Ai} {O:Ae} {a e:Expr} {d:D}
end
end DL
namespace DL
open PySem PySem.Spec PyProof.Rows L2 PySem.W
section
variable {prog:Program} {w:World} {A:Around} {s:Shared} {E:Value->Shared->Prop} {it:Addr} {Ty:String}
end
section
variable {prog:Program} {w:World} {A:Around} {s:Shared} {E:Value->Shared->Prop} {it l:Addr} {i:Int}
end
section
variable {X:Cx} {ρ:Ai} {O:Ae} {a:Expr} {pos p pos2 p2:Pos} {xs:List D}
end
end DL
namespace L2
open PySem PySem.Spec PyProof.Rows
section
variable {X:Cx} {tg a b c:Expr} {p pos:Pos}
end
end L2
namespace DL
open PySem PySem.Spec PyProof.Rows L2
section
variable {X:Cx} {ρ:Ai} {O:Ae} {a b c:Expr} {p pos:Pos} {P:A7} {st:Stmt} {rest:List Stmt}
end
section
variable {X:Cx} {ρ:Ai} {O:Ae} {a b e:Expr} {pos:Pos} {P:A7} {d da db ea eb:D} {k:Nat} {xs:List D}
end
section
variable {X:Cx} {ρ:Ai} {O:Ae} {a b e:Expr} {pos p:Pos} {d:D} {x y:Str}
end
section
variable {X:Cx} {ρ:Ai} {O:Ae} {a b e:Expr} {pos p:Pos} {d:D} {x y sep:Str}
end
section
variable {X:Cx} {ρ:Ai} {O:Ae} {pos:Pos} {x y:Str}
end
end DL
namespace L2
open PySem PySem.Spec PyProof.Rows
section
variable {prog:Program} {w:World} {A:Around} {E:Value->Shared->Prop}
end
end L2
namespace DL
open PySem PySem.Spec PyProof.Rows L2
section
variable {X:Cx} {ρ ρ1:Ai} {O:Ae} {e a b:Expr} {es:List Expr} {d da:D} {ds xs:List D} {R:D->Ae->Prop} {P:A7} {pos p:Pos} {x:Str} {q:Nat} {v:Value}
theorem QW {Ra:D->Ae->Prop} (ha:Ev X ρ O a Ra) (hb:∀ da O1,Ra da O1->∃ xs i d,da=.tup xs/\Ad X ρ O1 b (.int i)/\Bv xs i=some d/\R d O1) (hs:Nh b:=by intro _ _; rfl):Ev X ρ O (.Subscript a b pos) R:=λG pins s σ H Q I ⟨h1,h2,h3⟩=>
 Subscript_ (HC (ta:=λσ H Q=>SA X.K G H O/\Ax X.K G σ ρ/\∀ v d O' G' H',Ah G G'->SA X.K G' H' O'->Is X.K G' d v->Ra d O'->Q v H') (ha G)
  (tb:=λσ H Q=>∃ G1 O1 i,Ad X ρ O1 b (.int i)/\SA X.K G1 H O1/\Ax X.K G1 σ ρ/\∀ v G' H',Ah G1 G'->SA X.K G' H' O1->Is X.K G' (.int i) v->Q v H') (λpins s σ H Q I ⟨G1,O1,i,hb,q⟩=>hb G1 pins s σ H Q I q) I
  (R:=λx y H2=>∃ G2 O1 xs i d,Ah G G2/\SA X.K G2 H2 O1/\Is X.K G2 (.tup xs) x/\Is X.K G2 (.int i) y/\Bv xs i=some d/\R d O1)
  ⟨h1,h2,λv da O1 G1 H1 e1 s1 i1 ra=>by
   obtain ⟨xs,i,d,rfl,hbb,hi,hR⟩:=hb da O1 ra
   exact ⟨G1,O1,i,hbb,s1,h2.ext e1,λu G2 H2 e2 s2 i2=>⟨G2,O1,xs,i,d,e1.trans e2,s2,i1.ext e2,i2,hi,hR⟩⟩⟩
  λv u s2 x y H2 I2 rx ry ⟨G2,O1,xs,i,d,e2,s2',i1,i2,hi,hR⟩=>by
   obtain ⟨p,vs,rfl,q,r⟩:=Dk s2' i1
   cases i2
   obtain ⟨w,hw,iw⟩:=Mq r hi
   exact Qv a b pins s2 σ H2 _ _ v u Q I2 rx ry ⟨p,vs,i,w,rfl,rfl,q,hw,h3 w d O1 G2 H2 e2 s2' iw hR⟩ (hs _ _))
end
section
variable {X:Cx} {ρ:Ai} {O:Ae} {e a b c:Expr} {d da db y:D} {ks:List A1} {xs:List D} {k:A1} {j q:Nat} {R:D->Ae->Prop} {P:A7} {pos apos cpos tpos:Pos}
end
section
variable {X:Cx} {ρ:Ai} {O:Ae} {a b e:Expr} {pos p:Pos} {d:D} {ks:List A1} {xs:List D}
end
section
variable {X:Cx} {ρ:Ai} {O:Ae} {a b e:Expr} {elts:List Expr} {x1:Nat} {pos p tp apos cpos:Pos} {d:D} {ks:List A1} {xs:List D}
end
mutual
def sbD (n:Nat) (e:D):D->D
 | .ptr m=>if m=n then e else .ptr m
 | .tup xs=>.tup (Pk n e xs)
 | .non=>.non | .bl b=>.bl b | .int i=>.int i | .str x=>.str x | .lst xs=>.lst xs | .scr xs=>.scr xs | .ty t=>.ty t | .fn a=>.fn a | .dct ks xs=>.dct ks xs
def Pk (n:Nat) (e:D):List D->List D
 | []=>[]
 | x::xs=>sbD n e x::Pk n e xs
end
section
variable {X:Cx} {ρ:Ai} {O:Ae} {rest:List Stmt} {P:A7} {n q:Nat} {ks:List A1} {xs:List D} {d:D} {C:Addr} {fs:List (Str×D)} {f:Str}
end
end DL
namespace DL
open PySem PySem.Spec PyProof.Rows L2 PySem.W
section
variable {prog:Program} {w:World} {A:Around} {s:Shared} {E:Value->Shared->Prop} {T:String} {r d:Addr} {n:Nat} {P:Nat->Value->Prop} {OK:Heap->Prop}
end
section
variable {X:Cx} {ρ:Ai} {O:Ae} {a b e:Expr} {pos p apos cpos:Pos} {d da:D} {ks:List A1} {xs:List D} {R:D->Ae->Prop}
end
instance:Inhabited Str:=⟨⟨#[]⟩⟩
section
variable {X:Cx} {ρ:Ai} {O:Ae} {e:Expr} {pos p:Pos} {da:D} {ps:List Str} {xs:List D}
end
section
variable {X:Cx} {ρ:Ai} {O:Ae} {a e:Expr} {pos apos cpos:Pos} {q:Nat} {ps:List Str} {x:Str} {P:A7} {ks:List A1} {xs:List D}
end
section
variable {X:Cx} {ρ:Ai} {O:Ae} {value o:Expr} {pos pos':Pos} {q:Nat} {C:Addr} {fs:List (Str×D)} {f:Str} {P:A7}
theorem ND (hv:Ev X ρ O value λd O'=>Ad X ρ O' o (.ptr q)/\O'[q]?=some (some (.ins C fs))/\P.nx ρ (O'.set q (some (.ins C (A6 f d fs))))) (c:A4 X.K C) (n:As X.K C f) (hz:fs.length<1000) (hs:swapsWith value (some (.Attribute o f pos')) pos.line X.env=pure false:=by rfl) :
  Ex X ρ O (.Assign [.Attribute o f pos'] value pos) P:=λG pins s σ H E I ⟨h1,h2,h3⟩=>by
 refine plainObj_wpAny_Assign_Attribute (Aq (hv G pins s σ H (λv H1=>∃ d O1 G1,Ah G G1/\SA X.K G1 H1 O1/\Is X.K G1 d v/\Ad X ρ O1 o (.ptr q)/\O1[q]?=some (some (.ins C fs))/\P.nx ρ (O1.set q (some (.ins C (A6 f d fs))))) I ⟨h1,h2,λv d O' G' H' e s i r=>⟨d,O',G',e,s,i,r⟩⟩) λu s1 ⟨y,H1,I1,ry,d,O1,G1,e1,sa1,i1,ho,hq,h⟩=>
  Aq (ho G1 pins s1 σ H1 (λv H2=>∃ G2,Ah G1 G2/\SA X.K G2 H2 O1/\Is X.K G2 (.ptr q) v) I1 ⟨sa1,h2.ext e1,λv G' H' e s i=>⟨G',e,s,i⟩⟩) λov s2 ⟨x,H2,I2,rx,G2,e2,sa2,i2⟩=>?_) hs
 obtain ⟨a,dx,vs,rfl,g1,g2,g3⟩:=sa2.ins i2 hq
 obtain rfl:ov=Value.ref a:=rx
 refine O6 I2 g2 c n (by rw [<- g3.len]; exact hz) ry λs3 I3=>⟨σ,_,I3,?_⟩
 exact h3.nx σ ρ _ G2 _ (e1.trans e2) (sa2.put (m':=.ins C (A6 f d fs)) hq g1 ⟨dx,_,A5,g3.put (i1.ext e2)⟩) (h2.ext (e1.trans e2)) h
end
section
variable {X:Cx} {ρ:Ai} {O:Ae} {e:Expr} {qs:List Str} {xs:List D}
end
section
variable {X:Cx} {ρ:Ai} {O:Ae}
end
section
variable {X:Cx} {ρ:Ai} {O:Ae} {a:Expr} {pos apos cpos:Pos} {q:Nat} {ks:List A1} {xs:List D} {P:A7}
end
end DL
namespace L2
open PySem PySem.Spec PyProof.Rows
end L2
namespace DL
open PySem PySem.Spec PyProof.Rows L2
end DL
namespace DL
open PySem PySem.Spec PyProof.Rows L2 PySem.W
section
variable {X:Cx} {O:Ae} {da db ea:D} {k:Nat} {xs:List D}
end
section
variable {X:Cx} {ρ:Ai} {O:Ae} {a e:Expr} {pos apos cpos:Pos} {q:Nat} {xs:List D} {P:A7}
theorem JM (ho:Ad X ρ O a (.ptr q)) (he:Ev X ρ O e λd O'=>O'[q]?=some (some (.lst xs))/\P.nx ρ (O'.set q (some (.lst (xs++[d]))))) (hq:O[q]?=some (some (.lst xs))) (hz:xs.length<sizeLine)
  (hbase:attributeBase a ("append" : Str) X.env (eval a X.env)=eval a X.env:=by rfl) (hline:(apos.endLine==cpos.line)=true:=by rfl) (hst:starEach [e] X.env=[(false,eval e X.env)]:=by rfl)
  (hsw:swapsWith (.Call (.Attribute a ("append" : Str) apos) [e] [] cpos) none pos.line X.env=pure false:=by rfl):Ex X ρ O (.Expr (.Call (.Attribute a ("append" : Str) apos) [e] [] cpos) pos) P:=λG=>
 PS.imp (IG (L8 PySem.F.plainAttrs_list PySem.F.slot_list_append PySem.F.type_list_append Qc (ho G)
  (DM (te:=λσ H Q=>∃ G1,SA X.K G1 H O/\Ax X.K G1 σ ρ/\∀ v d O' G' H',Ah G1 G'->SA X.K G' H' O'->Is X.K G' d v->(O'[q]?=some (some (.lst xs))/\P.nx ρ (O'.set q (some (.lst (xs++[d])))))->Q v H') (λpins s σ H Q I ⟨G1,q⟩=>he G1 pins s σ H Q I q) FA hst) hbase
  (by rw [hst]; rfl) hline hst (by rfl)) hsw) λE σ H ⟨q1,q2,q3⟩=>⟨q1,q2,λv G1 H1 e1 s1 i1=>by
   cases i1 with
   | ptr _ ha=>
   obtain ⟨a1,g0,g1,vs,g2,g3⟩:=s1.mt q _ hq
   obtain rfl:=Option.some.inj (ha.symm.trans g0)
   refine ⟨.inl ⟨rfl,vs,A8.of g2⟩,G1,s1,q2.ext e1,λw d O' G2 H2 e2 s2 i2 ⟨hq2,h⟩=>?_⟩
   obtain ⟨a2,g7,g4,us,g5,g6⟩:=s2.mt q _ hq2
   obtain rfl:=Option.some.inj ((e2.at g0).symm.trans g7)
   refine ⟨_,us,w,rfl,rfl,g5,by rw [<- g6.length]; exact hz,?_⟩
   exact q3.nx σ ρ _ G2 _ (e1.trans e2) (s2.put (m':=.lst (xs++[d])) hq2 g7 ⟨_,A5,g6.append (.cons i2 .nil)⟩) (q2.ext (e1.trans e2)) h⟩
end
section
variable {X:Cx} {ρ:Ai} {O:Ae} {e a b c:Expr} {body:List Stmt} {d da db:D} {xs:List D} {ks:List A1} {ps:List Str} {R:D->Ae->Prop} {P:A7} {pos p:Pos} {j n:Nat}
end
section
variable {X:Cx} {ρ:Ai} {O:Ae} {e a b c iter tg:Expr} {st:Stmt} {body rest:List Stmt} {d da db:D} {xs:List D} {ks:List A1} {k:A1} {ob:Obj} {vs:List V} {ps:List Str} {R:D->Ae->Prop} {P:A7} {pos p:Pos} {j n:Nat}
end
section
variable {X:Cx} {O:Ae} {da db:D} {ks:List A1} {ns:List Int} {j:Nat}
end
section
variable {X:Cx} {ρ:Ai} {O:Ae} {a:Expr} {da:D} {xs:List D} {ks:List A1} {pos:Pos}
end
mutual
def ndD:D->Bool
 | .dct _ _=>false
 | .tup xs=>IQ xs
 | .lst xs=>IQ xs
 | .scr xs=>IQ xs
 | .non=>true | .bl _=>true | .int _=>true | .str _=>true | .ptr _=>true | .ty _=>true | .fn _=>true
def IQ:List D->Bool
 | []=>true
 | x::xs=>ndD x&&IQ xs
end
section
variable {K:PySem.W.Frag} {G:Wd} {p:Addr} {ob:Obj} {kvs:List (A1×V)}
end
section
variable {X:Cx} {ρ:Ai} {O:Ae} {e a b:Expr} {d d0:D} {xs:List D} {ks:List A1} {k:A1} {R:D->Ae->Prop} {pos:Pos} {n:Nat}
end
section
variable {X:Cx} {ρ:Ai} {O:Ae} {a b:Expr} {d da db:D} {ks:List A1} {k:A1} {ns:List Int} {R:D->Ae->Prop} {pos:Pos} {j:Nat}
end
section
variable {X:Cx} {ρ:Ai} {O:Ae} {e a b:Expr} {d:D} {xs:List D} {ks:List A1} {R:D->Ae->Prop} {RT:Bool->Ae->Prop} {pos:Pos} {n:Nat}
end
end DL
namespace L2
open PySem PySem.Spec PyProof.Rows
section
variable {M:Model} {A:Around} {E:Value->Shared->Prop} {s:Shared} {B:Heap} {l:List Env} {a:Addr} {cls a0:Value}
end
section
variable {CX:CJ} {P:Program} {w:World} {K:PySem.W.Frag} {mg:Str->Option Value} {base:Heap} {N:List Str} {qual:Str} {scope:Scope} {f:Addr} {cd:Value} {A:Around} {outer:List Env} {s:Shared} {H:Hp} {E:XK}
end
end L2
namespace DL
open PySem PySem.Spec PyProof.Rows L2
section
variable {X:Cx} {N:List Str} {scope:Scope} {s2 s9 s10:Shared} {H2 H9 H':Hp} {fp:List Addr} {F:Value->Shared->Prop} {pins pinsY:List (Addr×Obj)} {σ σ9:L2.St} {a C:Addr} {od:Option Addr} {B:Heap} {Q:Value->Shared->Prop} {acc:Value}
end
section
variable {X:Cx} {ρ:Ai} {O:Ae} {elt tg iter:Expr} {scope:Scope} {pos:Pos} {xs zs:List D} {RX:XC}
end
section
variable {X:Cx} {ρ:Ai} {O:Ae} {e c elt tg iter:Expr} {scope:Scope} {pos p:Pos} {xs:List D} {RX:XC} {st:Stmt} {rest body orelse:List Stmt} {P:A7} {R:D->Ae->Prop}
end
section
variable {P:Program} {w:World} {K:PySem.W.Frag} {mg:Str->Option Value} {base:Heap}
end
section
variable {prog:Program} {w:World} {A:Around} {E:Value->Shared->Prop} {s:Shared}
end
section
variable {X:Cx} {O:Ae} {d:D} {q:Nat} {C ah:Addr} {fs:List (Str×D)}
end
end DL
namespace L2
open PySem PySem.Spec PyProof.Rows
end L2
namespace DL
open PySem PySem.Spec PyProof.Rows L2
section
variable {X:Cx} {ρ:Ai} {O:Ae} {a b a2 b2:Expr} {d d2:D} {k k2:A1} {R:D->Ae->Prop} {pos:Pos}
end
end DL
namespace DL
open PySem PySem.Spec PyProof.Rows L2 PySem.W
section
open PySem.AutoSeq1 (wpAny_loadPart')
open PySem.SeqAt PySem.MeetsSeq PySem.MeetsSeq2 PySem.MeetsSeq3 PySem.SeqRoads2
end
section
variable {X:Cx} {ρ:Ai} {O:Ae} {da db:D} {ks:List A1} {ns:List Int} {j:Nat} {ts:List D}
end
end DL
namespace DL
open PySem PySem.Spec PyProof.Rows L2
section
variable {X:Cx} {ρ:Ai} {O:Ae} {da ea:D} {xs:List D} {k:Nat} {es:List Expr} {R:D->Ae->Prop} {pos:Pos}
end
section
variable {P:Program} {w:World} {K:PySem.W.Frag} {mg:Str->Option Value} {base:Heap} {C:Addr} {j k:Nat} {x m:Str} {sp sp':AS}
theorem Al.mono (M:Al P w K mg base C j m sp) (h:j<=k):Al P w K mg base C k m sp:=let ⟨f,fd,ps,h1,h2⟩:=M.ex; ⟨⟨f,fd,ps,h1.mono h,h2⟩,M.cls⟩
end
section
variable {X:Cx} {mk:Prop} {ρ:Ai} {O:Ae} {x y:Str} {f:Addr} {p pos:Pos} {e:Expr} {es:List Expr} {ds:List D} {R:D->Ae->Prop} {RX:XC}
end
end DL
set_option maxHeartbeats 2000000
namespace DL
open PySem PySem.Spec PyProof.Rows L2 PySem.W
section
variable {prog:Program} {w:World} {A:Around} {E:Value->Shared->Prop} {s:Shared} {n l1 l2 l3 i1 i2 i3:Nat} {k1 k2 k3:Bool} {xs ys zs:Array Value} {f0 f1 a b c v:Value}
end
section
variable {prog:Program} {w:World} {A:Around} {E:Value->Shared->Prop} {s:Shared} {n l1 l2 l3 i1 i2 i3 i:Nat} {k1 k2 k3:Bool} {xs ys zs:Array Value} {f0 f1 a b c v:Value}
end
section
variable {X:Cx} {ρ:Ai} {O:Ae} {a b c:Expr} {da db dc:D} {pos p:Pos} {xs ys zs:List D}
end
end DL
set_option maxHeartbeats 1000000
namespace DL
open PySem PySem.Spec PyProof.Rows L2
section
variable {X:Cx} {ρ:Ai} {O:Ae} {elt tg iter:Expr} {scope:Scope} {pos:Pos} {xs zs:List D}
theorem Q0n (S:Nat->Ae) (hS0:S 0=O) (N:List Str) (js:List Nat) (ρ0:Ai) (hi:BX X ρ O tg iter xs) (hc:X.calm=true) (hk:scope.kind=.function) (hfr:Gy X scope) (hnm:∀ x∈scope.names,x.2=.local->scope.names.lookup x.1=some .local)
  (hl0:ρ0.length=N.length)
  (h0:∀ (i:Nat) (d:D),ρ0[i]?=some (some d)->∃ (x:Str) (j:Nat),N[i]?=some x/\scope.names.lookup x=some .free/\(∀ y∈scope.names,y.1=x->y.2≠.cell)/\X.N[j]?=some x/\ρ[j]?=some (some d)/\C7 X.env.scope x)
  (hzl:zs.length=xs.length) (hsz:xs.length<=sizeLine)
  (turn:∀ (s:Shared) (H:Hp) (fp:List Addr) (i:Nat) (x:D) (z:D),xs[i]?=some x->zs[i]?=some z->∃ ρ1,Tg (CU X N scope s H fp) tg x ρ0 ρ1/\ρ1.length=ρ0.length/\(∀ (j:Nat) (d:D),ρ0[j]?=some (some d)->ρ1[j]?=some (some d))/\Ev (CU X N scope s H fp) ρ1 (S i) elt λd O'=>d=z/\O'=S (i+1))
  {use:Option (Value->Sem Unit)} {pins:List (Addr×Obj)} {s:Shared} {σ:L2.St} {H:Hp} {G:Wd} {Q:Value->Shared->Prop} (I:L2.Inv X pins σ H s) (sa:SA X.K G H O) (en:Ax X.K G σ ρ)
  (fin:∀ (D C:Addr) (s':Shared) (H5:Hp) (G5:Wd) (vs:List V),L2.Inv X pins σ (Ao H5 D (.lst vs)) s'->Ah G G5->SA X.K G5 H5 (S xs.length)->H5 D=none->Ak X.K G5 zs vs->B2 X pins (Ao H5 D (.lst vs)) C->(∃ m,s'.heap.Ns C m)->compPost (model X.prog X.w) X.A X.xe use Q (.ref D) C (.ok .next) s')
  (hs:∀ x,foldedSetIterable iter X.env x=pure x:=by intro _; rfl) :
  wpAny (model X.prog X.w) X.A (comprehension (.ListComp elt [⟨tg,iter,[],0⟩] scope pos) scope X.env (firstIterPos [⟨tg,iter,[],0⟩] pos) (newList []) false (eval iter X.env) use) Q X.xe s:=by
 have efm:(zs.map some).filterMap id=zs:=by rw [List.filterMap_map]; exact List.filterMap_some
 refine ML (zs:=zs.map some) S hS0 N js ρ0 hi hc hk hfr hnm hl0 h0 (by rw [List.length_map]; exact hzl) hsz (λs H fp i x z q1 q2=>?_) I sa en (λD C s' H5 G5 vs I5 e5 sa5 hD is5 f5 n5=>fin D C s' H5 G5 vs I5 e5 sa5 hD (by rw [efm] at is5; exact is5) f5 n5) hs
 rw [List.getElem?_map] at q2
 obtain ⟨y,hy,rfl⟩:=Option.map_eq_some_iff.mp q2
 obtain ⟨ρ1,t1,t2,t3,t4⟩:=turn s H fp i x y q1 hy
 exact ⟨ρ1,t1,t2,t3,y,rfl,t4⟩
def R7 (X:Cx) (T F:List Str) (js:List Nat) (ρ:Ai) (Oa Ob:Ae) (scope:Scope) (tg elt:Expr) (x z:D):Prop:=
 ∀ (s:Shared) (H:Hp) (fp:List Addr),∃ ts:Ai,ts.length=T.length/\Tg (CU X (T++F) scope s H fp) tg x (T.map (λ_=>(none:Option D))++Ce ρ js) (ts++Ce ρ js)/\Ev (CU X (T++F) scope s H fp) (ts++Ce ρ js) Oa elt λd O'=>d=z/\O'=Ob
theorem ZV {R:D->Ae->Prop} (S:Nat->Ae) (hS0:S 0=O) (T F:List Str) (js:List Nat) (hi:BX X ρ O tg iter xs) (hzl:zs.length=xs.length) (hsz:xs.length<=sizeLine) (turn:∀ (i:Nat) (x z:D),xs[i]?=some x->zs[i]?=some z->R7 X T F js ρ (S i) (S (i+1)) scope tg elt x z) (hR:R (.lst zs) (S xs.length))
  (hfl:F.length=js.length) (hB:CC X.N X.env.scope.names scope.names F js=true) (hc:X.calm=true) (hk:scope.kind=.function) (hs:∀ x,foldedSetIterable iter X.env x=pure x) :
  Ev X ρ O (.ListComp elt [⟨tg,iter,[],0⟩] scope pos) R:=λG pins s σ H Q I ⟨h1,h2,h3⟩=>by
 rw [eval_ListComp]
 refine Q0n S hS0 (T++F) js (T.map (λ_=>(none:Option D))++Ce ρ js) hi hc hk (Jd hB) (Jc hB) (by simp [Ce,hfl]) (Je hB) hzl hsz (λs H fp i x z q1 q2=>?_) I h1 h2 (λdd C s' H5 G5 vs I' e' sa5 hd5 is5 fo ns=>?_) hs
 ·obtain ⟨ts,t1,t2,t3⟩:=turn i x z q1 q2 s H fp
  obtain ⟨u1,u2⟩:=HY (fr:=Ce ρ js) t1
  exact ⟨_,t2,u1,u2,t3⟩
 ·obtain ⟨m,hn⟩:=ns
  refine ⟨m,hn,λh' hs'=>?_⟩
  obtain ⟨f0,f1,f2,f3,f4,f5⟩:=fo
  obtain ⟨e2,s2⟩:=sa5.laid (o:=.lst vs) hd5
  exact ⟨.ref dd,Ao H5 dd (.lst vs),I'.turned (t':=s'.toks) (λb o hb e=>(hs'.2 b hb).trans e) f0 f1 f3 f4 f5,rfl,h3 _ _ _ _ _ (e'.trans e2) s2 (.lst A5 (is5.ext e2)) hR⟩
end
section
variable {X:Cx} {ρ:Ai} {O:Ae} {e:Expr} {es:List Expr} {R:D->Ae->Prop} {x:Str} {p pos:Pos}
theorem ZY {T:String} (hm:X.mg x=none) (ha:FS X ρ O (e::es) λds O1=>∃ d,B8 X O1 (.type T) ds d/\R d O1) (hg:Gl X x:=by rfl) (hv:bootBuiltins x=some (.type T):=by first | rfl | decide +kernel) (hn:x ≠ "__name__" := by decide) (hdb:(x==("__debug__" : Str))=false:=by decide)
  (he:starEach (e::es) X.env=(false,eval e X.env)::starEach es X.env:=by rfl) (hpl:(backTo pos (starEach es X.env)).any (·.1)=false:=by rfl):Ev X ρ O (.Call (.Name x p) (e::es) [] pos) R:=λG=>
 PE.imp (PM (r:=λvs H Q=>∃ G1 O1 ds d,SA X.K G1 H O1/\Ak X.K G1 ds vs/\B8 X O1 (.type T) ds d/\∀ w G' H',Ah G1 G'->SA X.K G' H' O1->Is X.K G' d w->Q w H') (λpins s σ H xs us Q I r ⟨G1,O1,ds,d,q1,q2,hc,q3⟩=>hc G1 pins s σ H xs us Q I r ⟨q1,q2,q3⟩) hg hm hv (ha G) hn hdb he hpl)
  λσ H Q ⟨h1,h2,h3⟩=>⟨h1,h2,λvs ds O1 G1 H1 e1 s1 i1 ⟨d,hc,hR⟩=>⟨G1,O1,ds,d,s1,i1,hc,λw G2 H2 e2 s2 i2=>h3 w d O1 G2 H2 (e1.trans e2) s2 i2 hR⟩⟩
end
section
variable {X:Cx} {ρ:Ai} {O:Ae} {pos:Pos} {R:D->Ae->Prop}
variable {α:Type} {ps:List α} {f:α->D} {tg iter elt:Expr} {scope:Scope}
theorem ZU (g:Nat->D) (S:Nat->Ae) (hS0:S 0=O) (T F:List Str) (js:List Nat) (hi:BX X ρ O tg iter (ps.map f)) (hsz:ps.length<=sizeLine) (turn:∀ (i:Nat) (q:α),ps[i]?=some q->R7 X T F js ρ (S i) (S (i+1)) scope tg elt (f q) (g i)) (hR:R (.lst ((List.range ps.length).map g)) (S ps.length))
  (hfl:F.length=js.length:=by rfl) (hB:CC X.N X.env.scope.names scope.names F js=true:=by first | rfl | decide +kernel) (hc:X.calm=true:=by rfl) (hk:scope.kind=.function:=by rfl) (hs:∀ x,foldedSetIterable iter X.env x=pure x:=by intro _; rfl) :
  Ev X ρ O (.ListComp elt [⟨tg,iter,[],0⟩] scope pos) R:=
 ZV (zs:=(List.range ps.length).map g) S hS0 T F js hi (by rw [List.length_map,List.length_range,List.length_map]) (by rw [List.length_map]; exact hsz) (λi x z q1 q2=>by
  rw [List.getElem?_map] at q1 q2
  obtain ⟨q,hq,rfl⟩:=Option.map_eq_some_iff.mp q1
  obtain ⟨j,hj,rfl⟩:=Option.map_eq_some_iff.mp q2
  have hi:=(List.getElem?_eq_some_iff.mp hq).1
  rw [List.getElem?_range hi] at hj
  cases hj
  exact turn i q hq) (by rw [List.length_map]; exact hR) hfl hB hc hk hs
end
end DL
namespace DL
open PySem PySem.Spec PyProof.Rows L2 PySem.W
section
variable {X:Cx} {ρ:Ai} {O:Ae} {e:Expr} {p p2 pos pos2:Pos}
variable {R:D->Ae->Prop}
end
section
variable {X:Cx} {ρ:Ai} {O:Ae} {e a b c:Expr} {body:List Stmt} {d da db:D} {xs:List D} {ks:List A1} {ps:List Str} {R:D->Ae->Prop} {P:A7} {pos p:Pos} {j n:Nat}
end
end DL
namespace DL
open PySem PySem.Spec PyProof.Rows L2
section
variable {X:Cx} {ρ:Ai} {O:Ae} {e:Expr} {es:List Expr} {R:D->Ae->Prop} {x:Str} {C:Addr} {p pos:Pos}
theorem QV {k:Nat} {sp:AS} (M:Cy X.prog X.w X.K X.mg X.base C k x sp) (hr:AL (k+1) X.A) (ha:FS X ρ O (e::es) λds O1=>sp (.ptr O1.length::ds) (O1++[some (.ins C [])]) λd O'=>d=.non/\R (.ptr O1.length) O')
  (hg:Gl X x:=by rfl) (hdb:(x==("__debug__" : Str))=false:=by decide) (he:starEach (e::es) X.env=(false,eval e X.env)::starEach es X.env:=by rfl) (hpl:(backTo pos (starEach es X.env)).any (·.1)=false:=by rfl) :
  Ev X ρ O (.Call (.Name x p) (e::es) [] pos) R:=λG pins s σ H Q I ⟨h1,h2,h3⟩=>by
 obtain ⟨f,fd,ps,g1,g2,g3⟩:=M.ex
 refine PJ g2 g1 hr hg M.at_ g3 .nil Gd (ha G) hdb he hpl pins s σ H Q I ⟨h1,h2,λvs ds O1 G1 H1 e1 s1 i1 hs=>λy dx k1 k2 k3=>?_⟩
 obtain ⟨e2,s2⟩:=made (C:=C) s1 k1 k2 k3
 have iy:Is X.K ⟨G1.g,G1.l++[y]⟩ (.ptr O1.length) (.ref y):=.ptr _ (by rw [<- s1.len,List.getElem?_append_right (Nat.le_refl _),Nat.sub_self]; rfl)
 show AK X.K sp (V.ref y::(vs++[])) _ _ E0
 rw [List.append_nil]
 refine ⟨_,_,.ptr O1.length::ds,_,s2,.cons iy (i1.ext e2),hs,λv d O' G' H' e3 s3 i3 r3=>?_⟩
 obtain ⟨rfl,r⟩:=r3
 cases i3
 exact ⟨rfl,h3 _ _ O' G' H' ((e1.trans e2).trans e3) s3 (iy.ext e3) r⟩
end
end DL
set_option maxHeartbeats 4000000
namespace My
open PySem PySem.Spec PyProof.Rows L2 DL
def top (i:Nat):Stmt:=PySem.Challenge.pw_heedwise_k94_sorts_of_hands_refuse.main.body.getD i (.Pass ⟨0,0,0,0⟩)
abbrev Ga:Stmt:=BA (top 3) 0
abbrev Q2l:List Str:=["self","number"]
theorem UP:AB Q2l ["self","number"] (An Ga):=by constructor <;> first | rfl | decide +kernel
abbrev KZ:Stmt:=top 10
abbrev Q1z:List Str:=["value"]
theorem Um:AB Q1z ["value"] (An KZ):=by constructor <;> first | rfl | decide +kernel
abbrev KB:Stmt:=top 11
abbrev Q1f:List Str:=["base","exponent","product","step"]
theorem Io:AB Q1f ["base","exponent"] (An KB):=by constructor <;> first | rfl | decide +kernel
abbrev K5:Stmt:=top 12
abbrev Q1F:List Str:=["weights"]
theorem Ut:AB Q1F ["weights"] (An K5):=by constructor <;> first | rfl | decide +kernel
abbrev KG:Stmt:=top 13
abbrev Q1i:List Str:=["numbers","weights","shares","whole","reached","number","share"]
theorem Fx:AB Q1i ["numbers","weights"] (An KG):=by constructor <;> first | rfl | decide +kernel
abbrev K2:Stmt:=top 15
abbrev Q1C:List Str:=["scale","value"]
theorem Uq:AB Q1C ["scale","value"] (An K2):=by constructor <;> first | rfl | decide +kernel
abbrev K1:Stmt:=top 16
abbrev Q1B:List Str:=["many","scale","said"]
theorem Up:AB Q1B ["many","scale","said"] (An K1):=by constructor <;> first | rfl | decide +kernel
abbrev K0:Stmt:=top 17
abbrev Q1A:List Str:=["many","scale","turn"]
theorem Uo:AB Q1A ["many","scale","turn"] (An K0):=by constructor <;> first | rfl | decide +kernel
abbrev Lc:Stmt:=top 18
abbrev Q1M:List Str:=["many","scale","said"]
theorem Uz:AB Q1M ["many","scale","said"] (An Lc):=by constructor <;> first | rfl | decide +kernel
abbrev K8:Stmt:=top 19
abbrev Q1I:List Str:=["many","scale","said","so"]
theorem Uv:AB Q1I ["many","scale","said","so"] (An K8):=by constructor <;> first | rfl | decide +kernel
abbrev K7:Stmt:=top 20
abbrev Q1H:List Str:=["many","scale","turns","number","turn"]
theorem Kq:AB Q1H ["many","scale","turns"] (An K7):=by constructor <;> first | rfl | decide +kernel
abbrev Lh:Stmt:=top 21
abbrev Q1R:List Str:=["said"]
theorem UD:AB Q1R ["said"] (An Lh):=by constructor <;> first | rfl | decide +kernel
abbrev Lg:Stmt:=top 22
abbrev Q1Q:List Str:=["what","so"]
theorem UC:AB Q1Q ["what","so"] (An Lg):=by constructor <;> first | rfl | decide +kernel
abbrev Kz:Stmt:=top 24
abbrev Q1d:List Str:=["hand","turns","runner","sayings","said","so"]
theorem GT:AB Q1d ["hand","turns"] (An Kz):=by constructor <;> first | rfl | decide +kernel
abbrev K6:Stmt:=top 31
abbrev Q1G:List Str:=["what","value","least","most"]
theorem Uu:AB Q1G ["what","value","least","most"] (An K6):=by constructor <;> first | rfl | decide +kernel
abbrev Lb:Stmt:=top 32
abbrev Q1L:List Str:=["scale"]
theorem Uy:AB Q1L ["scale"] (An Lb):=by constructor <;> first | rfl | decide +kernel
abbrev Le:Stmt:=top 33
abbrev Q1O:List Str:=["many","scale"]
theorem UA:AB Q1O ["many","scale"] (An Le):=by constructor <;> first | rfl | decide +kernel
abbrev Lf:Stmt:=top 34
abbrev Q1P:List Str:=["top","bottom"]
theorem UB:AB Q1P ["top","bottom"] (An Lf):=by constructor <;> first | rfl | decide +kernel
abbrev Ld:Stmt:=top 35
abbrev Q1N:List Str:=["many","push","one"]
theorem Pc:AB Q1N ["many","push"] (An Ld):=by constructor <;> first | rfl | decide +kernel
abbrev La:Stmt:=top 36
abbrev Q1K:List Str:=["share","parts"]
theorem Ux:AB Q1K ["share","parts"] (An La):=by constructor <;> first | rfl | decide +kernel
abbrev KD:Stmt:=top 38
abbrev Q1h:List Str:=["said","weights","awake"]
theorem Pb:AB Q1h ["said","weights"] (An KD):=by constructor <;> first | rfl | decide +kernel
abbrev LD:Stmt:=BA (top 39) 0
abbrev Q2q:List Str:=["self","many","scale"]
theorem UU:AB Q2q ["self","many","scale"] (An LD):=by constructor <;> first | rfl | decide +kernel
abbrev Lz:Stmt:=BA (top 39) 1
abbrev Q2n:List Str:=["self"]
theorem UR:AB Q2n ["self"] (An Lz):=by constructor <;> first | rfl | decide +kernel
abbrev Ly:Stmt:=BA (top 39) 2
abbrev Q2m:List Str:=["self","said"]
theorem UQ:AB Q2m ["self","said"] (An Ly):=by constructor <;> first | rfl | decide +kernel
abbrev LA:Stmt:=BA (top 39) 3
abbrev Q2o:List Str:=["self","said","so"]
theorem US:AB Q2o ["self","said","so"] (An LA):=by constructor <;> first | rfl | decide +kernel
abbrev LC:Stmt:=BA (top 39) 4
abbrev Q2p:List Str:=["self"]
theorem UT:AB Q2p ["self"] (An LC):=by constructor <;> first | rfl | decide +kernel
abbrev KA:Stmt:=top 41
abbrev Q1e:List Str:=["many","push"]
theorem Ug:AB Q1e ["many","push"] (An KA):=by constructor <;> first | rfl | decide +kernel
abbrev K4:Stmt:=top 42
abbrev Q1E:List Str:=["scores","advisers"]
theorem Us:AB Q1E ["scores","advisers"] (An K4):=by constructor <;> first | rfl | decide +kernel
abbrev Gb:Stmt:=BA (top 43) 0
abbrev Q2u:List Str:=["self","many","scale","push"]
theorem UX:AB Q2u ["self","many","scale","push"] (An Gb):=by constructor <;> first | rfl | decide +kernel
abbrev LE:Stmt:=BA (top 43) 3
abbrev Q2r:List Str:=["self","said","awake"]
theorem Pj:AB Q2r ["self","said"] (An LE):=by constructor <;> first | rfl | decide +kernel
abbrev LJ:Stmt:=BA (top 43) 4
abbrev Q2s:List Str:=["self","said","so"]
theorem UV:AB Q2s ["self","said","so"] (An LJ):=by constructor <;> first | rfl | decide +kernel
abbrev LK:Stmt:=BA (top 43) 5
abbrev Q2t:List Str:=["self"]
theorem UW:AB Q2t ["self"] (An LK):=by constructor <;> first | rfl | decide +kernel
abbrev Lx:Stmt:=BA (top 45) 0
abbrev Q2k:List Str:=["self","many","scale"]
theorem UO:AB Q2k ["self","many","scale"] (An Lx):=by constructor <;> first | rfl | decide +kernel
abbrev Lu:Stmt:=BA (top 45) 3
abbrev Q2h:List Str:=["self"]
theorem UM:AB Q2h ["self"] (An Lu):=by constructor <;> first | rfl | decide +kernel
abbrev Lv:Stmt:=BA (top 45) 4
abbrev Q2i:List Str:=["self","said","so","left"]
theorem Pi:AB Q2i ["self","said","so"] (An Lv):=by constructor <;> first | rfl | decide +kernel
abbrev Lw:Stmt:=BA (top 45) 5
abbrev Q2j:List Str:=["self"]
theorem UN:AB Q2j ["self"] (An Lw):=by constructor <;> first | rfl | decide +kernel
abbrev Kw:Stmt:=top 47
abbrev Q1a:List Str:=["keeper","own","off","kept"]
theorem Pa:AB Q1a ["keeper","own","off"] (An Kw):=by constructor <;> first | rfl | decide +kernel
abbrev Kx:Stmt:=top 48
abbrev Q1b:List Str:=["keeper","own"]
theorem Ue:AB Q1b ["keeper","own"] (An Kx):=by constructor <;> first | rfl | decide +kernel
abbrev Ky:Stmt:=top 49
abbrev Q1c:List Str:=["keeper","own","what","so"]
theorem Uf:AB Q1c ["keeper","own","what","so"] (An Ky):=by constructor <;> first | rfl | decide +kernel
abbrev Ln:Stmt:=BA (top 51) 0
abbrev Q1X:List Str:=["self","many","scale","top","bottom"]
theorem UI:AB Q1X ["self","many","scale","top","bottom"] (An Ln):=by constructor <;> first | rfl | decide +kernel
abbrev Lk:Stmt:=BA (top 51) 1
abbrev Q1U:List Str:=["self"]
theorem UF:AB Q1U ["self"] (An Lk):=by constructor <;> first | rfl | decide +kernel
abbrev Lj:Stmt:=BA (top 51) 4
abbrev Q1T:List Str:=["self","said","so","own"]
theorem Pd:AB Q1T ["self","said","so"] (An Lj):=by constructor <;> first | rfl | decide +kernel
abbrev Ll:Stmt:=BA (top 51) 5
abbrev Q1V:List Str:=["self","said","so"]
theorem UG:AB Q1V ["self","said","so"] (An Ll):=by constructor <;> first | rfl | decide +kernel
abbrev Lm:Stmt:=BA (top 51) 6
abbrev Q1W:List Str:=["self"]
theorem UH:AB Q1W ["self"] (An Lm):=by constructor <;> first | rfl | decide +kernel
abbrev Ls:Stmt:=BA (top 53) 0
abbrev Q2g:List Str:=["self","many","scale","top","bottom","share","parts"]
theorem UL:AB Q2g ["self","many","scale","top","bottom","share","parts"] (An Ls):=by constructor <;> first | rfl | decide +kernel
abbrev Lq:Stmt:=BA (top 53) 1
abbrev Q2e:List Str:=["self","dealt","kept"]
theorem Kr:AB Q2e ["self"] (An Lq):=by constructor <;> first | rfl | decide +kernel
abbrev Lp:Stmt:=BA (top 53) 2
abbrev Q2d:List Str:=["self","said","so"]
theorem UJ:AB Q2d ["self","said","so"] (An Lp):=by constructor <;> first | rfl | decide +kernel
abbrev Lr:Stmt:=BA (top 53) 3
abbrev Q2f:List Str:=["self"]
theorem UK:AB Q2f ["self"] (An Lr):=by constructor <;> first | rfl | decide +kernel
abbrev Li:Stmt:=top 55
abbrev Q1S:List Str:=["hands"]
theorem UE:AB Q1S ["hands"] (An Li):=by constructor <;> first | rfl | decide +kernel
abbrev K3:Stmt:=top 56
abbrev Q1D:List Str:=["hands","head"]
theorem Ur:AB Q1D ["hands","head"] (An K3):=by constructor <;> first | rfl | decide +kernel
abbrev K9:Stmt:=top 57
abbrev Q1J:List Str:=["hands","head"]
theorem Uw:AB Q1J ["hands","head"] (An K9):=by constructor <;> first | rfl | decide +kernel
abbrev IA:Stmt:=BA (top 58) 0
abbrev Q2c:List Str:=["self","hands","head"]
theorem Ph:AB Q2c ["self","hands","head"] (An IA):=by constructor <;> first | rfl | decide +kernel
abbrev Iw:Stmt:=BA (top 58) 2
abbrev Q2a:List Str:=["self","said"]
theorem Pf:AB Q2a ["self","said"] (An Iw):=by constructor <;> first | rfl | decide +kernel
abbrev Iu:Stmt:=BA (top 58) 3
abbrev Q1Y:List Str:=["self","said"]
theorem Pe:AB Q1Y ["self","said"] (An Iu):=by constructor <;> first | rfl | decide +kernel
abbrev Iv:Stmt:=BA (top 58) 4
abbrev Q1Z:List Str:=["self","said","so","sayings","hand"]
theorem Ir:AB Q1Z ["self","said","so"] (An Iv):=by constructor <;> first | rfl | decide +kernel
abbrev Iy:Stmt:=BA (top 58) 5
abbrev Q2b:List Str:=["self"]
theorem Pg:AB Q2b ["self"] (An Iy):=by constructor <;> first | rfl | decide +kernel
abbrev KC:Stmt:=top 60
abbrev Q1g:List Str:=["many","scale"]
theorem Uh:AB Q1g ["many","scale"] (An KC):=by constructor <;> first | rfl | decide +kernel
abbrev Kv:Stmt:=top 61
abbrev Q0Z:List Str:=["hand","many_turns","runner","said","turns","number","so"]
theorem F5:AB Q0Z ["hand","many_turns"] (An Kv):=by constructor <;> first | rfl | decide +kernel
abbrev KW:Stmt:=top 63
abbrev Q1x:List Str:=["_law_script","_law_k"]
theorem Ul:AB Q1x ["_law_script","_law_k"] (An KW):=by constructor <;> first | rfl | decide +kernel
abbrev KT:Stmt:=top 64
abbrev Q1v:List Str:=["_law_x"]
theorem Uj:AB Q1v ["_law_x"] (An KT):=by constructor <;> first | rfl | decide +kernel
abbrev KN:Stmt:=top 65
abbrev Q1q:List Str:=["_law_cell","_law_k"]
theorem Ui:AB Q1q ["_law_cell","_law_k"] (An KN):=by constructor <;> first | rfl | decide +kernel
abbrev KY:Stmt:=top 66
abbrev Q1y:List Str:=["_law_error","_law_kind","_law_some"]
theorem GW:AB Q1y ["_law_error","_law_kind"] (An KY):=by constructor <;> first | rfl | decide +kernel
abbrev KO:Stmt:=top 67
abbrev Q1r:List Str:=["_law_x","_law_many","_law_scale","_law_sleepy","_law_said_here","_law_k","_law_what"]
theorem Fy:AB Q1r ["_law_x","_law_many","_law_scale","_law_sleepy"] (An KO):=by constructor <;> first | rfl | decide +kernel
abbrev KH:Stmt:=top 68
abbrev Q1k:List Str:=["_law_x","_law_many","_law_scale","_law_sleepy","_law_said_here","_law_so","_law_some"]
theorem F6:AB Q1k ["_law_x","_law_many","_law_scale","_law_sleepy"] (An KH):=by constructor <;> first | rfl | decide +kernel
abbrev KM:Stmt:=top 69
abbrev Q1p:List Str:=["_law_cell","_law_many"]
theorem Ip:AB Q1p ["_law_cell"] (An KM):=by constructor <;> first | rfl | decide +kernel
abbrev KS:Stmt:=top 70
abbrev Q1u:List Str:=["_law_sort","_law_many","_law_scale","_law_x","_law_bottom","_law_parts"]
theorem Ko:AB Q1u ["_law_sort","_law_many","_law_scale","_law_x"] (An KS):=by constructor <;> first | rfl | decide +kernel
abbrev KU:Stmt:=top 72
abbrev Q1w:List Str:=["_law_sort","_law_many","_law_scale","_law_x"]
theorem Uk:AB Q1w ["_law_sort","_law_many","_law_scale","_law_x"] (An KU):=by constructor <;> first | rfl | decide +kernel
abbrev KL:Stmt:=top 73
abbrev Q1o:List Str:=["_law_turn_here","_law_scale","_law_cell","_law_said_here","_law_so","_law_way","_law_at","_law_odd"]
theorem F8:AB Q1o ["_law_turn_here","_law_scale","_law_cell"] (An KL):=by constructor <;> first | rfl | decide +kernel
abbrev KR:Stmt:=top 74
abbrev Q1t:List Str:=["_law_hand_here","_law_turns","_law_found","_law_error","e"]
theorem D6:AB Q1t ["_law_hand_here","_law_turns"] (An KR):=by constructor <;> first | rfl | decide +kernel
abbrev KP:Stmt:=top 75
abbrev Q1s:List Str:=["_law_found","_law_error","_law_bad","_law_many_turns","_law_scale","_law_number","_law_what"]
theorem Kn:AB Q1s ["_law_found","_law_error","_law_bad","_law_many_turns","_law_scale"] (An KP):=by constructor <;> first | rfl | decide +kernel
abbrev KI:Stmt:=top 76
abbrev Q1l:List Str:=["_law_hand_here","_law_many","_law_error","e"]
theorem F7:AB Q1l ["_law_hand_here","_law_many"] (An KI):=by constructor <;> first | rfl | decide +kernel
abbrev F9:Stmt:=top 77
abbrev Q1j:List Str:=["_law_script","_law_many","_law_scale","_law_sort","_law_hand_here","_law_cells","_law_turns","_law_said_here","_law_kept","_law_first","_law_bad","_law_cell","_law_at","_law_found","_law_error"]
theorem Cm:AB Q1j ["_law_script"] (An F9):=by constructor <;> first | rfl | decide +kernel
abbrev KJ:Stmt:=top 71
abbrev Q1m:List Str:=["_law_many","_law_scale","_law_x","_law_deep","_law_hands","_law_k"]
theorem GU:AB Q1m ["_law_many","_law_scale","_law_x","_law_deep"] (An KJ):=by constructor <;> first | rfl | decide +kernel
abbrev KK:Stmt:=top 71
abbrev Q1n:List Str:=["_law_many","_law_scale","_law_x","_law_deep","_law_hands","_law_k"]
theorem GV:AB Q1n ["_law_many","_law_scale","_law_x","_law_deep"] (An KK):=by constructor <;> first | rfl | decide +kernel
structure Txt (K:PySem.W.Frag) (mg:Str->Option Value) (CK1 CK12 CK9 CK8 CK0 CK10 CK2 CK6 CK7 CK4 CK5 CK3 CK11:Addr):Prop where
 xm:mg "len" = none
 xn:mg "tuple" = none
 xo:mg "list" = none
 xp:mg "sum" = none
 xq:mg "zip" = none
 xr:mg "sorted" = none
 xt:mg "range" = none
 xu:mg "isinstance" = none
 xw:mg "int" = none
 xx:mg "bool" = none
 xy:mg "all" = none
 xz:mg "any" = none
 bc:mg "enumerate" = none
 bd:mg "abs" = none
 bf:mg "min" = none
 bg:mg "max" = none
 bh:mg "ValueError" = none
 bj:∃ t,mg "MOST_ADVISERS" = some (.int 24 t)
 bn:∃ t,mg "MOST_SCALE" = some (.int 10 t)
 bo:∃ t,mg "MOST_BOTTOM" = some (.int 100 t)
 bq:∃ t,mg "MOST_PARTS" = some (.int 100 t)
 br:∃ t,mg "MOST_FIGURES" = some (.int 60 t)
 bu:Cl K CK1
 bv:mg "Hand" = some (.ref CK1)
 bw:As K CK1 "many"
 bx:As K CK1 "scale"
 bz:PySem.W.kitOne K (.ref CK1) (.ref CK1)=some true
 de:Cl K CK12
 df:mg "Weigher" = some (.ref CK12)
 dg:As K CK12 "many"
 dh:As K CK12 "scale"
 di:As K CK12 "top"
 dj:As K CK12 "bottom"
 dl:As K CK12 "tops"
 dm:As K CK12 "under"
 dq:PySem.W.kitOne K (.ref CK12) (.ref CK1)=some true
 du:Cl K CK9
 dw:mg "Shifter" = some (.ref CK9)
 dy:As K CK9 "many"
 dz:As K CK9 "scale"
 ee:As K CK9 "top"
 ef:As K CK9 "bottom"
 eg:As K CK9 "tops"
 eh:As K CK9 "under"
 ej:As K CK9 "share"
 em:As K CK9 "parts"
 er:PySem.W.kitOne K (.ref CK9) (.ref CK1)=some true
 eu:Cl K CK8
 fg:mg "Rounder" = some (.ref CK8)
 fh:As K CK8 "many"
 fi:As K CK8 "scale"
 fj:As K CK8 "inside"
 fk:As K CK8 "over"
 fm:PySem.W.kitOne K (.ref CK8) (.ref CK1)=some true
 fq:Cl K CK0
 ft:mg "Follower" = some (.ref CK0)
 fu:As K CK0 "many"
 fv:As K CK0 "scale"
 fw:As K CK0 "push"
 fx:As K CK0 "reached"
 fy:PySem.W.kitOne K (.ref CK0) (.ref CK1)=some true
 fz:Cl K CK10
 la:mg "Tier" = some (.ref CK10)
 lb:As K CK10 "many"
 lc:As K CK10 "scale"
 lf:As K CK10 "hands"
 lg:As K CK10 "head"
 lh:As K CK10 "charged"
 li:PySem.W.kitOne K (.ref CK10) (.ref CK1)=some true
 lj:mg "HeedError" = some (.ref CK2)
 ll:PySem.W.excIn K CK2 CY "ValueError.__new__" = true
 lm:mg "NoTurn" = some (.ref CK6)
 ln:Cz K CK6
 lp:PySem.W.findIn K (.ref CK6) "number" = some none
 lq:PySem.W.exmOne K (.ref CK6) (.ref CK2)=some true
 lr:PySem.W.kitOne K (.ref CK6) (.type "ValueError")=some true
 ls:PySem.W.kitOne K (.ref CK6) (.ref CK6)=some true
 lv:PySem.W.kitOne K (.ref CK6) (.ref CK4)=some false
 lw:PySem.W.kitOne K (.ref CK6) (.ref CK5)=some false
 lx:PySem.W.kitOne K (.ref CK6) (.ref CK7)=some false
 ly:PySem.W.kitOne K (.ref CK6) (.ref CK3)=some false
 lz:PySem.W.kitOne K (.ref CK6) (.ref CK11)=some false
 ma:mg "NoWay" = some (.ref CK7)
 md:PySem.W.excIn K CK7 CY "ValueError.__new__" = true
 mf:Cz K CK7
 mh:PySem.W.exmOne K (.ref CK7) (.ref CK2)=some true
 mi:PySem.W.kitOne K (.ref CK7) (.type "ValueError")=some true
 mj:PySem.W.kitOne K (.ref CK7) (.ref CK6)=some false
 ml:PySem.W.kitOne K (.ref CK7) (.ref CK4)=some false
 mm:PySem.W.kitOne K (.ref CK7) (.ref CK5)=some false
 mn:PySem.W.kitOne K (.ref CK7) (.ref CK7)=some true
 mq:PySem.W.kitOne K (.ref CK7) (.ref CK3)=some false
 mr:PySem.W.kitOne K (.ref CK7) (.ref CK11)=some false
 ms:mg "NoRow" = some (.ref CK4)
 mw:mg "NoRule" = some (.ref CK5)
 mx:mg "NoName" = some (.ref CK3)
 mz:mg "Twice" = some (.ref CK11)
def Ck (ws:List Int):List Int:=if ws.sum=0 then ws.map (λ_=>1) else ws
theorem Rr (ws:List Int):(Ck ws).length=ws.length:=by unfold Ck; split <;> simp
def DX (ws:List Int):Prop:=∀ w∈ws,0<=w
theorem Rq {ws:List Int} (h:DX ws):DX (Ck ws):=by
 unfold Ck
 split
 ·intro w hw
  obtain ⟨_,_,rfl⟩:=List.mem_map.mp hw
  decide
 ·exact h
def go (W:Int):Int->List (Int×Int)->Int
 | _,[]=>0
 | r,p::l=>if W<=2*(r+p.2) then p.1 else go W (r+p.2) l
def FG (ns ws:List Int):Int:=go (Ck ws).sum 0 (Ca AY (ns.zip (Ck ws)))
def Nc (ns ws:List Int):Prop:=ns.length=ws.length/\ws.length<=63/\DX ws
def OJ:List D->D->Prop:=λds d=>∃ ws:List Int,ds=[.tup (ws.map D.int)]/\ws.length<=63/\d=.lst ((Ck ws).map D.int)
def Ow:List D->D->Prop:=λds d=>∃ ns ws:List Int,ds=[.tup (ns.map D.int),.tup (ws.map D.int)]/\Nc ns ws/\d=.int (FG ns ws)
def Cg (ns:List Int) (k:Int):Int:=(ns[k.toNat]?).getD 0
def OL:List D->D->Prop:=λds d=>∃ (ns:List Int) (k:Int),ds=[.scr (ns.map D.int),.int k]/\0<=k/\d=.int (Cg ns k)
def MZ (f:Int) (ns ws:List Int):Int:=sm (λq=>if q.1<f then q.2 else 0) (ns.zip ws)
def there (f:Int) (ns ws:List Int):Int:=sm (λq=>if q.1=f then q.2 else 0) (ns.zip ws)
def LP (f:Int) (ns ws:List Int):Bool:=if ns=[] then decide (f=0) else (decide (f∈ns)&&(decide (2*MZ f ns (Ck ws)<(Ck ws).sum)&&decide ((Ck ws).sum<=2*(MZ f ns (Ck ws)+there f ns (Ck ws)))))
theorem QE (W:Int):∀ (L:List (Int×Int)) (r:Int),2*r<W->W<=2*(r+sm (λq=>q.2) L)->∃ A p B,L=A++p::B/\2*(r+sm (λq=>q.2) A)<W/\W<=2*(r+sm (λq=>q.2) A+p.2)/\go W r L=p.1
 | [],r,h1,h2=>by exfalso; unfold sm at h2; omega
 | p::L,r,h1,h2=>by
  unfold go
  by_cases h:W<=2*(r+p.2)
  ·rw [if_pos h]
   refine ⟨[],p,L,rfl,?_,?_,rfl⟩
   ·show 2*(r+0)<W; omega
   ·show W<=2*(r+0+p.2); omega
  ·rw [if_neg h]
   have h2:W<=2*(r+(p.2+sm (λq=>q.2) L)):=h2
   obtain ⟨A,q,B,e1,e2,e3,e4⟩:=QE W L (r+p.2) wF wF
   refine ⟨p::A,q,B,by rw [e1]; rfl,?_,?_,e4⟩
   ·show 2*(r+(p.2+sm (λq=>q.2) A))<W; omega
   ·show W<=2*(r+(p.2+sm (λq=>q.2) A)+q.2); omega
theorem TH {ws:List Int} (h:DX ws):0<=ws.sum:=by
 rw [TF]; exact Ij λa ha=>h a ha
theorem Q0s {ws:List Int} (h:DX ws) (hn:ws≠[]):0<(Ck ws).sum:=by
 unfold Ck
 split
 ·cases ws with
  | nil=>exact absurd rfl hn
  | cons a l=>
   rw [List.map_cons,List.sum_cons]
   have:0<=(l.map λ_=>(1:Int)).sum:=by rw [Ii]; exact Ij λ_ _=>by decide
   omega
 ·have:=TH h
  omega
theorem Vd {ns ws:List Int} (h:Nc ns ws):LP (FG ns ws) ns ws=true:=by
 obtain ⟨h1,h2,h3⟩:=h
 unfold LP
 by_cases hn:ns=[]
 ·rw [if_pos hn]
  subst hn
  have e:FG [] ws=0:=by unfold FG Ca; simp [go]
  exact decide_eq_true e
 ·rw [if_neg hn]
  have hw:ws≠[]:=by
   intro e; apply hn
   rw [e] at h1
   exact List.eq_nil_of_length_eq_zero h1
  have hp:=Q0s h3 hw
  have hc:=Rq h3
  have hl:ns.length=(Ck ws).length:=by rw [Rr]; exact h1
  unfold FG MZ there
  generalize Ck ws=cs at hp hc hl
  have pm:=H0 AY (ns.zip cs)
  have pw:=N7 Hb (ns.zip cs)
  have hs:sm (λq:Int×Int=>q.2) (Ca AY (ns.zip cs))=cs.sum:=by rw [Kl pm,TZ hl]
  obtain ⟨A,p,B,e1,e2,e3,e4⟩:=QE cs.sum (Ca AY (ns.zip cs)) 0 wF (by rw [hs]; omega)
  rw [e4]
  have nn:∀ q∈Ca AY (ns.zip cs),0<=q.2:=λq hq=>hc _ (List.of_mem_zip (pm.mem_iff.mp hq)).2
  rw [<- Kl (g:=λq:Int×Int=>if q.1<p.1 then q.2 else 0) pm,<- Kl (g:=λq:Int×Int=>if q.1=p.1 then q.2 else 0) pm]
  have hm:p.1∈ns:=(List.of_mem_zip (pm.mem_iff.mp (by rw [e1]; exact List.mem_append_right _ List.mem_cons_self):(p.1,p.2)∈ns.zip cs)).1
  rw [e1] at pw nn ⊢
  have pA:∀ q∈A,q.1<=p.1:=λq hq=>by
   have:=(List.pairwise_append.mp pw).2.2 q hq p List.mem_cons_self
   simp [AY] at this
   omega
  have pB:∀ q∈B,p.1<=q.1:=λq hq=>by
   have:=(List.pairwise_cons.mp (List.pairwise_append.mp pw).2.1).1 q hq
   simp [AY] at this
   omega
  have b1:sm (λq:Int×Int=>if q.1<p.1 then q.2 else 0) (A++p::B)<=sm (λq=>q.2) A:=by
   rw [Km]
   have z:sm (λq:Int×Int=>if q.1<p.1 then q.2 else 0) (p::B)=0:=by
    rw [OT (h:=λ_=>0),OR]
    intro a ha
    rcases List.mem_cons.mp ha with rfl | ha
    ·exact if_neg wF
    ·exact if_neg (by have:=pB a ha; omega)
   rw [z]
   have:=OS (l:=A) (g:=λq:Int×Int=>if q.1<p.1 then q.2 else 0) (h:=λq=>q.2) λa ha=>by
    have:=nn a (List.mem_append_left _ ha)
    try dsimp only
    split <;> omega
   omega
  have b2:sm (λq=>q.2) A+p.2<=sm (λq:Int×Int=>if q.1<p.1 then q.2 else 0) (A++p::B)+sm (λq:Int×Int=>if q.1=p.1 then q.2 else 0) (A++p::B):=by
   rw [<- T2,Km]
   have z:p.2<=sm (λq:Int×Int=>(if q.1<p.1 then q.2 else 0)+(if q.1=p.1 then q.2 else 0)) (p::B):=by
    show p.2<=((if p.1<p.1 then p.2 else 0)+(if p.1=p.1 then p.2 else 0))+sm _ B
    rw [if_neg wF,if_pos rfl]
    have:=Ij (l:=B) (g:=λq:Int×Int=>(if q.1<p.1 then q.2 else 0)+(if q.1=p.1 then q.2 else 0)) λa ha=>by
     have:=nn a (List.mem_append_right _ (List.mem_cons_of_mem _ ha))
     try dsimp only
     split <;> split <;> omega
    omega
   have:=OT (l:=A) (g:=λq:Int×Int=>q.2) (h:=λq=>(if q.1<p.1 then q.2 else 0)+(if q.1=p.1 then q.2 else 0)) λa ha=>by
    have:=pA a ha
    try dsimp only
    split <;> split <;> omega
   omega
  rw [decide_eq_true hm,decide_eq_true wF,decide_eq_true wF]
  rfl
def od:Option Int->D
 | none=>.non
 | some i=>.int i
abbrev Tn:=List (Option Int)×Int
def tD (t:Tn):D:=.tup [.tup (t.1.map od),.int t.2]
def ab (i:Int):Int:=if i<0 then -i else i
def EY:Option Int->Int->Int
 | none,_=>0
 | some w,z=>ab (w-z)
theorem P7 (o:Option Int):Cd (od o)=true:=by cases o <;> rfl
theorem N2 (t:Tn):Cd (tD t)=true:=by
 show (BS (t.1.map od)&&(true&&true))=true
 rw [He P7]
 rfl
def B4 (said:List (Option Int)) (k:Nat):Option Int:=(said[k]?).getD none
def ax (said:List (Option Int)):List Nat:=(List.range said.length).filter λk=>(B4 said k).isSome
def Et (said:List (Option Int)):List Int:=(ax said).map λk=>(B4 said k).getD 0
def Fr (said:List (Option Int)) (ws:List Int):List Int:=(ax said).map λk=>ws.getD k 0
def BU (said:List (Option Int)) (ws:List Int):Int:=FG (Et said) (Fr said ws)
theorem Sg (said:List (Option Int)):said.zipIdx=(List.range said.length).map λk=>(B4 said k,k):=by
 refine List.ext_getElem? λi=>?_
 rw [List.getElem?_zipIdx,List.getElem?_map]
 by_cases h:i<said.length
 ·rw [List.getElem?_range h,List.getElem?_eq_getElem h]
  simp [B4,h]
 ·rw [List.getElem?_eq_none wF,List.getElem?_eq_none (by simp; omega)]
  rfl
theorem YV (w:Option Int):(!DQ (od w))=w.isSome:=by cases w <;> rfl
theorem Q0P (said:List (Option Int)):(said.zipIdx.filterMap λq=>if (!DQ (od q.1))=true then some (D.int (q.2:Nat)) else none)=(ax said).map λk=>D.int (k:Nat):=by
 rw [Zr (λq:Option Int×Nat=>!DQ (od q.1)) (λq=>D.int (q.2:Nat)),Sg,List.filter_map,List.map_map]
 unfold ax
 congr 1
 exact List.filter_congr λk _=>YV _
theorem at2 {said:List (Option Int)} {k:Nat} (h:k<said.length):Bv (said.map od) (k:Int)=some (od (B4 said k)):=by
 refine EH ?_
 rw [List.getElem?_map,List.getElem?_eq_getElem h]
 simp [B4,h]
theorem Js {said:List (Option Int)} {k:Nat} (h:k∈ax said):k<said.length:=List.mem_range.mp (List.mem_filter.mp h).1
theorem Q0O {said:List (Option Int)} {k:Nat} (h:k∈ax said):od (B4 said k)=.int ((B4 said k).getD 0):=by
 have:=(List.mem_filter.mp h).2
 cases e:B4 said k with
 | none=>rw [e] at this; cases this
 | some w=>rfl
theorem RL {said:List (Option Int)} {k:Nat} (h:k∈ax said):Bv (said.map od) (k:Int)=some (.int ((B4 said k).getD 0)):=by rw [at2 (Js h),Q0O h]
theorem RJ {ws:List Int} {k:Nat} (h:k<ws.length):Bv (ws.map D.int) (k:Int)=some (.int (ws.getD k 0)):=by
 refine EH ?_
 rw [List.getElem?_map,List.getElem?_eq_getElem h]
 simp [List.getD,h]
theorem M0 (said:List (Option Int)):(ax said).length<=said.length:=by
 have:=List.length_filter_le (λk=>(B4 said k).isSome) (List.range said.length)
 rw [List.length_range] at this
 exact this
theorem NS {said:List (Option Int)} {ws:List Int} (hs:said.length<=24) (hw:DX ws):Nc (Et said) (Fr said ws):=by
 refine ⟨by unfold Et Fr; rw [List.length_map,List.length_map],?_,λw h=>?_⟩
 ·unfold Fr; rw [List.length_map]; have:=M0 said; omega
 ·obtain ⟨k,_,rfl⟩:=List.mem_map.mp h
  by_cases hk:k<ws.length
  ·rw [List.getD_eq_getElem?_getD,List.getElem?_eq_getElem hk]
   exact hw _ (List.getElem_mem hk)
  ·rw [List.getD_eq_getElem?_getD,List.getElem?_eq_none wF]
   exact Int.le_refl _
def Ds (s:Int):Option Int->Bool
 | none=>false
 | some i=>decide (0<=i)&&decide (i<=s)
def Bw (m s:Int) (said:List (Option Int)):Prop:=(said.length:Int)=m/\m<=24/\∀ w∈said,w=none\/Ds s w=true
def Ih:List D->D->Prop:=λds d=>∃ (m s:Int) (said:List (Option Int)),ds=[.int m,.int s,.tup (said.map od)]/\Bw m s said/\d=.non
def FV:List D->D->Prop:=λds d=>∃ (x:Str) (v l h:Int),ds=[.str x,.int v,.int l,.int h]/\(l<=v/\v<=h)/\d=.non
def Ox:List D->D->Prop:=λds d=>∃ m s:Int,ds=[.int m,.int s]/\(1<=m/\m<=24)/\(1<=s/\s<=10)/\d=.non
def Om:List D->D->Prop:=λds d=>∃ s:Int,ds=[.int s]/\(1<=s/\s<=10)/\d=.non
def OG:List D->D->Prop:=λds d=>∃ t b:Int,ds=[.int t,.int b]/\(0<=t/\t<b/\b<=100)/\d=.non
def Kh:List D->D->Prop:=λds d=>∃ said:List (Option Int),ds=[.tup (said.map od)]/\said.length<=24/\d=.lst ((ax said).map λk=>D.int (k:Nat))
def Oy:List D->D->Prop:=λds d=>∃ (said:List (Option Int)) (ws:List Int),ds=[.tup (said.map od),.tup (ws.map D.int)]/\said.length<=24/\ws.length=said.length/\DX ws/\d=.int (BU said ws)
def BG (m s:Int):List (Str×D):=[("many",.int m),("scale",.int s)]
def BC (m s t b:Int) (ws:List Int) (u:Int):List (Str×D):=[("many",.int m),("scale",.int s),("top",.int t),("bottom",.int b),("tops",.tup (ws.map D.int)),("under",.int u)]
theorem AG {f g:Str} {d x:D} {r:List (Str×D)} (h:(g=f)->False):A6 f d ((g,x)::r)=(g,x)::A6 f d r:=by
 show (if g=f then (g,d)::r else (g,x)::A6 f d r)=_
 rw [if_neg h]
theorem ET {f:Str} {d x:D} {r:List (Str×D)}:A6 f d ((f,x)::r)=(f,d)::r:=by
 show (if f=f then (f,d)::r else (f,x)::A6 f d r)=_
 rw [if_pos rfl]
theorem VH (m s:Int):A6 "scale" (.int s) (A6 "many" (.int m) [])=BG m s:=by
 show A6 "scale" (.int s) [("many",.int m)]=_
 rw [AG wD]
 rfl
def f3 (m s t:Int):List (Str×D):=[("many",.int m),("scale",.int s),("top",.int t)]
def f4 (m s t b:Int):List (Str×D):=[("many",.int m),("scale",.int s),("top",.int t),("bottom",.int b)]
def f5 (m s t b:Int) (d:D):List (Str×D):=[("many",.int m),("scale",.int s),("top",.int t),("bottom",.int b),("tops",d)]
theorem VA (m s t:Int):A6 "top" (.int t) (BG m s)=f3 m s t:=by
 unfold BG
 rw [AG wD,AG wD]
 rfl
theorem VL (m s t b:Int):A6 "bottom" (.int b) (f3 m s t)=f4 m s t b:=by
 unfold f3
 rw [AG wD,AG wD,AG wD]
 rfl
theorem Vz (m s t b:Int) (d:D):A6 "tops" d (f4 m s t b)=f5 m s t b d:=by
 unfold f4
 rw [AG wD,AG wD,AG wD,AG wD]
 rfl
theorem Vy (m s t b u:Int) (ws:List Int):A6 "under" (.int u) (f5 m s t b (.tup (ws.map D.int)))=BC m s t b ws u:=by
 unfold f5
 rw [AG wD,AG wD,AG wD,AG wD,AG wD]
 rfl
theorem Bt {f:Str} {d:D} {r:List (Str×D)}:List.lookup f ((f,d)::r)=some d:=by rw [List.lookup_cons,beq_self_eq_true]
theorem Ap {f g:Str} {d:D} {r:List (Str×D)} (h:(f==g)=false):List.lookup f ((g,d)::r)=List.lookup f r:=by rw [List.lookup_cons,h]
section
variable (m s t b u:Int) (ws:List Int)
theorem Hj:(BG m s).lookup ("many" : Str)=some (.int m):=Bt
theorem IZ:(BG m s).lookup ("scale" : Str)=some (.int s):=by unfold BG; rw [Ap wD,Bt]
theorem Za:(BG m s).lookup ("heeded" : Str)=none:=by unfold BG; rw [Ap wD,Ap wD]; rfl
theorem JP:(BC m s t b ws u).lookup ("many" : Str)=some (.int m):=Bt
theorem JO:(BC m s t b ws u).lookup ("scale" : Str)=some (.int s):=by unfold BC; rw [Ap wD,Bt]
theorem NH:(BC m s t b ws u).lookup ("top" : Str)=some (.int t):=by unfold BC; rw [Ap wD,Ap wD,Bt]
theorem NJ:(BC m s t b ws u).lookup ("bottom" : Str)=some (.int b):=by unfold BC; rw [Ap wD,Ap wD,Ap wD,Bt]
theorem Sx:(BC m s t b ws u).lookup ("tops" : Str)=some (.tup (ws.map D.int)):=by unfold BC; rw [Ap wD,Ap wD,Ap wD,Ap wD,Bt]
theorem Sw:(BC m s t b ws u).lookup ("under" : Str)=some (.int u):=by unfold BC; rw [Ap wD,Ap wD,Ap wD,Ap wD,Ap wD,Bt]
theorem NI {f:Str} (h:([("many" : Str),"scale","top","bottom","tops","under"].all λg=>!(f==g))=true):(BC m s t b ws u).lookup f=none:=by
 simp only [List.all_cons,List.all_nil,Bool.and_true,Bool.and_eq_true,Bool.not_eq_true'] at h
 obtain ⟨h1,h2,h3,h4,h5,h6⟩:=h
 unfold BC
 rw [Ap h1,Ap h2,Ap h3,Ap h4,Ap h5,Ap h6]
 rfl
end
def OD (CK1:Addr):AS:=λds O R=>∃ (q:Nat) (m s:Int),ds=[.ptr q]/\O[q]?=some (some (.ins CK1 (BG m s)))/\(1<=m/\m<=24)/\R (.tup ((List.replicate m.toNat (1:Int)).map D.int)) O
theorem Cc {O:Ae} {q:Nat} {x y:Option MO} (h:O[q]?=some x):(O.set q y)[q]?=some y:=by
 have:=(List.getElem?_eq_some_iff.mp h).1
 rw [List.getElem?_set_self this]
theorem PR (n:Nat):(List.replicate n [D.int 1]).flatten=(List.replicate n (1:Int)).map D.int:=by rw [LQ,List.map_replicate]
def DZ (m:Nat) (s:Int) (t:Tn):Prop:=t.1.length=m/\(∀ w∈t.1,w=none\/Ds s w=true)/\0<=t.2/\t.2<=s
theorem Z3 (a:List Int):EF (.tup (a.map D.int)) (.tup (a.map D.int))=true:=by rw [Z4,decide_eq_true rfl]
theorem plT (a:List Int):Cj (.tup (a.map D.int))=true:=L5 a
theorem Q0d (a:List Int):Dg (.tup (a.map D.int))<=60:=by
 have:=Q6 a
 show DU (a.map D.int)+1<=60
 omega
theorem DZ.said {m:Nat} {s:Int} {t:Tn} (h:DZ m s t) (hm:m<=24):Bw (m:Nat) s t.1:=⟨by rw [h.1],by omega,h.2.1⟩
def Ie:List D->D->Prop:=λds d=>∃ b n:Int,ds=[.int b,.int n]/\(0<=b/\b<=1000)/\(0<=n/\n<=60000)/\d=.int (b ^ n.toNat)
theorem PC {a b:Int} (h0:0<=a) (h:a<=b):∀ n:Nat,a ^ n<=b ^ n
 | 0=>by simp
 | n+1=>by
  rw [Int.pow_succ,Int.pow_succ]
  exact Int.mul_le_mul (PC h0 h n) h h0 (Int.pow_nonneg (Int.le_trans h0 h))
theorem TY {a:Int} (h0:0<=a) (h:a<256) (n:Nat):0<=a ^ n/\a ^ n<2 ^ (8*n+1):=by
 refine ⟨Int.pow_nonneg h0,?_⟩
 have h1:a ^ n<=256 ^ n:=PC h0 (Int.le_of_lt h) n
 have h2:(2:Int) ^ (8*n+1)=256 ^ n*2:=by rw [Int.pow_succ,Int.pow_mul]; rfl
 have h3:(0:Int)<256 ^ n:=Int.pow_pos wE
 rw [h2]
 omega
def FZ:List D->D->Prop:=λds d=>∃ (w:Option Int) (z:Int),ds=[od w,.int z]/\d=.int (EY w z)
def tA (t b sc own off:Int):Int:=t ^ off.toNat*b ^ (sc-off).toNat*2*b ^ own.toNat
def tS (t b sc own:Int):Int:=b ^ sc.toNat*(b ^ own.toNat+t ^ own.toNat)
def tF (t b sc own so:Int):Option Int->Int
 | none=>tS t b sc own
 | some x=>tA t b sc own (ab (x-so))
def CP (t b sc d so:Int) (said:List (Option Int)) (ws:List Int):List Int:=(ws.zip said).map λp=>p.1*tF t b sc d so p.2
structure FR (sc t b:Int):Prop where
 s1:1<=sc
 s2:sc<=10
 t0:0<=t
 tb:t<b
 b2:b<=100
theorem Dr {x y:Int} {a c:Nat} (x0:0<=x) (x1:x<2 ^ a) (y0:0<=y) (y1:y<2 ^ c):0<=x*y/\x*y<2 ^ (a+c):=by
 refine ⟨Int.mul_nonneg x0 y0,?_⟩
 rw [Int.pow_add]
 by_cases h:y=0
 ·subst h
  rw [Int.mul_zero]
  exact Int.mul_pos (Int.pow_pos wE) (Int.pow_pos wE)
 ·have h1:x*y<2 ^ a*y:=Int.mul_lt_mul_of_pos_right x1 wF
  have h2:2 ^ a*y<=2 ^ a*2 ^ c:=Int.mul_le_mul_of_nonneg_left (Int.le_of_lt y1) (Int.pow_nonneg wE)
  omega
theorem FB {x:Int} {a c:Nat} (h:x<2 ^ a) (hc:a<=c):x<2 ^ c:=by
 obtain ⟨d,rfl⟩:=Nat.exists_eq_add_of_le hc
 have h1:(1:Int)<=2 ^ d:=Int.pow_pos wE
 have h2:(0:Int)<=2 ^ a:=Int.pow_nonneg wE
 have:=Int.mul_le_mul_of_nonneg_left h1 h2
 rw [Int.pow_add]
 omega
theorem Dp {x:Int} {e:Int} (h0:0<=x) (h1:x<=100) (he:e<=10):0<=x ^ e.toNat/\x ^ e.toNat<2 ^ 81:=by
 have:=TY h0 (show x<256 by omega) e.toNat
 exact ⟨this.1,FB this.2 wF⟩
theorem TD {sc t b own off:Int} (h:FR sc t b) (ho:own<=sc) (hf:0<=off/\off<=sc):0<=tA t b sc own off/\tA t b sc own off<2 ^ 250:=by
 have:=h.s1; have:=h.s2; have:=h.t0; have:=h.tb; have:=h.b2
 have a1:=Dp (x:=t) (e:=off) h.t0 wF wF
 have a2:=Dp (x:=b) (e:=sc-off) wF wF wF
 have a3:=Dp (x:=b) (e:=own) wF wF wF
 have b1:=Dr a1.1 a1.2 a2.1 a2.2
 have b2:=Dr (c:=2) b1.1 b1.2 (show (0:Int)<=2 by decide) wE
 have b3:=Dr b2.1 b2.2 a3.1 a3.2
 exact ⟨b3.1,FB b3.2 wE⟩
theorem HX {sc t b own:Int} (h:FR sc t b) (ho:own<=sc):0<=tS t b sc own/\tS t b sc own<2 ^ 250:=by
 have:=h.s1; have:=h.s2; have:=h.t0; have:=h.tb; have:=h.b2
 have a1:=Dp (x:=b) (e:=sc) wF wF wF
 have a2:=Dp (x:=b) (e:=own) wF wF wF
 have a3:=Dp (x:=t) (e:=own) h.t0 wF wF
 have e:(2:Int) ^ 82=2 ^ 81+2 ^ 81:=by decide
 have b1:=Dr (y:=b ^ own.toNat+t ^ own.toNat) (c:=82) a1.1 a1.2 wF (by rw [e]; omega)
 exact ⟨b1.1,FB b1.2 wE⟩
theorem IL {s x:Int} (h:Ds s (some x)=true):0<=x/\x<=s:=by
 have h:(decide (0<=x)&&decide (x<=s))=true:=h
 rw [Bool.and_eq_true] at h
 exact ⟨of_decide_eq_true h.1,of_decide_eq_true h.2⟩
theorem Jt {s x so:Int} (h:0<=x/\x<=s) (hs:0<=so/\so<=s):0<=ab (x-so)/\ab (x-so)<=s:=by
 unfold ab
 split <;> omega
theorem J0 {sc t b own so:Int} {w:Option Int} (h:FR sc t b) (ho:own<=sc) (hs:0<=so/\so<=sc) (hw:w=none\/Ds sc w=true):0<=tF t b sc own so w/\tF t b sc own so w<2 ^ 250:=by
 cases w with
 | none=>exact HX h ho
 | some x=>
  rcases hw with hw | hw
  ·cases hw
  ·exact TD h ho (Jt (IL hw) hs)
theorem Hg {m sc:Int} {said:List (Option Int)} {ws:List Int} (hs:Bw m sc said) (h0:0<=sc) (hw:DX ws):0<=BU said ws/\BU said ws<=sc:=by
 have h24:said.length<=24:=by have:=hs.1; have:=hs.2.1; omega
 have hr:=Vd (NS (ws:=ws) h24 hw)
 unfold BU
 unfold LP at hr
 by_cases hn:Et said=[]
 ·rw [if_pos hn] at hr
  rw [of_decide_eq_true hr]
  omega
 ·rw [if_neg hn,Bool.and_eq_true] at hr
  have hm:=of_decide_eq_true hr.1
  unfold Et at hm
  obtain ⟨k,hk,e⟩:=List.mem_map.mp hm
  have hlt:=Js hk
  have hq:=(List.mem_filter.mp hk).2
  unfold Et
  rw [<- e]
  have hmem:B4 said k∈said:=by
   unfold B4
   rw [List.getElem?_eq_getElem hlt]
   exact List.getElem_mem hlt
  cases hx:B4 said k with
  | none=>rw [hx] at hq; cases hq
  | some x=>
   rw [hx] at hmem
   rcases hs.2.2 _ hmem with h | h
   ·cases h
   ·exact IL h
def Fv:List D->D->Prop:=λds d=>∃ (m s:Int) (said:List (Option Int)) (so:Int),ds=[.int m,.int s,.tup (said.map od),.int so]/\Bw m s said/\(0<=so/\so<=s)/\d=.non
theorem Su (m s t b u:Int) (ws vs:List Int):A6 "tops" (.tup (vs.map D.int)) (BC m s t b ws u)=BC m s t b vs u:=by
 unfold BC
 rw [AG wD,AG wD,AG wD,AG wD,ET]
theorem Ss (m s t b u v:Int) (ws:List Int):A6 "under" (.int v) (BC m s t b ws u)=BC m s t b ws v:=by
 unfold BC
 rw [AG wD,AG wD,AG wD,AG wD,AG wD,ET]
theorem IP {t b sc dd so:Int} {said:List (Option Int)} {ws:List Int} (h:ws.length=said.length):(CP t b sc dd so said ws).length=ws.length:=by
 unfold CP
 rw [List.length_map,List.length_zip]
 omega
def BO (x:Int):Int:=(x*x+48271*x+11)%2147483647
def Lo (x:Int):Prop:=0<=x/\x<2147483647
theorem FE (x:Int):Lo (BO x):=by unfold Lo BO; omega
def GS (c k:Int):Int:=BO (BO ((c%2147483647+69621*k*k+5)%2147483647))
theorem O7 (c k:Int):Lo (GS c k):=FE _
def Fu:List D->D->Prop:=λds d=>∃ x:Int,ds=[.int x]/\(0<=x/\x<3000000000)/\d=.int (BO x)
def Sz (s:Int) (sl:Bool) (so k x:Int):Option Int:=if (sl&&decide (x%4=0))=true then none else some (if 1<x/3%(k%7+3) then so else x/16%(s+1))
def U9 (s:Int) (sl:Bool) (so:Int):Nat->Nat->Int->List (Option Int)
 | 0,_,_=>[]
 | n+1,k,x=>Sz s sl so (k:Int) (BO (x+(k:Int)))::U9 s sl so n (k+1) (BO (x+(k:Int)))
structure SP where
 m:Int
 sc:Int
 t:Int
 b:Int
 sh:Int
 pa:Int
def f7 (m s t b:Int) (ws:List Int) (u sh:Int):List (Str×D):=[("many",.int m),("scale",.int s),("top",.int t),("bottom",.int b),("tops",.tup (ws.map D.int)),("under",.int u),("share",.int sh)]
def Bq (p:SP) (ws:List Int) (u:Int):List (Str×D):=[("many",.int p.m),("scale",.int p.sc),("top",.int p.t),("bottom",.int p.b),("tops",.tup (ws.map D.int)),("under",.int u),("share",.int p.sh),("parts",.int p.pa)]
theorem VB (m s t b u sh:Int) (ws:List Int):A6 "share" (.int sh) (BC m s t b ws u)=f7 m s t b ws u sh:=by
 unfold BC
 rw [AG wD,AG wD,AG wD,AG wD,AG wD,AG wD]
 rfl
theorem VE (m s t b u sh pa:Int) (ws:List Int):A6 "parts" (.int pa) (f7 m s t b ws u sh)=Bq ⟨m,s,t,b,sh,pa⟩ ws u:=by
 unfold f7
 rw [AG wD,AG wD,AG wD,AG wD,AG wD,AG wD,AG wD]
 rfl
theorem Oc (p:SP) (u:Int) (ws vs:List Int):A6 "tops" (.tup (vs.map D.int)) (Bq p ws u)=Bq p vs u:=by
 unfold Bq
 rw [AG wD,AG wD,AG wD,AG wD,ET]
theorem N9 (p:SP) (u v:Int) (ws:List Int):A6 "under" (.int v) (Bq p ws u)=Bq p ws v:=by
 unfold Bq
 rw [AG wD,AG wD,AG wD,AG wD,AG wD,ET]
section
variable (p:SP) (u:Int) (ws:List Int)
theorem GB:(Bq p ws u).lookup ("many" : Str)=some (.int p.m):=Bt
theorem JI:(Bq p ws u).lookup ("scale" : Str)=some (.int p.sc):=by unfold Bq; rw [Ap wD,Bt]
theorem NA:(Bq p ws u).lookup ("top" : Str)=some (.int p.t):=by unfold Bq; rw [Ap wD,Ap wD,Bt]
theorem NB:(Bq p ws u).lookup ("bottom" : Str)=some (.int p.b):=by unfold Bq; rw [Ap wD,Ap wD,Ap wD,Bt]
theorem JG:(Bq p ws u).lookup ("tops" : Str)=some (.tup (ws.map D.int)):=by unfold Bq; rw [Ap wD,Ap wD,Ap wD,Ap wD,Bt]
theorem Nz:(Bq p ws u).lookup ("under" : Str)=some (.int u):=by unfold Bq; rw [Ap wD,Ap wD,Ap wD,Ap wD,Ap wD,Bt]
theorem JH:(Bq p ws u).lookup ("share" : Str)=some (.int p.sh):=by unfold Bq; rw [Ap wD,Ap wD,Ap wD,Ap wD,Ap wD,Ap wD,Bt]
theorem JJ:(Bq p ws u).lookup ("parts" : Str)=some (.int p.pa):=by unfold Bq; rw [Ap wD,Ap wD,Ap wD,Ap wD,Ap wD,Ap wD,Ap wD,Bt]
theorem JK {f:Str} (h:([("many" : Str),"scale","top","bottom","tops","under","share","parts"].all λg=>!(f==g))=true):(Bq p ws u).lookup f=none:=by
 simp only [List.all_cons,List.all_nil,Bool.and_true,Bool.and_eq_true,Bool.not_eq_true'] at h
 obtain ⟨h1,h2,h3,h4,h5,h6,h7,h8⟩:=h
 unfold Bq
 rw [Ap h1,Ap h2,Ap h3,Ap h4,Ap h5,Ap h6,Ap h7,Ap h8]
 rfl
end
structure Gw (p:SP):Prop where
 f:FR p.sc p.t p.b
 m1:1<=p.m
 m2:p.m<=24
 h1:1<=p.sh
 h2:p.sh<p.pa
 h3:p.pa<=100
def Jx (C:Addr) (O:Ae) (q:Nat) (p:SP) (ws:List Int) (u:Int):Prop:=O[q]?=some (some (.ins C (Bq p ws u)))
structure Eh (n:Nat) (ws:List Int) (u:Int):Prop where
 w:∀ x∈ws,0<=x/\x<2 ^ (270*(n+1))
 u0:0<=u
 u1:u<2 ^ (270*(n+1))
theorem JQ (n:Nat):Eh 0 (List.replicate n 1) 1:=⟨λx hx=>by rw [List.eq_of_mem_replicate hx]; exact ⟨by decide,by decide⟩,by decide,by decide⟩
def DV (p:SP) (ws:List Int):List Int:=ws.map λw=>w*(p.m*(p.pa-p.sh))+p.sh*ws.sum
theorem Q0i (p:SP) (ws:List Int):(DV p ws).length=ws.length:=by unfold DV; rw [List.length_map]
theorem Qt {p:SP} (h:Gw p):0<=p.m*(p.pa-p.sh)/\p.m*(p.pa-p.sh)<=2376:=by
 have:=h.m1; have:=h.m2; have:=h.h1; have:=h.h2; have:=h.h3
 have h1:p.m*(p.pa-p.sh)<=24*(p.pa-p.sh):=Int.mul_le_mul_of_nonneg_right wF wF
 have h2:0<=p.m*(p.pa-p.sh):=Int.mul_nonneg wF wF
 omega
theorem Q0h {p:SP} {ws:List Int} {e:Nat} (h:Gw p) (hl:ws.length<=24) (hw:∀ x∈ws,0<=x/\x<2 ^ e):∀ x∈DV p ws,0<=x/\x<2 ^ (e+13):=by
 have:=h.h1; have:=h.h2; have:=h.h3
 have hk:=Qt h
 have hE:(1:Int)<=2 ^ e:=Int.pow_pos wE
 have e13:(2:Int) ^ (e+13)=2 ^ e*8192:=by rw [Int.pow_add]; rfl
 have hs0:0<=ws.sum:=by
  have:=Ij (g:=λx:Int=>x) (l:=ws) λv hv=>(hw v hv).1
  rw [<- Ii,List.map_id'] at this
  exact this
 have hs1:ws.sum<=24*2 ^ e:=by
  have:=sm_bd' (g:=λx:Int=>x) (l:=ws) (B:=2 ^ e) (n:=24) wF hl λv hv=>by have:=(hw v hv).2; omega
  rw [<- Ii,List.map_id'] at this
  exact this
 rw [e13]
 generalize (2:Int) ^ e=E at hE hs1 hw
 intro x hx
 obtain ⟨w,hw',rfl⟩:=List.mem_map.mp hx
 have h1:=hw w hw'
 generalize p.m*(p.pa-p.sh)=K at hk
 have a1:w*K<=E*K:=Int.mul_le_mul_of_nonneg_right wF hk.1
 have a2:E*K<=E*2376:=Int.mul_le_mul_of_nonneg_left hk.2 wF
 have a3:p.sh*ws.sum<=99*ws.sum:=Int.mul_le_mul_of_nonneg_right wF hs0
 have a4:0<=p.sh*ws.sum:=Int.mul_nonneg wF hs0
 have a5:0<=w*K:=Int.mul_nonneg h1.1 hk.1
 omega
theorem SH {n:Nat} {p:SP} {dd so u:Int} {said:List (Option Int)} {ws:List Int} (h:Gw p) (hw:Eh n ws u) (hl:ws.length=said.length) (h24:said.length<=24) (hs:∀ w∈said,w=none\/Ds p.sc w=true) (hso:0<=so/\so<=p.sc) (hd:0<=dd/\dd<=p.sc):Eh (n+1) (DV p (CP p.t p.b p.sc dd so said ws)) (u*tS p.t p.b p.sc dd*p.m*p.pa):=by
 have:=h.m1; have:=h.m2; have:=h.h1; have:=h.h2; have:=h.h3
 have h1:=HX (own:=dd) h.f hd.2
 have h2:=Dr hw.u0 hw.u1 h1.1 h1.2
 have h3:=Dr (c:=5) h2.1 h2.2 (show 0<=p.m by omega) wF
 have h4:=Dr (c:=7) h3.1 h3.2 (show 0<=p.pa by omega) wF
 refine ⟨λx hx=>?_,h4.1,FB h4.2 wF⟩
 have hb:∀ x∈CP p.t p.b p.sc dd so said ws,0<=x/\x<2 ^ (270*(n+1)+250):=λx hx=>by
  obtain ⟨q,hq,rfl⟩:=List.mem_map.mp hx
  have g3:=hw.w _ (List.of_mem_zip hq).1
  have g4:=J0 h.f hd.2 hso (hs _ (List.of_mem_zip hq).2)
  exact Dr g3.1 g3.2 g4.1 g4.2
 have:=Q0h h (by rw [IP hl,hl]; exact h24) hb x hx
 exact ⟨this.1,FB this.2 wF⟩
def Oj:List D->D->Prop:=λds d=>∃ a b:Int,ds=[.int a,.int b]/\(1<=a/\a<b/\b<=100)/\d=.non
def Ke (C:Addr):AS:=λds O R=>∃ (q:Nat) (p:SP),ds=[.ptr q,.int p.m,.int p.sc,.int p.t,.int p.b,.int p.sh,.int p.pa]/\O[q]?=some (some (.ins C []))/\Gw p/\R .non (O.set q (some (.ins C (Bq p (List.replicate p.m.toNat 1) 1))))
def OI (C:Addr):AS:=λds O R=>∃ (q:Nat) (p:SP) (u:Int) (ws:List Int),ds=[.ptr q]/\Jx C O q p ws u/\Gw p/\ws.length<=24/\R .non (O.set q (some (.ins C (Bq p (DV p ws) (u*p.m*p.pa)))))
def CL (CW CS:Addr):Bool->Addr
 | false=>CW
 | true=>CS
def Ci (sf:Bool) (p:SP) (ws:List Int) (u:Int):List (Str×D):=match sf with
 | false=>BC p.m p.sc p.t p.b ws u
 | true=>Bq p ws u
section
variable (sf:Bool) (p:SP) (u:Int) (ws:List Int)
theorem NN:(Ci sf p ws u).lookup ("many" : Str)=some (.int p.m):=by cases sf; exact JP ..; exact GB ..
theorem HU:(Ci sf p ws u).lookup ("scale" : Str)=some (.int p.sc):=by cases sf; exact JO ..; exact JI ..
theorem NM:(Ci sf p ws u).lookup ("top" : Str)=some (.int p.t):=by cases sf; exact NH ..; exact NA ..
theorem HV:(Ci sf p ws u).lookup ("bottom" : Str)=some (.int p.b):=by cases sf; exact NJ ..; exact NB ..
theorem NL:(Ci sf p ws u).lookup ("tops" : Str)=some (.tup (ws.map D.int)):=by cases sf; exact Sx ..; exact JG ..
theorem SK:(Ci sf p ws u).lookup ("under" : Str)=some (.int u):=by cases sf; exact Sw ..; exact Nz ..
theorem GH {f:Str} (h:([("many" : Str),"scale","top","bottom","tops","under"].all λg=>!(f==g))=true) (h2:([("many" : Str),"scale","top","bottom","tops","under","share","parts"].all λg=>!(f==g))=true):(Ci sf p ws u).lookup f=none:=by
 cases sf
 ·exact NI _ _ _ _ _ _ h
 ·exact JK _ _ _ h2
theorem NK:(Ci sf p ws u).length<1000:=by cases sf; show 6<1000; decide; show 8<1000; decide
theorem SJ (vs:List Int):A6 "tops" (.tup (vs.map D.int)) (Ci sf p ws u)=Ci sf p vs u:=by cases sf; exact Su ..; exact Oc ..
theorem SI (v:Int):A6 "under" (.int v) (Ci sf p ws u)=Ci sf p ws v:=by cases sf; exact Ss ..; exact N9 ..
end
def EZ (CW CS:Addr) (O:Ae) (q:Nat) (sf:Bool) (p:SP) (ws:List Int) (u:Int):Prop:=O[q]?=some (some (.ins (CL CW CS sf) (Ci sf p ws u)))
structure Di (sf:Bool) (p:SP):Prop where
 f:FR p.sc p.t p.b
 m1:1<=p.m
 m2:p.m<=24
 s:sf=true->1<=p.sh/\p.sh<p.pa/\p.pa<=100
theorem Di.so {p:SP} (h:Di true p):Gw p:=⟨h.f,h.m1,h.m2,(h.s rfl).1,(h.s rfl).2.1,(h.s rfl).2.2⟩
def IY (sf:Bool) (p:SP) (said:List (Option Int)) (so:Int) (ws:List Int):List Int:=match sf with
 | false=>CP p.t p.b p.sc (ab (BU said ws-so)) so said ws
 | true=>DV p (CP p.t p.b p.sc (ab (BU said ws-so)) so said ws)
def Mw (sf:Bool) (p:SP) (said:List (Option Int)) (so:Int) (ws:List Int) (u:Int):Int:=match sf with
 | false=>u*tS p.t p.b p.sc (ab (BU said ws-so))
 | true=>u*tS p.t p.b p.sc (ab (BU said ws-so))*p.m*p.pa
section
variable {P:Program} {w:World} {K:PySem.W.Frag} {mg:Str->Option Value} {base:Heap} {CW CS:Addr} {k1 k2:Nat} {m:Str} {sp:AS} {sq:Bool->AS}
theorem cv (h1:A4 K CW) (h2:A4 K CS) (sf:Bool):A4 K (CL CW CS sf):=by cases sf; exact h1; exact h2
theorem nv (h1:As K CW m) (h2:As K CS m) (sf:Bool):As K (CL CW CS sf) m:=by cases sf; exact h1; exact h2
theorem mv (h1:Al P w K mg base CW k1 m sp) (h2:Al P w K mg base CS k1 m sp) (sf:Bool):Al P w K mg base (CL CW CS sf) k1 m sp:=by cases sf; exact h1; exact h2
theorem mv2 (h1:Al P w K mg base CW k1 m (sq false)) (h2:Al P w K mg base CS k2 m (sq true)) (sf:Bool):Al P w K mg base (CL CW CS sf) (max k1 k2) m (sq sf):=by cases sf; exact h1.mono (Nat.le_max_left _ _); exact h2.mono (Nat.le_max_right _ _)
end
def GM (CW CS:Addr):AS:=λds O R=>∃ (q:Nat) (sf:Bool) (p:SP),ds=[.ptr q,.int p.m,.int p.sc,.int p.t,.int p.b]/\O[q]?=some (some (.ins (CL CW CS sf) []))/\Di false p/\R .non (O.set q (some (.ins (CL CW CS sf) (BC p.m p.sc p.t p.b (List.replicate p.m.toNat 1) 1))))
def Kg (CW CS:Addr):AS:=λds O R=>∃ (q:Nat) (sf:Bool) (p:SP) (u:Int) (ws:List Int),ds=[.ptr q]/\EZ CW CS O q sf p ws u/\R (.tup (ws.map D.int)) O
def Oh (CW CS:Addr):AS:=λds O R=>∃ (q:Nat) (sf:Bool) (p:SP) (u own off:Int) (ws:List Int),ds=[.ptr q,.int own,.int off]/\EZ CW CS O q sf p ws u/\Di sf p/\(0<=own/\own<=p.sc)/\(0<=off/\off<=p.sc)/\R (.int (tA p.t p.b p.sc own off)) O
def J8 (CW CS:Addr):AS:=λds O R=>∃ (q:Nat) (sf:Bool) (p:SP) (u own:Int) (ws:List Int),ds=[.ptr q,.int own]/\EZ CW CS O q sf p ws u/\Di sf p/\(0<=own/\own<=p.sc)/\R (.int (tS p.t p.b p.sc own)) O
def Og (CW CS:Addr):AS:=λds O R=>∃ (q:Nat) (sf:Bool) (p:SP) (u own so:Int) (w:Option Int) (ws:List Int),ds=[.ptr q,.int own,od w,.int so]/\EZ CW CS O q sf p ws u/\Di sf p/\(0<=own/\own<=p.sc)/\(0<=so/\so<=p.sc)/\(w=none\/Ds p.sc w=true)/\R (.int (tF p.t p.b p.sc own so w)) O
def J5 (CW CS:Addr):AS:=λds O R=>∃ (q n:Nat) (sf:Bool) (p:SP) (u so:Int) (said:List (Option Int)) (ws:List Int),ds=[.ptr q,.tup (said.map od),.int so]/\EZ CW CS O q sf p ws u/\Di sf p/\n<=1000/\Eh n ws u/\(ws.length:Int)=p.m/\Bw p.m p.sc said/\(0<=so/\so<=p.sc) /\
 R .non (O.set q (some (.ins (CL CW CS sf) (Ci sf p (CP p.t p.b p.sc (ab (BU said ws-so)) so said ws) (u*tS p.t p.b p.sc (ab (BU said ws-so)))))))
def Da (CW CS:Addr) (sf:Bool):AS:=λds O R=>∃ (q n:Nat) (p:SP) (u so:Int) (said:List (Option Int)) (ws:List Int),ds=[.ptr q,.tup (said.map od),.int so]/\EZ CW CS O q sf p ws u/\Di sf p/\n<=1000/\Eh n ws u/\(ws.length:Int)=p.m/\Bw p.m p.sc said/\(0<=so/\so<=p.sc) /\
 R .non (O.set q (some (.ins (CL CW CS sf) (Ci sf p (IY sf p said so ws) (Mw sf p said so ws u)))))
def Db (CW CS:Addr) (sf:Bool):AS:=λds O R=>∃ (q:Nat) (p:SP) (u:Int) (ws:List Int),ds=[.ptr q]/\EZ CW CS O q sf p ws u/\Di sf p/\R (.ptr O.length) (O++[some (.ins (CL CW CS sf) (Ci sf p (List.replicate p.m.toNat 1) 1))])
theorem SG {n:Nat} {t b sc dd so u:Int} {said:List (Option Int)} {ws:List Int} (hf:FR sc t b) (hw:Eh n ws u) (hs:∀ w∈said,w=none\/Ds sc w=true) (hso:0<=so/\so<=sc) (hd:0<=dd/\dd<=sc):Eh (n+1) (CP t b sc dd so said ws) (u*tS t b sc dd):=by
 have h1:=HX (own:=dd) hf hd.2
 have h2:=Dr hw.u0 hw.u1 h1.1 h1.2
 refine ⟨λx hx=>?_,h2.1,FB h2.2 wF⟩
 obtain ⟨p,hp,rfl⟩:=List.mem_map.mp hx
 have h3:=hw.w _ (List.of_mem_zip hp).1
 have h4:=J0 hf hd.2 hso (hs _ (List.of_mem_zip hp).2)
 have h5:=Dr h3.1 h3.2 h4.1 h4.2
 exact ⟨h5.1,FB h5.2 wF⟩
theorem Y9 {n:Nat} {sf:Bool} {p:SP} {u so:Int} {said:List (Option Int)} {ws:List Int} (h:Di sf p) (hw:Eh n ws u) (hl:(ws.length:Int)=p.m) (hs:Bw p.m p.sc said) (hso:0<=so/\so<=p.sc):Eh (n+1) (IY sf p said so ws) (Mw sf p said so ws u)/\((IY sf p said so ws).length:Int)=p.m:=by
 have hs1:=hs.1
 have h24:=hs.2.1
 have hd:=Jt (Hg (ws:=ws) hs (by have:=h.f.s1; omega) (λw h=>(hw.w w h).1)) hso
 cases sf
 ·refine ⟨SG h.f hw hs.2.2 hso hd,?_⟩
  show ((CP _ _ _ _ _ _ _).length:Int)=_
  rw [IP wF]; exact hl
 ·refine ⟨SH h.so hw wF wF hs.2.2 hso hd,?_⟩
  show ((DV _ _).length:Int)=_
  rw [Q0i,IP wF]; exact hl
def Fh (sc:List Int) (as:List Nat) (k:Nat):Prop:=k∈as/\∀ j∈as,sc.getD k 0<=sc.getD j 0/\(sc.getD j 0=sc.getD k 0->k<=j)
theorem Fh.uniq {sc:List Int} {as:List Nat} {j k:Nat} (h:Fh sc as j) (g:Fh sc as k):j=k:=by
 have h1:=h.2 k g.1
 have g1:=g.2 j h.1
 have e:sc.getD j 0=sc.getD k 0:=by omega
 have:=h1.2 e.symm
 have:=g1.2 e
 omega
def Hm (sc:List Int):List Nat->Option Nat
 | []=>none
 | k::as=>match Hm sc as with
  | none=>some k
  | some j=>if sc.getD j 0<sc.getD k 0 then some j else some k
theorem ME (sc:List Int):∀ as:List Nat,as.Pairwise (· < ·)->as≠[]->∃ k,Hm sc as=some k/\Fh sc as k
 | [],_,h=>absurd rfl h
 | k::as,hp,_=>by
  obtain ⟨hk,hp⟩:=List.pairwise_cons.mp hp
  unfold Hm
  by_cases h0:as=[]
  ·subst h0
   refine ⟨k,rfl,List.mem_cons_self,λj hj=>?_⟩
   rcases List.mem_cons.mp hj with rfl | hj
   ·exact ⟨Int.le_refl _,λ_=>Nat.le_refl _⟩
   ·cases hj
  ·obtain ⟨j,e,hj⟩:=ME sc as hp h0
   rw [e]
   by_cases hd:sc.getD j 0<sc.getD k 0
   ·refine ⟨j,if_pos hd,List.mem_cons_of_mem _ hj.1,λi hi=>?_⟩
    rcases List.mem_cons.mp hi with rfl | hi
    ·exact ⟨by omega,λz=>by omega⟩
    ·exact hj.2 i hi
   ·refine ⟨k,if_neg hd,List.mem_cons_self,λi hi=>?_⟩
    rcases List.mem_cons.mp hi with rfl | hi
    ·exact ⟨Int.le_refl _,λ_=>Nat.le_refl _⟩
    ·have:=hj.2 i hi
     have:=hk i hi
     exact ⟨by omega,λ_=>by omega⟩
theorem RH (said:List (Option Int)):(ax said).Pairwise (· < ·):=List.Pairwise.filter _ List.pairwise_lt_range
def Eo (sc:List Int) (said:List (Option Int)):Int:=match Hm sc (ax said) with
 | none=>0
 | some k=>(B4 said k).getD 0
theorem U1 {sc:List Int} {said:List (Option Int)} (h:ax said=[]):Eo sc said=0:=by unfold Eo; rw [h]; rfl
theorem UZ {sc:List Int} {said:List (Option Int)} {k:Nat} (h:Fh sc (ax said) k):Eo sc said=(B4 said k).getD 0:=by
 obtain ⟨j,e,hj⟩:=ME sc (ax said) (RH said) (List.ne_nil_of_mem h.1)
 unfold Eo
 rw [e,hj.uniq h]
def Gf (said:List (Option Int)) (so:Int) (sc:List Int):List Int:=(sc.zip said).map λp=>p.1+EY p.2 so
theorem Yg {said:List (Option Int)} {so:Int} {sc:List Int} (h:sc.length=said.length):(Gf said so sc).length=sc.length:=by
 unfold Gf
 rw [List.length_map,List.length_zip]
 omega
def Co (m s:Int) (ps sc:List Int):List (Str×D):=[("many",.int m),("scale",.int s),("push",.tup (ps.map D.int)),("reached",.tup (sc.map D.int))]
def g2 (m s:Int):List (Str×D):=[("many",.int m),("scale",.int s)]
def g3 (m s:Int) (d:D):List (Str×D):=[("many",.int m),("scale",.int s),("push",d)]
theorem VJ (m s:Int) (d:D):A6 "push" d (g2 m s)=g3 m s d:=by
 unfold g2
 rw [AG wD,AG wD]
 rfl
theorem VI (m s:Int) (ps sc:List Int):A6 "reached" (.tup (sc.map D.int)) (g3 m s (.tup (ps.map D.int)))=Co m s ps sc:=by
 unfold g3
 rw [AG wD,AG wD,AG wD]
 rfl
theorem Zq (m s:Int) (ps sc s2:List Int):A6 "reached" (.tup (s2.map D.int)) (Co m s ps sc)=Co m s ps s2:=by
 unfold Co
 rw [AG wD,AG wD,AG wD,ET]
section
variable (m s:Int) (ps sc:List Int)
theorem Jg:(Co m s ps sc).lookup ("many" : Str)=some (.int m):=Bt
theorem Jf:(Co m s ps sc).lookup ("scale" : Str)=some (.int s):=by unfold Co; rw [Ap wD,Bt]
theorem Zs:(Co m s ps sc).lookup ("push" : Str)=some (.tup (ps.map D.int)):=by unfold Co; rw [Ap wD,Ap wD,Bt]
theorem QM:(Co m s ps sc).lookup ("reached" : Str)=some (.tup (sc.map D.int)):=by unfold Co; rw [Ap wD,Ap wD,Ap wD,Bt]
theorem MF {f:Str} (h:([("many" : Str),"scale","push","reached"].all λg=>!(f==g))=true):(Co m s ps sc).lookup f=none:=by
 simp only [List.all_cons,List.all_nil,Bool.and_true,Bool.and_eq_true,Bool.not_eq_true'] at h
 obtain ⟨h1,h2,h3,h4⟩:=h
 unfold Co
 rw [Ap h1,Ap h2,Ap h3,Ap h4]
 rfl
end
theorem Zo (m s:Int) (d:D):(g3 m s d).lookup ("push" : Str)=some d:=by unfold g3; rw [Ap wD,Ap wD,Bt]
def Nv (CK0:Addr) (O:Ae) (q:Nat) (m s:Int) (ps sc:List Int):Prop:=O[q]?=some (some (.ins CK0 (Co m s ps sc)))
def FP (m:Int) (ps:List Int):Prop:=(ps.length:Int)=m/\∀ p∈ps,0<=p/\p<=10 ^ (60:Int).toNat-1
def LY:Option (List Int)->D
 | none=>.non
 | some ps=>.tup (ps.map D.int)
def Gc (m:Int) (po:Option (List Int)):List Int:=po.getD (List.replicate m.toNat 0)
def Ot:List D->D->Prop:=λds d=>∃ (m:Int) (ps:List Int),ds=[.int m,.tup (ps.map D.int)]/\FP m ps/\m<=24/\d=.non
def Os:List D->D->Prop:=λds d=>∃ (m:Int) (po:Option (List Int)),ds=[.int m,LY po]/\(1<=m/\m<=24)/\FP m (Gc m po)/\d=.tup ((Gc m po).map D.int)
def OH:List D->D->Prop:=λds d=>∃ (sc:List Int) (as:List Nat) (k:Nat),ds=[.tup (sc.map D.int),.lst (as.map λk=>D.int (k:Nat))]/\as.length<=24/\(∀ k∈as,k<sc.length)/\Fh sc as k/\d=.int (k:Nat)
def GN (CK0:Addr):AS:=λds O R=>∃ (q:Nat) (m s:Int) (po:Option (List Int)),ds=[.ptr q,.int m,.int s,LY po]/\O[q]?=some (some (.ins CK0 []))/\(1<=m/\m<=24)/\(1<=s/\s<=10)/\FP m (Gc m po)/\R .non (O.set q (some (.ins CK0 (Co m s (Gc m po) (Gc m po)))))
def EO (CK0:Addr):AS:=λds O R=>∃ (q:Nat) (m s:Int) (ps sc:List Int) (said:List (Option Int)),ds=[.ptr q,.tup (said.map od)]/\Nv CK0 O q m s ps sc/\(1<=m/\m<=24)/\Bw m s said/\(sc.length:Int)=m/\R (.int (Eo sc said)) O
def FY (CK0:Addr):AS:=λds O R=>∃ (q:Nat) (m s so:Int) (ps sc:List Int) (said:List (Option Int)),ds=[.ptr q,.tup (said.map od),.int so]/\Nv CK0 O q m s ps sc/\(1<=m/\m<=24)/\Bw m s said/\(0<=so/\so<=s)/\(sc.length:Int)=m/\R .non (O.set q (some (.ins CK0 (Co m s ps (Gf said so sc)))))
def F2 (CK0:Addr):AS:=λds O R=>∃ (q:Nat) (m s:Int) (ps sc:List Int),ds=[.ptr q]/\Nv CK0 O q m s ps sc/\(1<=m/\m<=24)/\(1<=s/\s<=10)/\FP m ps/\R (.ptr O.length) (O++[some (.ins CK0 (Co m s ps ps))])
theorem JL (n:Nat):(List.replicate n [D.int 0]).flatten=(List.replicate n (0:Int)).map D.int:=by rw [LQ,List.map_replicate]
theorem Yq {sc:List Int} {as:List Nat} {k:Nat} (h:Fh sc as k):FF (as.map λk=>(sc.getD k 0,((k:Nat):Int)))=(sc.getD k 0,((k:Nat):Int)):=by
 have hne:(as.map λk=>(sc.getD k 0,((k:Nat):Int)))≠[]:=λz=>by
  rw [List.map_eq_nil_iff] at z
  have:=h.1
  rw [z] at this
  cases this
 obtain ⟨j,hj,e⟩:=List.mem_map.mp (Yo hne)
 have hj2:Fh sc as j:=by
  refine ⟨hj,λi hi=>?_⟩
  have:=Yp (List.mem_map.mpr ⟨i,hi,rfl⟩:(sc.getD i 0,((i:Nat):Int))∈as.map λk=>(sc.getD k 0,((k:Nat):Int)))
  rw [<- e] at this
  have:=of_decide_eq_false this
  refine ⟨?_,λz=>?_⟩ <;> simp only [] at this <;> omega
 rw [<- e,hj2.uniq h]
theorem U0 {m s:Int} {sc:List Int} {said:List (Option Int)} (hs:Bw m s said) (h0:0<=s):0<=Eo sc said/\Eo sc said<=s:=by
 unfold Eo
 cases e:Hm sc (ax said) with
 | none=>exact ⟨Int.le_refl _,h0⟩
 | some k=>
  show 0<=(B4 said k).getD 0/\(B4 said k).getD 0<=s
  unfold B4
  by_cases hk:k<said.length
  ·rw [List.getElem?_eq_getElem hk]
   show 0<=(said[k]).getD 0/\(said[k]).getD 0<=s
   have hw:=hs.2.2 _ (List.getElem_mem hk)
   generalize said[k]=w at hw
   cases w with
   | none=>exact ⟨Int.le_refl _,h0⟩
   | some x=>exact IL (hw.resolve_left (λz=>by cases z))
  ·rw [List.getElem?_eq_none wF]
   exact ⟨Int.le_refl _,h0⟩
def BR (m s:Int) (ins:List Bool) (ov:Int):List (Str×D):=[("many",.int m),("scale",.int s),("inside",.tup (ins.map D.bl)),("over",.int ov)]
def Jr (b:Bool):Int:=if b=true then 1 else 0
def r2 (m s:Int):List (Str×D):=[("many",.int m),("scale",.int s)]
def r3 (m s:Int) (d:D):List (Str×D):=[("many",.int m),("scale",.int s),("inside",d)]
theorem VD (m s:Int) (d:D):A6 "inside" d (r2 m s)=r3 m s d:=by
 unfold r2
 rw [AG wD,AG wD]
 rfl
theorem VC (m s ov:Int) (ins:List Bool):A6 "over" (.int ov) (r3 m s (.tup (ins.map D.bl)))=BR m s ins ov:=by
 unfold r3
 rw [AG wD,AG wD,AG wD]
 rfl
theorem Pn (m s ov:Int) (ins js:List Bool):A6 "inside" (.tup (js.map D.bl)) (BR m s ins ov)=BR m s js ov:=by
 unfold BR
 rw [AG wD,AG wD,ET]
theorem Va (m s ov o2:Int) (ins:List Bool):A6 "over" (.int o2) (BR m s ins ov)=BR m s ins o2:=by
 unfold BR
 rw [AG wD,AG wD,AG wD,ET]
section
variable (m s ov:Int) (ins:List Bool)
theorem G0:(BR m s ins ov).lookup ("many" : Str)=some (.int m):=Bt
theorem IC:(BR m s ins ov).lookup ("scale" : Str)=some (.int s):=by unfold BR; rw [Ap wD,Bt]
theorem Po:(BR m s ins ov).lookup ("inside" : Str)=some (.tup (ins.map D.bl)):=by unfold BR; rw [Ap wD,Ap wD,Bt]
theorem Vc:(BR m s ins ov).lookup ("over" : Str)=some (.int ov):=by unfold BR; rw [Ap wD,Ap wD,Ap wD,Bt]
theorem ID {f:Str} (h:([("many" : Str),"scale","inside","over"].all λg=>!(f==g))=true):(BR m s ins ov).lookup f=none:=by
 simp only [List.all_cons,List.all_nil,Bool.and_true,Bool.and_eq_true,Bool.not_eq_true'] at h
 obtain ⟨h1,h2,h3,h4⟩:=h
 unfold BR
 rw [Ap h1,Ap h2,Ap h3,Ap h4]
 rfl
end
def Jy (CK8:Addr) (O:Ae) (q:Nat) (m s:Int) (ins:List Bool) (ov:Int):Prop:=O[q]?=some (some (.ins CK8 (BR m s ins ov)))
def Ew (said:List (Option Int)) (so:Int) (ins:List Bool):List Bool:=(ins.zip said).map λp=>p.1&&decide (EY p.2 so=0)
def Gg (said:List (Option Int)) (so:Int) (ins:List Bool):List Bool:=if (Ew said so ins).any id=true then Ew said so ins else List.replicate ins.length true
def Mf (said:List (Option Int)) (so:Int) (ins:List Bool) (ov:Int):Int:=if (Ew said so ins).any id=true then ov else ov+1
def Em (ins:List Bool):List Int:=ins.map Jr
theorem NG (ins:List Bool):DX (Em ins):=λw h=>by
 obtain ⟨b,_,rfl⟩:=List.mem_map.mp h
 unfold Jr
 split <;> decide
theorem Ze (ins:List Bool):(ins.map λq=>if q=true then D.int 1 else D.int 0)=(Em ins).map D.int:=by
 unfold Em
 rw [List.map_map]
 refine List.map_congr_left λb _=>?_
 show (if b=true then D.int 1 else D.int 0)=D.int (Jr b)
 unfold Jr
 cases b <;> rfl
theorem Qo {said:List (Option Int)} {so:Int} {ins:List Bool} (h:ins.length=said.length):(Ew said so ins).length=ins.length:=by
 unfold Ew
 rw [List.length_map,List.length_zip]
 omega
theorem Yh {said:List (Option Int)} {so:Int} {ins:List Bool} (h:ins.length=said.length):(Gg said so ins).length=ins.length:=by
 unfold Gg
 split
 ·exact Qo h
 ·rw [List.length_replicate]
theorem NT (n:Nat):(List.replicate n [D.bl true]).flatten=(List.replicate n true).map D.bl:=by rw [LQ,List.map_replicate]
def Kf (CK8:Addr):AS:=λds O R=>∃ (q:Nat) (m s:Int),ds=[.ptr q,.int m,.int s]/\O[q]?=some (some (.ins CK8 []))/\(1<=m/\m<=24)/\(1<=s/\s<=10)/\R .non (O.set q (some (.ins CK8 (BR m s (List.replicate m.toNat true) 0))))
def OC (CK8:Addr):AS:=λds O R=>∃ (q:Nat) (m s ov:Int) (ins:List Bool),ds=[.ptr q]/\Jy CK8 O q m s ins ov/\ins.length<=24/\R (.tup ((Em ins).map D.int)) O
def FW (CK8:Addr):AS:=λds O R=>∃ (q:Nat) (m s ov so:Int) (ins:List Bool) (said:List (Option Int)),ds=[.ptr q,.tup (said.map od),.int so]/\Jy CK8 O q m s ins ov/\(1<=m/\m<=24)/\Bw m s said/\(0<=so/\so<=s)/\(ins.length:Int)=m/\R .non (O.set q (some (.ins CK8 (BR m s (Gg said so ins) (Mf said so ins ov)))))
def F0 (CK8:Addr):AS:=λds O R=>∃ (q:Nat) (m s ov:Int) (ins:List Bool),ds=[.ptr q]/\Jy CK8 O q m s ins ov/\(1<=m/\m<=24)/\(1<=s/\s<=10)/\R (.ptr O.length) (O++[some (.ins CK8 (BR m s (List.replicate m.toNat true) 0))])
theorem Mz {m s:Int} {f:Str} (h:([("many" : Str),"scale"].all λg=>!(f==g))=true):(BG m s).lookup f=none:=by
 simp only [List.all_cons,List.all_nil,Bool.and_true,Bool.and_eq_true,Bool.not_eq_true'] at h
 unfold BG
 rw [Ap h.1,Ap h.2]
 rfl
def FX (CK1:Addr):AS:=λds O R=>∃ (q:Nat) (m sc so:Int) (said:List (Option Int)),ds=[.ptr q,.tup (said.map od),.int so]/\O[q]?=some (some (.ins CK1 (BG m sc)))/\Bw m sc said/\(0<=so/\so<=sc)/\R .non O
def F1 (CK1:Addr):AS:=λds O R=>∃ (q:Nat) (m sc:Int),ds=[.ptr q]/\O[q]?=some (some (.ins CK1 (BG m sc)))/\(1<=m/\m<=24)/\(1<=sc/\sc<=10)/\R (.ptr O.length) (O++[some (.ins CK1 (BG m sc))])
theorem T9 {O:Ae} {q:Nat} {x:Option MO} (h:O[q]?=some x):O.set q x=O:=by
 refine List.ext_getElem? λi=>?_
 by_cases z:q=i
 ·subst z
  rw [Cc h]
  exact h.symm
 ·rw [List.getElem?_set_ne z]
def EQ (isC:Addr->Prop):AS:=λds O R=>∃ (q:Nat) (m s:Int) (C:Addr),ds=[.ptr q,.int m,.int s]/\isC C/\O[q]?=some (some (.ins C []))/\(1<=m/\m<=24)/\(1<=s/\s<=10)/\R .non (O.set q (some (.ins C (BG m s))))
def Bp (CH CW CS CR:Addr):AS:=λds O R=>∃ (q:Nat) (m s:Int) (ws:List Int) (said:List (Option Int)),ds=[.ptr q,.tup (said.map od)]/\((O[q]?=some (some (.ins CH (BG m s)))/\ws=List.replicate m.toNat 1)\/(∃ sf p u,EZ CW CS O q sf p ws u/\p.m=m/\p.sc=s)\/∃ ins ov,Jy CR O q m s ins ov/\ws=Em ins)/\(1<=m/\m<=24)/\Bw m s said/\(ws.length:Int)=m/\DX ws/\R (.int (BU said ws)) O
inductive Hv where
 | h | v (sf:Bool) (p:SP) (ws:List Int) (u:Int) | r (ins:List Bool) (ov:Int) | f (ps sc:List Int)
def D9 (CH CW CS CR CF:Addr) (m s:Int):Hv->MO
 | .h=>.ins CH (BG m s)
 | .v sf p ws u=>.ins (CL CW CS sf) (Ci sf p ws u)
 | .r ins ov=>.ins CR (BR m s ins ov)
 | .f ps sc=>.ins CF (Co m s ps sc)
def B7 (n m:Nat) (s:Int):Hv->Prop
 | .h=>True
 | .v sf p ws u=>Di sf p/\p.m=(m:Nat)/\p.sc=s/\Eh n ws u/\ws.length=m
 | .r ins _=>ins.length=m
 | .f ps sc=>FP (m:Nat) ps/\sc.length=m
def GY (m:Nat) (said:List (Option Int)):Hv->Int
 | .h=>BU said (List.replicate m 1)
 | .v _ _ ws _=>BU said ws
 | .r ins _=>BU said (Em ins)
 | .f _ sc=>Eo sc said
def Ja (said:List (Option Int)) (so:Int):Hv->Hv
 | .h=>.h
 | .v sf p ws u=>.v sf p (IY sf p said so ws) (Mw sf p said so ws u)
 | .r ins ov=>.r (Gg said so ins) (Mf said so ins ov)
 | .f ps sc=>.f ps (Gf said so sc)
def Na (m:Nat):Hv->Hv
 | .h=>.h
 | .v sf p _ _=>.v sf p (List.replicate m 1) 1
 | .r _ _=>.r (List.replicate m true) 0
 | .f ps _=>.f ps ps
theorem B7.hear {n m:Nat} {s so:Int} {said:List (Option Int)} {v:Hv} (h:B7 n m s v) (hs:Bw (m:Nat) s said) (hso:0<=so/\so<=s):B7 (n+1) m s (Ja said so v):=by
 have hl:=hs.1
 cases v with
 | h=>exact h
 | v sf p ws u=>
  obtain ⟨h1,h2,h3,h4,h5⟩:=h
  obtain ⟨g1,g2⟩:=Y9 h1 h4 (by rw [h2,h5]) (by rw [h2,h3]; exact hs) (by rw [h3]; exact hso)
  exact ⟨h1,h2,h3,g1,by have:=g2.trans h2; omega⟩
 | r ins ov=>
  have h:ins.length=m:=h
  show (Gg said so ins).length=m
  rw [Yh wF]; exact h
 | f ps sc=>exact ⟨h.1,by rw [Yg (by have:=h.2; omega)]; exact h.2⟩
theorem B7.anew {n m:Nat} {s:Int} {v:Hv} (h:B7 n m s v):B7 0 m s (Na m v):=by
 cases v with
 | h=>exact h
 | v sf p ws u=>exact ⟨h.1,h.2.1,h.2.2.1,JQ m,List.length_replicate⟩
 | r ins ov=>exact List.length_replicate
 | f ps sc=>exact ⟨h.1,by have:=h.1.1; omega⟩
theorem U2 {n m:Nat} {s:Int} {said:List (Option Int)} {v:Hv} (h:B7 n m s v) (hs:Bw (m:Nat) s said) (h0:0<=s):0<=GY m said v/\GY m said v<=s:=by
 cases v with
 | h=>exact Hg hs h0 (λw hw=>by rw [List.eq_of_mem_replicate hw]; decide)
 | v sf p ws u=>exact Hg hs h0 (λw hw=>(h.2.2.2.1.w w hw).1)
 | r ins ov=>exact Hg hs h0 (NG ins)
 | f ps sc=>exact U0 hs h0
section
variable {X:Cx} {ρ:Ai} {O:Ae} {CH CW CS CR CF:Addr} {o e e2:Expr} {q n m k1 k2 k3 k4 k6:Nat} {s so:Int} {v:Hv} {said:List (Option Int)} {R:D->Ae->Prop} {pos apos:Pos}
theorem ZM {pl:Sem Bool} (M1:Al X.prog X.w X.K X.mg X.base CH k1 "say" (Bp CH CW CS CR)) (M2:Al X.prog X.w X.K X.mg X.base CW k1 "say" (Bp CH CW CS CR)) (M3:Al X.prog X.w X.K X.mg X.base CS k1 "say" (Bp CH CW CS CR)) (M4:Al X.prog X.w X.K X.mg X.base CR k1 "say" (Bp CH CW CS CR)) (r1:AL k1 X.A) (M6:Al X.prog X.w X.K X.mg X.base CF k6 "say" (EO CF)) (r6:AL k6 X.A)
  (ho:Ad X ρ O o (.ptr q)) (hq:O[q]?=some (some (D9 CH CW CS CR CF (m:Nat) s v))) (hok:B7 n m s v) (hm:1<=m/\m<=24) (hs:Bw (m:Nat) s said) (ha:BI X ρ O [e] [.tup (said.map od)])
  (hst:starEach [e] X.env=(false,eval e X.env)::starEach [] X.env:=by rfl) (hpl:(backTo pos (starEach [] X.env)).any (·.1)=false:=by rfl)
  (ht:eval (.Call (.Attribute o "say" apos) [e] [] pos) X.env=(do
   let ov <- eval o X.env
   standAt apos.atName
   let (f,first) <- holding [ov] (getMethod ov "say" pl)
   callWith pos f first (backTo pos (starEach [e] X.env)) (backToKw pos (keywordEach [] X.env))):=by rfl):Ad X ρ O (.Call (.Attribute o "say" apos) [e] [] pos) (.int (GY m said v)):=by
 have hmI:(1:Int)<=(m:Nat)/\((m:Nat):Int)<=24:=⟨by omega,by omega⟩
 cases v with
 | h=>exact Ev.evp (CQ M1 r1 ho hq (Mz wD) ha ⟨q,(m:Nat),s,List.replicate m 1,said,rfl,.inl ⟨hq,by rw [Int.toNat_natCast]⟩,hmI,hs,by rw [List.length_replicate],(λw hw=>by rw [List.eq_of_mem_replicate hw]; decide),rfl,rfl⟩ hst hpl ht)
 | v sf p ws u=>exact Ev.evp (CQ (mv M2 M3 sf) r1 ho hq (GH _ _ _ _ wD wD) ha ⟨q,(m:Nat),s,ws,said,rfl,.inr (.inl ⟨sf,p,u,hq,hok.2.1,hok.2.2.1⟩),hmI,hs,by rw [hok.2.2.2.2],(λw hw=>(hok.2.2.2.1.w w hw).1),rfl,rfl⟩ hst hpl ht)
 | r ins ov=>exact Ev.evp (CQ M4 r1 ho hq (ID _ _ _ _ wD) ha ⟨q,(m:Nat),s,Em ins,said,rfl,.inr (.inr ⟨ins,ov,hq,rfl⟩),hmI,hs,by have h:ins.length=m:=hok; rw [show (Em ins).length=ins.length from List.length_map ..,h],NG ins,rfl,rfl⟩ hst hpl ht)
 | f ps sc=>exact Ev.evp (CQ M6 r6 ho hq (MF _ _ _ _ wD) ha ⟨q,(m:Nat),s,ps,sc,said,rfl,hq,hmI,hs,by rw [hok.2],rfl,rfl⟩ hst hpl ht)
theorem ZR {pl:Sem Bool} (M1:Al X.prog X.w X.K X.mg X.base CH k1 "hear" (FX CH)) (M2:Al X.prog X.w X.K X.mg X.base CW k2 "hear" (Da CW CS false)) (M3:Al X.prog X.w X.K X.mg X.base CS k3 "hear" (Da CW CS true)) (M4:Al X.prog X.w X.K X.mg X.base CR k4 "hear" (FW CR)) (r1:AL k1 X.A) (r2:AL (max k2 k3) X.A) (r3:AL k4 X.A) (M6:Al X.prog X.w X.K X.mg X.base CF k6 "hear" (FY CF)) (r6:AL k6 X.A)
  (ho:Ad X ρ O o (.ptr q)) (hq:O[q]?=some (some (D9 CH CW CS CR CF (m:Nat) s v))) (hok:B7 n m s v) (hn:n<=1000) (hm:1<=m/\m<=24) (hs:Bw (m:Nat) s said) (hso:0<=so/\so<=s) (ha:BI X ρ O [e,e2] [.tup (said.map od),.int so]) (hR:R .non (O.set q (some (D9 CH CW CS CR CF (m:Nat) s (Ja said so v)))))
  (hst:starEach [e,e2] X.env=(false,eval e X.env)::starEach [e2] X.env:=by rfl) (hpl:(backTo pos (starEach [e2] X.env)).any (·.1)=false:=by rfl)
  (ht:eval (.Call (.Attribute o "hear" apos) [e,e2] [] pos) X.env=(do
   let ov <- eval o X.env
   standAt apos.atName
   let (f,first) <- holding [ov] (getMethod ov "hear" pl)
   callWith pos f first (backTo pos (starEach [e,e2] X.env)) (backToKw pos (keywordEach [] X.env))):=by rfl):Ev X ρ O (.Call (.Attribute o "hear" apos) [e,e2] [] pos) R:=by
 have hmI:(1:Int)<=(m:Nat)/\((m:Nat):Int)<=24:=⟨by omega,by omega⟩
 cases v with
 | h=>
  have hR:R .non (O.set q (some (D9 CH CW CS CR CF (m:Nat) s .h))):=hR
  rw [T9 hq] at hR
  exact CQ M1 r1 ho hq (Mz wD) ha ⟨q,(m:Nat),s,so,said,rfl,hq,hs,hso,hR⟩ hst hpl ht
 | v sf p ws u=>exact CQ (mv2 (sq:=Da CW CS) M2 M3 sf) r2 ho hq (GH _ _ _ _ wD wD) ha ⟨q,n,p,u,so,said,ws,rfl,hq,hok.1,hn,hok.2.2.2.1,by rw [hok.2.2.2.2,hok.2.1],by rw [hok.2.1,hok.2.2.1]; exact hs,by rw [hok.2.2.1]; exact hso,hR⟩ hst hpl ht
 | r ins ov=>exact CQ M4 r3 ho hq (ID _ _ _ _ wD) ha ⟨q,(m:Nat),s,ov,so,ins,said,rfl,hq,hmI,hs,hso,by have h:ins.length=m:=hok; rw [h],hR⟩ hst hpl ht
 | f ps sc=>exact CQ M6 r6 ho hq (MF _ _ _ _ wD) ha ⟨q,(m:Nat),s,so,ps,sc,said,rfl,hq,hmI,hs,hso,by rw [hok.2],hR⟩ hst hpl ht
theorem Z0 {pl:Sem Bool} (M1:Al X.prog X.w X.K X.mg X.base CH k1 "anew" (F1 CH)) (M2:Al X.prog X.w X.K X.mg X.base CW k2 "anew" (Db CW CS false)) (M3:Al X.prog X.w X.K X.mg X.base CS k3 "anew" (Db CW CS true)) (M4:Al X.prog X.w X.K X.mg X.base CR k4 "anew" (F0 CR)) (r1:AL k1 X.A) (r2:AL (max k2 k3) X.A) (r3:AL k4 X.A) (M6:Al X.prog X.w X.K X.mg X.base CF k6 "anew" (F2 CF)) (r6:AL k6 X.A)
  (ho:Ad X ρ O o (.ptr q)) (hq:O[q]?=some (some (D9 CH CW CS CR CF (m:Nat) s v))) (hok:B7 n m s v) (hm:1<=m/\m<=24) (hs:1<=s/\s<=10) (hR:R (.ptr O.length) (O++[some (D9 CH CW CS CR CF (m:Nat) s (Na m v))]))
  (ht:eval (.Call (.Attribute o "anew" apos) [] [] pos) X.env=(do
   let ov <- eval o X.env
   standAt apos.atName
   let (f,first) <- holding [ov] (getMethod ov "anew" pl)
   callWith pos f first (backTo pos (starEach [] X.env)) (backToKw pos (keywordEach [] X.env))):=by rfl):Ev X ρ O (.Call (.Attribute o "anew" apos) [] [] pos) R:=by
 have hmI:(1:Int)<=(m:Nat)/\((m:Nat):Int)<=24:=⟨by omega,by omega⟩
 cases v with
 | h=>exact ED M1 r1 ho hq (Mz wD) ⟨q,(m:Nat),s,rfl,hq,hmI,hs,hR⟩ ht
 | v sf p ws u=>exact ED (mv2 (sq:=Db CW CS) M2 M3 sf) r2 ho hq (GH _ _ _ _ wD wD) ⟨q,p,u,ws,rfl,hq,hok.1,by rw [hok.2.1,Int.toNat_natCast]; exact hR⟩ ht
 | r ins ov=>exact ED M4 r3 ho hq (ID _ _ _ _ wD) ⟨q,(m:Nat),s,ov,ins,rfl,hq,hmI,hs,by rw [Int.toNat_natCast]; exact hR⟩ ht
 | f ps sc=>exact ED M6 r6 ho hq (MF _ _ _ _ wD) ⟨q,(m:Nat),s,ps,sc,rfl,hq,hmI,hs,hok.1,hR⟩ ht
theorem ZP (c1:A4 X.K CH) (c2:A4 X.K CW) (c3:A4 X.K CS) (c4:A4 X.K CR) (n1:As X.K CH "many") (n2:As X.K CW "many") (n3:As X.K CS "many") (n4:As X.K CR "many") (c6:A4 X.K CF) (n6:As X.K CF "many") (ho:Ad X ρ O o (.ptr q)) (hq:O[q]?=some (some (D9 CH CW CS CR CF (m:Nat) s v))) (hok:B7 n m s v) (hb:attributeBase o ("many" : Str) X.env (eval o X.env)=eval o X.env:=by rfl):Ad X ρ O (.Attribute o "many" pos) (.int (m:Nat)):=by
 cases v with
 | h=>exact Az ho hq c1 n1 (Hj _ _) hb
 | v sf p ws u=>rw [<- hok.2.1]; exact Az ho hq (cv c2 c3 sf) (nv n2 n3 sf) (NN _ _ _ _) hb
 | r ins ov=>exact Az ho hq c4 n4 (G0 _ _ _ _) hb
 | f ps sc=>exact Az ho hq c6 n6 (Jg _ _ _ _) hb
theorem ZL (c1:A4 X.K CH) (c2:A4 X.K CW) (c3:A4 X.K CS) (c4:A4 X.K CR) (n1:As X.K CH "scale") (n2:As X.K CW "scale") (n3:As X.K CS "scale") (n4:As X.K CR "scale") (c6:A4 X.K CF) (n6:As X.K CF "scale") (ho:Ad X ρ O o (.ptr q)) (hq:O[q]?=some (some (D9 CH CW CS CR CF (m:Nat) s v))) (hok:B7 n m s v) (hb:attributeBase o ("scale" : Str) X.env (eval o X.env)=eval o X.env:=by rfl):Ad X ρ O (.Attribute o "scale" pos) (.int s):=by
 cases v with
 | h=>exact Az ho hq c1 n1 (IZ _ _) hb
 | v sf p ws u=>rw [<- hok.2.2.1]; exact Az ho hq (cv c2 c3 sf) (nv n2 n3 sf) (HU _ _ _ _) hb
 | r ins ov=>exact Az ho hq c4 n4 (IC _ _ _ _) hb
 | f ps sc=>exact Az ho hq c6 n6 (Jf _ _ _ _) hb
theorem ZQ {k:Bool} {x:Str} {C2:Addr} {p p2:Pos} (hm:X.mg "isinstance" = none) (he:Ad X ρ O e (.ptr q)) (hq:O[q]?=some (some (D9 CH CW CS CR CF (m:Nat) s v))) (t1:Cl X.K CH) (t2:Cl X.K CW) (t3:Cl X.K CS) (t4:Cl X.K CR) (hx:X.mg x=some (.ref C2)) (k1:PySem.W.kitOne X.K (.ref CH) (.ref C2)=some k) (k2:PySem.W.kitOne X.K (.ref CW) (.ref C2)=some k) (k3:PySem.W.kitOne X.K (.ref CS) (.ref C2)=some k) (k4:PySem.W.kitOne X.K (.ref CR) (.ref C2)=some k) (t6:Cl X.K CF) (k6':PySem.W.kitOne X.K (.ref CF) (.ref C2)=some k)
  (hg:Gl X "isinstance" := by rfl) (hgx:Gl X x:=by rfl) (hdx:(x==("__debug__" : Str))=false:=by decide) (hs:starEach [e,.Name x p2] X.env=(false,eval e X.env)::starEach [.Name x p2] X.env:=by rfl) (hpl:(backTo pos (starEach [.Name x p2] X.env)).any (·.1)=false:=by rfl) :
  Ad X ρ O (.Call (.Name "isinstance" p) [e,.Name x p2] [] pos) (.bl k):=by
 cases v with
 | h=>exact Go hm he hq t1 hx k1 hg hgx hdx hs hpl
 | v sf p ws u=>
  cases sf
  ·exact Go hm he hq t2 hx k2 hg hgx hdx hs hpl
  ·exact Go hm he hq t3 hx k3 hg hgx hdx hs hpl
 | r ins ov=>exact Go hm he hq t4 hx k4 hg hgx hdx hs hpl
 | f ps sc=>exact Go hm he hq t6 hx k6' hg hgx hdx hs hpl
end
def JZ (m s:Int) (d e:D):List (Str×D):=[("many",.int m),("scale",.int s),("hands",d),("head",e)]
def GJ (m s:Int) (d:D):List (Str×D):=[("many",.int m),("scale",.int s),("hands",d)]
theorem VG (m s:Int) (d:D):A6 "hands" d (BG m s)=GJ m s d:=by
 unfold BG
 rw [AG wD,AG wD]
 rfl
theorem VF (m s:Int) (d e:D):A6 "head" e (GJ m s d)=JZ m s d e:=by
 unfold GJ
 rw [AG wD,AG wD,AG wD]
 rfl
section
variable (m s:Int) (q n:Nat) (ch:List Int)
end
theorem HD {O Y:Ae} {i:Nat} {x:Option MO} (h:O[i]?=some x):(O++Y)[i]?=some x:=by rw [List.getElem?_append_left (List.getElem?_eq_some_iff.mp h).1]; exact h
theorem IT {A Z:Ae} {x:Option MO}:(A++[x]++Z)[A.length]?=some x:=by rw [List.append_assoc,List.getElem?_append_right (Nat.le_refl _),Nat.sub_self]; rfl
theorem Mm {A Z:Ae} {x y:Option MO}:(A++[x]++Z).set A.length y=A++[y]++Z:=by rw [List.append_assoc,List.set_append_right (h:=Nat.le_refl _),Nat.sub_self,List.append_assoc]; rfl
theorem Pv {α:Type} (l:List α) (d:α):(List.range l.length).map (λi=>l.getD i d)=l:=by
 refine List.ext_getElem? λi=>?_
 rw [List.getElem?_map]
 by_cases hi:i<l.length
 ·rw [List.getElem?_range hi,List.getElem?_eq_getElem hi]
  show some (l.getD i d)=_
  rw [List.getD_eq_getElem?_getD,List.getElem?_eq_getElem hi]; rfl
 ·rw [List.getElem?_eq_none (by rw [List.length_range]; omega),List.getElem?_eq_none wF]; rfl
structure Cs where
 h:Addr
 w:Addr
 s:Addr
 r:Addr
 t:Addr
 f:Addr
def Cs.o (C:Cs) (m s:Int) (v:Hv):MO:=D9 C.h C.w C.s C.r C.f m s v
structure TOk (n m:Nat) (s:Int) (hs:List Hv) (hd:Hv) (ch:List Int):Prop where
 h:∀ v∈hs,B7 n m s v
 d:B7 n hs.length s hd
 l1:1<=hs.length
 l2:hs.length<=24
 c:ch.length=hs.length
def Eg (l:List Int):List (Option Int):=l.map some
theorem RO (l:List Int):(Eg l).map od=l.map D.int:=by unfold Eg; rw [List.map_map]; rfl
inductive Hx where
 | p (v:Hv) | t (hs:List Hv) (hd:Hv) (ch:List Int)
def Bn (n m:Nat) (s:Int):Hx->Prop
 | .p v=>B7 n m s v
 | .t hs hd ch=>TOk n m s hs hd ch
structure DF (q k:Nat) (O O':Ae):Prop where
 l:O'.length=O.length
 o:∀ j,j<q\/q+k<=j->O'[j]?=O[j]?
section
variable {X:Cx} {ρ:Ai} {O:Ae} {C:Cs} {o e e2:Expr} {q n m k1 k2 k3 k4 k5 k6:Nat} {s so:Int} {x:Hx} {said:List (Option Int)} {R:D->Ae->Prop} {pos apos:Pos}
end
def JY (ts:List Tn) (k:Nat):Tn:=ts.getD k ([],0)
theorem NV {ts:List Tn} {k:Nat} {t:Tn} (h:ts[k]?=some t):JY ts k=t:=by unfold JY; rw [List.getD_eq_getElem?_getD,h]; rfl
inductive Hn where
 | p (v:Hv) | t (hs:List Hn) (hd:Hn) (ch:List Int)
mutual
def AM:Hn->Nat
 | .p _=>1
 | .t hs hd _=>1+AA hs+AM hd
def AA:List Hn->Nat
 | []=>0
 | x::xs=>AM x+AA xs
end
mutual
def AU:Hn->Nat
 | .p _=>0
 | .t hs hd _=>1+max (Cv hs) (AU hd)
def Cv:List Hn->Nat
 | []=>0
 | x::xs=>max (AU x) (Cv xs)
end
mutual
def Bz:Hn->Nat->List (Option Int)->Int
 | .p v,m,said=>GY m said v
 | .t hs hd _,m,said=>Bz hd hs.length (Eg (B3 hs m said))
def B3:List Hn->Nat->List (Option Int)->List Int
 | [],_,_=>[]
 | x::xs,m,said=>Bz x m said::B3 xs m said
end
mutual
def Bu:Hn->Nat->List (Option Int)->Int->Hn
 | .p v,_,said,so=>.p (Ja said so v)
 | .t hs hd ch,m,said,so=>.t (Ct hs m said so) (Bu hd hs.length (Eg (B3 hs m said)) so) ((ch.zip (B3 hs m said)).map λx=>x.1+ab (x.2-so))
def Ct:List Hn->Nat->List (Option Int)->Int->List Hn
 | [],_,_,_=>[]
 | x::xs,m,said,so=>Bu x m said so::Ct xs m said so
end
mutual
def AZ:Hn->Nat->Hn
 | .p v,m=>.p (Na m v)
 | .t hs hd _,m=>.t (CI hs m) (AZ hd hs.length) (List.replicate hs.length 0)
def CI:List Hn->Nat->List Hn
 | [],_=>[]
 | x::xs,m=>AZ x m::CI xs m
end
def BM:List Hn->Nat->List Nat
 | [],_=>[]
 | x::xs,q=>q::BM xs (q+AM x)
def BL (m s:Int) (ps:List Nat) (h:Nat) (ch:List Int):List (Str×D):=[("many",.int m),("scale",.int s),("hands",.tup (ps.map D.ptr)),("head",.ptr h),("charged",.tup (ch.map D.int))]
mutual
def Aw (C:Cs) (O:Ae):Hn->Nat->Nat->Int->Prop
 | .p v,q,m,s=>O[q]?=some (some (C.o (m:Nat) s v))
 | .t hs hd ch,q,m,s=>O[q]?=some (some (.ins C.t (BL (m:Nat) s (BM hs (q+1)) (q+1+AA hs) ch)))/\CZ C O hs (q+1) m s/\Aw C O hd (q+1+AA hs) hs.length s
def CZ (C:Cs) (O:Ae):List Hn->Nat->Nat->Int->Prop
 | [],_,_,_=>True
 | x::xs,q,m,s=>Aw C O x q m s/\CZ C O xs (q+AM x) m s
end
mutual
def AO (n:Nat):Hn->Nat->Int->Prop
 | .p v,m,s=>B7 n m s v
 | .t hs hd ch,m,s=>B1 n hs m s/\AO n hd hs.length s/\(1<=hs.length/\hs.length<=24)/\ch.length=hs.length
def B1 (n:Nat):List Hn->Nat->Int->Prop
 | [],_,_=>True
 | x::xs,m,s=>AO n x m s/\B1 n xs m s
end
mutual
theorem Fw:∀ (x:Hn) (m:Nat) (said:List (Option Int)) (so:Int),AM (Bu x m said so)=AM x
 | .p v,_,_,_=>by simp only [Bu,AM]
 | .t hs hd ch,m,said,so=>by simp only [Bu,AM]; rw [GR hs,Fw hd]
theorem GR:∀ (xs:List Hn) (m:Nat) (said:List (Option Int)) (so:Int),AA (Ct xs m said so)=AA xs
 | [],_,_,_=>by simp only [Ct,AA]
 | x::xs,m,said,so=>by simp only [Ct,AA]; rw [Fw x,GR xs]
end
mutual
theorem F4:∀ (x:Hn) (m:Nat),AM (AZ x m)=AM x
 | .p v,_=>by simp only [AZ,AM]
 | .t hs hd ch,m=>by simp only [AZ,AM]; rw [OZ hs,F4 hd]
theorem OZ:∀ (xs:List Hn) (m:Nat),AA (CI xs m)=AA xs
 | [],_=>by simp only [CI,AA]
 | x::xs,m=>by simp only [CI,AA]; rw [F4 x,OZ xs]
end
theorem IV:∀ (xs:List Hn) (m:Nat) (said:List (Option Int)),(B3 xs m said).length=xs.length
 | [],_,_=>rfl
 | x::xs,m,said=>by simp only [B3,List.length_cons]; rw [IV xs]
theorem Mn:∀ (xs:List Hn) (m:Nat) (said:List (Option Int)) (so:Int),(Ct xs m said so).length=xs.length
 | [],_,_,_=>rfl
 | x::xs,m,said,so=>by simp only [Ct,List.length_cons]; rw [Mn xs]
theorem Gj:∀ (xs:List Hn) (m:Nat),(CI xs m).length=xs.length
 | [],_=>rfl
 | x::xs,m=>by simp only [CI,List.length_cons]; rw [Gj xs]
theorem P3:∀ (xs:List Hn) (q:Nat),(BM xs q).length=xs.length
 | [],_=>rfl
 | x::xs,q=>by simp only [BM,List.length_cons]; rw [P3 xs]
theorem GQ (x:Hn):1<=AM x:=by cases x <;> simp only [AM] <;> omega
theorem P4:∀ (xs ys:List Hn) (q:Nat),xs.map AM=ys.map AM->BM xs q=BM ys q
 | [],[],_,_=>rfl
 | [],y::ys,_,h=>by cases h
 | x::xs,[],_,h=>by cases h
 | x::xs,y::ys,q,h=>by
  injection h with h1 h2
  simp only [BM]
  rw [h1,P4 xs ys _ h2]
theorem P5:∀ (xs:List Hn) (q i:Nat),i<xs.length->(BM xs q)[i]?=some (q+AA (xs.take i))
 | [],_,_,h=>absurd h (Nat.not_lt_zero _)
 | x::xs,q,0,_=>by simp [BM,AA]
 | x::xs,q,i+1,h=>by
  simp only [BM,List.getElem?_cons_succ,List.take_succ_cons,AA]
  rw [P5 xs _ i (by simpa using h),Nat.add_assoc]
theorem HH {C:Cs} {O:Ae} {m:Nat} {s:Int}:∀ (xs:List Hn) (q:Nat),CZ C O xs q m s ↔ ∀ i x,xs[i]?=some x->Aw C O x (q+AA (xs.take i)) m s
 | [],q=>by simp [CZ]
 | y::xs,q=>by
  simp only [CZ]
  rw [HH xs]
  constructor
  ·rintro ⟨h1,h2⟩ i x hx
   cases i with
   | zero=>cases hx; simpa [AA] using h1
   | succ i=>
    have:=h2 i x (by simpa using hx)
    simp only [List.take_succ_cons,AA]
    rw [<- Nat.add_assoc]; exact this
  ·intro h
   refine ⟨by simpa [AA] using h 0 y rfl,λi x hx=>?_⟩
   have:=h (i+1) x (by simpa using hx)
   simp only [List.take_succ_cons,AA] at this
   rw [<- Nat.add_assoc] at this; exact this
theorem HG {n m:Nat} {s:Int}:∀ (xs:List Hn),B1 n xs m s ↔ ∀ x∈xs,AO n x m s
 | []=>by simp [B1]
 | y::xs=>by
  simp only [B1]
  rw [HG xs]
  simp
theorem RU {C:Cs} {O O':Ae}:∀ (k:Nat),(∀ (x:Hn) (q m:Nat) (s:Int),AM x<=k->(∀ j,q<=j->j<q+AM x->O'[j]?=O[j]?)->Aw C O x q m s->Aw C O' x q m s)/\∀ (xs:List Hn) (q m:Nat) (s:Int),AA xs<=k->(∀ j,q<=j->j<q+AA xs->O'[j]?=O[j]?)->CZ C O xs q m s->CZ C O' xs q m s
 | 0=>by
  refine ⟨λx q m s h=>absurd h (by have:=GQ x; omega),λxs q m s h hj hN=>?_⟩
  cases xs with
  | nil=>simp [CZ]
  | cons x xs=>simp only [AA] at h; have:=GQ x; omega
 | k+1=>by
  obtain ⟨ih1,ih2⟩:=RU (C:=C) (O:=O) (O':=O') k
  have one:∀ (x:Hn) (q m:Nat) (s:Int),AM x<=k+1->(∀ j,q<=j->j<q+AM x->O'[j]?=O[j]?)->Aw C O x q m s->Aw C O' x q m s:=λx q m s h hj hN=>by
   cases x with
   | p v=>
    simp only [Aw,AM] at *
    rw [hj q (Nat.le_refl _) wF]; exact hN
   | t hs hd ch=>
    simp only [Aw,AM] at *
    have:=GQ hd
    refine ⟨by rw [hj q (Nat.le_refl _) wF]; exact hN.1,ih2 hs _ _ _ wF (λj h1 h2=>hj j wF wF) hN.2.1,ih1 hd _ _ _ wF (λj h1 h2=>hj j wF wF) hN.2.2⟩
  refine ⟨one,λxs q m s h hj hN=>?_⟩
  cases xs with
  | nil=>simp [CZ]
  | cons x xs=>
   simp only [CZ,AA] at *
   have:=GQ x
   exact ⟨one x _ _ _ wF (λj h1 h2=>hj j h1 wF) hN.1,ih2 xs _ _ _ wF (λj h1 h2=>hj j wF wF) hN.2⟩
theorem Aw.own {C:Cs} {O O':Ae} {x:Hn} {q m:Nat} {s:Int} (h:Aw C O x q m s) (hj:∀ j,q<=j->j<q+AM x->O'[j]?=O[j]?):Aw C O' x q m s:=(RU _).1 x q m s (Nat.le_refl _) hj h
mutual
def Bj (C:Cs):Hn->Nat->Nat->Int->Ae
 | .p v,_,m,s=>[some (C.o (m:Nat) s v)]
 | .t hs hd ch,q,m,s=>some (.ins C.t (BL (m:Nat) s (BM hs (q+1)) (q+1+AA hs) ch))::(Br C hs (q+1) m s++Bj C hd (q+1+AA hs) hs.length s)
def Br (C:Cs):List Hn->Nat->Nat->Int->Ae
 | [],_,_,_=>[]
 | x::xs,q,m,s=>Bj C x q m s++Br C xs (q+AM x) m s
end
mutual
theorem Hi (C:Cs):∀ (x:Hn) (q m:Nat) (s:Int),(Bj C x q m s).length=AM x
 | .p v,_,_,_=>by simp only [Bj,AM,List.length_cons,List.length_nil]
 | .t hs hd ch,q,m,s=>by simp only [Bj,AM,List.length_cons,List.length_append]; rw [Gi C hs,Hi C hd]; omega
theorem Gi (C:Cs):∀ (xs:List Hn) (q m:Nat) (s:Int),(Br C xs q m s).length=AA xs
 | [],_,_,_=>by simp only [Br,AA,List.length_nil]
 | x::xs,q,m,s=>by simp only [Br,AA,List.length_append]; rw [Hi C x,Gi C xs]
end
mutual
theorem Gk (C:Cs):∀ (x:Hn) (A B:Ae) (m:Nat) (s:Int),Aw C (A++Bj C x A.length m s++B) x A.length m s
 | .p v,A,B,m,s=>by simp only [Bj,Aw]; exact IT
 | .t hs hd ch,A,B,m,s=>by
  simp only [Bj,Aw]
  generalize hT:(some (MO.ins C.t (BL (m:Nat) s (BM hs (A.length+1)) (A.length+1+AA hs) ch)):Option MO)=T
  have e1:A++(T::(Br C hs (A.length+1) m s++Bj C hd (A.length+1+AA hs) hs.length s))++B=(A++[T])++Br C hs (A++[T]).length m s++(Bj C hd (A.length+1+AA hs) hs.length s++B):=by
   rw [show (A++[T]).length=A.length+1 by rw [List.length_append]; rfl]
   simp [List.append_assoc]
  have e2:A++(T::(Br C hs (A.length+1) m s++Bj C hd (A.length+1+AA hs) hs.length s))++B=(A++[T]++Br C hs (A.length+1) m s)++Bj C hd (A++[T]++Br C hs (A.length+1) m s).length hs.length s++B:=by
   rw [show (A++[T]++Br C hs (A.length+1) m s).length=A.length+1+AA hs by rw [List.length_append,List.length_append,Gi]; rfl]
   simp [List.append_assoc]
  refine ⟨?_,?_,?_⟩
  ·rw [List.append_assoc,List.getElem?_append_right (Nat.le_refl _),Nat.sub_self]
   rfl
  ·have:=Qp C hs (A++[T]) (Bj C hd (A.length+1+AA hs) hs.length s++B) m s
   rw [<- e1,show (A++[T]).length=A.length+1 by rw [List.length_append]; rfl] at this
   exact this
  ·have:=Gk C hd (A++[T]++Br C hs (A.length+1) m s) B hs.length s
   rw [<- e2,show (A++[T]++Br C hs (A.length+1) m s).length=A.length+1+AA hs by rw [List.length_append,List.length_append,Gi]; rfl] at this
   exact this
theorem Qp (C:Cs):∀ (xs:List Hn) (A B:Ae) (m:Nat) (s:Int),CZ C (A++Br C xs A.length m s++B) xs A.length m s
 | [],A,B,m,s=>by simp only [CZ]
 | x::xs,A,B,m,s=>by
  simp only [Br,CZ]
  have e1:A++(Bj C x A.length m s++Br C xs (A.length+AM x) m s)++B=A++Bj C x A.length m s++(Br C xs (A.length+AM x) m s++B):=by simp [List.append_assoc]
  have el:(A++Bj C x A.length m s).length=A.length+AM x:=by rw [List.length_append,Hi]
  refine ⟨by rw [e1]; exact Gk C x A _ m s,?_⟩
  have:=Qp C xs (A++Bj C x A.length m s) B m s
  rw [el] at this
  rw [e1,<- List.append_assoc]
  exact this
end
mutual
theorem AO.anew {n:Nat}:∀ (x:Hn) (m:Nat) (s:Int),AO n x m s->AO 0 (AZ x m) m s
 | .p v,m,s,h=>by simp only [AO,AZ] at *; exact B7.anew h
 | .t hs hd ch,m,s,h=>by
  simp only [AO,AZ,Gj,List.length_replicate] at *
  exact ⟨B1.anew hs m s h.1,AO.anew hd _ s h.2.1,h.2.2.1,trivial⟩
theorem B1.anew {n:Nat}:∀ (xs:List Hn) (m:Nat) (s:Int),B1 n xs m s->B1 0 (CI xs m) m s
 | [],_,_,_=>by simp only [CI,B1]
 | x::xs,m,s,h=>by
  simp only [B1,CI] at *
  exact ⟨AO.anew x m s h.1,B1.anew xs m s h.2⟩
end
mutual
theorem Ks {n:Nat}:∀ (x:Hn) (m:Nat) (s:Int) (said:List (Option Int)),AO n x m s->Bw (m:Nat) s said->0<=s->0<=Bz x m said/\Bz x m said<=s
 | .p v,m,s,said,h,hs,h0=>by simp only [AO,Bz] at *; exact U2 h hs h0
 | .t hs hd ch,m,s,said,h,hsd,h0=>by
  simp only [AO,Bz] at *
  exact Ks hd _ s _ h.2.1 (GX hs m s said h.1 hsd h0 h.2.2.1.2) h0
theorem GX {n:Nat}:∀ (xs:List Hn) (m:Nat) (s:Int) (said:List (Option Int)),B1 n xs m s->Bw (m:Nat) s said->0<=s->xs.length<=24->Bw ((xs.length:Nat):Int) s (Eg (B3 xs m said))
 | [],m,s,said,h,hs,h0,hl=>⟨rfl,by show (0:Int)<=24; decide,λw hw=>by cases hw⟩
 | x::xs,m,s,said,h,hs,h0,hl=>by
  simp only [B1] at h
  have hx:=Ks x m s said h.1 hs h0
  have ih:=GX xs m s said h.2 hs h0 (by rw [List.length_cons] at hl; omega)
  refine ⟨by unfold Eg; rw [List.length_map,IV],by rw [List.length_cons] at *; omega,λw hw=>?_⟩
  simp only [B3,Eg,List.map_cons] at hw
  rcases List.mem_cons.mp hw with rfl | hw
  ·right
   show (decide (0<=_)&&decide (_<=s))=true
   rw [decide_eq_true hx.1,decide_eq_true hx.2]; rfl
  ·exact ih.2.2 w hw
end
mutual
theorem AO.hear {n:Nat}:∀ (x:Hn) (m:Nat) (s:Int) (said:List (Option Int)) (so:Int),AO n x m s->Bw (m:Nat) s said->(0<=so/\so<=s)->AO (n+1) (Bu x m said so) m s
 | .p v,m,s,said,so,h,hs,hso=>by simp only [AO,Bu] at *; exact B7.hear h hs hso
 | .t hs hd ch,m,s,said,so,h,hsd,hso=>by
  simp only [AO,Bu,Mn] at *
  refine ⟨B1.hear hs m s said so h.1 hsd hso,AO.hear hd _ s _ so h.2.1 (GX hs m s said h.1 hsd wF h.2.2.1.2) hso,h.2.2.1,?_⟩
  rw [List.length_map,List.length_zip,IV,h.2.2.2]
  omega
theorem B1.hear {n:Nat}:∀ (xs:List Hn) (m:Nat) (s:Int) (said:List (Option Int)) (so:Int),B1 n xs m s->Bw (m:Nat) s said->(0<=so/\so<=s)->B1 (n+1) (Ct xs m said so) m s
 | [],_,_,_,_,_,_,_=>by simp only [Ct,B1]
 | x::xs,m,s,said,so,h,hsd,hso=>by
  simp only [B1,Ct] at *
  exact ⟨AO.hear x m s said so h.1 hsd hso,B1.hear xs m s said so h.2 hsd hso⟩
end
mutual
theorem Hz:∀ (x:Hn) (m:Nat),AU (AZ x m)=AU x
 | .p v,_=>by simp only [AZ,AU]
 | .t hs hd ch,m=>by simp only [AZ,AU]; rw [Rf hs,Hz hd]
theorem Rf:∀ (xs:List Hn) (m:Nat),Cv (CI xs m)=Cv xs
 | [],_=>by simp only [CI,Cv]
 | x::xs,m=>by simp only [CI,Cv]; rw [Hz x,Rf xs]
end
mutual
theorem Jo:∀ (x:Hn) (m:Nat) (said:List (Option Int)) (so:Int),AU (Bu x m said so)=AU x
 | .p v,_,_,_=>by simp only [Bu,AU]
 | .t hs hd ch,m,said,so=>by simp only [Bu,AU]; rw [Rc hs,Jo hd]
theorem Rc:∀ (xs:List Hn) (m:Nat) (said:List (Option Int)) (so:Int),Cv (Ct xs m said so)=Cv xs
 | [],_,_,_=>by simp only [Ct,Cv]
 | x::xs,m,said,so=>by simp only [Ct,Cv]; rw [Jo x,Rc xs]
end
theorem Q9:∀ (xs:List Hn) (x:Hn),x∈xs->AU x<=Cv xs
 | [],_,h=>by cases h
 | y::xs,x,h=>by
  simp only [Cv]
  rcases List.mem_cons.mp h with rfl | h
  ·exact Nat.le_max_left _ _
  ·exact Nat.le_trans (Q9 xs x h) (Nat.le_max_right _ _)
theorem Pm {m:Nat} {said:List (Option Int)}:∀ (xs:List Hn),B3 xs m said=xs.map λx=>Bz x m said
 | []=>rfl
 | x::xs=>by simp only [B3,List.map_cons]; rw [Pm xs]
theorem Hk {m:Nat} {said:List (Option Int)} {so:Int}:∀ (xs:List Hn),Ct xs m said so=xs.map λx=>Bu x m said so
 | []=>rfl
 | x::xs=>by simp only [Ct,List.map_cons]; rw [Hk xs]
theorem M9 {m:Nat}:∀ (xs:List Hn),CI xs m=xs.map λx=>AZ x m
 | []=>rfl
 | x::xs=>by simp only [CI,List.map_cons]; rw [M9 xs]
section
variable (m s:Int) (ps:List Nat) (h:Nat) (ch:List Int)
theorem JV:(BL m s ps h ch).lookup ("many" : Str)=some (.int m):=Bt
theorem JU:(BL m s ps h ch).lookup ("scale" : Str)=some (.int s):=by unfold BL; rw [Ap wD,Bt]
theorem S4:(BL m s ps h ch).lookup ("hands" : Str)=some (.tup (ps.map D.ptr)):=by unfold BL; rw [Ap wD,Ap wD,Bt]
theorem JW:(BL m s ps h ch).lookup ("head" : Str)=some (.ptr h):=by unfold BL; rw [Ap wD,Ap wD,Ap wD,Bt]
theorem S5:(BL m s ps h ch).lookup ("charged" : Str)=some (.tup (ch.map D.int)):=by unfold BL; rw [Ap wD,Ap wD,Ap wD,Ap wD,Bt]
theorem GI {f:Str} (hf:([("many" : Str),"scale","hands","head","charged"].all λg=>!(f==g))=true):(BL m s ps h ch).lookup f=none:=by
 simp only [List.all_cons,List.all_nil,Bool.and_true,Bool.and_eq_true,Bool.not_eq_true'] at hf
 obtain ⟨h1,h2,h3,h4,h5⟩:=hf
 unfold BL
 rw [Ap h1,Ap h2,Ap h3,Ap h4,Ap h5]
 rfl
end
def ER (C:Cs) (j:Nat):AS:=λds O R=>∃ (q n m:Nat) (s:Int) (hs:List Hn) (hd:Hn) (ch:List Int) (said:List (Option Int)),ds=[.ptr q,.tup (said.map od)]/\Aw C O (.t hs hd ch) q m s/\AO n (.t hs hd ch) m s/\AU (.t hs hd ch)<=j/\(1<=m/\m<=24)/\0<=s/\Bw (m:Nat) s said/\R (.tup ((B3 hs m said).map D.int)) O
def Dn (C:Cs) (j:Nat):AS:=λds O R=>∃ (q n m:Nat) (s:Int) (hs:List Hn) (hd:Hn) (ch:List Int) (said:List (Option Int)),ds=[.ptr q,.tup (said.map od)]/\Aw C O (.t hs hd ch) q m s/\AO n (.t hs hd ch) m s/\AU (.t hs hd ch)<=j/\(1<=m/\m<=24)/\0<=s/\Bw (m:Nat) s said/\R (.int (Bz (.t hs hd ch) m said)) O
def D3 (C:Cs) (j:Nat):AS:=λds O R=>∃ (q n m:Nat) (s so:Int) (hs:List Hn) (hd:Hn) (ch:List Int) (said:List (Option Int)),ds=[.ptr q,.tup (said.map od),.int so]/\Aw C O (.t hs hd ch) q m s/\AO n (.t hs hd ch) m s/\AU (.t hs hd ch)<=j/\n<=1000/\(1<=m/\m<=24)/\Bw (m:Nat) s said/\(0<=so/\so<=s) /\
 ∀ O',DF q (AM (.t hs hd ch)) O O'->Aw C O' (Bu (.t hs hd ch) m said so) q m s->R .non O'
def Ch (C:Cs) (O:Ae) (m:Nat) (s:Int) (j:Nat) (pv:List (Nat×Hn)):Prop:=∀ x∈pv,Aw C O x.2 x.1 m s/\(∃ n,AO n x.2 m s)/\AU x.2<j
def Of (C:Cs):AS:=λds O R=>∃ (j m:Nat) (s:Int) (pv:List (Nat×Hn)) (hp:Nat) (hd:Hn),ds=[.tup (pv.map λx=>.ptr x.1),.ptr hp]/\Ch C O m s j pv/\Ch C O pv.length s j [(hp,hd)]/\(1<=m/\m<=24)/\(1<=s/\s<=10)/\(1<=pv.length/\pv.length<=24)/\R .non O
def OO (C:Cs):AS:=λds O R=>∃ (j m:Nat) (s:Int) (pv:List (Nat×Hn)),ds=[.tup (pv.map λx=>.ptr x.1)]/\Ch C O m s j pv/\(1<=pv.length/\pv.length<=24)/\R (.bl true) O
def OA (C:Cs):AS:=λds O R=>∃ (j m:Nat) (s:Int) (pv:List (Nat×Hn)) (hp:Nat) (hd:Hn),ds=[.tup (pv.map λx=>.ptr x.1),.ptr hp]/\Ch C O m s j pv/\Ch C O pv.length s j [(hp,hd)]/\(1<=pv.length/\pv.length<=24)/\R (.bl true) O
def Hf (C:Cs) (hs:List Hn) (hd:Hn) (q m:Nat) (s:Int):Ae:=Bj C (AZ (.t hs hd []) m) q m s
def En (C:Cs) (j:Nat):AS:=λds O R=>∃ (q m:Nat) (s:Int) (pv:List (Nat×Hn)) (hp:Nat) (hd:Hn) (O0:Ae),ds=[.ptr q,.tup (pv.map λx=>.ptr x.1),.ptr hp]/\O=O0++[some (.ins C.t [])]/\q=O0.length/\Ch C O0 m s j pv/\Ch C O0 pv.length s j [(hp,hd)]/\(1<=m/\m<=24)/\(1<=s/\s<=10)/\(1<=pv.length/\pv.length<=24)/\R .non (O0++Hf C (pv.map (·.2)) hd q m s)
def D4 (C:Cs) (j:Nat):AS:=λds O R=>∃ (q n m:Nat) (s:Int) (hs:List Hn) (hd:Hn) (ch:List Int),ds=[.ptr q]/\Aw C O (.t hs hd ch) q m s/\AO n (.t hs hd ch) m s/\AU (.t hs hd ch)<=j/\(1<=m/\m<=24)/\(1<=s/\s<=10)/\R (.ptr O.length) (O++Hf C hs hd O.length m s)
theorem Aw.to {C:Cs} {O:Ae} {hs:List Hn} {hd:Hn} {ch:List Int} {q m:Nat} {s:Int} (h:Aw C O (.t hs hd ch) q m s):O[q]?=some (some (.ins C.t (BL (m:Nat) s (BM hs (q+1)) (q+1+AA hs) ch)))/\CZ C O hs (q+1) m s/\Aw C O hd (q+1+AA hs) hs.length s:=by simpa only [Aw] using h
theorem Aw.ti {C:Cs} {O:Ae} {hs:List Hn} {hd:Hn} {ch:List Int} {q m:Nat} {s:Int} (h:O[q]?=some (some (.ins C.t (BL (m:Nat) s (BM hs (q+1)) (q+1+AA hs) ch)))/\CZ C O hs (q+1) m s/\Aw C O hd (q+1+AA hs) hs.length s):Aw C O (.t hs hd ch) q m s:=by simpa only [Aw] using h
theorem Aw.pl {C:Cs} {O:Ae} {v:Hv} {q m:Nat} {s:Int} (h:Aw C O (.p v) q m s):O[q]?=some (some (C.o (m:Nat) s v)):=by simpa only [Aw] using h
theorem Aw.pi {C:Cs} {O:Ae} {v:Hv} {q m:Nat} {s:Int} (h:O[q]?=some (some (C.o (m:Nat) s v))):Aw C O (.p v) q m s:=by simpa only [Aw] using h
theorem AO.pl {n:Nat} {v:Hv} {m:Nat} {s:Int} (h:AO n (.p v) m s):B7 n m s v:=by simpa only [AO] using h
theorem AO.to {n:Nat} {hs:List Hn} {hd:Hn} {ch:List Int} {m:Nat} {s:Int} (h:AO n (.t hs hd ch) m s):B1 n hs m s/\AO n hd hs.length s/\(1<=hs.length/\hs.length<=24)/\ch.length=hs.length:=by simpa only [AO] using h
theorem Aw.app {C:Cs} {O Y:Ae} {x:Hn} {q m:Nat} {s:Int} (hq:q+AM x<=O.length) (h:Aw C O x q m s):Aw C (O++Y) x q m s:=h.own λj _ h2=>List.getElem?_append_left wF
section
variable {X:Cx} {ρ:Ai} {O:Ae} {C:Cs} {o e e2:Expr} {j q n m k1 k2 k3 k4 k5 k6:Nat} {s so:Int} {x:Hn} {said:List (Option Int)} {R:D->Ae->Prop} {pos apos:Pos}
theorem FJ {pl:Sem Bool} (M1:Al X.prog X.w X.K X.mg X.base C.h k1 "say" (Bp C.h C.w C.s C.r)) (M2:Al X.prog X.w X.K X.mg X.base C.w k1 "say" (Bp C.h C.w C.s C.r)) (M3:Al X.prog X.w X.K X.mg X.base C.s k1 "say" (Bp C.h C.w C.s C.r)) (M4:Al X.prog X.w X.K X.mg X.base C.r k1 "say" (Bp C.h C.w C.s C.r)) (r1:AL k1 X.A) (M6:Al X.prog X.w X.K X.mg X.base C.f k6 "say" (EO C.f)) (r6:AL k6 X.A) (M5:Al X.prog X.w X.K X.mg X.base C.t k5 "say" (Dn C j)) (r5:AL k5 X.A)
  (ho:Ad X ρ O o (.ptr q)) (hq:Aw C O x q m s) (hok:AO n x m s) (hj:AU x<=j) (hm:1<=m/\m<=24) (h0:0<=s) (hs:Bw (m:Nat) s said) (ha:BI X ρ O [e] [.tup (said.map od)])
  (hst:starEach [e] X.env=(false,eval e X.env)::starEach [] X.env:=by rfl) (hpl:(backTo pos (starEach [] X.env)).any (·.1)=false:=by rfl)
  (ht:eval (.Call (.Attribute o "say" apos) [e] [] pos) X.env=(do
   let ov <- eval o X.env
   standAt apos.atName
   let (f,first) <- holding [ov] (getMethod ov "say" pl)
   callWith pos f first (backTo pos (starEach [e] X.env)) (backToKw pos (keywordEach [] X.env))):=by rfl):Ad X ρ O (.Call (.Attribute o "say" apos) [e] [] pos) (.int (Bz x m said)):=by
 cases x with
 | p v=>rw [show Bz (.p v) m said=GY m said v by simp only [Bz]]; exact ZM M1 M2 M3 M4 r1 M6 r6 ho hq.pl hok.pl hm hs ha hst hpl ht
 | t ys hd ch=>exact Ev.evp (CQ M5 r5 ho hq.to.1 (GI _ _ _ _ _ wD) ha ⟨q,n,m,s,ys,hd,ch,said,rfl,hq,hok,hj,hm,h0,hs,rfl,rfl⟩ hst hpl ht)
theorem Jh {pl:Sem Bool} (M1:Al X.prog X.w X.K X.mg X.base C.h k1 "hear" (FX C.h)) (M2:Al X.prog X.w X.K X.mg X.base C.w k2 "hear" (Da C.w C.s false)) (M3:Al X.prog X.w X.K X.mg X.base C.s k3 "hear" (Da C.w C.s true)) (M4:Al X.prog X.w X.K X.mg X.base C.r k4 "hear" (FW C.r)) (r1:AL k1 X.A) (r2:AL (max k2 k3) X.A) (r3:AL k4 X.A) (M6:Al X.prog X.w X.K X.mg X.base C.f k6 "hear" (FY C.f)) (r6:AL k6 X.A) (M5:Al X.prog X.w X.K X.mg X.base C.t k5 "hear" (D3 C j)) (r5:AL k5 X.A)
  (ho:Ad X ρ O o (.ptr q)) (hq:Aw C O x q m s) (hok:AO n x m s) (hj:AU x<=j) (hn:n<=1000) (hm:1<=m/\m<=24) (hs:Bw (m:Nat) s said) (hso:0<=so/\so<=s) (ha:BI X ρ O [e,e2] [.tup (said.map od),.int so]) (hR:∀ O',DF q (AM x) O O'->Aw C O' (Bu x m said so) q m s->R .non O')
  (hst:starEach [e,e2] X.env=(false,eval e X.env)::starEach [e2] X.env:=by rfl) (hpl:(backTo pos (starEach [e2] X.env)).any (·.1)=false:=by rfl)
  (ht:eval (.Call (.Attribute o "hear" apos) [e,e2] [] pos) X.env=(do
   let ov <- eval o X.env
   standAt apos.atName
   let (f,first) <- holding [ov] (getMethod ov "hear" pl)
   callWith pos f first (backTo pos (starEach [e,e2] X.env)) (backToKw pos (keywordEach [] X.env))):=by rfl):Ev X ρ O (.Call (.Attribute o "hear" apos) [e,e2] [] pos) R:=by
 cases x with
 | p v=>
  have h1:AM (.p v)=1:=by simp only [AM]
  have h2:Bu (.p v) m said so=.p (Ja said so v):=by simp only [Bu]
  rw [h1,h2] at hR
  exact ZR M1 M2 M3 M4 r1 r2 r3 M6 r6 ho hq.pl hok.pl hn hm hs hso ha (hR _ ⟨List.length_set ..,λj hj=>List.getElem?_set_ne wF⟩ (Aw.pi (Cc hq.pl))) hst hpl ht
 | t ys hd ch=>exact CQ M5 r5 ho hq.to.1 (GI _ _ _ _ _ wD) ha ⟨q,n,m,s,so,ys,hd,ch,said,rfl,hq,hok,hj,hn,hm,hs,hso,hR⟩ hst hpl ht
theorem Ji {pl:Sem Bool} (M1:Al X.prog X.w X.K X.mg X.base C.h k1 "anew" (F1 C.h)) (M2:Al X.prog X.w X.K X.mg X.base C.w k2 "anew" (Db C.w C.s false)) (M3:Al X.prog X.w X.K X.mg X.base C.s k3 "anew" (Db C.w C.s true)) (M4:Al X.prog X.w X.K X.mg X.base C.r k4 "anew" (F0 C.r)) (r1:AL k1 X.A) (r2:AL (max k2 k3) X.A) (r3:AL k4 X.A) (M6:Al X.prog X.w X.K X.mg X.base C.f k6 "anew" (F2 C.f)) (r6:AL k6 X.A) (M5:Al X.prog X.w X.K X.mg X.base C.t k5 "anew" (D4 C j)) (r5:AL k5 X.A)
  (ho:Ad X ρ O o (.ptr q)) (hq:Aw C O x q m s) (hok:AO n x m s) (hj:AU x<=j) (hm:1<=m/\m<=24) (hs:1<=s/\s<=10) (hR:R (.ptr O.length) (O++Bj C (AZ x m) O.length m s))
  (ht:eval (.Call (.Attribute o "anew" apos) [] [] pos) X.env=(do
   let ov <- eval o X.env
   standAt apos.atName
   let (f,first) <- holding [ov] (getMethod ov "anew" pl)
   callWith pos f first (backTo pos (starEach [] X.env)) (backToKw pos (keywordEach [] X.env))):=by rfl):Ev X ρ O (.Call (.Attribute o "anew" apos) [] [] pos) R:=by
 cases x with
 | p v=>exact Z0 M1 M2 M3 M4 r1 r2 r3 M6 r6 ho hq.pl hok.pl hm hs (by simp only [AZ,Bj] at hR; exact hR) ht
 | t ys hd ch=>exact ED M5 r5 ho hq.to.1 (GI _ _ _ _ _ wD) ⟨q,n,m,s,ys,hd,ch,rfl,hq,hok,hj,hm,hs,by simpa only [Hf,AZ] using hR⟩ ht
theorem EE (c1:A4 X.K C.h) (c2:A4 X.K C.w) (c3:A4 X.K C.s) (c4:A4 X.K C.r) (n1:As X.K C.h "many") (n2:As X.K C.w "many") (n3:As X.K C.s "many") (n4:As X.K C.r "many") (c6:A4 X.K C.f) (n6:As X.K C.f "many") (c5:A4 X.K C.t) (n5:As X.K C.t "many") (ho:Ad X ρ O o (.ptr q)) (hq:Aw C O x q m s) (hok:AO n x m s) (hb:attributeBase o ("many" : Str) X.env (eval o X.env)=eval o X.env:=by rfl):Ad X ρ O (.Attribute o "many" pos) (.int (m:Nat)):=by
 cases x with
 | p v=>exact ZP c1 c2 c3 c4 n1 n2 n3 n4 c6 n6 ho hq.pl hok.pl hb
 | t ys hd ch=>exact Az ho hq.to.1 c5 n5 (JV _ _ _ _ _) hb
theorem EC (c1:A4 X.K C.h) (c2:A4 X.K C.w) (c3:A4 X.K C.s) (c4:A4 X.K C.r) (n1:As X.K C.h "scale") (n2:As X.K C.w "scale") (n3:As X.K C.s "scale") (n4:As X.K C.r "scale") (c6:A4 X.K C.f) (n6:As X.K C.f "scale") (c5:A4 X.K C.t) (n5:As X.K C.t "scale") (ho:Ad X ρ O o (.ptr q)) (hq:Aw C O x q m s) (hok:AO n x m s) (hb:attributeBase o ("scale" : Str) X.env (eval o X.env)=eval o X.env:=by rfl):Ad X ρ O (.Attribute o "scale" pos) (.int s):=by
 cases x with
 | p v=>exact ZL c1 c2 c3 c4 n1 n2 n3 n4 c6 n6 ho hq.pl hok.pl hb
 | t ys hd ch=>exact Az ho hq.to.1 c5 n5 (JU _ _ _ _ _) hb
theorem QY {k:Bool} {y:Str} {C2:Addr} {p p2:Pos} (hm:X.mg "isinstance" = none) (he:Ad X ρ O e (.ptr q)) (hq:Aw C O x q m s) (t1:Cl X.K C.h) (t2:Cl X.K C.w) (t3:Cl X.K C.s) (t4:Cl X.K C.r) (hx:X.mg y=some (.ref C2)) (k1:PySem.W.kitOne X.K (.ref C.h) (.ref C2)=some k) (k2:PySem.W.kitOne X.K (.ref C.w) (.ref C2)=some k) (k3:PySem.W.kitOne X.K (.ref C.s) (.ref C2)=some k) (k4:PySem.W.kitOne X.K (.ref C.r) (.ref C2)=some k) (t6:Cl X.K C.f) (k6':PySem.W.kitOne X.K (.ref C.f) (.ref C2)=some k) (t5:Cl X.K C.t) (k5':PySem.W.kitOne X.K (.ref C.t) (.ref C2)=some k)
  (hg:Gl X "isinstance" := by rfl) (hgx:Gl X y:=by rfl) (hdx:(y==("__debug__" : Str))=false:=by decide) (hs:starEach [e,.Name y p2] X.env=(false,eval e X.env)::starEach [.Name y p2] X.env:=by rfl) (hpl:(backTo pos (starEach [.Name y p2] X.env)).any (·.1)=false:=by rfl) :
  Ad X ρ O (.Call (.Name "isinstance" p) [e,.Name y p2] [] pos) (.bl k):=by
 cases x with
 | p v=>exact ZQ hm he hq.pl t1 t2 t3 t4 hx k1 k2 k3 k4 t6 k6' hg hgx hdx hs hpl
 | t ys hd ch=>exact Go hm he hq.to.1 t5 hx k5' hg hgx hdx hs hpl
end
theorem Aw.le {C:Cs} {O:Ae}:∀ (x:Hn) (q m:Nat) (s:Int),Aw C O x q m s->q+AM x<=O.length
 | .p v,q,m,s,h=>by have:=(List.getElem?_eq_some_iff.mp h.pl).1; simp only [AM]; omega
 | .t hs hd ch,q,m,s,h=>by have:=Aw.le hd _ _ _ h.to.2.2; simp only [AM]; omega
theorem Aw.ap {C:Cs} {O Y:Ae} {x:Hn} {q m:Nat} {s:Int} (h:Aw C O x q m s):Aw C (O++Y) x q m s:=h.app (Aw.le _ _ _ _ h)
theorem Ch.app {C:Cs} {O Y:Ae} {m j:Nat} {s:Int} {pv:List (Nat×Hn)} (h:Ch C O m s j pv):Ch C (O++Y) m s j pv:=λx hx=>⟨(h x hx).1.ap,(h x hx).2⟩
theorem Im:∀ (xs ys:List Hn),AA (xs++ys)=AA xs+AA ys
 | [],ys=>by simp only [List.nil_append,AA,Nat.zero_add]
 | x::xs,ys=>by simp only [List.cons_append,AA]; rw [Im xs,Nat.add_assoc]
theorem Il {xs:List Hn} {i:Nat} {x:Hn} (h:xs[i]?=some x):AA (xs.take (i+1))=AA (xs.take i)+AM x:=by
 rw [List.take_succ,h,Im]
 simp only [Option.toList,AA,Nat.add_zero]
theorem OW (xs:List Hn) {i k:Nat} (h:i<=k):AA (xs.take i)<=AA (xs.take k):=by
 have e:xs.take k=xs.take i++(xs.take k).drop i:=by
  have:=List.take_append_drop i (xs.take k)
  rw [List.take_take,Nat.min_eq_left h] at this
  exact this.symm
 rw [e,Im]
 omega
theorem O5 (xs:List Hn) (i:Nat):AA (xs.take i)<=AA xs:=by
 have e:=congrArg AA (List.take_append_drop i xs)
 rw [Im] at e
 omega
theorem P2 (xs:List Hn) (q:Nat):BM xs q=(List.range xs.length).map λi=>q+AA (xs.take i):=by
 refine List.ext_getElem? λi=>?_
 rw [List.getElem?_map]
 by_cases hi:i<xs.length
 ·rw [P5 xs q i hi,List.getElem?_range hi]; rfl
 ·rw [List.getElem?_eq_none (by rw [P3]; omega),List.getElem?_eq_none (by rw [List.length_range]; omega)]; rfl
theorem JX (m s:Int) (xs:List Hn) (q h:Nat) (ch:List Int):(BL m s (BM xs q) h ch).lookup ("hands" : Str)=some (.tup ((List.range xs.length).map λi=>.ptr (q+AA (xs.take i)))):=by
 rw [S4,P2,List.map_map]; rfl
theorem Qq (C:Cs):∀ (xs ys:List Hn) (q m:Nat) (s:Int),Br C (xs++ys) q m s=Br C xs q m s++Br C ys (q+AA xs) m s
 | [],ys,q,m,s=>by simp only [List.nil_append,Br,AA,Nat.add_zero]
 | x::xs,ys,q,m,s=>by simp only [List.cons_append,Br,AA]; rw [Qq C xs,List.append_assoc,Nat.add_assoc]
theorem YC (C:Cs) {xs:List Hn} {i:Nat} {x:Hn} (h:xs[i]?=some x) (q m:Nat) (s:Int):Br C (xs.take (i+1)) q m s=Br C (xs.take i) q m s++Bj C x (q+AA (xs.take i)) m s:=by
 rw [List.take_succ,h,Qq]
 simp only [Option.toList,Br,List.append_nil]
theorem VM (m s:Int) (ps:List Nat) (h:Nat) (ch:List Int):A6 "charged" (.tup (ch.map D.int)) (JZ m s (.tup (ps.map D.ptr)) (.ptr h))=BL m s ps h ch:=by
 unfold JZ
 rw [AG wD,AG wD,AG wD,AG wD]
 rfl
theorem S3 (m s:Int) (ps:List Nat) (h:Nat) (ch cs:List Int):A6 "charged" (.tup (cs.map D.int)) (BL m s ps h ch)=BL m s ps h cs:=by
 unfold BL
 rw [AG wD,AG wD,AG wD,AG wD,ET]
theorem OM {C:Cs} {ds:List D} {O:Ae} {R:D->Ae->Prop} (h:ER C 0 ds O R):False:=by
 obtain ⟨_,_,_,_,_,_,_,_,_,_,_,h,_⟩:=h
 simp only [AU] at h; omega
theorem Oo {C:Cs} {ds:List D} {O:Ae} {R:D->Ae->Prop} (h:Dn C 0 ds O R):False:=by
 obtain ⟨_,_,_,_,_,_,_,_,_,_,_,h,_⟩:=h
 simp only [AU] at h; omega
theorem OE {C:Cs} {ds:List D} {O:Ae} {R:D->Ae->Prop} (h:D3 C 0 ds O R):False:=by
 obtain ⟨_,_,_,_,_,_,_,_,_,_,_,_,h,_⟩:=h
 simp only [AU] at h; omega
theorem OB {C:Cs} {ds:List D} {O:Ae} {R:D->Ae->Prop} (h:En C 0 ds O R):False:=by
 obtain ⟨_,_,_,_,_,_,_,_,_,_,_,h,_⟩:=h
 have:=(h _ (List.mem_singleton.mpr rfl)).2.2
 omega
theorem ON {C:Cs} {ds:List D} {O:Ae} {R:D->Ae->Prop} (h:D4 C 0 ds O R):False:=by
 obtain ⟨_,_,_,_,_,_,_,_,_,_,h,_⟩:=h
 simp only [AU] at h; omega
theorem Gs {hs:List Hn} {hd:Hn} {ch:List Int} {j:Nat} (h:AU (.t hs hd ch)<=j+1):(∀ x∈hs,AU x<=j)/\AU hd<=j:=by
 simp only [AU] at h
 have h1:=Nat.le_max_left (Cv hs) (AU hd)
 have h2:=Nat.le_max_right (Cv hs) (AU hd)
 exact ⟨λx hx=>by have:=Q9 hs x hx; omega,by omega⟩
theorem DF.rf (q k:Nat) (O:Ae):DF q k O O:=⟨rfl,λ_ _=>rfl⟩
theorem DF.in {q k q2 k2:Nat} {O O' O2:Ae} (h:DF q k O O') (h2:DF q2 k2 O' O2) (h3:q<=q2) (h4:q2+k2<=q+k):DF q k O O2:=⟨h2.l.trans h.l,λj hj=>(h2.o j wF).trans (h.o j hj)⟩
def Bg (z:Nat×Hn):D:=.ptr z.1
structure Kp (b:Nat) (O O':Ae):Prop where
 l:O.length<=O'.length
 o:∀ i,i<b->O'[i]?=O[i]?
theorem Kp.tr {l:Nat} {O O1 O2:Ae} (h:Kp l O O1) (g:Kp l O1 O2):Kp l O O2:=⟨Nat.le_trans h.l g.l,λi hi=>(g.o i hi).trans (h.o i hi)⟩
theorem Kp.app {l:Nat} {O:Ae} (Y:Ae) (h:l<=O.length):Kp l O (O++Y):=⟨by rw [List.length_append]; omega,λi hi=>List.getElem?_append_left wF⟩
theorem Kp.bl {l q k:Nat} {O O':Ae} (h:DF q k O O') (hq:l<=q):Kp l O O':=⟨Nat.le_of_eq h.l.symm,λi hi=>h.o i (.inl wF)⟩
theorem Kp.up {O O':Ae} (h:Kp O.length O O'):∃ Y,O'=O++Y:=by
 refine ⟨O'.drop O.length,List.ext_getElem? λj=>?_⟩
 have:=h.l
 by_cases hj:j<O.length
 ·rw [h.o j hj,List.getElem?_append_left hj]
 ·rw [List.getElem?_append_right wF,List.getElem?_drop,show O.length+(j-O.length)=j by omega]
def DS (m:Nat) (x:Hn) (ts:List Tn) (i:Nat):Hn:=(ts.take i).foldl (λy t=>Bu y m t.1 t.2) (AZ x m)
theorem Jj {m:Nat} {x:Hn} {ts:List Tn} {i:Nat} {t:Tn} (h:ts[i]?=some t):DS m x ts (i+1)=Bu (DS m x ts i) m t.1 t.2:=by
 unfold DS
 rw [List.take_add_one,h,List.foldl_append]
 rfl
theorem OY {m:Nat} {x:Hn} {ts:List Tn}:∀ i,i<=ts.length->AM (DS m x ts i)=AM x
 | 0,_=>F4 x m
 | i+1,h=>by rw [Jj (List.getElem?_eq_getElem (show i<ts.length by omega)),Fw]; exact OY i wF
theorem Re {m:Nat} {x:Hn} {ts:List Tn}:∀ i,i<=ts.length->AU (DS m x ts i)=AU x
 | 0,_=>Hz x m
 | i+1,h=>by rw [Jj (List.getElem?_eq_getElem (show i<ts.length by omega)),Jo]; exact Re i wF
theorem MI {n m:Nat} {s:Int} {x:Hn} {ts:List Tn} (hx:AO n x m s) (hm:m<=24) (ht:∀ t∈ts,DZ m s t):∀ i,i<=ts.length->AO i (DS m x ts i) m s
 | 0,_=>AO.anew x m s hx
 | i+1,h=>by
  have hq:ts[i]?=some ts[i]:=List.getElem?_eq_getElem wF
  have hok:=ht _ (List.getElem_mem (show i<ts.length by omega))
  rw [Jj hq]
  exact AO.hear _ _ _ _ _ (MI hx hm ht i wF) (hok.said hm) hok.2.2
def CA (m:Nat) (x:Hn) (ts:List Tn) (k:Nat):Int:=Bz (DS m x ts k) m (JY ts k).1
def sd (m:Nat) (s:Int):List (Option Int):=(List.range m).map λk=>some (if k%2=0 then 0 else s)
theorem Uc (m:Nat) (s:Int):(sd m s).length=m:=by unfold sd; rw [List.length_map,List.length_range]
theorem O8 {m:Nat} {s:Int} (hs:0<=s) (hm:m<=24):Bw (m:Nat) s (sd m s):=by
 refine ⟨by rw [Uc],by omega,λw hw=>?_⟩
 obtain ⟨k,_,rfl⟩:=List.mem_map.mp hw
 right
 show (decide (0<=if k%2=0 then 0 else s)&&decide ((if k%2=0 then 0 else s)<=s))=true
 split
 ·rw [decide_eq_true (Int.le_refl _),decide_eq_true hs]; rfl
 ·rw [decide_eq_true hs,decide_eq_true (Int.le_refl _)]; rfl
def D5 (m:Nat) (s:Int) (y:Hn):Int:=if Bz y m (sd m s)=0 then s else 0
def Du (m:Nat) (s:Int):Nat->Hn->Hn
 | 0,y=>y
 | n+1,y=>Bu (Du m s n y) m (sd m s) (D5 m s (Du m s n y))
def D2 (m:Nat) (s:Int) (n:Nat) (y:Hn):List Tn:=(List.range n).map λk=>(sd m s,D5 m s (Du m s k y))
theorem S1 (m:Nat) (s:Int) (n:Nat) (y:Hn):D2 m s (n+1) y=D2 m s n y++[(sd m s,D5 m s (Du m s n y))]:=by unfold D2; rw [List.range_succ,List.map_append]; rfl
theorem S2 (m:Nat) (s:Int) (n:Nat) (y:Hn):(D2 m s n y).length=n:=by unfold D2; rw [List.length_map,List.length_range]
theorem OQ {m:Nat} {s:Int} {y:Hn} (hs:0<=s):0<=D5 m s y/\D5 m s y<=s:=by
 unfold D5
 split
 ·exact ⟨hs,Int.le_refl _⟩
 ·exact ⟨Int.le_refl _,hs⟩
theorem Qy {m:Nat} {s:Int} {y:Hn} (h:AO 0 y m s) (hs:0<=s) (hm:m<=24):∀ n,AO n (Du m s n y) m s
 | 0=>h
 | n+1=>AO.hear _ _ _ _ _ (Qy h hs hm n) (O8 hs hm) (OQ hs)
theorem OX (m:Nat) (s:Int) (y:Hn):∀ n,AM (Du m s n y)=AM y
 | 0=>rfl
 | n+1=>by show AM (Bu _ _ _ _)=_; rw [Fw]; exact OX m s y n
theorem Rb (m:Nat) (s:Int) (y:Hn):∀ n,AU (Du m s n y)=AU y
 | 0=>rfl
 | n+1=>by show AU (Bu _ _ _ _)=_; rw [Jo]; exact Rb m s y n
def Ou:List D->D->Prop:=λds d=>∃ (m:Nat) (s:Int),ds=[.int (m:Nat),.int s]/\m<=24/\d=.tup ((sd m s).map od)
theorem JR {O O' Z:Ae} (h:∃ Y,O'=O++Y):∃ Y,O'++Z=O++Y:=by
 obtain ⟨Y,rfl⟩:=h
 exact ⟨_,List.append_assoc ..⟩
def Ol:List D->D->Prop:=λds d=>∃ c k:Int,ds=[.int c,.int k]/\(0<=k/\k<=1000)/\d=.int (GS c k)
def EL (s:Int) (sl:Bool) (x:Int):Option Int:=if (sl&&decide (x%4=0))=true then none else some (if x/4%3=0 then (if x/12%2=0 then 0 else s) else x/12%(s+1))
def CO (s:Int) (sl:Bool):Nat->Nat->Int->List (Option Int)
 | 0,_,_=>[]
 | n+1,k,x=>EL s sl (BO (x+(k:Int)))::CO s sl n (k+1) (BO (x+(k:Int)))
theorem LM (s:Int) (sl:Bool):∀ (n k:Nat) (x:Int),(CO s sl n k x).length=n
 | 0,_,_=>rfl
 | n+1,k,x=>by unfold CO; rw [List.length_cons,LM s sl n]
theorem Sy {s:Int} {sl:Bool} (hs:1<=s) (x:Int):EL s sl x=none\/Ds s (EL s sl x)=true:=by
 unfold EL
 split
 ·exact .inl rfl
 ·right
  show (decide (0<=_)&&decide (_<=s))=true
  rw [Bool.and_eq_true,decide_eq_true_eq,decide_eq_true_eq]
  have h1:=Int.emod_nonneg (x/12) (show s+1≠0 by omega)
  have h2:=Int.emod_lt_of_pos (x/12) (show 0<s+1 by omega)
  split
  ·split <;> omega
  ·omega
theorem LL {s:Int} {sl:Bool} (hs:1<=s):∀ (n k:Nat) (x:Int),∀ w∈CO s sl n k x,w=none\/Ds s w=true
 | 0,_,_,w,h=>by cases h
 | n+1,k,x,w,h=>by
  unfold CO at h
  rcases List.mem_cons.mp h with rfl | h
  ·exact Sy hs _
  ·exact LL hs n _ _ w h
def Op:List D->D->Prop:=λds d=>∃ (x:Int) (m:Nat) (s:Int) (sl:Bool),ds=[.int x,.int (m:Nat),.int s,.bl sl]/\Lo x/\m<=24/\1<=s/\d=.tup ((CO s sl m 0 x).map od)
def F3 (said:List (Option Int)):List Int:=said.filterMap id
theorem Kj:∀ said:List (Option Int),(said.filterMap λw=>if (!DQ (od w))=true then some (od w) else none)=(F3 said).map D.int
 | []=>rfl
 | none::l=>Kj l
 | some i::l=>congrArg (D.int i::·) (Kj l)
theorem TU {said:List (Option Int)} {i:Int} (h:i∈F3 said):some i∈said:=by
 obtain ⟨a,ha,e⟩:=List.mem_filterMap.mp h
 cases e
 exact ha
theorem TV (said:List (Option Int)):(F3 said).length<=said.length:=List.length_filterMap_le _ _
def GP (s y:Int) (som:List Int):Int:=if (decide (y%4<2)&&!decide (som=[]))=true then som.getD (y/8%(som.length:Nat)).toNat 0 else y/8%(s+1)
def FU (m:Nat) (s:Int) (sl:Bool) (x:Int):Tn:=(CO s sl m 0 x,GP s (BO (x+7)) (F3 (CO s sl m 0 x)))
theorem OP {som:List Int} (y:Int) (h:som≠[]):0<=y/8%(som.length:Nat)/\(y/8%(som.length:Nat)).toNat<som.length:=by
 have h0:=List.length_pos_iff.mpr h
 have h1:=Int.emod_nonneg (y/8) (show ((som.length:Nat):Int)≠0 by omega)
 have h2:=Int.emod_lt_of_pos (y/8) (show (0:Int)<(som.length:Nat) by omega)
 omega
theorem WE {s x:Int} (h:Ds s (some x)=true):0<=x/\x<=s:=by
 have h:(decide (0<=x)&&decide (x<=s))=true:=h
 rw [Bool.and_eq_true] at h
 exact ⟨of_decide_eq_true h.1,of_decide_eq_true h.2⟩
theorem TW {s y:Int} {som:List Int} (hs:1<=s) (h:∀ i∈som,0<=i/\i<=s):0<=GP s y som/\GP s y som<=s:=by
 unfold GP
 split
 ·rename_i hk
  rw [Bool.and_eq_true,Bool.not_eq_true',decide_eq_false_iff_not] at hk
  rw [List.getD_eq_getElem?_getD,List.getElem?_eq_getElem (OP y hk.2).2]
  exact h _ (List.getElem_mem _)
 ·have h1:=Int.emod_nonneg (y/8) (show s+1≠0 by omega)
  have h2:=Int.emod_lt_of_pos (y/8) (show 0<s+1 by omega)
  omega
theorem SW {m:Nat} {s:Int} {sl:Bool} (hs:1<=s) (x:Int):DZ m s (FU m s sl x):=by
 have h:=TW (y:=BO (x+7)) (som:=F3 (CO s sl m 0 x)) hs λi hi=>WE ((LL hs _ _ _ _ (TU hi)).resolve_left (λh=>by cases h))
 exact ⟨LM _ _ _ _ _,LL hs _ _ _,h.1,h.2⟩
def Od:List D->D->Prop:=λds d=>∃ (x:Int) (m:Nat) (s:Int) (sl:Bool),ds=[.int x,.int (m:Nat),.int s,.bl sl]/\Lo x/\m<=24/\1<=s/\d=tD (FU m s sl x)
def PB:List D->Prop:=λds=>∃ c:Int,ds=[.int c]
def Pq:List D->D->Prop:=λ_ d=>∃ m:Nat,d=.int (m:Nat)/\1<=m/\m<=24
inductive Ov where
 | n | i (v:Int) | b (t:Bool) | s (x:Str) | t (xs:List D) | l (xs:List D)
def ov:Ov->D
 | .n=>.non | .i v=>.int v | .b t=>.bl t | .s x=>.str x | .t xs=>.tup xs | .l xs=>.lst xs
def Mu:Ov->Bool
 | .i _=>true
 | _=>false
def Dd (s:Int):Ov->Bool
 | .i v=>decide (0<=v)&&decide (v<=s)
 | _=>false
def DO (s:Int) (w:Ov):Bool:=DQ (ov w)||Dd s w
inductive Sv where
 | t (xs:List Ov) | o (v:Ov)
def sv:Sv->D
 | .t xs=>.tup (xs.map ov)
 | .o v=>ov v
def Mv:Ov->Bool
 | .t _=>true
 | _=>false
def Nf:Sv->Prop
 | .t xs=>xs.length<=100
 | .o v=>Mv v=false
def Dc (m s:Int):Sv->Bool
 | .t xs=>decide ((xs.length:Int)=m)&&xs.all (DO s)
 | .o _=>false
theorem Ya {b:Bool} (h:(!b)=true):b=false:=by cases b <;> first | rfl | cases h
theorem Yb {b:Bool} (h:(!b)=false):b=true:=by cases b <;> first | rfl | cases h
theorem Hc (v:Ov):Hd (ov v)=true:=by cases v <;> rfl
def Kb:List D->D->Prop:=λds d=>∃ v:Ov,ds=[ov v]/\d=.bl (Mu v)
def Ka:List D->D->Prop:=λds d=>∃ (s:Int) (v:Ov),ds=[.int s,ov v]/\d=.bl (Dd s v)
def Kd:List D->D->Prop:=λds d=>∃ (m s:Int) (x:Sv),ds=[.int m,.int s,sv x]/\Nf x/\d=.bl (Dc m s x)
theorem Kt {m s:Int} {xs:List Ov} (h:¬ (xs.length:Int)=m):Dc m s (.t xs)=false:=by
 show (decide ((xs.length:Int)=m)&&_)=false
 rw [decide_eq_false h]; rfl
theorem U3 {m s:Int} {a b:List Ov} {w:Ov} (h:DO s w=false):Dc m s (.t (a++[w]++b))=false:=by
 show (decide _&&(a++[w]++b).all (DO s))=false
 rw [List.all_append,List.all_append,List.all_cons,h]
 simp
def A9:Option Int->Ov
 | none=>.n
 | some i=>.i i
theorem Wm (w:Option Int):ov (A9 w)=od w:=by cases w <;> rfl
theorem IJ (l:List (Option Int)):(l.map A9).map ov=l.map od:=by rw [List.map_map]; exact List.map_congr_left λw _=>Wm w
inductive Tv where
 | two (x:Sv) (y:Ov) | o (v:Ov) | many (xs:List D)
def tv:Tv->D
 | .two x y=>.tup [sv x,ov y]
 | .o v=>ov v
 | .many xs=>.tup xs
def Fa:Tv->Prop
 | .two x _=>Nf x
 | .o v=>Mv v=false
 | .many xs=>¬ (xs.length:Int)=2
def D1 (m s:Int):Tv->Bool
 | .two x y=>Dc m s x&&Dd s y
 | _=>false
def C9 (t:Tn):Tv:=.two (.t (t.1.map A9)) (.i t.2)
theorem JT (t:Tn):tv (C9 t)=tD t:=by
 show D.tup [.tup ((t.1.map A9).map ov),.int t.2]=_
 rw [IJ]; rfl
theorem JS (ts:List Tn):(ts.map C9).map tv=ts.map tD:=by rw [List.map_map]; exact List.map_congr_left λt _=>JT t
def Kc:List D->D->Prop:=λds d=>∃ (m s:Int) (x:Tv),ds=[.int m,.int s,tv x]/\Fa x/\d=.bl (D1 m s x)
def JF (m s:Int) (ts:List Tv) (i:Nat):Prop:=(∃ t,ts[i]?=some t/\D1 m s t=false)/\∀ j t',j<i->ts[j]?=some t'->D1 m s t'=true
inductive Av where
 | ts (l:List Tv) | o (v:Ov)
def av:Av->D
 | .ts l=>.tup (l.map tv)
 | .o v=>ov v
def AvOk:Av->Prop
 | .ts l=>∀ t∈l,Fa t
 | .o v=>Mv v=false
def HN (m s:Int):Av->Nat->Prop
 | .ts l,i=>JF m s l i
 | .o _,i=>i=0
def Nu (m s:Int):Av->Prop
 | .ts l=>∀ t∈l,D1 m s t=true
 | .o _=>False
def J6 (C:Addr):Fc:=λds O R RX=>∃ (m s:Int) (a:Av),ds=[.int m,.int s,av a]/\AvOk a/\(Nu m s a->R .non O)/\∀ i,HN m s a i->RX C [("number",.int (i:Nat))] O
theorem Fs (l:List (Option Int)):sv (.t (l.map A9))=.tup (l.map od):=congrArg D.tup (IJ l)
theorem WD (s:Int) (w:Option Int):Dd s (A9 w)=Ds s w:=by cases w <;> rfl
theorem Ku {m s:Int} {said:List (Option Int)} (h:Bw m s said):Dc m s (.t (said.map A9))=true:=by
 obtain ⟨h1,_,h3⟩:=h
 show (decide (((said.map A9).length:Int)=m)&&(said.map A9).all (DO s))=true
 rw [decide_eq_true (by rw [List.length_map]; exact h1),List.all_map]
 show (true&&said.all _)=true
 rw [List.all_eq_true.mpr λw hw=>?_]
 ·rfl
 ·show (DQ (ov (A9 w))||Dd s (A9 w))=true
  rcases h3 w hw with rfl | h
  ·rfl
  ·rw [WD,h,Bool.or_true]
theorem Kk {m s:Int} {said:List (Option Int)} (h:Bw m s said):Nf (.t (said.map A9)):=by
 have h1:=h.1; have h2:=h.2.1
 show (said.map A9).length<=100
 rw [List.length_map]
 omega
theorem PU {s so:Int} (h:0<=so/\so<=s):Dd s (.i so)=true:=by
 show (decide (0<=so)&&decide (so<=s))=true
 rw [decide_eq_true h.1,decide_eq_true h.2]; rfl
theorem HW {m:Nat} {s:Int} {t:Tn} (hm:m<=24) (h:DZ m s t):D1 (m:Nat) s (C9 t)=true/\Fa (C9 t):=by
 have hs:=h.said hm
 refine ⟨?_,Kk hs⟩
 show (Dc _ _ _&&Dd s (.i t.2))=true
 rw [Ku hs,PU h.2.2]; rfl
theorem Q0N {m s:Int} {a:Av} {i j:Nat} (h1:HN m s a i) (h2:HN m s a j):i=j:=by
 cases a with
 | o v=>exact Eq.trans h1 (Eq.symm h2)
 | ts l=>
  obtain ⟨⟨t1,a1,a2⟩,a3⟩:=h1
  obtain ⟨⟨t2,b1,b2⟩,b3⟩:=h2
  rcases Nat.lt_trichotomy i j with h | h | h
  ·rw [b3 i t1 h a1] at a2; cases a2
  ·exact h
  ·rw [a3 j t2 h b1] at b2; cases b2
theorem QD {m s:Int} {a:Av} {i:Nat} (h1:HN m s a i) (h2:Nu m s a):False:=by
 cases a with
 | o v=>exact h2
 | ts l=>
  obtain ⟨⟨t1,a1,a2⟩,_⟩:=h1
  rw [h2 t1 (List.mem_of_getElem? a1)] at a2; cases a2
def RW (so:Int) (x:Hn):Prop:=(so=1->∃ p ws u,x=.p (.v false p ws u))/\(so=2->∃ ps sc,x=.p (.f ps sc))/\(so=3->∃ ins ov,x=.p (.r ins ov))/\(so=4->∃ p ws u,x=.p (.v true p ws u))
theorem YH {so:Int} {x:Hn} (h:so=0\/5<=so):RW so x:=⟨λe=>by omega,λe=>by omega,λe=>by omega,λe=>by omega⟩
def Ig (C:Cs):AS:=λds O R=>∃ (m:Nat) (so s x:Int),ds=[.int so,.int (m:Nat),.int s,.int x]/\(0<=so/\so<=4)/\Lo x/\(1<=m/\m<=24)/\(1<=s/\s<=10)/\∀ v,B7 0 m s v->RW so (.p v)->R (.ptr O.length) (O++[some (C.o (m:Nat) s v)])
def GK (C:Cs) (j:Nat):AS:=λds O R=>∃ (m:Nat) (s x:Int),ds=[.int (m:Nat),.int s,.int x,.int (j:Nat)]/\Lo x/\(1<=m/\m<=24)/\(1<=s/\s<=10)/\∀ (O':Ae) (q:Nat) (y:Hn),(∃ Y,O'=O++Y)->O.length<=q->Aw C O' y q m s->AO 0 y m s->AU y<=j+1->R (.ptr q) O'
theorem Ch.up {C:Cs} {O:Ae} {m j j':Nat} {s:Int} {pv:List (Nat×Hn)} (h:Ch C O m s j pv) (hj:j<=j'):Ch C O m s j' pv:=λz hz=>⟨(h z hz).1,(h z hz).2.1,Nat.lt_of_lt_of_le (h z hz).2.2 hj⟩
theorem Q0g {zs:List Hn} {hz:Hn} {ch:List Int} {j:Nat} (h1:∀ y∈zs,AU y<=j) (h2:AU hz<=j):AU (.t zs hz ch)<=j+1:=by
 simp only [AU]
 have:Cv zs<=j:=by
  clear h2
  induction zs with
  | nil=>simp only [Cv]; omega
  | cons y zs ih=>simp only [Cv]; exact Nat.max_le.mpr ⟨h1 y List.mem_cons_self,ih λz hz=>h1 z (List.mem_cons_of_mem _ hz)⟩
 have:=Nat.max_le.mpr ⟨this,h2⟩
 omega
theorem NW {C:Cs} {O:Ae} {m r:Nat} {s:Int} {pv:List (Nat×Hn)} {v:Hv} {j:Nat} (h:Ch C O m s (j+1) pv) (hv:B7 r pv.length s v) (hl:1<=pv.length/\pv.length<=24):AO 0 (AZ (.t (pv.map (·.2)) (.p v) []) m) m s/\AU (AZ (.t (pv.map (·.2)) (.p v) []) m)<=j+1:=by
 refine ⟨?_,?_⟩
 ·simp only [AZ,AO]
  refine ⟨(HG _).mpr λy hy=>?_,?_,by rw [Gj,List.length_map]; exact hl,by rw [List.length_replicate,Gj]⟩
  ·rw [M9,List.map_map] at hy
   obtain ⟨z,hz,rfl⟩:=List.mem_map.mp hy
   exact AO.anew _ _ _ (h z hz).2.1.choose_spec
  ·rw [Gj,List.length_map]; exact hv.anew
 ·rw [Hz]
  refine Q0g (λy hy=>?_) (by simp only [AU]; omega)
  obtain ⟨z,hz,rfl⟩:=List.mem_map.mp hy
  exact Nat.le_of_lt_succ (h z hz).2.2
theorem NR {a b i:Int} (h:i=0\/i=1):Bv [D.int a,D.int b] i=some (.int (if i=0 then a else b)):=by
 rcases h with rfl | rfl <;> rfl
def HM (m s:Int) (x:Tv):Prop:=Fa x/\D1 m s x=false
theorem MT {xs ys:List D} (h1:xs.length<=100) (h2:ys.length<=100):xs.length+ys.length<=sizeLine:=by rw [sizeLine_eq]; omega
theorem MK {said:List (Option Int)} (h:said.length<=24) (a b:Option Int):((C6 said a b).map od).length<=24:=by rw [List.length_map]; exact Nat.le_trans (HA _ _ _) h
def GG (said:List (Option Int)) (so j:Int):Tv:=if j%3=0 then .many [.tup (said.map od)] else if j%3=1 then .o (.l [.tup (said.map od),.int so]) else .two (.o (.l (said.map od))) (.i so)
theorem SE (said:List (Option Int)) (so j:Int):Bv [D.tup [.tup (said.map od)],.lst [.tup (said.map od),.int so],.tup [.lst (said.map od),.int so]] (j%3)=some (tv (GG said so j)):=by
 unfold GG
 have h:j%3=0\/j%3=1\/j%3=2:=by omega
 rcases h with h | h | h <;> rw [h] <;> rfl
theorem SD (said:List (Option Int)) (so j m s:Int):HM m s (GG said so j):=by
 unfold GG
 have h:j%3=0\/j%3=1\/j%3=2:=by omega
 have b2:HM m s (.many [.tup (said.map od)]):=⟨by show ¬ ((1:Nat):Int)=2; decide,rfl⟩
 rcases h with h | h | h <;> rw [h] <;> first | exact b2 | exact ⟨rfl,rfl⟩
def GF (j:Int):Tv:=if j%5=0 then .o .n else if j%5=1 then .o (.i 0) else if j%5=2 then .many [] else if j%5=3 then .o (.s "turn") else .o (.b true)
theorem SC (j:Int):Bv [D.non,.int 0,.tup [],.str "turn",.bl true] (j%5)=some (tv (GF j)):=by
 unfold GF
 have h:j%5=0\/j%5=1\/j%5=2\/j%5=3\/j%5=4:=by omega
 rcases h with h | h | h | h | h <;> rw [h] <;> rfl
theorem SB (j m s:Int):HM m s (GF j):=by
 unfold GF
 have h:j%5=0\/j%5=1\/j%5=2\/j%5=3\/j%5=4:=by omega
 have b1:HM m s (.many []):=⟨by show ¬ ((0:Nat):Int)=2; decide,rfl⟩
 rcases h with h | h | h | h | h <;> rw [h] <;> first | exact b1 | exact ⟨rfl,rfl⟩
def C3 (s j:Int):Ov:=if j%5=0 then .i (s+1) else if j%5=1 then .i (-1) else if j%5=2 then .b true else if j%5=3 then .s "0" else .t [.int 0]
theorem X7 (s j:Int):Bv [D.int (s+1),.int (-1),.bl true,.str "0",.tup [.int 0]] (j%5)=some (ov (C3 s j)):=by
 unfold C3
 have h:j%5=0\/j%5=1\/j%5=2\/j%5=3\/j%5=4:=by omega
 rcases h with h | h | h | h | h <;> rw [h] <;> rfl
theorem X6 (s j:Int):DO s (C3 s j)=false/\Dd s (C3 s j)=false/\Cd (ov (C3 s j))=true:=by
 unfold C3
 have h1:∀ v:Int,(v<0\/s<v)->DO s (.i v)=false/\Dd s (.i v)=false/\Cd (ov (.i v))=true:=λv hv=>by
  have:(decide (0<=v)&&decide (v<=s))=false:=by
   rcases hv with h | h
   ·rw [decide_eq_false wF]; rfl
   ·rw [decide_eq_false (show ¬ v<=s by omega),Bool.and_false]
  exact ⟨this,this,rfl⟩
 have h:j%5=0\/j%5=1\/j%5=2\/j%5=3\/j%5=4:=by omega
 rcases h with h | h | h | h | h <;> rw [h] <;> first | exact h1 (s+1) wF | exact h1 (-1) wF | exact ⟨rfl,rfl,rfl⟩
theorem FC (l:List (Option Int)):BS (l.map od)=true:=He (λw=>by cases w <;> rfl) l
def R9 (m s:Int) (x:Tv):Prop:=HM m s x/\Cd (tv x)=true
def Oi:AS:=λds O R=>∃ (m:Nat) (t:Tn) (s c:Int),ds=[tD t,.int s,.int c]/\DZ m s t/\(1<=m/\m<=24)/\∀ x,R9 (m:Nat) s x->R (tv x) O
def Ki (C1 C2:Addr):AS:=λds O R=>∃ (q:Nat) (C:Addr) (fs:List (Str×D)) (kd:Int),ds=[.ptr q,.int kd]/\O[q]?=some (some (.exc C fs))/\((C=C1/\kd=0)\/(C=C2/\kd=3))/\R (.bl true) O
def J9 (C:Cs) (CN:Addr) (j:Nat):Fc:=λds O R RX=>∃ (q n m:Nat) (s:Int) (x:Hn),Aw C O x q m s/\AO n x m s/\AU x<=j/\(1<=m/\m<=24)/\(1<=s/\s<=10)/\((∃ ts:List Tn,ds=[.ptr q,.tup (ts.map tD)]/\(∀ t∈ts,DZ m s t)/\ts.length<=63/\R (.tup (((List.range ts.length).map (CA m x ts)).map D.int)) O)\/∃ (L:List Tv) (i:Nat),ds=[.ptr q,.tup (L.map tv)]/\(∀ t∈L,Fa t)/\JF (m:Nat) s L i/\RX CN [("number",.int (i:Nat))] O)
def Oz (C:Cs) (CN:Addr) (j:Nat):AS:=λds O R=>∃ (q n m:Nat) (s:Int) (x:Hn),Aw C O x q m s/\AO n x m s/\AU x<=j/\(1<=m/\m<=24)/\(1<=s/\s<=10)/\((∃ ts:List Tn,ds=[.ptr q,.tup (ts.map tD)]/\(∀ t∈ts,DZ m s t)/\ts.length<=63/\R (.tup [.tup (((List.range ts.length).map (CA m x ts)).map D.int),.non]) O)\/∃ (L:List Tv) (i:Nat),ds=[.ptr q,.tup (L.map tv)]/\(∀ t∈L,Fa t)/\JF (m:Nat) s L i/\∀ (e:Nat) (O':Ae),(∃ Y,O'=O++Y)->O'[e]?=some (some (.exc CN [("number",.int (i:Nat))]))->R (.tup [.non,.ptr e]) O')
def Oq (CN:Addr):AS:=λds O R=>((∃ (xs:List Int) (s:Int),ds=[.tup (xs.map D.int),.non,.int (xs.length:Nat),.int (xs.length:Nat),.int s]/\xs.length<=63/\∀ x∈xs,0<=x/\x<=s)\/∃ (e i n:Nat) (s:Int),ds=[.non,.ptr e,.int (i:Nat),.int (n:Nat),.int s]/\O[e]?=some (some (.exc CN [("number",.int (i:Nat))]))/\i<n)/\R (.bl true) O
def J7 (C:Cs) (CN:Addr) (j:Nat):Fc:=λds O R RX=>∃ (q k m n:Nat) (s:Int) (x:Hn),ds=[.ptr q,.int (n:Nat)]/\Aw C O x q m s/\AO k x m s/\AU x<=j/\(1<=m/\m<=24)/\(1<=s/\s<=10)/\n<=60/\(m=1->RX CN [] O)/\(m≠1->R (.tup ((D2 m s n (AZ x m)).map tD)) O)
def Oe (C:Cs) (j:Nat):AS:=λds O R=>∃ (q k m:Nat) (s:Int) (x:Hn),ds=[.ptr q,.int (m:Nat)]/\Aw C O x q m s/\AO k x m s/\AU x<=j/\(1<=m/\m<=24)/\(1<=s/\s<=10)/\R (.bl true) O
def OF (C:Cs):AS:=λds O R=>∃ (m:Nat) (so s x:Int),ds=[.int so,.int (m:Nat),.int s,.int x]/\(0<=so/\so<=6)/\Lo x/\(1<=m/\m<=24)/\(1<=s/\s<=10)/\∀ (O':Ae) (q:Nat) (y:Hn),(∃ Y,O'=O++Y)->O.length<=q->Aw C O' y q m s->AO 0 y m s->AU y<=2->R (.ptr q) O'
structure Dj (m:Nat) (s:Int) (ts:List Tn) (i:Nat) (L:List Tv) (b:Nat):Prop where
 l:L.length=ts.length
 ok:∀ t∈L,Fa t
 np:∀ t∈L,Cd (tv t)=true
 lo:∀ j t,j<b->L[j]?=some t->D1 (m:Nat) s t=true
 bl:b<=ts.length
 at0:b=ts.length->L=ts.map C9
 bad:b<ts.length->∃ t,L[b]?=some t/\D1 (m:Nat) s t=false
 one:i<=1->∀ j,j≠b->L[j]?=(ts.map C9)[j]?
 z:i=0->b=ts.length
theorem Dj.zero {m:Nat} {s:Int} {ts:List Tn} (hm:m<=24) (h:∀ t∈ts,DZ m s t):Dj m s ts 0 (ts.map C9) ts.length:=by
 have hk:∀ t∈ts.map C9,D1 (m:Nat) s t=true/\Fa t/\Cd (tv t)=true:=λt ht=>by
  obtain ⟨y,hy,rfl⟩:=List.mem_map.mp ht
  exact ⟨(HW hm (h y hy)).1,(HW hm (h y hy)).2,by rw [JT]; exact N2 y⟩
 exact ⟨List.length_map ..,λt ht=>(hk t ht).2.1,λt ht=>(hk t ht).2.2,λj t _ ht=>(hk t (List.mem_of_getElem? ht)).1,Nat.le_refl _,λ_=>rfl,λz=>absurd z (Nat.lt_irrefl _),λ_ _ _=>rfl,λ_=>rfl⟩
theorem Dj.next {m:Nat} {s:Int} {ts:List Tn} {i b k:Nat} {L:List Tv} {x:Tv} (h:Dj m s ts i L b) (hk:k<ts.length) (hne:k≠b) (hx:R9 (m:Nat) s x):Dj m s ts (i+1) (L.set k x) (if k<b then k else b):=by
 have hkL:k<L.length:=by rw [h.l]; exact hk
 have hbl:=h.bl
 refine ⟨by rw [List.length_set]; exact h.l,λt ht=>?_,λt ht=>?_,λj t hj ht=>?_,by split <;> omega,λz=>by split at z <;> omega,λ_=>?_,λhi j hj=>?_,λz=>absurd z (Nat.succ_ne_zero _)⟩
 ·rcases List.mem_or_eq_of_mem_set ht with z | z
  ·exact h.ok t z
  ·rw [z]; exact hx.1.1
 ·rcases List.mem_or_eq_of_mem_set ht with z | z
  ·exact h.np t z
  ·rw [z]; exact hx.2
 ·have hjk:k≠j/\j<b:=by split at hj <;> omega
  rw [List.getElem?_set_ne hjk.1] at ht
  exact h.lo j t hjk.2 ht
 ·by_cases z:k<b
  ·rw [if_pos z]
   exact ⟨x,by rw [List.getElem?_set_self hkL],hx.1.2⟩
  ·rw [if_neg z]
   obtain ⟨t,t1,t2⟩:=h.bad wF
   exact ⟨t,by rw [List.getElem?_set_ne hne]; exact t1,t2⟩
 ·have hb:=h.z wF
  rw [if_pos wF] at hj
  rw [List.getElem?_set_ne (Ne.symm hj)]
  by_cases hjl:j=ts.length
  ·rw [List.getElem?_eq_none (by rw [h.l]; omega),List.getElem?_eq_none (by rw [List.length_map]; omega)]
  ·exact h.one wF j wF
theorem Dj.skip {m:Nat} {s:Int} {ts:List Tn} {i b:Nat} {L:List Tv} (h:Dj m s ts i L b) (hb:b<ts.length):Dj m s ts (i+1) L b:=⟨h.l,h.ok,h.np,h.lo,h.bl,h.at0,h.bad,λhi=>by have:=h.z wF; omega,λz=>absurd z (Nat.succ_ne_zero _)⟩
theorem SQ {m:Nat} {s:Int} {ts:List Tn} {i b:Nat} {L:List Tv} (h:Dj m s ts i L b) (hb:b=ts.length):L.map tv=ts.map tD:=by rw [h.at0 hb]; exact JS ts
theorem Dj.badV {m:Nat} {s:Int} {ts:List Tn} {i b:Nat} {L:List Tv} (h:Dj m s ts i L b) (hb:b<ts.length):JF (m:Nat) s L b:=⟨h.bad hb,h.lo⟩
theorem Pl {m n:Nat} {s:Int} {x:Hn} {ts:List Tn} (hx:AO n x m s) (hm:m<=24) (h0:0<=s) (ht:∀ t∈ts,DZ m s t):∀ v∈(List.range ts.length).map (CA m x ts),0<=v/\v<=s:=λv hv=>by
 obtain ⟨k,hk,rfl⟩:=List.mem_map.mp hv
 have hk:=List.mem_range.mp hk
 have hq:ts[k]?=some ts[k]:=List.getElem?_eq_getElem hk
 have hok:=ht _ (List.getElem_mem hk)
 unfold CA
 rw [NV hq]
 exact Ks _ m s _ (MI hx hm ht k wF) (hok.said hm) h0
theorem Q0k (ns:List Int):(C6 ns (some 5) (some 45)).length<=40:=by
 unfold C6
 rw [show (some (5:Int))=some ((5:Nat):Int) from rfl,show (some (45:Int))=some ((45:Nat):Int) from rfl,HT.sIx_nat,HT.sIx_nat,List.length_take,List.length_drop]
 omega
theorem YO {xs:List D} {k:Nat} (h:k<xs.length):DP xs.length ((k:Nat):Int)=some k:=by
 unfold DP
 rw [if_pos wF,if_pos wF,Int.toNat_natCast]
seal Ad Ev BI Ex Exs AV BX JE Fi DD
section
variable {P:Program} {w:World} {K:PySem.W.Frag} {mg:Str->Option Value} {base:Heap} {CK1 CK12 CK9 CK8 CK0 CK10 CK2 CK6 CK7 CK4 CK5 CK3 CK11:Addr} {f:Addr} {fd:FuncData} (T:Txt K mg CK1 CK12 CK9 CK8 CK0 CK10 CK2 CK6 CK7 CK4 CK5 CK3 CK11)
include T
theorem XT (Fn:Au K "__init__" "NoTurn.__init__" Ga f fd) (Z:Gz K CK6 f "number"):AF P w K mg base AI 1 f fd ["self","number"] (GO CK6 "number"):=
 L2.okI Fn UP Z T.ln rfl wE wE wE wE (by first | exact Or.inl rfl | exact Or.inr rfl) (by first | exact Or.inl rfl | exact Or.inr rfl) (λ_=>rfl)
theorem Xc (Fn:Au K "is_whole" "is_whole" KZ f fd) (hm:mg "is_whole" = some (.ref f)) (hb:Binds K fd ["value"] []):Am P w K mg base 1 "is_whole" (AE Kb):=by
 refine A2 (k:=0) Fn Um hm hb (λds O R h=>?_) (λcdv A outer s H E ds O R hr h=>?_)
 ·obtain ⟨_,⟨_,rfl,_⟩,_⟩:=h; rfl
 ·obtain ⟨d,⟨v,rfl,rfl⟩,hR⟩:=h
  refine Ac (AC (Ad.ev (C4 (A0 T.xu (Ab (Aa 0) (Ab (CD T.xw) Af)) (MV (Hc v))) (λhbb=>(Ed (QU (A0 T.xu (Ab (Aa 0) (Ab (CD T.xx) Af)) (MW (Hc v))))))) ?_))
  have e:(Ez (ov v) "int" && !Ez (ov v) "bool")=Mu v:=by cases v <;> rfl
  rw [e]
  exact hR
theorem Xi (Fn:Au K "counted" "counted" K5 f fd) (hm:mg "counted" = some (.ref f)) (hb:Binds K fd ["weights"] []):Am P w K mg base 1 "counted" (AE OJ):=by
 refine A2 (k:=0) Fn Ut hm hb (λds O R h=>?_) (λcdv A outer s H E ds O R hr h=>?_)
 ·obtain ⟨_,⟨_,rfl,_⟩,_⟩:=h; rfl
 ·obtain ⟨d,⟨ws,rfl,hl,rfl⟩,hR⟩:=h
  refine Ac (AR (AN (A0 T.xp (Ab (Aa 0) Af) (MU (by first | exact Or.inr rfl | exact Or.inl (Or.inl rfl) | exact Or.inl (Or.inr (Or.inl rfl)) | exact Or.inl (Or.inr (Or.inr ⟨_,rfl,by first | assumption | rfl⟩))))) Ag Bb) (λhk=>?_) (λhk=>?_))
  ·have hk:=of_decide_eq_true hk
   refine Ac (AC (Ad.ev (CG (λ_=>.int 1) ["weight"] [] [] (Cp (Aa 0) wB) (by rw [sizeLine_eq]; omega) (by exact λq hq s H fp=>⟨[some _],rfl,(AW 0 (show List.Nodup (["weight"]:List Str) by decide +kernel)),⟨_,rfl,Ag⟩⟩)) ?_))
   unfold Ck at hR
   rw [if_pos hk,List.map_map] at hR
   exact hR
  ·have hk:=of_decide_eq_false hk
   refine Ar ?_
   refine Ac (AC (Ad.ev (BV T.xo (Ab (Aa 0) Af) (Rv (by first | exact Or.inr rfl | exact Or.inl (Or.inl rfl) | exact Or.inl (Or.inr (Or.inl rfl)) | exact Or.inl (Or.inr (Or.inr ⟨_,rfl,by first | assumption | rfl⟩))))) ?_))
   unfold Ck at hR
   rw [if_neg hk] at hR
   exact hR
theorem WO (Fn:Au K "middle" "middle" KG f fd) (hm:mg "middle" = some (.ref f)) (hb:Binds K fd ["numbers","weights"] []) (gu:Am P w K mg base 1 "counted" (AE OJ)):Am P w K mg base 2 "middle" (AE Ow):=by
 refine A2 (k:=1) Fn Fx hm hb (λds O R h=>?_) (λcdv A outer s H E ds O R hr h=>?_)
 ·obtain ⟨_,⟨_,_,rfl,_⟩,_⟩:=h; rfl
 ·obtain ⟨d,⟨ns,ws,rfl,⟨h1,h2,h3⟩,rfl⟩,hR⟩:=h
  refine Ac (AQ 2 (Ad.ev (AH gu (hr.mono wE) (Ab (Aa 1) Af) ⟨_,rfl,by assumption,rfl⟩) ?_) Fx.nd)
  have hc:=Rq h3
  have hcl:=Rr ws
  unfold FG at hR
  generalize Ck ws=cs at hR hc hcl
  refine Ac (AQ 3 (Ad.ev (A0 T.xp (Ab (Aa 2) Af) (MU (by first | exact Or.inr rfl | exact Or.inl (Or.inl rfl) | exact Or.inl (Or.inr (Or.inl rfl)) | exact Or.inl (Or.inr (Or.inr ⟨_,rfl,by first | assumption | rfl⟩))))) ?_) Fx.nd)
  refine Ac (AQ 4 (Ad.ev Ag ?_) Fx.nd)
  have hz:(ns.zip cs).length<64:=by rw [List.length_zip]; omega
  have hsl:(Ca AY (ns.zip cs)).length<=63:=by rw [(H0 AY (ns.zip cs)).length_eq]; omega
  have hsm:∀ p∈Ca AY (ns.zip cs),0<=p.2:=λp hp=>hc _ (List.of_mem_zip ((H0 AY (ns.zip cs)).mem_iff.mp hp)).2
  refine Ac (DG (Cp (ZI Hb (λY=>cmpP) Yc (Ho (Aa 0) (Aa 2) wB wB T.xq) wF T.xr) wB) (λi ρ O'=>∃ (r:Int) (u v:Option D),ρ=[some (.tup (ns.map D.int)),some (.tup (ws.map D.int)),some (.lst (cs.map D.int)),some (.int cs.sum),some (.int r),u,v]/\r=sm (λq=>q.2) ((Ca AY (ns.zip cs)).take i)/\go cs.sum 0 (Ca AY (ns.zip cs))=go cs.sum r ((Ca AY (ns.zip cs)).drop i)/\O'=O) ⟨0,_,_,rfl,rfl,rfl,rfl⟩ ?_ ?_)
  ·rintro i x ρ O' hx ⟨r,u,v,rfl,hr1,hg,rfl⟩
   rw [List.getElem?_map] at hx
   cases hp:(Ca AY (ns.zip cs))[i]? with
   | none=>rw [hp] at hx; cases hx
   | some p=>
    rw [hp] at hx
    cases hx
    refine ⟨_,DJ (BZ (AW 5 Fx.nd) (BZ (AW 6 Fx.nd) DI)),?_⟩
    refine Ac (AQ 4 (Ad.ev (Aj (Aa 4) (Aa 6) BD) ?_) Fx.nd)
    have h4:r+p.2=sm (λq=>q.2) ((Ca AY (ns.zip cs)).take (i+1)):=by rw [T0 hp,hr1]
    have hd:(Ca AY (ns.zip cs)).drop i=p::(Ca AY (ns.zip cs)).drop (i+1):=by
     obtain ⟨hi,e⟩:=List.getElem?_eq_some_iff.mp hp
     rw [List.drop_eq_getElem_cons hi,e]
    rw [hd] at hg
    refine Ac (AR (AN (Aj Ag (Aa 4) (Cr (DE.ok (Or.inl ⟨by decide,by decide⟩)))) (Aa 3) Q0u) (λhk=>?_) (λhk=>?_))
    ·have hk:=of_decide_eq_true hk
     refine Ac (AC (Ad.ev (Aa 5) ?_))
     rw [hg] at hR
     unfold go at hR
     rw [if_pos hk] at hR
     exact hR
    ·have hk:=of_decide_eq_false hk
     refine Ar (Ar ?_)
     refine ⟨_,_,_,rfl,h4,?_,rfl⟩
     rw [hg]
     conv=>lhs; unfold go
     rw [if_neg hk]
  ·rintro ρ O' ⟨r,u,v,rfl,hr1,hg,rfl⟩
   refine Ac (AC (Ad.ev Ag ?_))
   rw [List.length_map,List.drop_of_length_le (Nat.le_refl _)] at hg
   rw [hg] at hR
   exact hR
theorem Xj (Fn:Au K "check_within" "check_within" K6 f fd) (hm:mg "check_within" = some (.ref f)) (hb:Binds K fd ["what","value","least","most"] []) (kf:Am P w K mg base 1 "is_whole" (AE Kb)):Am P w K mg base 2 "check_within" (AE FV):=by
 refine A2 (k:=1) Fn Uu hm hb (λds O R h=>?_) (λcdv A outer s H E ds O R hr h=>?_)
 ·obtain ⟨_,⟨_,_,_,_,rfl,_⟩,_⟩:=h; rfl
 ·obtain ⟨d,⟨x,v,l,u,rfl,hv,rfl⟩,hR⟩:=h
  refine Ac (AR (BF.t (Cu (BJ (BB (AH kf (hr.mono wE) (Ab (Aa 1) Af) ⟨.i v,rfl,rfl⟩))) (λhbb=>(Dv (BJ (Z2 (Aa 2) (Aa 1) (Aa 3) Jp (λhbb=>Jp))))))) (λhk=>?_) (λhk=>Ar (Ar hR)))
  exfalso
  have hk:(!true||!(decide (l<=v)&&decide (v<=u)))=true:=hk
  rw [decide_eq_true hv.1,decide_eq_true hv.2] at hk
  cases hk
theorem Xo (Fn:Au K "check_scale" "check_scale" Lb f fd) (hm:mg "check_scale" = some (.ref f)) (hb:Binds K fd ["scale"] []) (jh:Am P w K mg base 2 "check_within" (AE FV)):Am P w K mg base 3 "check_scale" (AE Om):=by
 refine A2 (k:=2) Fn Uy hm hb (λds O R h=>?_) (λcdv A outer s H E ds O R hr h=>?_)
 ·obtain ⟨_,⟨_,rfl,_⟩,_⟩:=h; rfl
 ·obtain ⟨d,⟨s,rfl,hs,rfl⟩,hR⟩:=h
  refine Ac (Bd (Ad.ev (AH jh (hr.mono wE) (Ab Ec (Ab (Aa 0) (Ab Ag (Ab (Hu T.bn.choose_spec) Af)))) ⟨_,_,_,_,rfl,by omega,rfl⟩) ?_))
  exact Ar hR
theorem Xr (Fn:Au K "check_making" "check_making" Le f fd) (hm:mg "check_making" = some (.ref f)) (hb:Binds K fd ["many","scale"] []) (jh:Am P w K mg base 2 "check_within" (AE FV)) (gv:Am P w K mg base 3 "check_scale" (AE Om)):Am P w K mg base 4 "check_making" (AE Ox):=by
 refine A2 (k:=3) Fn UA hm hb (λds O R h=>?_) (λcdv A outer s H E ds O R hr h=>?_)
 ·obtain ⟨_,⟨_,_,rfl,_⟩,_⟩:=h; rfl
 ·obtain ⟨d,⟨m,s,rfl,hm,hs,rfl⟩,hR⟩:=h
  refine Ac (Bd (Ad.ev (AH jh (hr.mono wE) (Ab Ec (Ab (Aa 0) (Ab Ag (Ab (Hu T.bj.choose_spec) Af)))) ⟨_,_,_,_,rfl,by omega,rfl⟩) ?_))
  refine Ac (Bd (Ad.ev (AH gv (hr.mono wE) (Ab (Aa 1) Af) ⟨_,rfl,by assumption,rfl⟩) ?_))
  exact Ar hR
theorem Xs (Fn:Au K "check_fraction" "check_fraction" Lf f fd) (hm:mg "check_fraction" = some (.ref f)) (hb:Binds K fd ["top","bottom"] []) (jh:Am P w K mg base 2 "check_within" (AE FV)):Am P w K mg base 3 "check_fraction" (AE OG):=by
 refine A2 (k:=2) Fn UB hm hb (λds O R h=>?_) (λcdv A outer s H E ds O R hr h=>?_)
 ·obtain ⟨_,⟨_,_,rfl,_⟩,_⟩:=h; rfl
 ·obtain ⟨d,⟨t,b,rfl,hb,rfl⟩,hR⟩:=h
  refine Ac (Bd (Ad.ev (AH jh (hr.mono wE) (Ab Ec (Ab (Aa 1) (Ab Ag (Ab (Hu T.bo.choose_spec) Af)))) ⟨_,_,_,_,rfl,by omega,rfl⟩) ?_))
  refine Ac (Bd (Ad.ev (AH jh (hr.mono wE) (Ab Ec (Ab (Aa 0) (Ab Ag (Ab (Aj (Aa 1) Ag D8) Af)))) ⟨_,_,_,_,rfl,by omega,rfl⟩) ?_))
  exact Ar hR
theorem Xn (Fn:Au K "check_share" "check_share" La f fd) (hm:mg "check_share" = some (.ref f)) (hb:Binds K fd ["share","parts"] []) (jh:Am P w K mg base 2 "check_within" (AE FV)):Am P w K mg base 3 "check_share" (AE Oj):=by
 refine A2 (k:=2) Fn Ux hm hb (λds O R h=>?_) (λcdv A outer s H E ds O R hr h=>?_)
 ·obtain ⟨_,⟨_,_,rfl,_⟩,_⟩:=h; rfl
 ·obtain ⟨d,⟨t,b,rfl,hb,rfl⟩,hR⟩:=h
  refine Ac (Bd (Ad.ev (AH jh (hr.mono wE) (Ab Ec (Ab (Aa 1) (Ab Ag (Ab (Hu T.bq.choose_spec) Af)))) ⟨_,_,_,_,rfl,by omega,rfl⟩) ?_))
  refine Ac (Bd (Ad.ev (AH jh (hr.mono wE) (Ab Ec (Ab (Aa 0) (Ab Ag (Ab (Aj (Aa 1) Ag D8) Af)))) ⟨_,_,_,_,rfl,by omega,rfl⟩) ?_))
  exact Ar hR
theorem Xf (Fn:Au K "is_on_scale" "is_on_scale" K2 f fd) (hm:mg "is_on_scale" = some (.ref f)) (hb:Binds K fd ["scale","value"] []) (kf:Am P w K mg base 1 "is_whole" (AE Kb)):Am P w K mg base 2 "is_on_scale" (AE Ka):=by
 refine A2 (k:=1) Fn Uq hm hb (λds O R h=>?_) (λcdv A outer s H E ds O R hr h=>?_)
 ·obtain ⟨_,⟨_,_,rfl,_⟩,_⟩:=h; rfl
 ·obtain ⟨d,⟨s,v,rfl,rfl⟩,hR⟩:=h
  cases hw:Mu v with
  | false=>
   have e:Dd s v=false:=by cases v <;> first | rfl | cases hw
   rw [e] at hR
   refine Ac (AC (Ad.ev (C4 (k:=false) (l:=false) (AH kf (hr.mono wE) (Ab (Aa 1) Af) ⟨v,rfl,by rw [hw]⟩) (λhbb=>absurd hbb Bool.false_ne_true)) ?_))
   exact hR
  | true=>
   cases v <;> first | (cases hw; done) | skip
   rename_i i
   refine Ac (AC (Ad.ev (C4 (AH kf (hr.mono wE) (Ab (Aa 1) Af) ⟨.i i,rfl,rfl⟩) (λhbb=>(Ed (ZX Ag (Aa 1) (Aa 0) Jp (λhbb=>Jp))))) ?_))
   exact hR
theorem Xe (Fn:Au K "is_said" "is_said" K1 f fd) (hm:mg "is_said" = some (.ref f)) (hb:Binds K fd ["many","scale","said"] []) (kh:Am P w K mg base 2 "is_on_scale" (AE Ka)):Am P w K mg base 3 "is_said" (AE Kd):=by
 refine A2 (k:=2) Fn Up hm hb (λds O R h=>?_) (λcdv A outer s H E ds O R hr h=>?_)
 ·obtain ⟨_,⟨_,_,_,rfl,_⟩,_⟩:=h; rfl
 ·obtain ⟨d,⟨m,s,x,rfl,hS,rfl⟩,hR⟩:=h
  cases x with
  | o v=>
   have hT:Ez (ov v) "tuple" = false:=by cases v <;> first | rfl | cases hS
   refine Ac (AR (BF.t (Cu (k:=true) (l:=false) (AV.cast (BJ (BB (A0 T.xu (Ab (Aa 2) (Ab (CD T.xn) Af)) (Ef (Hc v))))) (by rw [hT]; rfl)) (λhbb=>by cases hbb))) (λhk=>?_) (λhk=>by cases hk))
   exact Ac (AC (Ad.ev Dz hR))
  | t xs=>
   refine Ac (AR (BF.t (Cu (BJ (BB (A0 T.xu (Ab (Aa 2) (Ab (CD T.xn) Af)) (Ef rfl)))) (λhbb=>(Dv (AN (A0 T.xm (Ab (Aa 2) Af) (B6 (by first | exact Or.inr rfl | exact Or.inl (Or.inl rfl) | exact Or.inl (Or.inr (Or.inl rfl)) | exact Or.inl (Or.inr (Or.inr ⟨_,rfl,by first | assumption | rfl⟩))))) (Aa 0) EG))))) (λhk=>?_) (λhk=>Ar ?_))
   ·have hk:(!true||!decide ((((xs.map ov).length:Nat):Int)=m))=true:=hk
    have e:Dc m s (.t xs)=false:=by
     refine Kt λz=>?_
     rw [List.length_map,decide_eq_true z] at hk
     cases hk
    rw [e] at hR
    exact Ac (AC (Ad.ev Dz hR))
   ·have hk:(!true||!decide ((((xs.map ov).length:Nat):Int)=m))=false:=hk
    have hS:xs.length<=100:=hS
    refine Ac (AC (Ad.ev (A0 T.xy (Ab (CG (λw=>.bl (DO s w)) ["what"] ["scale"] [1] (Cp (Aa 2) wB) (by rw [sizeLine_eq]; omega) (by exact λq hq s H fp=>⟨[some _],rfl,(AW 0 (show List.Nodup (["what","scale"]:List Str) by decide +kernel)),⟨_,rfl,(ZN (Dy (Aa 0) B5 EX) (λhbb=>(Ed (AH kh (hr.mono wE) (Ab (Aa 1) (Ab (Aa 0) Af)) ⟨_,q,rfl,rfl⟩))))⟩⟩)) Af) (MY (bs:=xs.map λw=>DO s w) (Or.inl (Or.inl (congrArg D.lst (by rw [List.map_map]; rfl)))))) ?_))
    have e:((xs.map λw=>DO s w).all id)=Dc m s (.t xs):=by
     rw [List.all_map]
     show xs.all (DO s)=(decide ((xs.length:Int)=m)&&xs.all (DO s))
     have:(xs.length:Int)=m:=by
      by_cases z:(xs.length:Int)=m
      ·exact z
      ·rw [List.length_map,decide_eq_false z] at hk; cases hk
     rw [decide_eq_true this,Bool.true_and]
    rw [e]
    exact hR
theorem Xp (Fn:Au K "check_said" "check_said" Lc f fd) (hm:mg "check_said" = some (.ref f)) (hb:Binds K fd ["many","scale","said"] []) (ki:Am P w K mg base 3 "is_said" (AE Kd)):Am P w K mg base 4 "check_said" (AE Ih):=by
 refine A2 (k:=3) Fn Uz hm hb (λds O R h=>?_) (λcdv A outer s H E ds O R hr h=>?_)
 ·obtain ⟨_,⟨_,_,_,rfl,_⟩,_⟩:=h; rfl
 ·obtain ⟨d,⟨m,s,said,rfl,hs,rfl⟩,hR⟩:=h
  have e:=Ku hs
  exact Ac (AR (BJ (BB (AH ki (hr.mono wE) (Ab (Aa 0) (Ab (Aa 1) (Ab (Aa 2) Af))) ⟨m,s,.t (said.map A9),by rw [Fs],Kk hs,rfl⟩))) (λhk=>by rw [e] at hk; cases hk) (λhk=>Ar (Ar hR)))
theorem WL (Fn:Au K "power" "power" KB f fd) (hm:mg "power" = some (.ref f)) (hb:Binds K fd ["base","exponent"] []):Am P w K mg base 1 "power" (AE Ie):=by
 refine A2 (k:=0) Fn Io hm hb (λds O R h=>?_) (λcdv A outer s H E ds O R hr h=>?_)
 ·obtain ⟨_,⟨_,_,rfl,_⟩,_⟩:=h; rfl
 ·obtain ⟨d,⟨b,n,rfl,hb,hn,rfl⟩,hR⟩:=h
  refine Ac (AQ 2 (Ad.ev Ag ?_) Io.nd)
  refine Ac (DG (EV (Aa 1) T.xt wC wC) (λi ρ O'=>∃ u,ρ=[some (.int b),some (.int n),some (.int (b ^ i)),u]/\O'=O) ⟨none,by rw [Int.pow_zero]; rfl,rfl⟩ ?_ ?_)
  ·rintro i x ρ O' hx ⟨u,rfl,rfl⟩
   refine ⟨_,AW 3 Io.nd,?_⟩
   refine Ac (AQ 2 (Ad.ev (Aj (Aa 2) (Aa 0) (Cr (by first | assumption | exact DE.ok (Or.inl ⟨by omega,by omega⟩) | exact DE.ok (Or.inr ⟨by omega,by omega⟩)))) ?_) Io.nd)
   exact Ar ⟨_,by rw [Int.pow_succ]; rfl,rfl⟩
  ·rintro ρ O' ⟨u,rfl,rfl⟩
   rw [Er]
   exact Ac (AC (Ad.ev (Aa 2) hR))
theorem Xt (Fn:Au K "charge" "charge" Lg f fd) (hm:mg "charge" = some (.ref f)) (hb:Binds K fd ["what","so"] []):Am P w K mg base 1 "charge" (AE FZ):=by
 refine A2 (k:=0) Fn UC hm hb (λds O R h=>?_) (λcdv A outer s H E ds O R hr h=>?_)
 ·obtain ⟨_,⟨_,_,rfl,_⟩,_⟩:=h; rfl
 ·obtain ⟨d,⟨w,z,rfl,rfl⟩,hR⟩:=h
  cases w with
  | none=>
   refine Ac (AR (AN (Aa 0) B5 EX) (λhk=>?_) (λhk=>?_))
   ·exact Ac (AC (Ad.ev Ag hR))
   ·cases hk
  | some w=>
   refine Ac (AR (AN (Aa 0) B5 EX) (λhk=>?_) (λhk=>?_))
   ·cases hk
   ·exact Ar (Ac (AC (Ad.ev (A0 T.bd (Ab (Aj (Aa 0) (Aa 1) D8) Af) Q0M) hR)))
theorem Xd (Fn:Au K "is_turn" "is_turn" K0 f fd) (hm:mg "is_turn" = some (.ref f)) (hb:Binds K fd ["many","scale","turn"] []) (ki:Am P w K mg base 3 "is_said" (AE Kd)) (kh:Am P w K mg base 2 "is_on_scale" (AE Ka)):Am P w K mg base 4 "is_turn" (AE Kc):=by
 refine A2 (k:=3) Fn Uo hm hb (λds O R h=>?_) (λcdv A outer s H E ds O R hr h=>?_)
 ·obtain ⟨_,⟨_,_,_,rfl,_⟩,_⟩:=h; rfl
 ·obtain ⟨d,⟨m,s,x,rfl,hS,rfl⟩,hR⟩:=h
  cases x with
  | two x y=>
   refine Ac (AR (BF.t (Cu (BJ (BB (A0 T.xu (Ab (Aa 2) (Ab (CD T.xn) Af)) (Ef rfl)))) (λhbb=>(Dv (AN (A0 T.xm (Ab (Aa 2) Af) (B6 (by first | exact Or.inr rfl | exact Or.inl (Or.inl rfl) | exact Or.inl (Or.inr (Or.inl rfl)) | exact Or.inl (Or.inr (Or.inr ⟨_,rfl,by first | assumption | rfl⟩))))) Ag EG))))) (λhk=>by cases hk) (λhk=>Ar ?_))
   refine Ac (AC (Ad.ev (C4 (AH ki (hr.mono wE) (Ab (Aa 0) (Ab (Aa 1) (Ab (CT (Aa 2) Ag rfl) Af))) ⟨m,s,x,rfl,hS,rfl⟩) (λhbb=>(Ed (AH kh (hr.mono wE) (Ab (Aa 1) (Ab (CT (Aa 2) Ag rfl) Af)) ⟨s,y,rfl,rfl⟩)))) ?_))
   exact hR
  | o v=>
   have hT:Ez (ov v) "tuple" = false:=by cases v <;> first | rfl | cases hS
   refine Ac (AR (BF.t (Cu (k:=true) (l:=false) (AV.cast (BJ (BB (A0 T.xu (Ab (Aa 2) (Ab (CD T.xn) Af)) (Ef (Hc v))))) (by rw [hT]; rfl)) (λhbb=>by cases hbb))) (λhk=>?_) (λhk=>by cases hk))
   exact Ac (AC (Ad.ev Dz hR))
  | many xs=>
   refine Ac (AR (BF.t (Cu (BJ (BB (A0 T.xu (Ab (Aa 2) (Ab (CD T.xn) Af)) (Ef rfl)))) (λhbb=>(Dv (AN (A0 T.xm (Ab (Aa 2) Af) (B6 (by first | exact Or.inr rfl | exact Or.inl (Or.inl rfl) | exact Or.inl (Or.inr (Or.inl rfl)) | exact Or.inl (Or.inr (Or.inr ⟨_,rfl,by first | assumption | rfl⟩))))) Ag EG))))) (λhk=>?_) (λhk=>?_))
   ·exact Ac (AC (Ad.ev Dz hR))
   ·exfalso
    have hk:(!true||!decide (((xs.length:Nat):Int)=2))=false:=hk
    rw [decide_eq_false (show ¬ ((xs.length:Nat):Int)=2 from hS)] at hk
    cases hk
theorem Xl (Fn:Au K "check_turn" "check_turn" K8 f fd) (hm:mg "check_turn" = some (.ref f)) (hb:Binds K fd ["many","scale","said","so"] []) (kj:Am P w K mg base 4 "is_turn" (AE Kc)):Am P w K mg base 5 "check_turn" (AE Fv):=by
 refine A2 (k:=4) Fn Uv hm hb (λds O R h=>?_) (λcdv A outer s H E ds O R hr h=>?_)
 ·obtain ⟨_,⟨_,_,_,_,rfl,_⟩,_⟩:=h; rfl
 ·obtain ⟨d,⟨m,s,said,so,rfl,hs,hso,rfl⟩,hR⟩:=h
  have e:(Dc m s (.t (said.map A9))&&Dd s (.i so))=true:=by rw [Ku hs,PU hso]; rfl
  exact Ac (AR (BJ (BB (AH kj (hr.mono wE) (Ab (Aa 0) (Ab (Aa 1) (Ab (BP (Ab (Aa 2) (Ab (Aa 3) Af))) Af))) ⟨m,s,.two (.t (said.map A9)) (.i so),by show _=[D.int m,.int s,.tup [sv (.t (said.map A9)),.int so]]; rw [Fs],Kk hs,rfl⟩))) (λhk=>by have hk:(!(Dc m s (.t (said.map A9))&&Dd s (.i so)))=true:=hk; rw [e] at hk; cases hk) (λhk=>Ar (Ar hR)))
theorem Xu (Fn:Au K "awake_in" "awake_in" Lh f fd) (hm:mg "awake_in" = some (.ref f)) (hb:Binds K fd ["said"] []):Am P w K mg base 1 "awake_in" (AE Kh):=by
 refine A2 (k:=0) Fn UD hm hb (λds O R h=>?_) (λcdv A outer s H E ds O R hr h=>?_)
 ·obtain ⟨_,⟨_,rfl,_⟩,_⟩:=h; rfl
 ·obtain ⟨d,⟨said,rfl,hs,rfl⟩,hR⟩:=h
  refine Ac (AC (Ad.ev (Q0 (λq:Option Int×Nat=>if (!DQ (od q.1))=true then some (D.int (q.2:Nat)) else none) ["adviser","what"] [] [] (Gr (QN (Aa 0) wB T.bc)) (by rw [List.length_zipIdx,sizeLine_eq]; omega) (by exact λq hq s H fp=>⟨[some _,some _],rfl,(DJ (BZ (AW 0 (show List.Nodup (["adviser","what"]:List Str) by decide +kernel)) (BZ (AW 1 (show List.Nodup (["adviser","what"]:List Str) by decide +kernel)) DI))),⟨_,(AN (Aa 1) B5 Jq),λhbb=>⟨_,if_pos hbb,(Aa 0)⟩,λhbb=>if_neg (λhcc=>Bool.false_ne_true (hbb.symm.trans hcc))⟩⟩)) ?_))
  rw [Q0P]
  exact hR
theorem WN (Fn:Au K "middle_awake" "middle_awake" KD f fd) (hm:mg "middle_awake" = some (.ref f)) (hb:Binds K fd ["said","weights"] []) (gw:Am P w K mg base 2 "middle" (AE Ow)) (kl:Am P w K mg base 1 "awake_in" (AE Kh)):Am P w K mg base 4 "middle_awake" (AE Oy):=by
 refine A2 (k:=3) Fn Pb hm hb (λds O R h=>?_) (λcdv A outer s H E ds O R hr h=>?_)
 ·obtain ⟨_,⟨_,_,rfl,_⟩,_⟩:=h; rfl
 ·obtain ⟨d,⟨said,ws,rfl,hs,hl,hw,rfl⟩,hR⟩:=h
  have hal:=M0 said
  refine Ac (AQ 2 (Ad.ev (AH kl (hr.mono wE) (Ab (Aa 0) Af) ⟨_,rfl,by assumption,rfl⟩) ?_) Pb.nd)
  have e:[D.tup ((ax said).map λk=>D.int ((B4 said k).getD 0)),D.tup ((ax said).map λk=>D.int (ws.getD k 0))]=[.tup ((Et said).map D.int),.tup ((Fr said ws).map D.int)]:=by
   unfold Et Fr
   rw [List.map_map,List.map_map]
   rfl
  exact Ac (AC (Ad.ev (AH gw (hr.mono wE) (Ab (BV T.xn (Ab (CG (λk=>D.int ((B4 said k).getD 0)) ["adviser"] ["said"] [0] (Cp (Aa 2) wB) (by rw [sizeLine_eq]; omega) (by exact λq hq s H fp=>⟨[some _],rfl,(AW 0 (show List.Nodup (["adviser","said"]:List Str) by decide +kernel)),⟨_,rfl,(CT (Aa 1) (Aa 0) (RL hq))⟩⟩)) Af) (B0 (by first | exact Or.inr rfl | exact Or.inl (Or.inl rfl) | exact Or.inl (Or.inr (Or.inl rfl)) | exact Or.inl (Or.inr (Or.inr ⟨_,rfl,by first | assumption | rfl⟩))))) (Ab (BV T.xn (Ab (CG (λk=>D.int (ws.getD k 0)) ["adviser"] ["weights"] [1] (Cp (Aa 2) wB) (by rw [sizeLine_eq]; omega) (by exact λq hq s H fp=>⟨[some _],rfl,(AW 0 (show List.Nodup (["adviser","weights"]:List Str) by decide +kernel)),⟨_,rfl,(CT (Aa 1) (Aa 0) (RJ (by have:=Js hq; omega)))⟩⟩)) Af) (B0 (by first | exact Or.inr rfl | exact Or.inl (Or.inl rfl) | exact Or.inl (Or.inr (Or.inl rfl)) | exact Or.inl (Or.inr (Or.inr ⟨_,rfl,by first | assumption | rfl⟩))))) Af)) ⟨Et said,Fr said ws,e,NS hs hw,rfl⟩) hR))
theorem WG (Fn:Au K "times_awake" "times_awake" Kw f fd) (hm:mg "times_awake" = some (.ref f)) (hb:Binds K fd ["keeper","own","off"] []) (jk:Am P w K mg base 1 "power" (AE Ie)):Am P w K mg base 2 "times_awake" (Oh CK12 CK9):=by
 refine A2 (k:=1) Fn Pa hm hb (λds O R h=>?_) (λcdv A outer s H E ds O R hr h=>?_)
 ·obtain ⟨_,_,_,_,_,_,_,rfl,_⟩:=h; rfl
 ·obtain ⟨q,sf,p,u,own,off,ws,rfl,hW,hp,ho,hof,hR⟩:=h
  have hf:=hp.f
  have s1:=hf.s1; have s2:=hf.s2; have t0:=hf.t0; have tb:=hf.tb; have b2:=hf.b2
  have a1:=Dp (x:=p.t) (e:=off) hf.t0 wF wF
  have a2:=Dp (x:=p.b) (e:=p.sc-off) wF wF wF
  have a3:=Dp (x:=p.b) (e:=own) wF wF wF
  have c1:=Dr a1.1 a1.2 a2.1 a2.2
  have c2:=Dr (c:=2) c1.1 c1.2 (show (0:Int)<=2 by decide) wE
  refine Ac (AQ 3 (Ad.ev (Aj (AH jk (hr.mono wE) (Ab (Az (Aa 0) hW (cv T.de.cls T.du.cls sf) (nv T.di T.ee sf) (NM sf p u ws)) (Ab (Aa 2) Af)) ⟨_,_,rfl,⟨by omega,by omega⟩,⟨by omega,by omega⟩,rfl⟩) (AH jk (hr.mono wE) (Ab (Az (Aa 0) hW (cv T.de.cls T.du.cls sf) (nv T.dj T.ef sf) (HV sf p u ws)) (Ab (Aj (Az (Aa 0) hW (cv T.de.cls T.du.cls sf) (nv T.dh T.dz sf) (HU sf p u ws)) (Aa 2) D8) Af)) ⟨_,_,rfl,⟨by omega,by omega⟩,⟨by omega,by omega⟩,rfl⟩) (Cr (Eu a1.1 a1.2 a2.1 a2.2))) ?_) Pa.nd)
  exact Ac (AC (Ad.ev (Aj (Aj (Aa 3) Ag (Cr (by first | assumption | exact DE.ok (Or.inl ⟨by omega,by omega⟩) | exact DE.ok (Or.inr ⟨by omega,by omega⟩)))) (AH jk (hr.mono wE) (Ab (Az (Aa 0) hW (cv T.de.cls T.du.cls sf) (nv T.dj T.ef sf) (HV sf p u ws)) (Ab (Aa 1) Af)) ⟨_,_,rfl,⟨by omega,by omega⟩,⟨by omega,by omega⟩,rfl⟩) (Cr (Eu c2.1 c2.2 a3.1 a3.2))) hR))
theorem WH (Fn:Au K "times_asleep" "times_asleep" Kx f fd) (hm:mg "times_asleep" = some (.ref f)) (hb:Binds K fd ["keeper","own"] []) (jk:Am P w K mg base 1 "power" (AE Ie)):Am P w K mg base 2 "times_asleep" (J8 CK12 CK9):=by
 refine A2 (k:=1) Fn Ue hm hb (λds O R h=>?_) (λcdv A outer s H E ds O R hr h=>?_)
 ·obtain ⟨_,_,_,_,_,_,rfl,_⟩:=h; rfl
 ·obtain ⟨q,sf,p,u,own,ws,rfl,hW,hp,ho,hR⟩:=h
  have hf:=hp.f
  have s1:=hf.s1; have s2:=hf.s2; have t0:=hf.t0; have tb:=hf.tb; have b2:=hf.b2
  have a1:=Dp (x:=p.b) (e:=p.sc) wF wF wF
  have a2:=Dp (x:=p.b) (e:=own) wF wF wF
  have a3:=Dp (x:=p.t) (e:=own) hf.t0 wF wF
  have e82:(2:Int) ^ 82=2 ^ 81+2 ^ 81:=by decide
  exact Ac (AC (Ad.ev (Aj (AH jk (hr.mono wE) (Ab (Az (Aa 0) hW (cv T.de.cls T.du.cls sf) (nv T.dj T.ef sf) (HV sf p u ws)) (Ab (Az (Aa 0) hW (cv T.de.cls T.du.cls sf) (nv T.dh T.dz sf) (HU sf p u ws)) Af)) ⟨_,_,rfl,⟨by omega,by omega⟩,⟨by omega,by omega⟩,rfl⟩) (Aj (AH jk (hr.mono wE) (Ab (Az (Aa 0) hW (cv T.de.cls T.du.cls sf) (nv T.dj T.ef sf) (HV sf p u ws)) (Ab (Aa 1) Af)) ⟨_,_,rfl,⟨by omega,by omega⟩,⟨by omega,by omega⟩,rfl⟩) (AH jk (hr.mono wE) (Ab (Az (Aa 0) hW (cv T.de.cls T.du.cls sf) (nv T.di T.ee sf) (NM sf p u ws)) (Ab (Aa 1) Af)) ⟨_,_,rfl,⟨by omega,by omega⟩,⟨by omega,by omega⟩,rfl⟩) BD) (Cr (Eu (n:=82) a1.1 a1.2 wF (by rw [e82]; omega)))) hR))
theorem WI (Fn:Au K "times" "times" Ky f fd) (hm:mg "times" = some (.ref f)) (hb:Binds K fd ["keeper","own","what","so"] []) (ji:Am P w K mg base 1 "charge" (AE FZ)) (km:Am P w K mg base 2 "times_asleep" (J8 CK12 CK9)) (gx:Am P w K mg base 2 "times_awake" (Oh CK12 CK9)):Am P w K mg base 3 "times" (Og CK12 CK9):=by
 refine A2 (k:=2) Fn Uf hm hb (λds O R h=>?_) (λcdv A outer s H E ds O R hr h=>?_)
 ·obtain ⟨_,_,_,_,_,_,_,_,rfl,_⟩:=h; rfl
 ·obtain ⟨q,sf,p,u,own,so,w,ws,rfl,hW,hp,ho,hso,hw,hR⟩:=h
  cases w with
  | none=>
   refine Ac (AR (AN (Aa 2) B5 EX) (λhk=>?_) (λhk=>by cases hk))
   exact Ac (AC (Ad.ev (Ev.evp (Bs km (hr.mono wE) (Ab (Aa 0) (Ab (Aa 1) Af)) ⟨q,sf,p,u,own,ws,rfl,hW,hp,ho,rfl,rfl⟩)) hR))
  | some x=>
   have hx:=IL (hw.resolve_left (λh=>by cases h))
   refine Ac (AR (AN (Aa 2) B5 EX) (λhk=>by cases hk) (λhk=>Ar ?_))
   exact Ac (AC (Ad.ev (Ev.evp (Bs gx (hr.mono wE) (Ab (Aa 0) (Ab (Aa 1) (Ab (AH ji (hr.mono wE) (Ab (Aa 2) (Ab (Aa 3) Af)) ⟨some x,so,rfl,rfl⟩) Af))) ⟨q,sf,p,u,own,ab (x-so),ws,rfl,hW,hp,ho,Jt hx hso,rfl,rfl⟩)) hR))
theorem Xq (Fn:Au K "check_push" "check_push" Ld f fd) (hm:mg "check_push" = some (.ref f)) (hb:Binds K fd ["many","push"] []) (jh:Am P w K mg base 2 "check_within" (AE FV)) (jk:Am P w K mg base 1 "power" (AE Ie)):Am P w K mg base 3 "check_push" (AE Ot):=by
 refine A2 (k:=2) Fn Pc hm hb (λds O R h=>?_) (λcdv A outer s H E ds O R hr h=>?_)
 ·obtain ⟨_,⟨_,_,rfl,_⟩,_⟩:=h; rfl
 ·obtain ⟨d,⟨m,ps,rfl,hp,hm,rfl⟩,hR⟩:=h
  refine Ac (AR (BF.t (Cu (BJ (BB (A0 T.xu (Ab (Aa 1) (Ab (CD T.xn) Af)) (Ef rfl)))) (λhbb=>(Dv (AN (A0 T.xm (Ab (Aa 1) Af) (B6 (by first | exact Or.inr rfl | exact Or.inl (Or.inl rfl) | exact Or.inl (Or.inr (Or.inl rfl)) | exact Or.inl (Or.inr (Or.inr ⟨_,rfl,by first | assumption | rfl⟩))))) (Aa 0) EG))))) (λhk=>?_) (λhk=>Ar ?_))
  ·exfalso
   have hk:(!true||!decide ((((ps.map D.int).length:Nat):Int)=m))=true:=hk
   rw [List.length_map,hp.1,decide_eq_true rfl] at hk
   cases hk
  refine Ac (DG (Cp (Aa 1) wB) (λi ρ O'=>(∃ u,ρ=[some (.int m),some (.tup (ps.map D.int)),u])/\O'=O) ⟨⟨_,rfl⟩,rfl⟩ ?_ ?_)
  ·rintro i x ρ O' hx ⟨⟨u,rfl⟩,rfl⟩
   rw [List.getElem?_map] at hx
   cases hi:ps[i]? with
   | none=>rw [hi] at hx; cases hx
   | some p=>
    rw [hi] at hx
    cases hx
    have hb:=hp.2 p (List.mem_of_getElem? hi)
    refine ⟨_,AW 2 Pc.nd,?_⟩
    exact Ac (Bd (Ad.ev (AH jh (hr.mono wE) (Ab Ec (Ab (Aa 2) (Ab Ag (Ab (Aj (AH jk (hr.mono wE) (Ab Ag (Ab (Hu T.br.choose_spec) Af)) ⟨10,60,rfl,by decide,by decide,rfl⟩) Ag D8) Af)))) ⟨_,_,_,_,rfl,hb,rfl⟩) (Ar ⟨⟨_,rfl⟩,rfl⟩)))
  ·rintro ρ O' ⟨⟨u,rfl⟩,rfl⟩
   exact Ar hR
theorem WK (Fn:Au K "push_of" "push_of" KA f fd) (hm:mg "push_of" = some (.ref f)) (hb:Binds K fd ["many","push"] []) (gy:Am P w K mg base 3 "check_push" (AE Ot)):Am P w K mg base 4 "push_of" (AE Os):=by
 refine A2 (k:=3) Fn Ug hm hb (λds O R h=>?_) (λcdv A outer s H E ds O R hr h=>?_)
 ·obtain ⟨_,⟨_,_,rfl,_⟩,_⟩:=h; rfl
 ·obtain ⟨d,⟨m,po,rfl,hm,hp,rfl⟩,hR⟩:=h
  cases po with
  | none=>
   refine Ac (AR (AN (Aa 1) B5 EX) (λhk=>?_) (λhk=>by cases hk))
   refine Ac (AC (Ad.ev (Aj (BP (Ab Ag Af)) (Aa 0) (Ge hm.1 wF (by simp) (by rw [sizeLine_eq]; show 1*m.toNat<=_; omega))) ?_))
   rw [JL]
   exact hR
  | some ps=>
   have hp:FP m ps:=hp
   have hm2:=hm.2
   refine Ac (AR (AN (Aa 1) B5 EX) (λhk=>by cases hk) (λhk=>Ar ?_))
   refine Ac (Bd (Ad.ev (AH gy (hr.mono wE) (Ab (Aa 0) (Ab (Aa 1) Af)) ⟨m,ps,rfl,hp,hm2,rfl⟩) ?_))
   exact Ac (AC (Ad.ev (Aa 1) hR))
theorem Xh (Fn:Au K "first_least" "first_least" K4 f fd) (hm:mg "first_least" = some (.ref f)) (hb:Binds K fd ["scores","advisers"] []):Am P w K mg base 1 "first_least" (AE OH):=by
 refine A2 (k:=0) Fn Us hm hb (λds O R h=>?_) (λcdv A outer s H E ds O R hr h=>?_)
 ·obtain ⟨_,⟨_,_,_,rfl,_⟩,_⟩:=h; rfl
 ·obtain ⟨d,⟨sc,as,k,rfl,hl,hb,hf,rfl⟩,hR⟩:=h
  have hy:∀ q∈as,Bv (sc.map D.int) (q:Nat)=some (.int (sc.getD q 0)):=λq hq=>RJ (hb q hq)
  have hne:(as.map λk=>(sc.getD k 0,((k:Nat):Int)))≠[]:=λz=>by
   rw [List.map_eq_nil_iff] at z
   have:=hf.1
   rw [z] at this
   cases this
  refine Ac (AC (Ad.ev (CT (A0 T.bf (Ab (CG (λk:Nat=>pD (sc.getD k 0,((k:Nat):Int))) ["adviser"] ["scores"] [0] (Cp (Aa 1) wB) (by rw [sizeLine_eq]; omega) (by exact λq hq s H fp=>⟨[some _],rfl,(AW 0 (show List.Nodup (["adviser","scores"]:List Str) by decide +kernel)),⟨_,rfl,(BP (Ab (CT (Aa 1) (Aa 0) (hy q hq)) (Ab (Aa 0) Af)))⟩⟩)) Af) (Q0I hr (ps:=as.map λk=>(sc.getD k 0,((k:Nat):Int))) (Or.inl (congrArg D.lst (by rw [List.map_map]; rfl))) hne)) Ag rfl) ?_))
  rw [Yq hf]
  exact hR
theorem Xk (Fn:Au K "check_turns" "check_turns" K7 f fd) (hm:mg "check_turns" = some (.ref f)) (hb:Binds K fd ["many","scale","turns"] []) (kj:Am P w K mg base 4 "is_turn" (AE Kc)) (J_NoTurn:Nt P w K mg base CK6 1 "NoTurn" "number"):Ek P w K mg base 5 "check_turns" (J6 CK6):=by
 refine ⟨f,fd,_,Ma (k:=4) Fn Kq (λds O R RX h=>?_) (λcdv A outer s H E ds O R RX hr h=>?_),hm,Fn.kp,hb⟩
 ·obtain ⟨_,_,_,rfl,_⟩:=h; rfl
 ·obtain ⟨m,s,a,rfl,hA,h1,h2⟩:=h
  cases a with
  | o v=>
   have hT:Ez (ov v) "tuple" = false:=by cases v <;> first | rfl | cases hA
   refine CK (GE (k:=true) (AV.cast (BJ (BB (A0 T.xu (Ab (Aa 2) (Ab (CD T.xn) Af)) (Ef (Hc v))))) (by rw [hT]; rfl)) (λhk=>?_) (λhk=>by cases hk))
   exact CK (NF J_NoTurn (hr.mono wE) (Ab Ag Af) (h2 0 rfl) trivial)
  | ts ts=>
   refine CK (GE (BJ (BB (A0 T.xu (Ab (Aa 2) (Ab (CD T.xn) Af)) (Ef rfl)))) (λhk=>by cases hk) (λhk=>Fq ?_))
   refine CK (Sr (Gr (QN (Aa 2) wB T.bc)) (λi ρ O'=>(∃ u v:Option D,ρ=[some (.int m),some (.int s),some (.tup (ts.map tv)),u,v])/\O'=O/\∀ j t',j<i->ts[j]?=some t'->D1 m s t'=true) ⟨⟨_,_,rfl⟩,rfl,λj t' hj=>absurd hj (Nat.not_lt_zero _)⟩ ?_ ?_)
   ·rintro i x ρ O' hx ⟨⟨u,v,rfl⟩,rfl,hg⟩
    rw [List.getElem?_map,List.getElem?_zipIdx] at hx
    cases hp:ts[i]? with
    | none=>rw [hp] at hx; cases hx
    | some t=>
     rw [hp,Nat.zero_add] at hx
     cases hx
     have hs:=hA t (List.mem_of_getElem? hp)
     refine ⟨_,DJ (BZ (AW 3 Kq.nd) (BZ (AW 4 Kq.nd) DI)),?_⟩
     refine CK (GE (BJ (BB (AH kj (hr.mono wE) (Ab (Aa 0) (Ab (Aa 1) (Ab (Aa 4) Af))) ⟨m,s,t,rfl,hs,rfl⟩))) (λhk=>?_) (λhk=>Fq (Fq ⟨⟨_,_,rfl⟩,rfl,λj t' hj hq=>?_⟩)))
     ·exact CK (NF J_NoTurn (hr.mono wE) (Ab (Aa 3) Af) (h2 i ⟨⟨t,hp,Ya hk⟩,hg⟩) trivial)
     ·by_cases z:j=i
      ·subst z
       rw [hp] at hq
       cases hq
       exact Yb hk
      ·exact hg j t' wF hq
   ·rintro ρ O' ⟨⟨u,v,rfl⟩,rfl,hg⟩
    refine Fq (h1 λt ht=>?_)
    obtain ⟨i,hi,rfl⟩:=List.getElem_of_mem ht
    exact hg i _ (by rw [List.length_map,List.length_zipIdx]; exact hi) (List.getElem?_eq_getElem hi)
theorem XY (Fn:Au K "__init__" "Hand.__init__" LD f fd)  (gz:Am P w K mg base 4 "check_making" (AE Ox)):AF P w K mg base AI 5 f fd ["self","many","scale"] (AK K (EQ (λC=>C=CK1\/C=CK12\/C=CK9\/C=CK8\/C=CK10\/C=CK0))):=by
 refine Bh (k:=4) Fn UU (λds O R h=>?_) (λcdv A outer s H E ds O R hr h=>?_)
 ·obtain ⟨_,_,_,_,rfl,_⟩:=h; rfl
 ·obtain ⟨q,m,s,C,rfl,hC,hq,hm,hs,hR⟩:=h
  have hc:A4 K C:=by rcases hC with rfl | rfl | rfl | rfl | rfl | rfl; exact T.bu.cls; exact T.de.cls; exact T.du.cls; exact T.eu.cls; exact T.fz.cls; exact T.fq.cls
  have n1:As K C "many" := by rcases hC with rfl | rfl | rfl | rfl | rfl | rfl; exact T.bw; exact T.dg; exact T.dy; exact T.fh; exact T.lb; exact T.fu
  have n2:As K C "scale" := by rcases hC with rfl | rfl | rfl | rfl | rfl | rfl; exact T.bx; exact T.dh; exact T.dz; exact T.fi; exact T.lc; exact T.fv
  refine Ac (Bd (Ad.ev (AH gz (hr.mono wE) (Ab (Aa 1) (Ab (Aa 2) Af)) ⟨_,_,rfl,by assumption,by assumption,rfl⟩) ?_))
  refine Ac (BY (Aa 1) (Aa 0) hq hc n1 wE ?_)
  refine Ac (BY (Aa 2) (Aa 0) (Cc hq) hc n2 (by show 1<1000; decide) ?_)
  refine Ar ?_
  rw [List.set_set,VH]
  exact hR
theorem XV (Fn:Au K "heeded" "Hand.heeded" Lz f fd)  : AF P w K mg base AI 1 f fd ["self"] (AK K (OD CK1)):=by
 refine Bh (k:=0) Fn UR (λds O R h=>?_) (λcdv A outer s H E ds O R hr h=>?_)
 ·obtain ⟨_,_,_,rfl,_⟩:=h; rfl
 ·obtain ⟨q,m,s,rfl,hq,hm,hR⟩:=h
  refine Ac (AC (Ad.ev (Aj (BP (Ab Ag Af)) (Az (Aa 0) hq T.bu.cls T.bw (Hj m s)) (Ge hm.1 wF (by simp) (by rw [sizeLine_eq]; show 1*m.toNat<=_; omega))) ?_))
  rw [PR]
  exact hR
theorem Xx (Fn:Au K "heeded" "Weigher.heeded" Lk f fd)  : AF P w K mg base AI 1 f fd ["self"] (AK K (Kg CK12 CK9)):=by
 refine Bh (k:=0) Fn UF (λds O R h=>?_) (λcdv A outer s H E ds O R hr h=>?_)
 ·obtain ⟨_,_,_,_,_,rfl,_⟩:=h; rfl
 ·obtain ⟨q,sf,p,u,ws,rfl,hW,hR⟩:=h
  exact Ac (AC (Ad.ev (Az (Aa 0) hW (cv T.de.cls T.du.cls sf) (nv T.dl T.eg sf) (NL sf p u ws)) hR))
theorem XM (Fn:Au K "heeded" "Rounder.heeded" Lu f fd)  : AF P w K mg base AI 1 f fd ["self"] (AK K (OC CK8)):=by
 refine Bh (k:=0) Fn UM (λds O R h=>?_) (λcdv A outer s H E ds O R hr h=>?_)
 ·obtain ⟨_,_,_,_,_,rfl,_⟩:=h; rfl
 ·obtain ⟨jj,m,s,ov,ins,rfl,hO,hl,hR⟩:=h
  refine Ac (AC (Ad.ev (BV T.xn (Ab (CG (λb:Bool=>if b=true then D.int 1 else D.int 0) ["one"] [] [] (Cp (Az (Aa 0) hO T.eu.cls T.fj (Po m s ov ins)) wB) (by rw [sizeLine_eq]; omega) (by exact λq hq s H fp=>⟨[some _],rfl,(AW 0 (show List.Nodup (["one"]:List Str) by decide +kernel)),⟨_,rfl,(MH (BB (Aa 0)) (λhbb=>Ag) (λhbb=>Ag))⟩⟩)) Af) (B0 (by first | exact Or.inr rfl | exact Or.inl (Or.inl rfl) | exact Or.inl (Or.inr (Or.inl rfl)) | exact Or.inl (Or.inr (Or.inr ⟨_,rfl,by first | assumption | rfl⟩))))) ?_))
  rw [Ze]
  exact hR
theorem XU (Fn:Au K "say" "Hand.say" Ly f fd)  (jn:Am P w K mg base 4 "check_said" (AE Ih)) (gd:Am P w K mg base 4 "middle_awake" (AE Oy)) (za:Al P w K mg base CK1 1 "heeded" (OD CK1)) (zb:Al P w K mg base CK12 1 "heeded" (Kg CK12 CK9)) (zc:Al P w K mg base CK9 1 "heeded" (Kg CK12 CK9)) (zd:Al P w K mg base CK8 1 "heeded" (OC CK8)):AF P w K mg base AI 6 f fd ["self","said"] (AK K (Bp CK1 CK12 CK9 CK8)):=by
 refine Bh (k:=5) Fn UQ (λds O R h=>?_) (λcdv A outer s H E ds O R hr h=>?_)
 ·obtain ⟨_,_,_,_,_,rfl,_⟩:=h; rfl
 ·obtain ⟨q,m,s,ws,said,rfl,hq,hm,hs,hl,hw,hR⟩:=h
  have hs1:=hs.1
  have h24:said.length<=24:=by have:=hs.2.1; omega
  have hll:ws.length=said.length:=by omega
  rcases hq with ⟨hq,rfl⟩ | ⟨sf,p,u,hW,rfl,rfl⟩ | ⟨ins,ov,hq,rfl⟩
  ·refine Ac (Bd (Ad.ev (AH jn (hr.mono wE) (Ab (Az (Aa 0) hq T.bu.cls T.bw (Hj m s)) (Ab (Az (Aa 0) hq T.bu.cls T.bx (IZ m s)) (Ab (Aa 1) Af))) ⟨_,_,_,rfl,by assumption,rfl⟩) ?_))
   exact Ac (AC (Ad.ev (AH gd (hr.mono wE) (Ab (Aa 1) (Ab (Ev.evp (ED za (hr.mono wE) (Aa 0) hq (Za m s) ⟨q,m,s,rfl,hq,hm,rfl,rfl⟩)) Af)) ⟨_,_,rfl,by assumption,by assumption,by assumption,rfl⟩) hR))
  ·refine Ac (Bd (Ad.ev (AH jn (hr.mono wE) (Ab (Az (Aa 0) hW (cv T.de.cls T.du.cls sf) (nv T.dg T.dy sf) (NN sf p u ws)) (Ab (Az (Aa 0) hW (cv T.de.cls T.du.cls sf) (nv T.dh T.dz sf) (HU sf p u ws)) (Ab (Aa 1) Af))) ⟨_,_,_,rfl,by assumption,rfl⟩) ?_))
   exact Ac (AC (Ad.ev (AH gd (hr.mono wE) (Ab (Aa 1) (Ab (Ev.evp (ED (mv zb zc sf) (hr.mono wE) (Aa 0) hW (GH sf p u ws wD wD) ⟨q,sf,p,u,ws,rfl,hW,rfl,rfl⟩)) Af)) ⟨_,_,rfl,by assumption,by assumption,by assumption,rfl⟩) hR))
  ·have hi24:ins.length<=24:=by have:(Em ins).length=ins.length:=List.length_map ..; omega
   refine Ac (Bd (Ad.ev (AH jn (hr.mono wE) (Ab (Az (Aa 0) hq T.eu.cls T.fh (G0 m s ov ins)) (Ab (Az (Aa 0) hq T.eu.cls T.fi (IC m s ov ins)) (Ab (Aa 1) Af))) ⟨_,_,_,rfl,by assumption,rfl⟩) ?_))
   exact Ac (AC (Ad.ev (AH gd (hr.mono wE) (Ab (Aa 1) (Ab (Ev.evp (ED zd (hr.mono wE) (Aa 0) hq (ID m s ov ins wD) ⟨q,m,s,ov,ins,rfl,hq,hi24,rfl,rfl⟩)) Af)) ⟨_,_,rfl,by assumption,by assumption,by assumption,rfl⟩) hR))
theorem XW (Fn:Au K "hear" "Hand.hear" LA f fd)  (jd:Am P w K mg base 5 "check_turn" (AE Fv)):AF P w K mg base AI 6 f fd ["self","said","so"] (AK K (FX CK1)):=by
 refine Bh (k:=5) Fn US (λds O R h=>?_) (λcdv A outer s H E ds O R hr h=>?_)
 ·obtain ⟨_,_,_,_,_,rfl,_⟩:=h; rfl
 ·obtain ⟨q,m,sc,so,said,rfl,hq,hs,hso,hR⟩:=h
  exact Ac (Bd (Ad.ev (AH jd (hr.mono wE) (Ab (Az (Aa 0) hq T.bu.cls T.bw (Hj m sc)) (Ab (Az (Aa 0) hq T.bu.cls T.bx (IZ m sc)) (Ab (Aa 1) (Ab (Aa 2) Af)))) ⟨_,_,_,_,rfl,by assumption,by assumption,rfl⟩) (Ar hR)))
theorem XX (Fn:Au K "anew" "Hand.anew" LC f fd)  (kn:Cy P w K mg base CK1 5 "Hand" (EQ (λC=>C=CK1\/C=CK12\/C=CK9\/C=CK8\/C=CK10\/C=CK0))):AF P w K mg base AI 7 f fd ["self"] (AK K (F1 CK1)):=by
 refine Bh (k:=6) Fn UT (λds O R h=>?_) (λcdv A outer s H E ds O R hr h=>?_)
 ·obtain ⟨_,_,_,rfl,_⟩:=h; rfl
 ·obtain ⟨q,m,sc,rfl,hq,hm,hs,hR⟩:=h
  refine Ac (AC (DR kn (hr.mono wE) (Ab (Az (Aa 0) hq T.bu.cls T.bw (Hj m sc)) (Ab (Az (Aa 0) hq T.bu.cls T.bx (IZ m sc)) Af)) ⟨O.length,m,sc,CK1,rfl,.inl rfl,Be,hm,hs,rfl,?_⟩))
  rw [CM]
  exact hR
theorem XS (Fn:Au K "__init__" "Rounder.__init__" Lx f fd)  (jl:Ff P w K mg base "Hand" 5 "__init__" (EQ (λC=>C=CK1\/C=CK12\/C=CK9\/C=CK8\/C=CK10\/C=CK0))):AF P w K mg base AI 6 f fd ["self","many","scale"] (AK K (Kf CK8)):=by
 refine Bh (k:=5) Fn UO (λds O R h=>?_) (λcdv A outer s H E ds O R hr h=>?_)
 ·obtain ⟨_,_,_,rfl,_⟩:=h; rfl
 ·obtain ⟨q,m,s,rfl,hq,hm,hs,hR⟩:=h
  refine Ac (Bd (Hs jl (hr.mono wE) (Ab (Aa 0) (Ab (Aa 1) (Ab (Aa 2) Af))) ⟨q,m,s,CK8,rfl,.inr (.inr (.inr (.inl rfl))),hq,hm,hs,?_⟩))
  refine Ac (BY (Aj (BP (Ab Dz Af)) (Aa 1) (Ge hm.1 wF (by simp) (by rw [sizeLine_eq]; show 1*m.toNat<=_; omega))) (Aa 0) (Cc hq) T.eu.cls T.fj (by show 2<1000; decide) ?_)
  rw [List.set_set,show BG m s=r2 m s from rfl,VD,NT]
  refine Ac (BY Ag (Aa 0) (Cc hq) T.eu.cls T.fk (by show 3<1000; decide) ?_)
  rw [List.set_set,VC]
  exact Ar hR
theorem XO (Fn:Au K "hear" "Rounder.hear" Lv f fd)  (jd:Am P w K mg base 5 "check_turn" (AE Fv)) (ji:Am P w K mg base 1 "charge" (AE FZ)):AF P w K mg base AI 6 f fd ["self","said","so"] (AK K (FW CK8)):=by
 refine Bh (k:=5) Fn Pi (λds O R h=>?_) (λcdv A outer s H E ds O R hr h=>?_)
 ·obtain ⟨_,_,_,_,_,_,_,rfl,_⟩:=h; rfl
 ·obtain ⟨jj,m,s,ov,so,ins,said,rfl,hO,hm,hs,hso,hl,hR⟩:=h
  have hs1:=hs.1
  have hzl:(ins.zip said).length<=63:=by rw [List.length_zip]; omega
  refine Ac (Bd (Ad.ev (AH jd (hr.mono wE) (Ab (Az (Aa 0) hO T.eu.cls T.fh (G0 m s ov ins)) (Ab (Az (Aa 0) hO T.eu.cls T.fi (IC m s ov ins)) (Ab (Aa 1) (Ab (Aa 2) Af)))) ⟨_,_,_,_,rfl,by assumption,by assumption,rfl⟩) ?_))
  refine Ac (AQ 3 (Ad.ev (BV T.xn (Ab (CG (λp:Bool×Option Int=>.bl (p.1&&decide (EY p.2 so=0))) ["one","what"] ["so"] [2] (Gr (Ho (Az (Aa 0) hO T.eu.cls T.fj (Po m s ov ins)) (Aa 1) wB wB T.xq)) (by rw [sizeLine_eq]; omega) (by exact λq hq s H fp=>⟨[some _,some _],rfl,(DJ (BZ (AW 0 (show List.Nodup (["one","what","so"]:List Str) by decide +kernel)) (BZ (AW 1 (show List.Nodup (["one","what","so"]:List Str) by decide +kernel)) DI))),⟨_,rfl,(C4 (Aa 0) (λhbb=>(Ed (Dy (AH ji (hr.mono wE) (Ab (Aa 1) (Ab (Aa 2) Af)) ⟨_,_,rfl,rfl⟩) Ag Bb))))⟩⟩)) Af) (B0 (by first | exact Or.inr rfl | exact Or.inl (Or.inl rfl) | exact Or.inl (Or.inr (Or.inl rfl)) | exact Or.inl (Or.inr (Or.inr ⟨_,rfl,by first | assumption | rfl⟩))))) ?_) Pi.nd)
  have e1:((ins.zip said).map λp:Bool×Option Int=>D.bl (p.1&&decide (EY p.2 so=0)))=(Ew said so ins).map D.bl:=by
   unfold Ew
   rw [List.map_map]
   rfl
  rw [e1]
  have hLl:(Ew said so ins).length=ins.length:=Qo wF
  unfold Gg Mf at hR
  generalize Ew said so ins=left at hR hLl
  refine Ac (AR (BB (A0 T.xz (Ab (Aa 3) Af) (Q0L (by first | exact Or.inr rfl | exact Or.inl (Or.inl rfl) | exact Or.inl (Or.inr (Or.inl rfl)) | exact Or.inl (Or.inr (Or.inr ⟨_,rfl,by first | assumption | rfl⟩)))))) (λhk=>?_) (λhk=>?_))
  ·rw [if_pos hk,if_pos hk] at hR
   refine Ac (BY (Aa 3) (Aa 0) hO T.eu.cls T.fj (by show 4<1000; decide) ?_)
   rw [Pn]
   exact Ar (Ar hR)
  ·have hk':¬ left.any id=true:=by rw [hk]; exact Bool.false_ne_true
   rw [if_neg hk',if_neg hk'] at hR
   refine Ac (BY (Aj (BP (Ab Dz Af)) (Az (Aa 0) hO T.eu.cls T.fh (G0 m s ov ins)) (Ge hm.1 wF (by simp) (by rw [sizeLine_eq]; show 1*m.toNat<=_; omega))) (Aa 0) hO T.eu.cls T.fj (by show 4<1000; decide) ?_)
   rw [NT,Pn]
   have hO2:(O.set jj (some (MO.ins CK8 (BR m s (List.replicate m.toNat true) ov))))[jj]?=some (some (.ins CK8 (BR m s (List.replicate m.toNat true) ov))):=Cc hO
   refine Ac (BY (Aj (Az (Aa 0) hO2 T.eu.cls T.fk (Vc m s ov _)) Ag BD) (Aa 0) hO2 T.eu.cls T.fk (by show 4<1000; decide) ?_)
   rw [List.set_set,Va]
   have e:m.toNat=ins.length:=by omega
   rw [e]
   exact Ar (Ar hR)
theorem XQ (Fn:Au K "anew" "Rounder.anew" Lw f fd)  (ko:Cy P w K mg base CK8 6 "Rounder" (Kf CK8)):AF P w K mg base AI 8 f fd ["self"] (AK K (F0 CK8)):=by
 refine Bh (k:=7) Fn UN (λds O R h=>?_) (λcdv A outer s H E ds O R hr h=>?_)
 ·obtain ⟨_,_,_,_,_,rfl,_⟩:=h; rfl
 ·obtain ⟨q,m,s,ov,ins,rfl,hq,hm,hs,hR⟩:=h
  refine Ac (AC (DR ko (hr.mono wE) (Ab (Az (Aa 0) hq T.eu.cls T.fh (G0 m s ov ins)) (Ab (Az (Aa 0) hq T.eu.cls T.fi (IC m s ov ins)) Af)) ⟨O.length,m,s,rfl,Be,hm,hs,rfl,?_⟩))
  rw [CM]
  exact hR
theorem XA (Fn:Au K "__init__" "Weigher.__init__" Ln f fd)  (ze:Am P w K mg base 3 "check_fraction" (AE OG)) (jl:Ff P w K mg base "Hand" 5 "__init__" (EQ (λC=>C=CK1\/C=CK12\/C=CK9\/C=CK8\/C=CK10\/C=CK0))):AF P w K mg base AI 6 f fd ["self","many","scale","top","bottom"] (AK K (GM CK12 CK9)):=by
 refine Bh (k:=5) Fn UI (λds O R h=>?_) (λcdv A outer s H E ds O R hr h=>?_)
 ·obtain ⟨_,_,_,rfl,_⟩:=h; rfl
 ·obtain ⟨q,sf,p,rfl,hq,hp,hR⟩:=h
  obtain ⟨m,s,t,b,sh,pa⟩:=p
  have hm:1<=m/\m<=24:=⟨hp.m1,hp.m2⟩
  have hb:0<=t/\t<b/\b<=100:=⟨hp.f.t0,hp.f.tb,hp.f.b2⟩
  refine Ac (Bd (Ad.ev (AH ze (hr.mono wE) (Ab (Aa 3) (Ab (Aa 4) Af)) ⟨_,_,rfl,by assumption,rfl⟩) ?_))
  refine Ac (Bd (Hs jl (hr.mono wE) (Ab (Aa 0) (Ab (Aa 1) (Ab (Aa 2) Af))) ⟨q,m,s,CL CK12 CK9 sf,rfl,(by cases sf; exact .inr (.inl rfl); exact .inr (.inr (.inl rfl))),hq,hm,⟨hp.f.s1,hp.f.s2⟩,?_⟩))
  have q1:=Cc (y:=some (.ins (CL CK12 CK9 sf) (BG m s))) hq
  refine Ac (BY (Aa 3) (Aa 0) q1 (cv T.de.cls T.du.cls sf) (nv T.di T.ee sf) (by show 2<1000; decide) ?_)
  rw [List.set_set,VA]
  refine Ac (BY (Aa 4) (Aa 0) (Cc hq) (cv T.de.cls T.du.cls sf) (nv T.dj T.ef sf) (by show 3<1000; decide) ?_)
  rw [List.set_set,VL]
  refine Ac (BY (Aj (BP (Ab Ag Af)) (Aa 1) (Ge hm.1 wF (by simp) (by rw [sizeLine_eq]; show 1*m.toNat<=_; omega))) (Aa 0) (Cc hq) (cv T.de.cls T.du.cls sf) (nv T.dl T.eg sf) (by show 4<1000; decide) ?_)
  rw [List.set_set,Vz,PR]
  refine Ac (BY Ag (Aa 0) (Cc hq) (cv T.de.cls T.du.cls sf) (nv T.dm T.eh sf) (by show 5<1000; decide) ?_)
  rw [List.set_set,Vy]
  exact Ar hR
theorem XL (Fn:Au K "__init__" "Shifter.__init__" Ls f fd)  (zg:Am P w K mg base 3 "check_share" (AE Oj)) (zh:Ff P w K mg base "Weigher" 6 "__init__" (GM CK12 CK9)):AF P w K mg base AI 7 f fd ["self","many","scale","top","bottom","share","parts"] (AK K (Ke CK9)):=by
 refine Bh (k:=6) Fn UL (λds O R h=>?_) (λcdv A outer s H E ds O R hr h=>?_)
 ·obtain ⟨_,_,rfl,_⟩:=h; rfl
 ·obtain ⟨q,p,rfl,hq,hp,hR⟩:=h
  have hsh:1<=p.sh/\p.sh<p.pa/\p.pa<=100:=⟨hp.h1,hp.h2,hp.h3⟩
  refine Ac (Bd (Ad.ev (AH zg (hr.mono wE) (Ab (Aa 5) (Ab (Aa 6) Af)) ⟨_,_,rfl,by assumption,rfl⟩) ?_))
  refine Ac (Bd (Hs zh (hr.mono wE) (Ab (Aa 0) (Ab (Aa 1) (Ab (Aa 2) (Ab (Aa 3) (Ab (Aa 4) Af))))) ⟨q,true,p,rfl,hq,⟨hp.f,hp.m1,hp.m2,λz=>by cases z⟩,?_⟩))
  have q1:=Cc (y:=some (.ins CK9 (BC p.m p.sc p.t p.b (List.replicate p.m.toNat 1) 1))) hq
  refine Ac (BY (Aa 5) (Aa 0) q1 T.du.cls T.ej (by show 6<1000; decide) ?_)
  rw [List.set_set,VB]
  refine Ac (BY (Aa 6) (Aa 0) (Cc hq) T.du.cls T.em (by show 7<1000; decide) ?_)
  rw [List.set_set,VE]
  exact Ar hR
theorem Xw (Fn:Au K "weigh" "Weigher.weigh" Lj f fd)  (ji:Am P w K mg base 1 "charge" (AE FZ)) (ja:Al P w K mg base CK12 6 "say" (Bp CK1 CK12 CK9 CK8)) (jb:Al P w K mg base CK9 6 "say" (Bp CK1 CK12 CK9 CK8)) (zi:Am P w K mg base 3 "times" (Og CK12 CK9)) (km:Am P w K mg base 2 "times_asleep" (J8 CK12 CK9)):AF P w K mg base AI 7 f fd ["self","said","so"] (AK K (J5 CK12 CK9)):=by
 refine Bh (k:=6) Fn Pd (λds O R h=>?_) (λcdv A outer s H E ds O R hr h=>?_)
 ·obtain ⟨_,_,_,_,_,_,_,_,rfl,_⟩:=h; rfl
 ·obtain ⟨jj,n,sf,p,u,so,said,ws,rfl,hW,hp,hn,hwo,hl,hs,hso,hR⟩:=h
  have hf:=hp.f
  have hs1:=hs.1
  have h24:=hs.2.1
  have h0:DX ws:=λw hw=>(hwo.w w hw).1
  have hon:=Hg (ws:=ws) hs (by have:=hf.s1; omega) h0
  have hd:=Jt hon hso
  refine Ac (AQ 3 (Ad.ev (AH ji (hr.mono wE) (Ab (Ev.evp (CQ (mv ja jb sf) (hr.mono wE) (Aa 0) hW (GH sf p u ws wD wD) (Ab (Aa 1) Af) ⟨jj,p.m,p.sc,ws,said,rfl,.inr (.inl ⟨sf,p,u,hW,rfl,rfl⟩),⟨hp.m1,hp.m2⟩,hs,hl,h0,rfl,rfl⟩)) (Ab (Aa 2) Af)) ⟨some (BU said ws),so,rfl,rfl⟩) ?_) Pd.nd)
  have hdd:EY (some (BU said ws)) so=ab (BU said ws-so):=rfl
  rw [hdd]
  generalize ab (BU said ws-so)=dd at hd hR
  have hzl:(ws.zip said).length<=63:=by rw [List.length_zip]; omega
  have hi:∀ q∈ws.zip said,IntMulOk q.1 (tF p.t p.b p.sc dd so q.2):=λq hq=>by
   have h1:=hwo.w _ (List.of_mem_zip hq).1
   have h2:=J0 hf hd.2 hso (hs.2.2 _ (List.of_mem_zip hq).2)
   exact Eu h1.1 h1.2 h2.1 h2.2 wF
  have hin:∀ q∈ws.zip said,q.2=none\/Ds p.sc q.2=true:=λq hq=>hs.2.2 _ (List.of_mem_zip hq).2
  refine Ac (BY (BV T.xn (Ab (CG (λq:Int×Option Int=>.int (q.1*tF p.t p.b p.sc dd so q.2)) ["kept","what"] ["self","own","so"] [0,3,2] (Gr (Ho (Az (Aa 0) hW (cv T.de.cls T.du.cls sf) (nv T.dl T.eg sf) (NL sf p u ws)) (Aa 1) wB wB T.xq)) (by rw [sizeLine_eq]; omega) (by exact λq hq s H fp=>⟨[some _,some _],rfl,(DJ (BZ (AW 0 (show List.Nodup (["kept","what","self","own","so"]:List Str) by decide +kernel)) (BZ (AW 1 (show List.Nodup (["kept","what","self","own","so"]:List Str) by decide +kernel)) DI))),⟨_,rfl,(Aj (Aa 0) (Ev.evp (Bs zi (hr.mono wE) (Ab (Aa 2) (Ab (Aa 3) (Ab (Aa 1) (Ab (Aa 4) Af)))) ⟨_,_,_,_,_,_,q.2,_,rfl,hW,hp,hd,hso,hin q hq,rfl,rfl⟩)) (Cr (hi q hq)))⟩⟩)) Af) (B0 (by first | exact Or.inr rfl | exact Or.inl (Or.inl rfl) | exact Or.inl (Or.inr (Or.inl rfl)) | exact Or.inl (Or.inr (Or.inr ⟨_,rfl,by first | assumption | rfl⟩))))) (Aa 0) hW (cv T.de.cls T.du.cls sf) (nv T.dl T.eg sf) (NK ..) ?_)
  have e1:((ws.zip said).map λq:Int×Option Int=>D.int (q.1*tF p.t p.b p.sc dd so q.2))=(CP p.t p.b p.sc dd so said ws).map D.int:=by
   unfold CP
   rw [List.map_map]
   rfl
  rw [e1,SJ]
  have h1:=HX (own:=dd) hf hd.2
  have hW2:(O.set jj (some (MO.ins (CL CK12 CK9 sf) (Ci sf p (CP p.t p.b p.sc dd so said ws) u))))[jj]?=some (some (.ins (CL CK12 CK9 sf) (Ci sf p (CP p.t p.b p.sc dd so said ws) u))):=Cc hW
  refine Ac (BY (Aj (Az (Aa 0) hW2 (cv T.de.cls T.du.cls sf) (nv T.dm T.eh sf) (SK sf p u _)) (Ev.evp (Bs km (hr.mono wE) (Ab (Aa 0) (Ab (Aa 3) Af)) ⟨jj,sf,p,u,dd,_,rfl,hW2,hp,hd,rfl,rfl⟩)) (Cr (Eu hwo.u0 hwo.u1 h1.1 h1.2 wF))) (Aa 0) hW2 (cv T.de.cls T.du.cls sf) (nv T.dm T.eh sf) (NK ..) ?_)
  rw [List.set_set,SI]
  exact Ar hR
theorem XI (Fn:Au K "deal" "Shifter.deal" Lq f fd)  : AF P w K mg base AI 1 f fd ["self"] (AK K (OI CK9)):=by
 refine Bh (k:=0) Fn Kr (λds O R h=>?_) (λcdv A outer s H E ds O R hr h=>?_)
 ·obtain ⟨_,_,_,_,rfl,_⟩:=h; rfl
 ·obtain ⟨jj,p,u,ws,rfl,hW,hp,hl,hR⟩:=h
  have hk:=Qt hp
  have p1:=hp.h1; have p2:=hp.h2; have p3:=hp.h3; have m1:=hp.m1; have m2:=hp.m2
  refine Ac (AQ 1 (Ad.ev (Aj (Az (Aa 0) hW T.du.cls T.ej (JH p u ws)) (A0 T.xp (Ab (Az (Aa 0) hW T.du.cls T.eg (JG p u ws)) Af) (MU (Or.inr rfl))) (Cr (DE.ok (Or.inl ⟨by omega,by omega⟩)))) ?_) Kr.nd)
  refine Ac (AQ 2 (Ad.ev (Aj (Az (Aa 0) hW T.du.cls T.dy (GB p u ws)) (Aj (Az (Aa 0) hW T.du.cls T.em (JJ p u ws)) (Az (Aa 0) hW T.du.cls T.ej (JH p u ws)) D8) (Cr (DE.ok (Or.inl ⟨by omega,by omega⟩)))) ?_) Kr.nd)
  refine Ac (BY (BV T.xn (Ab (CG (λw:Int=>.int (w*(p.m*(p.pa-p.sh))+p.sh*ws.sum)) ["one"] ["kept","dealt"] [2,1] (Cp (Az (Aa 0) hW T.du.cls T.eg (JG p u ws)) wB) (by rw [sizeLine_eq]; omega) (by exact λq hq s H fp=>⟨[some _],rfl,(AW 0 (show List.Nodup (["one","kept","dealt"]:List Str) by decide +kernel)),⟨_,rfl,(Aj (Aj (Aa 0) (Aa 1) (Cr (DE.ok (Or.inr ⟨by omega,by omega⟩)))) (Aa 2) BD)⟩⟩)) Af) (B0 (by first | exact Or.inr rfl | exact Or.inl (Or.inl rfl) | exact Or.inl (Or.inr (Or.inl rfl)) | exact Or.inl (Or.inr (Or.inr ⟨_,rfl,by first | assumption | rfl⟩))))) (Aa 0) hW T.du.cls T.eg (by show 8<1000; decide) ?_)
  have e1:(ws.map λw:Int=>D.int (w*(p.m*(p.pa-p.sh))+p.sh*ws.sum))=(DV p ws).map D.int:=by
   unfold DV
   rw [List.map_map]
   rfl
  rw [e1,Oc]
  have hW2:(O.set jj (some (MO.ins CK9 (Bq p (DV p ws) u))))[jj]?=some (some (.ins CK9 (Bq p (DV p ws) u))):=Cc hW
  refine Ac (BY (Aj (Aj (Az (Aa 0) hW2 T.du.cls T.eh (Nz p u _)) (Az (Aa 0) hW2 T.du.cls T.dy (GB p u _)) (Cr (DE.ok (Or.inr ⟨by omega,by omega⟩)))) (Az (Aa 0) hW2 T.du.cls T.em (JJ p u _)) (Cr (DE.ok (Or.inr ⟨by omega,by omega⟩)))) (Aa 0) hW2 T.du.cls T.eh (by show 8<1000; decide) ?_)
  rw [List.set_set,N9]
  exact Ar hR
theorem Xy (Fn:Au K "hear" "Weigher.hear" Ll f fd)  (jd:Am P w K mg base 5 "check_turn" (AE Fv)) (zj:Al P w K mg base CK12 7 "weigh" (J5 CK12 CK9)):AF P w K mg base AI 8 f fd ["self","said","so"] (AK K (Da CK12 CK9 false)):=by
 refine Bh (k:=7) Fn UG (λds O R h=>?_) (λcdv A outer s H E ds O R hr h=>?_)
 ·obtain ⟨_,_,_,_,_,_,_,rfl,_⟩:=h; rfl
 ·obtain ⟨jj,n,p,u,so,said,ws,rfl,hW,hp,hn,hwo,hl,hs,hso,hR⟩:=h
  have hW':O[jj]?=some (some (.ins CK12 (BC p.m p.sc p.t p.b ws u))):=hW
  refine Ac (Bd (Ad.ev (AH jd (hr.mono wE) (Ab (Az (Aa 0) hW' T.de.cls T.dg (JP ..)) (Ab (Az (Aa 0) hW' T.de.cls T.dh (JO ..)) (Ab (Aa 1) (Ab (Aa 2) Af)))) ⟨_,_,_,_,rfl,by assumption,by assumption,rfl⟩) ?_))
  exact Ac (Bd (CQ zj (hr.mono wE) (Aa 0) hW' (NI _ _ _ _ _ _ wD) (Ab (Aa 1) (Ab (Aa 2) Af)) ⟨jj,n,false,p,u,so,said,ws,rfl,hW,hp,hn,hwo,hl,hs,hso,Ar hR⟩))
theorem XH (Fn:Au K "hear" "Shifter.hear" Lp f fd)  (jd:Am P w K mg base 5 "check_turn" (AE Fv)) (zk:Al P w K mg base CK9 7 "weigh" (J5 CK12 CK9)) (zm:Al P w K mg base CK9 1 "deal" (OI CK9)):AF P w K mg base AI 8 f fd ["self","said","so"] (AK K (Da CK12 CK9 true)):=by
 refine Bh (k:=7) Fn UJ (λds O R h=>?_) (λcdv A outer s H E ds O R hr h=>?_)
 ·obtain ⟨_,_,_,_,_,_,_,rfl,_⟩:=h; rfl
 ·obtain ⟨jj,n,p,u,so,said,ws,rfl,hW0,hp0,hn,hwo,hl,hs,hso,hR⟩:=h
  have hW:Jx CK9 O jj p ws u:=hW0
  have hp:=hp0.so
  refine Ac (Bd (Ad.ev (AH jd (hr.mono wE) (Ab (Az (Aa 0) hW T.du.cls T.dy (GB p u ws)) (Ab (Az (Aa 0) hW T.du.cls T.dz (JI p u ws)) (Ab (Aa 1) (Ab (Aa 2) Af)))) ⟨_,_,_,_,rfl,by assumption,by assumption,rfl⟩) ?_))
  refine Ac (Bd (CQ zk (hr.mono wE) (Aa 0) hW (JK p u ws wD) (Ab (Aa 1) (Ab (Aa 2) Af)) ⟨jj,n,true,p,u,so,said,ws,rfl,hW0,hp0,hn,hwo,hl,hs,hso,?_⟩))
  have hW2:Jx CK9 (O.set jj (some (.ins CK9 (Bq p (CP p.t p.b p.sc (ab (BU said ws-so)) so said ws) (u*tS p.t p.b p.sc (ab (BU said ws-so))))))) jj p (CP p.t p.b p.sc (ab (BU said ws-so)) so said ws) (u*tS p.t p.b p.sc (ab (BU said ws-so))):=Cc hW
  have hs1:=hs.1
  have h24:=hs.2.1
  have hnl:=IP (t:=p.t) (b:=p.b) (sc:=p.sc) (dd:=ab (BU said ws-so)) (so:=so) (show ws.length=said.length by omega)
  refine Ac (Bd (ED zm (hr.mono wE) (Aa 0) hW2 (JK p _ _ wD) ⟨jj,p,_,_,rfl,hW2,hp,by omega,?_⟩))
  rw [List.set_set]
  exact Ar hR
theorem Xz (Fn:Au K "anew" "Weigher.anew" Lm f fd)  (kt:Cy P w K mg base CK12 6 "Weigher" (GM CK12 CK9)):AF P w K mg base AI 9 f fd ["self"] (AK K (Db CK12 CK9 false)):=by
 refine Bh (k:=8) Fn UH (λds O R h=>?_) (λcdv A outer s H E ds O R hr h=>?_)
 ·obtain ⟨_,_,_,_,rfl,_⟩:=h; rfl
 ·obtain ⟨jj,p,u,ws,rfl,hW,hp,hR⟩:=h
  have hW':O[jj]?=some (some (.ins CK12 (BC p.m p.sc p.t p.b ws u))):=hW
  refine Ac (AC (DR kt (hr.mono wE) (Ab (Az (Aa 0) hW' T.de.cls T.dg (JP ..)) (Ab (Az (Aa 0) hW' T.de.cls T.dh (JO ..)) (Ab (Az (Aa 0) hW' T.de.cls T.di (NH ..)) (Ab (Az (Aa 0) hW' T.de.cls T.dj (NJ ..)) Af)))) ⟨O.length,false,p,rfl,Be,hp,rfl,?_⟩))
  rw [CM]
  exact hR
theorem XJ (Fn:Au K "anew" "Shifter.anew" Lr f fd)  (ku:Cy P w K mg base CK9 7 "Shifter" (Ke CK9)):AF P w K mg base AI 9 f fd ["self"] (AK K (Db CK12 CK9 true)):=by
 refine Bh (k:=8) Fn UK (λds O R h=>?_) (λcdv A outer s H E ds O R hr h=>?_)
 ·obtain ⟨_,_,_,_,rfl,_⟩:=h; rfl
 ·obtain ⟨jj,p,u,ws,rfl,hW0,hp0,hR⟩:=h
  have hW:Jx CK9 O jj p ws u:=hW0
  have hp:=hp0.so
  refine Ac (AC (DR ku (hr.mono wE) (Ab (Az (Aa 0) hW T.du.cls T.dy (GB p u ws)) (Ab (Az (Aa 0) hW T.du.cls T.dz (JI p u ws)) (Ab (Az (Aa 0) hW T.du.cls T.ee (NA p u ws)) (Ab (Az (Aa 0) hW T.du.cls T.ef (NB p u ws)) (Ab (Az (Aa 0) hW T.du.cls T.ej (JH p u ws)) (Ab (Az (Aa 0) hW T.du.cls T.em (JJ p u ws)) Af)))))) ⟨O.length,p,rfl,Be,hp,rfl,?_⟩))
  rw [CM]
  exact hR
theorem X3 (Fn:HK K "__init__" "Follower.__init__" Gb f fd [.none])  (zn:Am P w K mg base 4 "push_of" (AE Os)) (jl:Ff P w K mg base "Hand" 5 "__init__" (EQ (λC=>C=CK1\/C=CK12\/C=CK9\/C=CK8\/C=CK10\/C=CK0))):AF P w K mg base AI 6 f fd ["self","many","scale","push"] (AK K (GN CK0)):=by
 refine X4 (k:=5) Fn UX (λds O R h=>?_) (λcdv A outer s H E ds O R hr h=>?_)
 ·obtain ⟨_,_,_,_,rfl,_⟩:=h; rfl
 ·obtain ⟨q,m,s,po,rfl,hq,hm,hs,hp,hR⟩:=h
  refine Ac (Bd (Hs jl (hr.mono wE) (Ab (Aa 0) (Ab (Aa 1) (Ab (Aa 2) Af))) ⟨q,m,s,CK0,rfl,.inr (.inr (.inr (.inr (.inr rfl)))),hq,hm,hs,?_⟩))
  refine Ac (BY (AH zn (hr.mono wE) (Ab (Aa 1) (Ab (Aa 3) Af)) ⟨m,po,rfl,hm,hp,rfl⟩) (Aa 0) (Cc hq) T.fq.cls T.fw (by show 2<1000; decide) ?_)
  rw [List.set_set,show BG m s=g2 m s from rfl,VJ]
  have q3:=Cc (y:=some (.ins CK0 (g3 m s (.tup ((Gc m po).map D.int))))) hq
  refine Ac (BY (Az (Aa 0) q3 T.fq.cls T.fw (Zo _ _ _)) (Aa 0) q3 T.fq.cls T.fx (by show 3<1000; decide) ?_)
  rw [List.set_set,VI]
  exact Ar hR
theorem XZ (Fn:Au K "say" "Follower.say" LE f fd)  (jn:Am P w K mg base 4 "check_said" (AE Ih)) (kl:Am P w K mg base 1 "awake_in" (AE Kh)) (zo:Am P w K mg base 1 "first_least" (AE OH)):AF P w K mg base AI 5 f fd ["self","said"] (AK K (EO CK0)):=by
 refine Bh (k:=4) Fn Pj (λds O R h=>?_) (λcdv A outer s H E ds O R hr h=>?_)
 ·obtain ⟨_,_,_,_,_,_,rfl,_⟩:=h; rfl
 ·obtain ⟨q,m,s,ps,sc,said,rfl,hq,hm,hs,hl,hR⟩:=h
  have hs1:=hs.1
  have h24:said.length<=24:=by have:=hs.2.1; omega
  have hal:=M0 said
  refine Ac (Bd (Ad.ev (AH jn (hr.mono wE) (Ab (Az (Aa 0) hq T.fq.cls T.fu (Jg m s ps sc)) (Ab (Az (Aa 0) hq T.fq.cls T.fv (Jf m s ps sc)) (Ab (Aa 1) Af))) ⟨_,_,_,rfl,by assumption,rfl⟩) ?_))
  refine Ac (AQ 2 (Ad.ev (AH kl (hr.mono wE) (Ab (Aa 1) Af) ⟨_,rfl,by assumption,rfl⟩) ?_) Pj.nd)
  refine Ac (AR (AN (A0 T.xm (Ab (Aa 2) Af) (B6 (by first | exact Or.inr rfl | exact Or.inl (Or.inl rfl) | exact Or.inl (Or.inr (Or.inl rfl)) | exact Or.inl (Or.inr (Or.inr ⟨_,rfl,by first | assumption | rfl⟩))))) Ag Bb) (λhk=>?_) (λhk=>Ar ?_))
  ·have hk:=of_decide_eq_true hk
   rw [List.length_map] at hk
   rw [U1 (List.length_eq_zero_iff.mp wF)] at hR
   exact Ac (AC (Ad.ev Ag hR))
  ·have hk:=of_decide_eq_false hk
   rw [List.length_map] at hk
   obtain ⟨k,_,hf⟩:=ME sc (ax said) (RH said) (λz=>hk (by rw [z]; rfl))
   rw [UZ hf] at hR
   have hb:∀ k∈ax said,k<sc.length:=λk hk=>by have:=Js hk; omega
   exact Ac (AC (Ad.ev (CT (Aa 1) (AH zo (hr.mono wE) (Ab (Az (Aa 0) hq T.fq.cls T.fx (QM m s ps sc)) (Ab (Aa 2) Af)) ⟨sc,ax said,k,rfl,by omega,hb,hf,rfl⟩) (RL hf.1)) hR))
theorem X0 (Fn:Au K "hear" "Follower.hear" LJ f fd)  (jd:Am P w K mg base 5 "check_turn" (AE Fv)) (ji:Am P w K mg base 1 "charge" (AE FZ)):AF P w K mg base AI 6 f fd ["self","said","so"] (AK K (FY CK0)):=by
 refine Bh (k:=5) Fn UV (λds O R h=>?_) (λcdv A outer s H E ds O R hr h=>?_)
 ·obtain ⟨_,_,_,_,_,_,_,rfl,_⟩:=h; rfl
 ·obtain ⟨jj,m,s,so,ps,sc,said,rfl,hO,hm,hs,hso,hl,hR⟩:=h
  have hs1:=hs.1
  have hzl:(sc.zip said).length<=63:=by rw [List.length_zip]; omega
  refine Ac (Bd (Ad.ev (AH jd (hr.mono wE) (Ab (Az (Aa 0) hO T.fq.cls T.fu (Jg m s ps sc)) (Ab (Az (Aa 0) hO T.fq.cls T.fv (Jf m s ps sc)) (Ab (Aa 1) (Ab (Aa 2) Af)))) ⟨_,_,_,_,rfl,by assumption,by assumption,rfl⟩) ?_))
  refine Ac (BY (BV T.xn (Ab (CG (λp:Int×Option Int=>.int (p.1+EY p.2 so)) ["score","what"] ["so"] [2] (Gr (Ho (Az (Aa 0) hO T.fq.cls T.fx (QM m s ps sc)) (Aa 1) wB wB T.xq)) (by rw [sizeLine_eq]; omega) (by exact λq hq s H fp=>⟨[some _,some _],rfl,(DJ (BZ (AW 0 (show List.Nodup (["score","what","so"]:List Str) by decide +kernel)) (BZ (AW 1 (show List.Nodup (["score","what","so"]:List Str) by decide +kernel)) DI))),⟨_,rfl,(Aj (Aa 0) (AH ji (hr.mono wE) (Ab (Aa 1) (Ab (Aa 2) Af)) ⟨_,_,rfl,rfl⟩) BD)⟩⟩)) Af) (B0 (by first | exact Or.inr rfl | exact Or.inl (Or.inl rfl) | exact Or.inl (Or.inr (Or.inl rfl)) | exact Or.inl (Or.inr (Or.inr ⟨_,rfl,by first | assumption | rfl⟩))))) (Aa 0) hO T.fq.cls T.fx (by show 4<1000; decide) ?_)
  have e1:((sc.zip said).map λp:Int×Option Int=>D.int (p.1+EY p.2 so))=(Gf said so sc).map D.int:=by
   unfold Gf
   rw [List.map_map]
   rfl
  rw [e1,Zq]
  exact Ar hR
theorem X2 (Fn:Au K "anew" "Follower.anew" LK f fd)  (kv:Cy P w K mg base CK0 6 "Follower" (GN CK0)):AF P w K mg base AI 8 f fd ["self"] (AK K (F2 CK0)):=by
 refine Bh (k:=7) Fn UW (λds O R h=>?_) (λcdv A outer s H E ds O R hr h=>?_)
 ·obtain ⟨_,_,_,_,_,rfl,_⟩:=h; rfl
 ·obtain ⟨q,m,s,ps,sc,rfl,hq,hm,hs,hp,hR⟩:=h
  refine Ac (AC (DR kv (hr.mono wE) (Ab (Az (Aa 0) hq T.fq.cls T.fu (Jg m s ps sc)) (Ab (Az (Aa 0) hq T.fq.cls T.fv (Jf m s ps sc)) (Ab (Az (Aa 0) hq T.fq.cls T.fw (Zs m s ps sc)) Af))) ⟨O.length,m,s,some ps,rfl,Be,hm,hs,hp,rfl,?_⟩))
  rw [CM]
  exact hR
theorem Xv (Fn:Au K "are_alike" "are_alike" Li f fd) (hm:mg "are_alike" = some (.ref f)) (hb:Binds K fd ["hands"] []):Am P w K mg base 1 "are_alike" (OO ⟨CK1,CK12,CK9,CK8,CK10,CK0⟩):=by
 refine A2 (k:=0) Fn UE hm hb (λds O R h=>?_) (λcdv A outer s H E ds O R hr h=>?_)
 ·obtain ⟨_,_,_,_,rfl,_⟩:=h; rfl
 ·obtain ⟨j,m,s,pv,rfl,hP,hl,hR⟩:=h
  have hz:pv.length<=sizeLine:=by rw [sizeLine_eq]; omega
  refine Ac (AR (AV.cast (k':=false) (BF.t (Cu (BJ (BB (A0 T.xu (Ab (Aa 0) (Ab (CD T.xn) Af)) (Ef rfl)))) (λhbb=>(Dv (AN (A0 T.xm (Ab (Aa 0) Af) (B6 (by first | exact Or.inr rfl | exact Or.inl (Or.inl rfl) | exact Or.inl (Or.inr (Or.inl rfl)) | exact Or.inl (Or.inr (Or.inr ⟨_,rfl,by first | assumption | rfl⟩))))) Ag Bb))))) (by show (false||decide _)=false; rw [List.length_map,decide_eq_false wF]; rfl)) (λhk=>by cases hk) (λ_=>Ar ?_))
  have ea:(pv.map λ_=>true).all id=true:=by rw [List.all_map]; exact List.all_eq_true.mpr λ_ _=>rfl
  refine Ac (AR (AV.cast (k':=false) (BJ (BB (A0 T.xy (Ab (CG (λ_:Nat×Hn=>.bl true) ["hand"] [] [] (Cp (Aa 0) wB) hz (by exact λq hq s H fp=>⟨[some _],rfl,(AW 0 (show List.Nodup (["hand"]:List Str) by decide +kernel)),⟨_,rfl,(QY (C:=⟨CK1,CK12,CK9,CK8,CK10,CK0⟩)  T.xu (Aa 0) (hP q hq).1 T.bu T.de T.du T.eu T.bv T.bz T.dq T.er T.fm T.fq T.fy T.fz T.li)⟩⟩)) Af) (MY (bs:=pv.map λ_=>true) (Or.inl (Or.inl (by rw [List.map_map]; rfl))))))) (by rw [ea]; rfl)) (λhk=>by cases hk) (λ_=>Ar ?_))
  obtain ⟨x0,h0⟩:∃ x,pv[0]?=some x:=⟨_,List.getElem?_eq_getElem wF⟩
  have hx0:=hP x0 (List.mem_of_getElem? h0)
  have hat:Bv (pv.map λx=>D.ptr x.1) 0=some (.ptr x0.1):=EH (j:=0) (by rw [List.getElem?_map,h0]; rfl)
  obtain ⟨n0,ok0⟩:=hx0.2.1
  refine Ac (AC (Ad.ev (A0 T.xy (Ab (CG (λ_:Nat×Hn=>.bl (decide (((m:Nat):Int)=(m:Nat))&&decide (s=s))) ["hand"] ["hands"] [0] (Cp (Aa 0) wB) hz (by exact λq hq s H fp=>⟨[some _],rfl,(AW 0 (show List.Nodup (["hand","hands"]:List Str) by decide +kernel)),⟨_,rfl,(C4 (Dy (EE (C:=⟨CK1,CK12,CK9,CK8,CK10,CK0⟩) T.bu.cls T.de.cls T.du.cls T.eu.cls T.bw T.dg T.dy T.fh T.fq.cls T.fu T.fz.cls T.lb (Aa 0) (hP q hq).1 (hP q hq).2.1.choose_spec) (EE (C:=⟨CK1,CK12,CK9,CK8,CK10,CK0⟩) T.bu.cls T.de.cls T.du.cls T.eu.cls T.bw T.dg T.dy T.fh T.fq.cls T.fu T.fz.cls T.lb (CT (Aa 1) Ag (hat)) hx0.1 ok0) Bb) (λhbb=>(Ed (Dy (EC (C:=⟨CK1,CK12,CK9,CK8,CK10,CK0⟩) T.bu.cls T.de.cls T.du.cls T.eu.cls T.bx T.dh T.dz T.fi T.fq.cls T.fv T.fz.cls T.lc (Aa 0) (hP q hq).1 (hP q hq).2.1.choose_spec) (EC (C:=⟨CK1,CK12,CK9,CK8,CK10,CK0⟩) T.bu.cls T.de.cls T.du.cls T.eu.cls T.bx T.dh T.dz T.fi T.fq.cls T.fv T.fz.cls T.lc (CT (Aa 1) Ag (hat)) hx0.1 ok0) Bb))))⟩⟩)) Af) (MY (bs:=pv.map λ_=>true) (Or.inl (Or.inl (by rw [List.map_map,decide_eq_true rfl,decide_eq_true rfl]; rfl))))) ?_))
  rw [ea]
  exact hR
theorem Xg (Fn:Au K "is_head" "is_head" K3 f fd) (hm:mg "is_head" = some (.ref f)) (hb:Binds K fd ["hands","head"] []):Am P w K mg base 1 "is_head" (OA ⟨CK1,CK12,CK9,CK8,CK10,CK0⟩):=by
 refine A2 (k:=0) Fn Ur hm hb (λds O R h=>?_) (λcdv A outer s H E ds O R hr h=>?_)
 ·obtain ⟨_,_,_,_,_,_,rfl,_⟩:=h; rfl
 ·obtain ⟨j,m,s,pv,hp,hd,rfl,hP,hD,hl,hR⟩:=h
  obtain ⟨x0,h0⟩:∃ x,pv[0]?=some x:=⟨_,List.getElem?_eq_getElem wF⟩
  have hx0:=hP x0 (List.mem_of_getElem? h0)
  have hat:Bv (pv.map λx=>D.ptr x.1) 0=some (.ptr x0.1):=EH (j:=0) (by rw [List.getElem?_map,h0]; rfl)
  obtain ⟨n0,ok0⟩:=hx0.2.1
  have hd0:=hD (hp,hd) (List.mem_singleton.mpr rfl)
  obtain ⟨n1,ok1⟩:=hd0.2.1
  refine Ac (AC (Ad.ev (C4 (QY (C:=⟨CK1,CK12,CK9,CK8,CK10,CK0⟩)  T.xu (Aa 1) hd0.1 T.bu T.de T.du T.eu T.bv T.bz T.dq T.er T.fm T.fq T.fy T.fz T.li) (λhbb=>(C4 (Dy (EE (C:=⟨CK1,CK12,CK9,CK8,CK10,CK0⟩) T.bu.cls T.de.cls T.du.cls T.eu.cls T.bw T.dg T.dy T.fh T.fq.cls T.fu T.fz.cls T.lb (Aa 1) hd0.1 ok1) (A0 T.xm (Ab (Aa 0) Af) (B6 (by first | exact Or.inr rfl | exact Or.inl (Or.inl rfl) | exact Or.inl (Or.inr (Or.inl rfl)) | exact Or.inl (Or.inr (Or.inr ⟨_,rfl,by first | assumption | rfl⟩))))) Bb) (λhbb=>(Ed (Dy (EC (C:=⟨CK1,CK12,CK9,CK8,CK10,CK0⟩) T.bu.cls T.de.cls T.du.cls T.eu.cls T.bx T.dh T.dz T.fi T.fq.cls T.fv T.fz.cls T.lc (Aa 1) hd0.1 ok1) (EC (C:=⟨CK1,CK12,CK9,CK8,CK10,CK0⟩) T.bu.cls T.de.cls T.du.cls T.eu.cls T.bx T.dh T.dz T.fi T.fq.cls T.fv T.fz.cls T.lc (CT (Aa 0) Ag (hat)) hx0.1 ok0) Bb)))))) ?_))
  rw [List.length_map,decide_eq_true rfl,decide_eq_true rfl]
  exact hR
theorem Xm (Fn:Au K "check_tier" "check_tier" K9 f fd) (hm:mg "check_tier" = some (.ref f)) (hb:Binds K fd ["hands","head"] []) (zp:Am P w K mg base 1 "are_alike" (OO ⟨CK1,CK12,CK9,CK8,CK10,CK0⟩)) (zq:Am P w K mg base 1 "is_head" (OA ⟨CK1,CK12,CK9,CK8,CK10,CK0⟩)):Am P w K mg base 2 "check_tier" (Of ⟨CK1,CK12,CK9,CK8,CK10,CK0⟩):=by
 refine A2 (k:=1) Fn Uw hm hb (λds O R h=>?_) (λcdv A outer s H E ds O R hr h=>?_)
 ·obtain ⟨_,_,_,_,_,_,rfl,_⟩:=h; rfl
 ·obtain ⟨j,m,s,pv,hp,hd,rfl,hP,hD,hm,hs,hl,hR⟩:=h
  exact Ac (AR (AV.cast (k':=false) (BF.t (Cu (BJ (BB (Ev.evp (Bs zp (hr.mono wE) (Ab (Aa 0) Af) ⟨j,m,s,pv,rfl,hP,hl,rfl,rfl⟩)))) (λhbb=>(Dv (BJ (BB (Ev.evp (Bs zq (hr.mono wE) (Ab (Aa 0) (Ab (Aa 1) Af)) ⟨j,m,s,pv,hp,hd,rfl,hP,hD,hl,rfl,rfl⟩)))))))) rfl) (λhk=>by cases hk) (λ_=>Ar (Ar hR)))
theorem XG (Fn:Au K "__init__" "Tier.__init__" IA f fd):AF P w K mg base AI 10 f fd ["self","hands","head"] (AK K (En ⟨CK1,CK12,CK9,CK8,CK10,CK0⟩ 0)):=Bh (k:=9) Fn Ph (λds O R h=>(OB h).elim) (λcdv A outer s H E ds O R hr h=>(OB h).elim)
theorem P0 {j:Nat} (Fn:Au K "__init__" "Tier.__init__" IA f fd)  (gj:Am P w K mg base 2 "check_tier" (Of ⟨CK1,CK12,CK9,CK8,CK10,CK0⟩)) (jl:Ff P w K mg base "Hand" 5 "__init__" (EQ (λC=>C=CK1\/C=CK12\/C=CK9\/C=CK8\/C=CK10\/C=CK0))) (jo:Al P w K mg base CK1 7 "anew" (F1 CK1)) (jp:Al P w K mg base CK12 9 "anew" (Db CK12 CK9 false)) (jq:Al P w K mg base CK9 9 "anew" (Db CK12 CK9 true)) (jr:Al P w K mg base CK8 8 "anew" (F0 CK8)) (jt:Al P w K mg base CK0 8 "anew" (F2 CK0)) (kx:Al P w K mg base CK10 (11+8*j+1) "anew" (D4 ⟨CK1,CK12,CK9,CK8,CK10,CK0⟩ j)):AF P w K mg base AI (17+8*j+1) f fd ["self","hands","head"] (AK K (En ⟨CK1,CK12,CK9,CK8,CK10,CK0⟩ (j+1))):=by
 refine Bh (k:=17+8*j) Fn Ph (λds O R h=>?_) (λcdv A outer s H E ds O R hr h=>?_)
 ·obtain ⟨_,_,_,_,_,_,_,rfl,_⟩:=h; rfl
 ·obtain ⟨q,m,s,pv,hp,hd,O0,rfl,rfl,rfl,hP,hD,hm,hs,hl,hR⟩:=h
  have hz:pv.length<=sizeLine:=by rw [sizeLine_eq]; omega
  have hmI:(1:Int)<=(m:Nat)/\((m:Nat):Int)<=24:=⟨by omega,by omega⟩
  refine Ac (Bd (Ad.ev (Ev.evp (Bs gj (hr.mono wF) (Ab (Aa 1) (Ab (Aa 2) Af)) ⟨j+1,m,s,pv,hp,hd,rfl,hP.app,hD.app,hm,hs,hl,rfl,rfl⟩)) ?_))
  obtain ⟨x0,h0⟩:∃ x,pv[0]?=some x:=⟨_,List.getElem?_eq_getElem wF⟩
  have hx0:=hP.app (Y:=[some (MO.ins CK10 [])]) x0 (List.mem_of_getElem? h0)
  have hat:Bv (pv.map λx=>D.ptr x.1) 0=some (.ptr x0.1):=EH (j:=0) (by rw [List.getElem?_map,h0]; rfl)
  obtain ⟨n0,ok0⟩:=hx0.2.1
  refine Ac (Bd (Hs jl (hr.mono wF) (Ab (Aa 0) (Ab (EE (C:=⟨CK1,CK12,CK9,CK8,CK10,CK0⟩) T.bu.cls T.de.cls T.du.cls T.eu.cls T.bw T.dg T.dy T.fh T.fq.cls T.fu T.fz.cls T.lb (CT (Aa 1) Ag (hat)) hx0.1 ok0) (Ab (EC (C:=⟨CK1,CK12,CK9,CK8,CK10,CK0⟩) T.bu.cls T.de.cls T.du.cls T.eu.cls T.bx T.dh T.dz T.fi T.fq.cls T.fv T.fz.cls T.lc (CT (Aa 1) Ag (hat)) hx0.1 ok0) Af))) ⟨O0.length,(m:Nat),s,CK10,rfl,.inr (.inr (.inr (.inr (.inl rfl)))),Be,hmI,hs,?_⟩))
  rw [CM]
  have sub:∀ Z,Ch ⟨CK1,CK12,CK9,CK8,CK10,CK0⟩ (O0++[some (MO.ins CK10 (BG (m:Nat) s))]++Z) m s (j+1) pv:=λZ=>hP.app.app
  obtain ⟨zs,hzs⟩:∃ zs:List Hn,zs=CI (pv.map λx=>x.2) m:=⟨_,rfl⟩
  have zl:zs.length=pv.length:=by rw [hzs,Gj,List.length_map]
  have zat:∀ (i:Nat) (x:Nat×Hn),pv[i]?=some x->zs[i]?=some (AZ x.2 m):=λi x hx=>by rw [hzs,M9,List.getElem?_map,List.getElem?_map,hx]; rfl
  refine Ac (ND (q:=O0.length) (C:=CK10) (fs:=BG (m:Nat) s) (ZY T.xn (Hw (ZU (λi=>.ptr (O0.length+1+AA (zs.take i))) (λi=>O0++[some (MO.ins CK10 (BG (m:Nat) s))]++Br ⟨CK1,CK12,CK9,CK8,CK10,CK0⟩ (zs.take i) (O0.length+1) m s) (by rw [List.take_zero]; simp only [Br,List.append_nil]) ["hand"] [] [] (Cp (Aa 1) wB) hz ?turn (BI.as Af ⟨_,B0 (Or.inl (Or.inl rfl)),(Aa 0),IT,?_⟩)))) T.fz.cls T.lf (by show 2<1000; decide))
  case turn=>
   intro i x hx s2 H2 fp
   have hi:=(List.getElem?_eq_some_iff.mp hx).1
   have hxx:=sub (Br ⟨CK1,CK12,CK9,CK8,CK10,CK0⟩ (zs.take i) (O0.length+1) m s) x (List.mem_of_getElem? hx)
   obtain ⟨n1,ok1⟩:=hxx.2.1
   have el:(O0++[some (MO.ins CK10 (BG (m:Nat) s))]++Br ⟨CK1,CK12,CK9,CK8,CK10,CK0⟩ (zs.take i) (O0.length+1) m s).length=O0.length+1+AA (zs.take i):=by rw [List.length_append,List.length_append,Gi]; rfl
   refine ⟨[some (.ptr x.1)],rfl,AW 0 (show List.Nodup (["hand"]:List Str) by decide +kernel),Ji (C:=⟨CK1,CK12,CK9,CK8,CK10,CK0⟩) jo jp jq jr (hr.mono wF) (hr.mono wF) (hr.mono wF) jt (hr.mono wF) kx (hr.mono wF) (Aa 0) hxx.1 ok1 (Nat.le_of_lt_succ hxx.2.2) hm hs ⟨?_,?_⟩⟩
   ·show D.ptr _=D.ptr _
    rw [el]
   ·show _=O0++_++Br ⟨CK1,CK12,CK9,CK8,CK10,CK0⟩ (zs.take (i+1)) (O0.length+1) m s
    rw [YC ⟨CK1,CK12,CK9,CK8,CK10,CK0⟩ (zat i x hx),el,<- List.append_assoc]
  rw [Mm,VG,<- zl,List.take_of_length_le (Nat.le_refl _)]
  rw [show ((List.range zs.length).map λi=>D.ptr (O0.length+1+AA (zs.take i)))=(BM zs (O0.length+1)).map D.ptr by rw [P2,List.map_map]; rfl]
  generalize hZ:Br ⟨CK1,CK12,CK9,CK8,CK10,CK0⟩ zs (O0.length+1) m s=Z
  have hZl:Z.length=AA zs:=by rw [<- hZ,Gi]
  have hd0:=hD (hp,hd) (List.mem_singleton.mpr rfl)
  obtain ⟨n2,ok2⟩:=hd0.2.1
  have hq2:∀ (y:Option MO) (Y:Ae),Aw ⟨CK1,CK12,CK9,CK8,CK10,CK0⟩ (O0++[y]++Y) hd hp pv.length s:=λy Y=>hd0.1.ap.ap
  refine Ac (ND (q:=O0.length) (C:=CK10) (fs:=GJ (m:Nat) s (.tup ((BM zs (O0.length+1)).map D.ptr))) (Ji (C:=⟨CK1,CK12,CK9,CK8,CK10,CK0⟩) jo jp jq jr (hr.mono wF) (hr.mono wF) (hr.mono wF) jt (hr.mono wF) kx (hr.mono wF) (Aa 2) (hq2 _ _) ok2 (Nat.le_of_lt_succ hd0.2.2) hl hs ⟨(Aa 0),?_,?_⟩) T.fz.cls T.lg (by show 3<1000; decide))
  ·exact HD IT
  rw [List.append_assoc (O0++_) Z,Mm,VF,show (O0++[some (MO.ins CK10 (GJ (m:Nat) s (.tup ((BM zs (O0.length+1)).map D.ptr))))]++Z).length=O0.length+1+AA zs by rw [List.length_append,List.length_append,hZl]; rfl]
  refine Ac (BY (Aj (BP (Ab Ag Af)) (A0 T.xm (Ab (Aa 1) Af) (B6 (by first | exact Or.inr rfl | exact Or.inl (Or.inl rfl) | exact Or.inl (Or.inr (Or.inl rfl)) | exact Or.inl (Or.inr (Or.inr ⟨_,rfl,by first | assumption | rfl⟩))))) (Ge (by rw [List.length_map]; omega) (by rw [List.length_map]; omega) (by simp) (by rw [sizeLine_eq,List.length_map,Int.toNat_natCast]; show 1*_<=_; omega))) (Aa 0) IT T.fz.cls T.lh (by show 4<1000; decide) ?_)
  rw [Mm,List.length_map,Int.toNat_natCast,JL,VM]
  refine Ar ?_
  have e:Hf ⟨CK1,CK12,CK9,CK8,CK10,CK0⟩ (pv.map (·.2)) hd O0.length m s=[some (MO.ins CK10 (BL (m:Nat) s (BM zs (O0.length+1)) (O0.length+1+AA zs) (List.replicate pv.length 0)))]++(Z++Bj ⟨CK1,CK12,CK9,CK8,CK10,CK0⟩ (AZ hd pv.length) (O0.length+1+AA zs) pv.length s):=by
   unfold Hf
   simp only [AZ,Bj]
   rw [<- hzs,zl,List.length_map,hZ]
   rfl
  rw [e,<- List.append_assoc] at hR
  exact hR
theorem XE (Fn:Au K "ask" "Tier.ask" Iw f fd):AF P w K mg base AI 7 f fd ["self","said"] (AK K (ER ⟨CK1,CK12,CK9,CK8,CK10,CK0⟩ 0)):=Bh (k:=6) Fn Pf (λds O R h=>(OM h).elim) (λcdv A outer s H E ds O R hr h=>(OM h).elim)
theorem PY {j:Nat} (Fn:Au K "ask" "Tier.ask" Iw f fd)  (je:Al P w K mg base CK1 6 "say" (Bp CK1 CK12 CK9 CK8)) (ja:Al P w K mg base CK12 6 "say" (Bp CK1 CK12 CK9 CK8)) (jb:Al P w K mg base CK9 6 "say" (Bp CK1 CK12 CK9 CK8)) (jf:Al P w K mg base CK8 6 "say" (Bp CK1 CK12 CK9 CK8)) (jg:Al P w K mg base CK0 5 "say" (EO CK0)) (ju:Al P w K mg base CK10 (8+8*j+1) "say" (Dn ⟨CK1,CK12,CK9,CK8,CK10,CK0⟩ j)):AF P w K mg base AI (14+8*j+1) f fd ["self","said"] (AK K (ER ⟨CK1,CK12,CK9,CK8,CK10,CK0⟩ (j+1))):=by
 refine Bh (k:=14+8*j) Fn Pf (λds O R h=>?_) (λcdv A outer s H E ds O R hr h=>?_)
 ·obtain ⟨_,_,_,_,_,_,_,_,rfl,_⟩:=h; rfl
 ·obtain ⟨q0,n,m,s,hs,hd,ch,said,rfl,hT,hk,hj,hm,h0,hsd,hR⟩:=h
  have hl:=hk.to.2.2.1
  have hz:(List.range hs.length).length<=sizeLine:=by rw [sizeLine_eq,List.length_range]; omega
  have hv:∀ i∈List.range hs.length,Aw ⟨CK1,CK12,CK9,CK8,CK10,CK0⟩ O (hs.getD i (.p .h)) (q0+1+AA (hs.take i)) m s/\AO n (hs.getD i (.p .h)) m s/\AU (hs.getD i (.p .h))<=j:=λi hi=>by
   have hi:=List.mem_range.mp hi
   have e:hs[i]?=some (hs.getD i (.p .h)):=by rw [List.getD_eq_getElem?_getD,List.getElem?_eq_getElem hi]; rfl
   exact ⟨(HH _ _).mp hT.to.2.1 i _ e,(HG _).mp hk.to.1 _ (List.mem_of_getElem? e),(Gs hj).1 _ (List.mem_of_getElem? e)⟩
  refine Ac (AC (Ad.ev (BV T.xn (Ab (CG (λi:Nat=>.int (Bz (hs.getD i (.p .h)) m said)) ["hand"] ["said"] [1] (Cp (Az (Aa 0) hT.to.1 T.fz.cls T.lf (JX _ _ _ _ _ _)) wB) hz (by exact λq hq s H fp=>⟨[some _],rfl,(AW 0 (show List.Nodup (["hand","said"]:List Str) by decide +kernel)),⟨_,rfl,(FJ (C:=⟨CK1,CK12,CK9,CK8,CK10,CK0⟩) je ja jb jf (hr.mono wF) jg (hr.mono wF) ju (hr.mono wF) (Aa 0) (hv q hq).1 (hv q hq).2.1 (hv q hq).2.2 hm h0 hsd (Ab (Aa 1) Af))⟩⟩)) Af) (B0 (by first | exact Or.inr rfl | exact Or.inl (Or.inl rfl) | exact Or.inl (Or.inr (Or.inl rfl)) | exact Or.inl (Or.inr (Or.inr ⟨_,rfl,by first | assumption | rfl⟩))))) ?_))
  have e:((List.range hs.length).map λi:Nat=>D.int (Bz (hs.getD i (.p .h)) m said))=(B3 hs m said).map D.int:=by
   rw [Pm,List.map_map]
   refine Eq.trans ?_ (congrArg (List.map (D.int ∘ λx=>Bz x m said)) (Pv hs (.p .h)))
   rw [List.map_map]
   rfl
  rw [e]
  exact hR
theorem XB (Fn:Au K "say" "Tier.say" Iu f fd):AF P w K mg base AI 9 f fd ["self","said"] (AK K (Dn ⟨CK1,CK12,CK9,CK8,CK10,CK0⟩ 0)):=Bh (k:=8) Fn Pe (λds O R h=>(Oo h).elim) (λcdv A outer s H E ds O R hr h=>(Oo h).elim)
theorem PV {j:Nat} (Fn:Au K "say" "Tier.say" Iu f fd)  (jn:Am P w K mg base 4 "check_said" (AE Ih)) (zr:Al P w K mg base CK10 (14+8*j+1) "ask" (ER ⟨CK1,CK12,CK9,CK8,CK10,CK0⟩ (j+1))) (je:Al P w K mg base CK1 6 "say" (Bp CK1 CK12 CK9 CK8)) (ja:Al P w K mg base CK12 6 "say" (Bp CK1 CK12 CK9 CK8)) (jb:Al P w K mg base CK9 6 "say" (Bp CK1 CK12 CK9 CK8)) (jf:Al P w K mg base CK8 6 "say" (Bp CK1 CK12 CK9 CK8)) (jg:Al P w K mg base CK0 5 "say" (EO CK0)) (ju:Al P w K mg base CK10 (8+8*j+1) "say" (Dn ⟨CK1,CK12,CK9,CK8,CK10,CK0⟩ j)):AF P w K mg base AI (16+8*j+1) f fd ["self","said"] (AK K (Dn ⟨CK1,CK12,CK9,CK8,CK10,CK0⟩ (j+1))):=by
 refine Bh (k:=16+8*j) Fn Pe (λds O R h=>?_) (λcdv A outer s H E ds O R hr h=>?_)
 ·obtain ⟨_,_,_,_,_,_,_,_,rfl,_⟩:=h; rfl
 ·obtain ⟨q,n,m,s,hs,hd,ch,said,rfl,hT,hk,hj,hm,h0,hsd,hR⟩:=h
  refine Ac (Bd (Ad.ev (AH jn (hr.mono wF) (Ab (Az (Aa 0) hT.to.1 T.fz.cls T.lb (JV _ _ _ _ _)) (Ab (Az (Aa 0) hT.to.1 T.fz.cls T.lc (JU _ _ _ _ _)) (Ab (Aa 1) Af))) ⟨_,_,_,rfl,by assumption,rfl⟩) ?_))
  have hl:=hk.to.2.2.1
  have hak:=GX hs m s said hk.to.1 hsd h0 hl.2
  refine Ac (AC (Ad.ev (FJ (C:=⟨CK1,CK12,CK9,CK8,CK10,CK0⟩) je ja jb jf (hr.mono wF) jg (hr.mono wF) ju (hr.mono wF) (Az (Aa 0) hT.to.1 T.fz.cls T.lg (JW _ _ _ _ _)) hT.to.2.2 hk.to.2.1 (Gs hj).2 hl h0 hak (Ab (Ad.cast (Ev.evp (CQ zr (hr.mono wF) (Aa 0) hT.to.1 (GI _ _ _ _ _ wD) (Ab (Aa 1) Af) ⟨q,n,m,s,hs,hd,ch,said,rfl,hT,hk,hj,hm,h0,hsd,rfl,rfl⟩)) (congrArg D.tup (RO _).symm)) Af)) ?_))
  rw [show Bz hd hs.length (Eg (B3 hs m said))=Bz (.t hs hd ch) m said by simp only [Bz]]
  exact hR
theorem XD (Fn:Au K "hear" "Tier.hear" Iv f fd):AF P w K mg base AI 10 f fd ["self","said","so"] (AK K (D3 ⟨CK1,CK12,CK9,CK8,CK10,CK0⟩ 0)):=Bh (k:=9) Fn Ir (λds O R h=>(OE h).elim) (λcdv A outer s H E ds O R hr h=>(OE h).elim)
theorem PX {j:Nat} (Fn:Au K "hear" "Tier.hear" Iv f fd)  (jd:Am P w K mg base 5 "check_turn" (AE Fv)) (ji:Am P w K mg base 1 "charge" (AE FZ)) (zr:Al P w K mg base CK10 (14+8*j+1) "ask" (ER ⟨CK1,CK12,CK9,CK8,CK10,CK0⟩ (j+1))) (jw:Al P w K mg base CK1 6 "hear" (FX CK1)) (jx:Al P w K mg base CK12 8 "hear" (Da CK12 CK9 false)) (jy:Al P w K mg base CK9 8 "hear" (Da CK12 CK9 true)) (jz:Al P w K mg base CK8 6 "hear" (FW CK8)) (ka:Al P w K mg base CK0 6 "hear" (FY CK0)) (ky:Al P w K mg base CK10 (9+8*j+1) "hear" (D3 ⟨CK1,CK12,CK9,CK8,CK10,CK0⟩ j)):AF P w K mg base AI (17+8*j+1) f fd ["self","said","so"] (AK K (D3 ⟨CK1,CK12,CK9,CK8,CK10,CK0⟩ (j+1))):=by
 refine Bh (k:=17+8*j) Fn Ir (λds O R h=>?_) (λcdv A outer s H E ds O R hr h=>?_)
 ·obtain ⟨_,_,_,_,_,_,_,_,_,rfl,_⟩:=h; rfl
 ·obtain ⟨q0,n,m,s,so,hs,hd,ch,said,rfl,hT,hk,hj,hn,hm,hsd,hso,hR⟩:=h
  have h0:0<=s:=by omega
  have hl:=hk.to.2.2.1
  have hak:=GX hs m s said hk.to.1 hsd h0 hl.2
  refine Ac (Bd (Ad.ev (AH jd (hr.mono wF) (Ab (Az (Aa 0) hT.to.1 T.fz.cls T.lb (JV _ _ _ _ _)) (Ab (Az (Aa 0) hT.to.1 T.fz.cls T.lc (JU _ _ _ _ _)) (Ab (Aa 1) (Ab (Aa 2) Af)))) ⟨_,_,_,_,rfl,by assumption,by assumption,rfl⟩) ?_))
  refine Ac (AQ 3 (Ad.ev (Ev.evp (CQ zr (hr.mono wF) (Aa 0) hT.to.1 (GI _ _ _ _ _ wD) (Ab (Aa 1) Af) ⟨q0,n,m,s,hs,hd,ch,said,rfl,hT,hk,hj,hm,h0,hsd,rfl,rfl⟩)) ?_) Ir.nd)
  have esz:AM (.t hs hd ch)=1+AA hs+AM hd:=by simp only [AM]
  rw [esz] at hR
  refine Ac (Bd (Jh (C:=⟨CK1,CK12,CK9,CK8,CK10,CK0⟩) jw jx jy jz (hr.mono wF) (hr.mono wF) (hr.mono wF) ka (hr.mono wF) ky (hr.mono wF) (Az (Aa 0) hT.to.1 T.fz.cls T.lg (JW _ _ _ _ _)) hT.to.2.2 hk.to.2.1 (Gs hj).2 hn hl hak hso (Ab (Ad.cast (Aa 3) (congrArg D.tup (RO _).symm)) (Ab (Aa 2) Af)) λO1 c1 i2=>?_))
  have b1:DF q0 (1+AA hs+AM hd) O O1:=(DF.rf _ _ _).in c1 wF wF
  have hps:=GQ hd
  have i1:O1[q0]?=some (some (.ins CK10 (BL (m:Nat) s (BM hs (q0+1)) (q0+1+AA hs) ch))):=by rw [c1.o q0 wF]; exact hT.to.1
  have i3:∀ k v,hs[k]?=some v->Aw ⟨CK1,CK12,CK9,CK8,CK10,CK0⟩ O1 v (q0+1+AA (hs.take k)) m s:=λk v hv=>((HH _ _).mp hT.to.2.1 k v hv).own λa h1 h2=>c1.o a (by have:=O5 hs (k+1); rw [Il hv] at this; omega)
  have hasl:(B3 hs m said).length=hs.length:=IV ..
  refine Ac (DG (Cp (Az (Aa 0) i1 T.fz.cls T.lf (JX _ _ _ _ _ _)) wB) (λi ρ O'=>(∃ v:Option D,ρ=[some (.ptr q0),some (.tup (said.map od)),some (.int so),some (.tup ((B3 hs m said).map D.int)),v])/\DF q0 (1+AA hs+AM hd) O O'/\O'[q0]?=some (some (.ins CK10 (BL (m:Nat) s (BM hs (q0+1)) (q0+1+AA hs) ch)))/\Aw ⟨CK1,CK12,CK9,CK8,CK10,CK0⟩ O' (Bu hd hs.length (Eg (B3 hs m said)) so) (q0+1+AA hs) hs.length s/\∀ k v,hs[k]?=some v->Aw ⟨CK1,CK12,CK9,CK8,CK10,CK0⟩ O' (if k<i then Bu v m said so else v) (q0+1+AA (hs.take k)) m s) ⟨⟨_,rfl⟩,b1,i1,i2,λk v hv=>by rw [if_neg (Nat.not_lt_zero _)]; exact i3 k v hv⟩ ?_ ?_)
  ·clear i1 i2 i3 b1 c1
   rintro i z ρ O' hz ⟨⟨v4,rfl⟩,bk,j1,j2,j3⟩
   rw [List.getElem?_map] at hz
   obtain ⟨i',hi',rfl⟩:=Option.map_eq_some_iff.mp hz
   have hil:i<hs.length:=by have:=(List.getElem?_eq_some_iff.mp hi').1; rw [List.length_range] at this; exact this
   rw [List.getElem?_range hil] at hi'
   cases hi'
   obtain ⟨v,hv⟩:∃ v,hs[i]?=some v:=⟨_,List.getElem?_eq_getElem hil⟩
   have jv:=j3 i v hv
   rw [if_neg (Nat.lt_irrefl _)] at jv
   have sv:=O5 hs (i+1)
   rw [Il hv] at sv
   refine ⟨_,AW 4 Ir.nd,?_⟩
   refine Ac (Bd (Jh (C:=⟨CK1,CK12,CK9,CK8,CK10,CK0⟩) jw jx jy jz (hr.mono wF) (hr.mono wF) (hr.mono wF) ka (hr.mono wF) ky (hr.mono wF) (Aa 4) jv ((HG _).mp hk.to.1 v (List.mem_of_getElem? hv)) ((Gs hj).1 v (List.mem_of_getElem? hv)) hn hm hsd hso (Ab (Aa 1) (Ab (Aa 2) Af)) λO2 c2 d2=>?_))
   refine Ar ⟨⟨_,rfl⟩,bk.in c2 wF wF,by rw [c2.o q0 wF]; exact j1,j2.own λa h1 h2=>c2.o a wF,λk w hw=>?_⟩
   by_cases hki:k=i
   ·subst hki
    rw [hv] at hw
    cases hw
    rw [if_pos (Nat.lt_succ_self _)]
    exact d2
   ·have e:(if k<i+1 then Bu w m said so else w)=if k<i then Bu w m said so else w:=by
     by_cases h1:k<i
     ·rw [if_pos h1,if_pos wF]
     ·rw [if_neg h1,if_neg wF]
    rw [e]
    have ew:AM (if k<i then Bu w m said so else w)=AM w:=by split; exact Fw ..; rfl
    refine (j3 k w hw).own λa h1 h2=>c2.o a ?_
    rw [ew] at h2
    by_cases h3:k<i
    ·have:=OW hs (show k+1<=i by omega)
     rw [Il hw] at this
     omega
    ·have:=OW hs (show i+1<=k by omega)
     rw [Il hv] at this
     omega
  ·clear i1 i2 i3 b1 c1
   rintro ρ O' ⟨⟨v4,rfl⟩,bk,j1,j2,j3⟩
   rw [List.length_map,List.length_range] at j3
   have hzl:(ch.zip (B3 hs m said)).length<=63:=by rw [List.length_zip,hasl]; omega
   refine Ac (BY (BV T.xn (Ab (CG (λx:Int×Int=>.int (x.1+ab (x.2-so))) ["charged","saying"] ["so"] [2] (Gr (Ho (Az (Aa 0) j1 T.fz.cls T.lh (S5 _ _ _ _ _)) (Aa 3) wB wB T.xq)) (by rw [sizeLine_eq]; omega) (by exact λq hq s H fp=>⟨[some _,some _],rfl,(DJ (BZ (AW 0 (show List.Nodup (["charged","saying","so"]:List Str) by decide +kernel)) (BZ (AW 1 (show List.Nodup (["charged","saying","so"]:List Str) by decide +kernel)) DI))),⟨_,rfl,(Aj (Aa 0) (AH ji (hr.mono wF) (Ab (Aa 1) (Ab (Aa 2) Af)) ⟨some q.2,so,rfl,rfl⟩) BD)⟩⟩)) Af) (B0 (by first | exact Or.inr rfl | exact Or.inl (Or.inl rfl) | exact Or.inl (Or.inr (Or.inl rfl)) | exact Or.inl (Or.inr (Or.inr ⟨_,rfl,by first | assumption | rfl⟩))))) (Aa 0) j1 T.fz.cls T.lh (by show 5<1000; decide) ?_)
   have e1:((ch.zip (B3 hs m said)).map λx:Int×Int=>D.int (x.1+ab (x.2-so)))=((ch.zip (B3 hs m said)).map λx=>x.1+ab (x.2-so)).map D.int:=by
    rw [List.map_map]
    rfl
   rw [e1,S3]
   have own:∀ (x:Hn) (p r:Nat) (Y:Option MO),q0<p->Aw ⟨CK1,CK12,CK9,CK8,CK10,CK0⟩ O' x p r s->Aw ⟨CK1,CK12,CK9,CK8,CK10,CK0⟩ (O'.set q0 Y) x p r s:=λx p r Y hp h=>h.own λa h1 h2=>List.getElem?_set_ne wF
   refine Ar (hR _ ⟨(List.length_set ..).trans bk.l,λa ha=>by rw [List.getElem?_set_ne wF]; exact bk.o a ha⟩ ?_)
   rw [show Bu (.t hs hd ch) m said so=.t (Ct hs m said so) (Bu hd hs.length (Eg (B3 hs m said)) so) ((ch.zip (B3 hs m said)).map λx=>x.1+ab (x.2-so)) by simp only [Bu]]
   have eo:∀ p,BM (Ct hs m said so) p=BM hs p:=λp=>P4 _ _ p (by rw [Hk,List.map_map]; exact List.map_congr_left λx _=>Fw x m said so)
   refine Aw.ti ⟨?_,(HH _ _).mpr λi x hx=>?_,?_⟩
   ·rw [eo,GR]; exact Cc j1
   ·rw [Hk,List.getElem?_map] at hx
    obtain ⟨w,hw,rfl⟩:=Option.map_eq_some_iff.mp hx
    have hi:=(List.getElem?_eq_some_iff.mp hw).1
    have:=j3 i w hw
    rw [if_pos hi] at this
    rw [Hk,<- List.map_take,<- Hk,GR]
    exact own _ _ _ _ wF this
   ·rw [GR,Mn]; exact own _ _ _ _ wF j2
theorem XF (Fn:Au K "anew" "Tier.anew" Iy f fd):AF P w K mg base AI 12 f fd ["self"] (AK K (D4 ⟨CK1,CK12,CK9,CK8,CK10,CK0⟩ 0)):=Bh (k:=11) Fn Pg (λds O R h=>(ON h).elim) (λcdv A outer s H E ds O R hr h=>(ON h).elim)
theorem PZ {j:Nat} (Fn:Au K "anew" "Tier.anew" Iy f fd)  (gf:Cy P w K mg base CK10 (17+8*j+1) "Tier" (En ⟨CK1,CK12,CK9,CK8,CK10,CK0⟩ (j+1))):AF P w K mg base AI (19+8*j+1) f fd ["self"] (AK K (D4 ⟨CK1,CK12,CK9,CK8,CK10,CK0⟩ (j+1))):=by
 refine Bh (k:=19+8*j) Fn Pg (λds O R h=>?_) (λcdv A outer s H E ds O R hr h=>?_)
 ·obtain ⟨_,_,_,_,_,_,_,rfl,_⟩:=h; rfl
 ·obtain ⟨q,n,m,s,hs,hd,ch,rfl,hT,hk,hj,hm,hs1,hR⟩:=h
  have hl:=hk.to.2.2.1
  have hpl:((List.range hs.length).map λi=>(q+1+AA (hs.take i),hs.getD i (Hn.p .h))).length=hs.length:=by rw [List.length_map,List.length_range]
  have hp2:((List.range hs.length).map λi=>(q+1+AA (hs.take i),hs.getD i (Hn.p .h))).map (·.2)=hs:=by rw [List.map_map]; exact Pv hs (.p .h)
  have hp1:((List.range hs.length).map λi=>(q+1+AA (hs.take i),hs.getD i (Hn.p .h))).map (λx=>D.ptr x.1)=(List.range hs.length).map λi=>D.ptr (q+1+AA (hs.take i)):=by rw [List.map_map]; rfl
  have hPv:Ch ⟨CK1,CK12,CK9,CK8,CK10,CK0⟩ O m s (j+1) ((List.range hs.length).map λi=>(q+1+AA (hs.take i),hs.getD i (Hn.p .h))):=λx hx=>by
   obtain ⟨i,hi,rfl⟩:=List.mem_map.mp hx
   have hi:=List.mem_range.mp hi
   have e:hs[i]?=some (hs.getD i (.p .h)):=by rw [List.getD_eq_getElem?_getD,List.getElem?_eq_getElem hi]; rfl
   exact ⟨(HH _ _).mp hT.to.2.1 i _ e,⟨n,(HG _).mp hk.to.1 _ (List.mem_of_getElem? e)⟩,Nat.lt_succ_of_le ((Gs hj).1 _ (List.mem_of_getElem? e))⟩
  generalize ((List.range hs.length).map λi=>(q+1+AA (hs.take i),hs.getD i (Hn.p .h)))=pv at hpl hp2 hp1 hPv
  refine Ac (AC (DR gf (hr.mono wF) (Ab (Az (Aa 0) hT.to.1 T.fz.cls T.lf (JX _ _ _ _ _ _)) (Ab (Az (Aa 0) hT.to.1 T.fz.cls T.lg (JW _ _ _ _ _)) Af)) ⟨O.length,m,s,pv,q+1+AA hs,hd,O,by rw [hp1],rfl,rfl,hPv,λx hx=>?_,hm,hs1,by rw [hpl]; exact hl,rfl,?_⟩))
  ·rw [List.mem_singleton.mp hx,hpl]; exact ⟨hT.to.2.2,⟨n,hk.to.2.1⟩,Nat.lt_succ_of_le (Gs hj).2⟩
  ·rw [hp2]; exact hR
theorem Xa (Fn:Au K "_law_cell_at" "_law_cell_at" KW f fd) (hm:mg "_law_cell_at" = some (.ref f)) (hb:Binds K fd ["_law_script","_law_k"] []):Am P w K mg base 1 "_law_cell_at" (AE OL):=by
 refine A2 (k:=0) Fn Ul hm hb (λds O R h=>?_) (λcdv A outer s H E ds O R hr h=>?_)
 ·obtain ⟨_,⟨_,_,rfl,_⟩,_⟩:=h; rfl
 ·obtain ⟨d,⟨ns,k,rfl,hk0,rfl⟩,hR⟩:=h
  refine Ac (AR (AN (Aa 1) (A0 T.xm (Ab (Aa 0) Af) (B6 (by first | exact Or.inr rfl | exact Or.inl (Or.inl rfl) | exact Or.inl (Or.inr (Or.inl rfl)) | exact Or.inl (Or.inr (Or.inr ⟨_,rfl,by first | assumption | rfl⟩))))) FN) (λhk=>?_) (λhk=>?_))
  ·have hk:=of_decide_eq_true hk
   rw [List.length_map] at hk
   have hi:k.toNat<ns.length:=by omega
   have hz:Bv (ns.map D.int) k=some (.int ns[k.toNat]):=RM hk0 (List.getElem?_eq_getElem hi)
   refine Ac (AC (Ad.ev (Dw (Aa 0) (by first | exact Or.inl rfl | exact Or.inr (Or.inl rfl) | exact Or.inr (Or.inr ⟨_,rfl,by first | assumption | rfl⟩)) (Aa 1) hz) ?_))
   unfold Cg at hR
   rw [List.getElem?_eq_getElem hi] at hR
   exact hR
  ·have hk:=of_decide_eq_false hk
   rw [List.length_map] at hk
   refine Ar ?_
   refine Ac (AC (Ad.ev Ag ?_))
   unfold Cg at hR
   rw [List.getElem?_eq_none wF] at hR
   exact hR
theorem W8 (Fn:Au K "_law_next" "_law_next" KT f fd) (hm:mg "_law_next" = some (.ref f)) (hb:Binds K fd ["_law_x"] []):Am P w K mg base 1 "_law_next" (AE Fu):=by
 refine A2 (k:=0) Fn Uj hm hb (λds O R h=>?_) (λcdv A outer s H E ds O R hr h=>?_)
 ·obtain ⟨_,⟨_,rfl,_⟩,_⟩:=h; rfl
 ·obtain ⟨d,⟨x,rfl,hx,rfl⟩,hR⟩:=h
  have m1:IntMulOk x x:=Eu (m:=40) (n:=40) hx.1 wF hx.1 wF
  have m2:IntMulOk 48271 x:=Eu (m:=20) (n:=40) wE wE hx.1 wF
  exact Ac (AC (Ad.ev (Aj (Aj (Aj (Aj (Aa 0) (Aa 0) (Cr m1)) (Aj Ag (Aa 0) (Cr m2)) BD) Ag BD) Ag (Ba wC)) hR))
theorem WW (Fn:Au K "_law_seed" "_law_seed" KN f fd) (hm:mg "_law_seed" = some (.ref f)) (hb:Binds K fd ["_law_cell","_law_k"] []) (jc:Am P w K mg base 1 "_law_next" (AE Fu)):Am P w K mg base 2 "_law_seed" (AE Ol):=by
 refine A2 (k:=1) Fn Ui hm hb (λds O R h=>?_) (λcdv A outer s H E ds O R hr h=>?_)
 ·obtain ⟨_,⟨_,_,rfl,_⟩,_⟩:=h; rfl
 ·obtain ⟨d,⟨c,k,rfl,hk,rfl⟩,hR⟩:=h
  have m1:IntMulOk 69621 k:=Eu (m:=20) (n:=40) wE wE hk.1 wF
  have m2:IntMulOk (69621*k) k:=Eu (m:=40) (n:=40) wF wF hk.1 wF
  have h1:0<=(c%2147483647+69621*k*k+5)%2147483647/\(c%2147483647+69621*k*k+5)%2147483647<3000000000:=by omega
  have h2:0<=BO ((c%2147483647+69621*k*k+5)%2147483647)/\BO ((c%2147483647+69621*k*k+5)%2147483647)<3000000000:=by
   have:=FE ((c%2147483647+69621*k*k+5)%2147483647)
   unfold Lo at this
   omega
  exact Ac (AC (Ad.ev (AH jc (hr.mono wE) (Ab (AH jc (hr.mono wE) (Ab (Aj (Aj (Aj (Aj (Aa 0) Ag (Ba wC)) (Aj (Aj Ag (Aa 1) (Cr m1)) (Aa 1) (Cr m2)) BD) Ag BD) Ag (Ba wC)) Af) ⟨_,rfl,h1,rfl⟩) Af) ⟨_,rfl,h2,rfl⟩) hR))
theorem WX (Fn:Au K "_law_said" "_law_said" KO f fd) (hm:mg "_law_said" = some (.ref f)) (hb:Binds K fd ["_law_x","_law_many","_law_scale","_law_sleepy"] []) (jc:Am P w K mg base 1 "_law_next" (AE Fu)):Am P w K mg base 2 "_law_said" (AE Op):=by
 refine A2 (k:=1) Fn Fy hm hb (λds O R h=>?_) (λcdv A outer s H E ds O R hr h=>?_)
 ·obtain ⟨_,⟨_,_,_,_,rfl,_⟩,_⟩:=h; rfl
 ·obtain ⟨d,⟨x,m,s,sl,rfl,hx,hm,hs,rfl⟩,hR⟩:=h
  refine GD ?_
  refine Ac (AQ 4 (Ht Af ?_) Fy.nd)
  refine Ac (DG (EV (Aa 1) T.xt wC wC) (λi ρ O'=>∃ (L:List (Option Int)) (y:Int) (u v:Option D),ρ=[some (.int y),some (.int (m:Nat)),some (.int s),some (.bl sl),some (.ptr O.length),u,v]/\O'=O++[some (.lst (L.map od))]/\L.length=i/\Lo y/\CO s sl m 0 x=L++CO s sl (m-i) i y) ⟨[],x,_,_,rfl,rfl,rfl,hx,rfl⟩ ?_ ?_)
  ·rintro i z ρ O' hz ⟨L,y,u,v,rfl,rfl,hL,hy,hrun⟩
   obtain ⟨hi,rfl⟩:=IF hz
   have hi:i<m:=by omega
   refine ⟨_,AW 5 Fy.nd,?_⟩
   have hy':0<=y+(0+((i:Nat):Int))/\y+(0+((i:Nat):Int))<3000000000:=by have:=hy.1; have:=hy.2; omega
   refine Ac (AQ 0 (Ad.ev (AH jc (hr.mono wE) (Ab (Aj (Aa 0) (Aa 5) BD) Af) ⟨_,rfl,hy',rfl⟩) ?_) Fy.nd)
   rw [show m-i=(m-(i+1))+1 by omega] at hrun
   have hrun:CO s sl m 0 x=L++(EL s sl (BO (y+(i:Int)))::CO s sl (m-(i+1)) (i+1) (BO (y+(i:Int)))):=hrun
   rw [show y+(0+((i:Nat):Int))=y+((i:Nat):Int) by omega]
   have hlo:=FE (y+((i:Nat):Int))
   generalize BO (y+((i:Nat):Int))=n at hrun hlo
   refine Ac (AQ 6 (Ad.ev (Aj (Aj (Aa 0) Ag (BN ⟨wC,wC⟩)) (Aj (Aa 2) Ag BD) (Ba wF)) ?_) Fy.nd)
   refine GC (λρ' O2=>ρ'=[some (.int n),some (.int (m:Nat)),some (.int s),some (.bl sl),some (.ptr O.length),some (.int (0+(i:Nat))),some (.int (if n/4%3=0 then (if n/12%2=0 then 0 else s) else n/12%(s+1)))]/\O2=O++[some (.lst (L.map od))]) (AR (AN (Aj (Aj (Aa 0) Ag (BN ⟨wC,wC⟩)) Ag (Ba wC)) Ag Bb) (λhk=>?_) (λhk=>?_)) ?_
   ·have hk:=of_decide_eq_true hk
    refine Ac (AQ 6 (Ad.ev (Dw (Df (Ab Ag (Ab (Aa 2) Af))) (by first | exact Or.inl rfl | exact Or.inr (Or.inl rfl) | exact Or.inr (Or.inr ⟨_,rfl,by first | assumption | rfl⟩)) (Aj (Aj (Aa 0) Ag (BN ⟨wC,wC⟩)) Ag (Ba wC)) (NR wF)) ?_) Fy.nd)
    exact Ar ⟨by rw [if_pos hk]; rfl,rfl⟩
   ·have hk:=of_decide_eq_false hk
    exact Ar ⟨by rw [if_neg hk]; rfl,rfl⟩
   rintro _ _ ⟨rfl,rfl⟩
   have hw:EL s sl n=if (sl&&decide (n%4=0))=true then none else some (if n/4%3=0 then (if n/12%2=0 then 0 else s) else n/12%(s+1)):=rfl
   generalize (if n/4%3=0 then (if n/12%2=0 then 0 else s) else n/12%(s+1))=z at hw
   refine GC (λρ' O2=>ρ'=[some (.int n),some (.int (m:Nat)),some (.int s),some (.bl sl),some (.ptr O.length),some (.int (0+(i:Nat))),some (od (EL s sl n))]/\O2=O++[some (.lst (L.map od))]) (AR (BF.t (Hr (BB (Aa 3)) (λhbb=>(Hq (AN (Aj (Aa 0) Ag (Ba wC)) Ag Bb))))) (λhk=>?_) (λhk=>?_)) ?_
   ·refine Ac (AQ 6 (Ad.ev B5 ?_) Fy.nd)
    exact Ar ⟨by rw [hw,if_pos hk]; rfl,rfl⟩
   ·exact Ar ⟨by rw [hw,if_neg (by rw [hk]; exact Bool.false_ne_true)]; rfl,rfl⟩
   rintro _ _ ⟨rfl,rfl⟩
   refine Ac (JN (Aa 4) Be (Aa 6) (by rw [sizeLine_eq,List.length_map]; omega) ?_)
   rw [CM]
   exact Ar ⟨L++[EL s sl n],_,_,_,rfl,by rw [List.map_append]; rfl,by rw [List.length_append,hL]; rfl,hlo,by rw [hrun,List.append_assoc]; rfl⟩
  ·rintro ρ O' ⟨L,y,u,v,rfl,rfl,hL,hy,hrun⟩
   rw [Er,Int.toNat_natCast,Nat.sub_self] at hrun
   have e:CO s sl m 0 x=L:=by rw [hrun]; exact List.append_nil _
   rw [e] at hR
   have q0:(O++[some (MO.lst (L.map od))])[O.length]?=some (some (.lst (L.map od))):=Be
   refine Ac (AC (Ad.ev (BV T.xn (Ab (Aa 4) Af) (B0 (by first | exact Or.inr rfl | exact Or.inl (Or.inl rfl) | exact Or.inl (Or.inr (Or.inl rfl)) | exact Or.inl (Or.inr (Or.inr ⟨_,rfl,by first | assumption | rfl⟩))))) ?_))
   exact ⟨⟨_,rfl⟩,He P7 _,hR⟩
theorem WQ (Fn:Au K "_law_turn" "_law_turn" KH f fd) (hm:mg "_law_turn" = some (.ref f)) (hb:Binds K fd ["_law_x","_law_many","_law_scale","_law_sleepy"] []) (zt:Am P w K mg base 2 "_law_said" (AE Op)) (jc:Am P w K mg base 1 "_law_next" (AE Fu)):Am P w K mg base 3 "_law_turn" (AE Od):=by
 refine A2 (k:=2) Fn F6 hm hb (λds O R h=>?_) (λcdv A outer s H E ds O R hr h=>?_)
 ·obtain ⟨_,⟨_,_,_,_,rfl,_⟩,_⟩:=h; rfl
 ·obtain ⟨d,⟨x,m,s,sl,rfl,hx,hm,hs,rfl⟩,hR⟩:=h
  refine Ac (AQ 4 (Ad.ev (AH zt (hr.mono wE) (Ab (Aa 0) (Ab (Aa 1) (Ab (Aa 2) (Ab (Aa 3) Af)))) ⟨_,_,_,_,rfl,by assumption,by assumption,by assumption,rfl⟩) ?_) F6.nd)
  have hx7:0<=x+7/\x+7<3000000000:=by have:=hx.1; have:=hx.2; omega
  refine Ac (AQ 0 (Ad.ev (AH jc (hr.mono wE) (Ab (Aj (Aa 0) Ag BD) Af) ⟨_,rfl,hx7,rfl⟩) ?_) F6.nd)
  unfold FU at hR
  have hrl:=LM s sl m 0 x
  generalize CO s sl m 0 x=said at hR hrl
  generalize BO (x+7)=y at hR
  refine Ac (AQ 5 (Ad.ev (Aj (Aj (Aa 0) Ag (BN ⟨wC,wC⟩)) (Aj (Aa 2) Ag BD) (Ba wF)) ?_) F6.nd)
  refine Ac (Sj 6 (λw:Option Int=>if (!DQ (od w))=true then some (od w) else none) ["_law_what"] [] [] (Cp (Aa 4) wB) (by rw [sizeLine_eq]; omega) (by exact λq hq s H fp=>⟨[some _],rfl,(AW 0 (show List.Nodup (["_law_what"]:List Str) by decide +kernel)),⟨_,(AN (Aa 0) B5 Jq),λhbb=>⟨_,if_pos hbb,(Aa 0)⟩,λhbb=>if_neg (λhcc=>Bool.false_ne_true (hbb.symm.trans hcc))⟩⟩) ?_ F6.nd)
  rw [Kj]
  have hsl:=TV said
  generalize hsom:F3 said=som at hR hsl
  unfold GP at hR
  refine GC (λρ' O'=>ρ'=[some (.int y),some (.int (m:Nat)),some (.int s),some (.bl sl),some (.tup (said.map od)),some (.int (if (decide (y%4<2)&&!decide (som=[]))=true then som.getD (y/8%(som.length:Nat)).toNat 0 else y/8%(s+1))),some (.lst (som.map D.int))]/\O'=O) (AR (BF.t (Hr (AN (Aj (Aa 0) Ag (Ba wC)) Ag FN) (λhbb=>(Hq (AN (Aa 6) (Df Af) (Q0t hr (by first | exact Or.inr ⟨_,_,rfl,by first | assumption | rfl,rfl⟩ | exact Or.inl rfl) (by first | exact Or.inr ⟨_,_,rfl,by first | assumption | rfl,rfl⟩ | exact Or.inl rfl) (by first | rfl | exact L5 _ | exact L4 (λ_ _=>rfl) | assumption) (by first | rfl | exact L5 _ | exact L4 (λ_ _=>rfl) | assumption) (by first | exact Nat.le_trans (Nat.min_le_right _ _) wE | exact Nat.le_trans (Nat.min_le_left _ _) wE | exact Nat.le_trans (Nat.min_le_left _ _) (Nat.le_trans (Nat.succ_le_succ (Q6 _)) wE)))))))) (λhk=>?_) (λhk=>?_)) ?_
  ·rw [Q3] at hk
   have hk2:=hk
   rw [Bool.and_eq_true,Bool.not_eq_true',decide_eq_false_iff_not] at hk2
   have h5:(0:Int)<((som.map D.int).length:Nat):=by rw [List.length_map]; have:=List.length_pos_iff.mpr hk2.2; omega
   have hz:Bv (som.map D.int) (y/8%((som.map D.int).length:Nat))=some (.int (som.getD (y/8%(som.length:Nat)).toNat 0)):=by
    rw [List.length_map]
    have hx:=OP y hk2.2
    refine RM hx.1 ?_
    rw [List.getElem?_eq_getElem hx.2,List.getD_eq_getElem?_getD,List.getElem?_eq_getElem hx.2]
    rfl
   refine Ac (AQ 5 (Ad.ev (Dw (Aa 6) (by first | exact Or.inl rfl | exact Or.inr (Or.inl rfl) | exact Or.inr (Or.inr ⟨_,rfl,by first | assumption | rfl⟩)) (Aj (Aj (Aa 0) Ag (BN ⟨wC,wC⟩)) (A0 T.xm (Ab (Aa 6) Af) (B6 (by first | exact Or.inr rfl | exact Or.inl (Or.inl rfl) | exact Or.inl (Or.inr (Or.inl rfl)) | exact Or.inl (Or.inr (Or.inr ⟨_,rfl,by first | assumption | rfl⟩))))) (Ba h5)) hz) ?_) F6.nd)
   exact Ar ⟨by rw [if_pos hk]; rfl,rfl⟩
  ·rw [Q3] at hk
   exact Ar ⟨by rw [if_neg (by rw [hk]; exact Bool.false_ne_true)]; rfl,rfl⟩
  rintro _ _ ⟨rfl,rfl⟩
  exact Ac (AC (Ad.ev (BP (Ab (Aa 4) (Ab (Aa 5) Af))) hR))
theorem WV (Fn:Au K "_law_size" "_law_size" KM f fd) (hm:mg "_law_size" = some (.ref f)) (hb:Binds K fd ["_law_cell"] []):Am P w K mg base 1 "_law_size" (Pp PB Pq):=by
 refine A2 (k:=0) Fn Ip hm hb (λds O R h=>?_) (λcdv A outer s H E ds O R hr h=>?_)
 ·obtain ⟨⟨_,rfl⟩,_⟩:=h; rfl
 ·obtain ⟨⟨c,rfl⟩,hR⟩:=h
  refine Ac (AQ 1 (Ad.ev (Aj Ag (Aj (Aa 0) Ag (Ba wC)) BD) ?_) Ip.nd)
  refine GC (λρ O'=>O'=O/\∃ m:Nat,(1<=m/\m<=24)/\ρ=[some (.int c),some (.int (m:Nat))]) ?_ ?_
  ·refine AR (AN (Aj (Aj (Aa 0) Ag (BN ⟨wC,wC⟩)) Ag (Ba wC)) Ag Bb) (λ_=>?_) (λ_=>Ar ⟨rfl,(1+c%7).toNat,by omega,by rw [show (((1+c%7).toNat:Nat):Int)=1+c%7 by omega]; rfl⟩)
   refine Ac (AQ 1 (Ad.ev (Aj Ag (Aj (Aj (Aa 0) Ag (BN ⟨wC,wC⟩)) Ag (Ba wC)) BD) ?_) Ip.nd)
   exact Ar ⟨rfl,(8+c/56%17).toNat,by omega,by rw [show (((8+c/56%17).toNat:Nat):Int)=8+c/56%17 by omega]; rfl⟩
  rintro ρ O' ⟨hO,m,hm,rfl⟩
  subst hO
  refine GC (λρ O2=>O2=O'/\∃ m:Nat,(1<=m/\m<=24)/\ρ=[some (.int c),some (.int (m:Nat))]) ?_ ?_
  ·refine AR (AN (Aj (Aj (Aa 0) Ag (BN ⟨wC,wC⟩)) Ag (Ba wC)) Ag Bb) (λ_=>?_) (λ_=>Ar ⟨rfl,m,hm,rfl⟩)
   refine Ac (AQ 1 (Ad.ev Ag ?_) Ip.nd)
   exact Ar ⟨rfl,1,by decide,rfl⟩
  rintro ρ O2 ⟨hO,m,hm,rfl⟩
  subst hO
  exact Ac (AC (Ad.ev (Aa 1) (hR _ ⟨m,rfl,hm.1,hm.2⟩)))
theorem W0 (Fn:Au K "_law_plain" "_law_plain" KS f fd) (hm:mg "_law_plain" = some (.ref f)) (hb:Binds K fd ["_law_sort","_law_many","_law_scale","_law_x"] []) (jc:Am P w K mg base 1 "_law_next" (AE Fu)) (kn:Cy P w K mg base CK1 5 "Hand" (EQ (λC=>C=CK1\/C=CK12\/C=CK9\/C=CK8\/C=CK10\/C=CK0))) (kt:Cy P w K mg base CK12 6 "Weigher" (GM CK12 CK9)) (ku:Cy P w K mg base CK9 7 "Shifter" (Ke CK9)) (ko:Cy P w K mg base CK8 6 "Rounder" (Kf CK8)) (kv:Cy P w K mg base CK0 6 "Follower" (GN CK0)):Am P w K mg base 13 "_law_plain" (Ig ⟨CK1,CK12,CK9,CK8,CK10,CK0⟩):=by
 refine A2 (k:=12) Fn Ko hm hb (λds O R h=>?_) (λcdv A outer s H E ds O R hr h=>?_)
 ·obtain ⟨_,_,_,_,rfl,_⟩:=h; rfl
 ·obtain ⟨m,so,s,x,rfl,hso,hx,hm,hs,hR⟩:=h
  have hmI:(1:Int)<=(m:Nat)/\((m:Nat):Int)<=24:=⟨by omega,by omega⟩
  refine Ac (AQ 4 (Ad.ev (Aj Ag (Aj (Aa 3) Ag (Ba wC)) BD) ?_) Ko.nd)
  have hb:2<=2+x%99/\2+x%99<=100:=by omega
  generalize 2+x%99=b at hb
  have ht0:=Int.emod_nonneg (x/99) (show b≠0 by omega)
  have ht1:=Int.emod_lt_of_pos (x/99) (show 0<b by omega)
  have hf:FR s (x/99%b) b:=⟨hs.1,hs.2,ht0,ht1,by omega⟩
  by_cases h0:so=0
  ·refine Ac (AR (AV.cast (k':=true) (AN (Aa 0) Ag Bb) (decide_eq_true h0)) (λ_=>?_) (λhk=>by cases hk))
   refine Ac (AC (DR kn (hr.mono wE) (Ab (Aa 1) (Ab (Aa 2) Af)) ⟨O.length,(m:Nat),s,CK1,rfl,.inl rfl,Be,hmI,hs,rfl,?_⟩))
   rw [CM]
   exact hR .h trivial (YH (.inl h0))
  refine Ac (AR (AV.cast (k':=false) (AN (Aa 0) Ag Bb) (decide_eq_false h0)) (λhk=>by cases hk) (λ_=>Ar ?_))
  by_cases h1:so=1
  ·refine Ac (AR (AV.cast (k':=true) (AN (Aa 0) Ag Bb) (decide_eq_true h1)) (λ_=>?_) (λhk=>by cases hk))
   have hV:Di false ⟨(m:Nat),s,x/99%b,b,1,7⟩:=⟨hf,hmI.1,hmI.2,λz=>by cases z⟩
   refine Ac (AC (DR kt (hr.mono wE) (Ab (Aa 1) (Ab (Aa 2) (Ab (Aj (Aj (Aa 3) Ag (BN ⟨wC,wC⟩)) (Aa 4) (Ba wF)) (Ab (Aa 4) Af)))) ⟨O.length,false,⟨(m:Nat),s,x/99%b,b,1,7⟩,rfl,Be,hV,rfl,?_⟩))
   rw [CM]
   exact hR (.v false ⟨(m:Nat),s,x/99%b,b,1,7⟩ (List.replicate m 1) 1) ⟨hV,rfl,rfl,JQ m,List.length_replicate⟩ ⟨λ_=>⟨_,_,_,rfl⟩,λe=>by omega,λe=>by omega,λe=>by omega⟩
  refine Ac (AR (AV.cast (k':=false) (AN (Aa 0) Ag Bb) (decide_eq_false h1)) (λhk=>by cases hk) (λ_=>Ar ?_))
  by_cases h2:so=2
  ·refine Ac (AR (AV.cast (k':=true) (AN (Aa 0) Ag Bb) (decide_eq_true h2)) (λ_=>?_) (λhk=>by cases hk))
   have hps:FP (m:Nat) ((List.range m).map λk:Nat=>BO (x+(0+(k:Int)))%6):=⟨by rw [List.length_map,List.length_range],λp hp=>by
    obtain ⟨k,_,rfl⟩:=List.mem_map.mp hp
    have:(6:Int)<=10 ^ (60:Int).toNat-1:=by decide +kernel
    omega⟩
   have hx1:=hx.1; have hx2:=hx.2
   refine Ac (AC (DR kv (hr.mono wE) (Ab (Aa 1) (Ab (Aa 2) (Ab (Ad.cast (BV T.xn (Ab (CG (λk:Nat=>.int (BO (x+(0+(k:Int)))%6)) ["_law_k"] ["_law_x"] [3] (EV (Aa 1) T.xt wC wC) (by rw [sizeLine_eq,List.length_range,Int.toNat_natCast]; omega) (by exact λq hq s H fp=>⟨[some _],rfl,(AW 0 (show List.Nodup (["_law_k","_law_x"]:List Str) by decide +kernel)),⟨_,rfl,(Aj (AH jc (hr.mono wE) (Ab (Aj (Aa 1) (Aa 0) BD) Af) ⟨_,rfl,by have:=List.mem_range.mp hq; omega,rfl⟩) Ag (Ba wC))⟩⟩)) Af) (B0 (by first | exact Or.inr rfl | exact Or.inl (Or.inl rfl) | exact Or.inl (Or.inr (Or.inl rfl)) | exact Or.inl (Or.inr (Or.inr ⟨_,rfl,by first | assumption | rfl⟩))))) (show D.tup _=LY (some ((List.range m).map λk:Nat=>BO (x+(0+(k:Int)))%6)) by rw [Int.toNat_natCast]; show _=D.tup _; rw [List.map_map]; rfl)) Af))) ⟨O.length,(m:Nat),s,some _,rfl,Be,hmI,hs,hps,rfl,?_⟩))
   rw [CM]
   exact hR (.f _ _) ⟨hps,by show ((List.range m).map _).length=m; rw [List.length_map,List.length_range]⟩ ⟨λe=>by omega,λ_=>⟨_,_,rfl⟩,λe=>by omega,λe=>by omega⟩
  refine Ac (AR (AV.cast (k':=false) (AN (Aa 0) Ag Bb) (decide_eq_false h2)) (λhk=>by cases hk) (λ_=>Ar ?_))
  by_cases h3:so=3
  ·refine Ac (AR (AV.cast (k':=true) (AN (Aa 0) Ag Bb) (decide_eq_true h3)) (λ_=>?_) (λhk=>by cases hk))
   refine Ac (AC (DR ko (hr.mono wE) (Ab (Aa 1) (Ab (Aa 2) Af)) ⟨O.length,(m:Nat),s,rfl,Be,hmI,hs,rfl,?_⟩))
   rw [CM]
   exact hR (.r (List.replicate m true) 0) List.length_replicate ⟨λe=>by omega,λe=>by omega,λ_=>⟨_,_,rfl⟩,λe=>by omega⟩
  refine Ac (AR (AV.cast (k':=false) (AN (Aa 0) Ag Bb) (decide_eq_false h3)) (λhk=>by cases hk) (λ_=>Ar ?_))
  refine Ac (AQ 5 (Ad.ev (Aj Ag (Aj (Aj (Aa 3) Ag (BN ⟨wC,wC⟩)) Ag (Ba wC)) BD) ?_) Ko.nd)
  have hpa:2<=2+x/7%99/\2+x/7%99<=100:=by omega
  generalize 2+x/7%99=pa at hpa
  have q0:=Int.emod_nonneg (x/3) (show pa-1≠0 by omega)
  have q1:=Int.emod_lt_of_pos (x/3) (show 0<pa-1 by omega)
  have hV:Di true ⟨(m:Nat),s,x/99%b,b,1+x/3%(pa-1),pa⟩:=⟨hf,hmI.1,hmI.2,λ_=>⟨by show 1<=1+_; omega,by show 1+_<pa; omega,hpa.2⟩⟩
  refine Ac (AC (DR ku (hr.mono wE) (Ab (Aa 1) (Ab (Aa 2) (Ab (Aj (Aj (Aa 3) Ag (BN ⟨wC,wC⟩)) (Aa 4) (Ba wF)) (Ab (Aa 4) (Ab (Aj Ag (Aj (Aj (Aa 3) Ag (BN ⟨wC,wC⟩)) (Aj (Aa 5) Ag D8) (Ba wF)) BD) (Ab (Aa 5) Af)))))) ⟨O.length,⟨(m:Nat),s,x/99%b,b,1+x/3%(pa-1),pa⟩,rfl,Be,hV.so,rfl,?_⟩))
  rw [CM]
  exact hR (.v true ⟨(m:Nat),s,x/99%b,b,1+x/3%(pa-1),pa⟩ (List.replicate m 1) 1) ⟨hV,rfl,rfl,JQ m,List.length_replicate⟩ ⟨λe=>by omega,λe=>by omega,λe=>by omega,λ_=>⟨_,_,_,rfl⟩⟩
theorem WT (Fn:Au K "_law_tier" "_law_tier" KK f fd) (hm:mg "_law_tier" = some (.ref f)) (hb:Binds K fd ["_law_many","_law_scale","_law_x","_law_deep"] []) (jc:Am P w K mg base 1 "_law_next" (AE Fu)) (kb:Am P w K mg base 13 "_law_plain" (Ig ⟨CK1,CK12,CK9,CK8,CK10,CK0⟩)) (gf:Cy P w K mg base CK10 26 "Tier" (En ⟨CK1,CK12,CK9,CK8,CK10,CK0⟩ 2)):Am P w K mg base 31 "_law_tier" (GK ⟨CK1,CK12,CK9,CK8,CK10,CK0⟩ 0):=by
 refine A2 (k:=30) Fn GV hm hb (λds O R h=>?_) (λcdv A outer s H E ds O R hr h=>?_)
 ·obtain ⟨_,_,_,rfl,_⟩:=h; rfl
 ·obtain ⟨m,s,x,rfl,hx,hm,hs,hR⟩:=h
  refine Ac (AQ 4 (Ht Af ?_) GV.nd)
  obtain ⟨n,hn,hn1,hn2⟩:∃ n:Nat,2+x%2=(n:Nat)/\2<=n/\n<=3:=⟨(2+x%2).toNat,by omega,by omega,by omega⟩
  refine Ac (DG (EV (Aj Ag (Aj (Aa 2) Ag (Ba wC)) BD) T.xt wF wF) (λi ρ O'=>∃ (pv:List (Nat×Hn)) (y:Int) (v5:Option D),ρ=[some (.int (m:Nat)),some (.int s),some (.int y),some (.int (0:Nat)),some (.ptr O.length),v5]/\(∃ Y,O'=O++some (MO.lst (pv.map Bg))::Y)/\Ch ⟨CK1,CK12,CK9,CK8,CK10,CK0⟩ O' m s (0+1) pv/\(∀ z∈pv,O.length<z.1)/\pv.length=i/\Lo y) ⟨[],x,_,rfl,⟨[],rfl⟩,(λz hz=>absurd hz List.not_mem_nil),(λz hz=>absurd hz List.not_mem_nil),rfl,hx⟩ ?_ ?_)
  ·rintro i z ρ O' hz ⟨pv,y,v5,rfl,⟨Y,rfl⟩,hP,hF,hpl,hy⟩
   obtain ⟨hi,rfl⟩:=IF hz
   have hi:i<n:=by omega
   refine ⟨_,AW 5 GV.nd,?_⟩
   have hy':0<=y+(0+((i:Nat):Int))/\y+(0+((i:Nat):Int))<3000000000:=by have:=hy.1; have:=hy.2; omega
   refine Ac (AQ 2 (Ad.ev (AH jc (hr.mono wE) (Ab (Aj (Aa 2) (Aa 5) BD) Af) ⟨_,rfl,hy',rfl⟩) ?_) GV.nd)
   have hlo:=FE (y+(0+((i:Nat):Int)))
   generalize BO (y+(0+((i:Nat):Int)))=w at hlo
   have hLq:(O++some (MO.lst (pv.map Bg))::Y)[O.length]?=some (some (MO.lst (pv.map Bg))):=Be
   -- one more is taken in
   have fin:∀ (O2:Ae) (q:Nat) (h:Hn),(∃ Z,O2=O++some (MO.lst (pv.map Bg))::Y++Z)->Aw ⟨CK1,CK12,CK9,CK8,CK10,CK0⟩ O2 h q m s->(∃ n,AO n h m s)->AU h<0+1->O.length<q->∃ (pv2:List (Nat×Hn)) (y:Int) (v5:Option D),[some (D.int (m:Nat)),some (.int s),some (.int w),some (.int (0:Nat)),some (.ptr O.length),some (.int (0+((i:Nat):Int)))]=[some (.int (m:Nat)),some (.int s),some (.int y),some (.int (0:Nat)),some (.ptr O.length),v5]/\(∃ Y2,O2.set O.length (some (.lst (pv.map Bg++[.ptr q])))=O++some (MO.lst (pv2.map Bg))::Y2)/\Ch ⟨CK1,CK12,CK9,CK8,CK10,CK0⟩ (O2.set O.length (some (.lst (pv.map Bg++[.ptr q])))) m s (0+1) pv2/\(∀ z∈pv2,O.length<z.1)/\pv2.length=i+1/\Lo y:=λO2 q h ⟨Z,hZ⟩ hh hk hd hq=>by
    refine ⟨pv++[(q,h)],w,_,rfl,⟨Y++Z,?_⟩,λz hz=>?_,λz hz=>?_,by rw [List.length_append,hpl]; rfl,hlo⟩
    ·rw [hZ,List.append_assoc,List.cons_append,CM,List.map_append]; rfl
    ·rcases List.mem_append.mp hz with hz | hz
     ·refine ⟨?_,(hP z hz).2⟩
      have:=(hP z hz).1.ap (Y:=Z)
      rw [<- hZ] at this
      exact this.own λj h1 _=>List.getElem?_set_ne (by have:=hF z hz; omega)
     ·rw [List.mem_singleton.mp hz]
      exact ⟨hh.own λj h1 _=>List.getElem?_set_ne wF,hk,hd⟩
    ·rcases List.mem_append.mp hz with hz | hz
     ·exact hF z hz
     ·rw [List.mem_singleton.mp hz]; exact hq
   ·refine Ac (AR (AV.cast (k':=false) (BF.t (Hr (AN (Aa 3) Ag Gu) (λhbb=>(Hq (AN (Aa 5) Ag Bb))))) rfl) (λhk=>by cases hk) (λ_=>?_))
    refine Ac (JM (Aa 4) (Bs kb (hr.mono wE) (Ab (Aj (Aa 2) Ag (Ba wC)) (Ab (Aa 0) (Ab (Aa 1) (Ab (Aj (Aa 2) Ag (BN ⟨wC,wC⟩)) Af)))) ⟨m,_,s,_,rfl,by omega,⟨by have:=hlo.1; omega,by have:=hlo.1; have:=hlo.2; omega⟩,hm,hs,λv hv _=>⟨HD Be,?_⟩⟩) Be (by rw [sizeLine_eq,List.length_map]; omega))
    have hnew:Aw ⟨CK1,CK12,CK9,CK8,CK10,CK0⟩ (O++some (MO.lst (pv.map Bg))::Y++[some (Cs.o ⟨CK1,CK12,CK9,CK8,CK10,CK0⟩ (m:Nat) s v)]) (.p v) (O++some (MO.lst (pv.map Bg))::Y).length m s:=Aw.pi Be
    exact Ar (Ar (fin _ _ _ ⟨_,rfl⟩ hnew ⟨0,by simpa only [AO] using hv⟩ (by simp only [AU]; omega) (by rw [List.length_append]; show _<_+(_+1); omega)))
  ·rintro ρ O' ⟨pv,y,v5,rfl,⟨Y,rfl⟩,hP,hF,hpl,hy⟩
   rw [Er] at hpl
   have hpl:pv.length=n:=by omega
   have h3y:0<=y/\y<3000000000:=by have:=hy.1; have:=hy.2; omega
   refine Ac (AQ 2 (Ad.ev (AH jc (hr.mono wE) (Ab (Aa 2) Af) ⟨_,rfl,h3y,rfl⟩) ?_) GV.nd)
   have hlo:=FE y
   generalize BO y=w at hlo
   have hLq:(O++some (MO.lst (pv.map Bg))::Y)[O.length]?=some (some (MO.lst (pv.map Bg))):=Be
   refine Ac (AC (QV gf (hr.mono wE) (Hw (Ad.ev (BV T.xn (Ab (Aa 4) Af) (B0 (Or.inl (Or.inr (Or.inr ⟨_,rfl,hLq⟩))))) (Hw (Bs kb (hr.mono wE) (Ab (Aj (Aa 2) Ag (Ba wC)) (Ab (A0 T.xm (Ab (Aa 4) Af) (B6 (by first | exact Or.inr rfl | exact Or.inl (Or.inl rfl) | exact Or.inl (Or.inr (Or.inl rfl)) | exact Or.inl (Or.inr (Or.inr ⟨_,rfl,by first | assumption | rfl⟩))))) (Ab (Aa 1) (Ab (Aj (Aa 2) Ag (BN ⟨wC,wC⟩)) Af)))) ⟨pv.length,_,s,_,by rw [List.length_map],by omega,⟨by have:=hlo.1; omega,by have:=hlo.1; have:=hlo.2; omega⟩,by omega,hs,λv hv _=>BI.as Af ?_⟩))))))
   have hh:Aw ⟨CK1,CK12,CK9,CK8,CK10,CK0⟩ (O++some (MO.lst (pv.map Bg))::Y++[some (Cs.o ⟨CK1,CK12,CK9,CK8,CK10,CK0⟩ (pv.length:Nat) s v)]) (.p v) (O++some (MO.lst (pv.map Bg))::Y).length pv.length s:=Aw.pi Be
   have hP2:=hP.app (Y:=[some (Cs.o ⟨CK1,CK12,CK9,CK8,CK10,CK0⟩ (pv.length:Nat) s v)])
   have u2:∃ Z,O++some (MO.lst (pv.map Bg))::Y++[some (Cs.o ⟨CK1,CK12,CK9,CK8,CK10,CK0⟩ (pv.length:Nat) s v)]=O++Z:=⟨_,List.append_assoc ..⟩
   generalize O++some (MO.lst (pv.map Bg))::Y++[some (Cs.o ⟨CK1,CK12,CK9,CK8,CK10,CK0⟩ (pv.length:Nat) s v)]=O3 at hh hP2 u2 ⊢
   generalize (O++some (MO.lst (pv.map Bg))::Y).length=hq at hh ⊢
   refine ⟨O3.length,m,s,pv,hq,.p v,O3,rfl,rfl,rfl,hP2.up wE,λz hz=>?_,hm,hs,by omega,rfl,?_⟩
   ·rw [List.mem_singleton.mp hz]; exact ⟨hh,⟨0,by simpa only [AO] using hv⟩,by simp only [AU]; decide⟩
   have hn:=NW hP2 hv wF
   have ha:=Gk ⟨CK1,CK12,CK9,CK8,CK10,CK0⟩ (AZ (.t (pv.map (·.2)) (.p v) []) m) O3 [] m s
   rw [List.append_nil] at ha
   exact hR _ _ _ (JR u2) (by obtain ⟨Z,rfl⟩:=u2; rw [List.length_append]; omega) ha hn.1 hn.2
theorem WS (Fn:Au K "_law_tier" "_law_tier" KJ f fd) (hm:mg "_law_tier" = some (.ref f)) (hb:Binds K fd ["_law_many","_law_scale","_law_x","_law_deep"] []) (jc:Am P w K mg base 1 "_law_next" (AE Fu)) (kb:Am P w K mg base 13 "_law_plain" (Ig ⟨CK1,CK12,CK9,CK8,CK10,CK0⟩)) (gf:Cy P w K mg base CK10 26 "Tier" (En ⟨CK1,CK12,CK9,CK8,CK10,CK0⟩ 2)) (kz:Am P w K mg base 31 "_law_tier" (GK ⟨CK1,CK12,CK9,CK8,CK10,CK0⟩ 0)):Am P w K mg base 35 "_law_tier" (GK ⟨CK1,CK12,CK9,CK8,CK10,CK0⟩ 1):=by
 refine A2 (k:=34) Fn GU hm hb (λds O R h=>?_) (λcdv A outer s H E ds O R hr h=>?_)
 ·obtain ⟨_,_,_,rfl,_⟩:=h; rfl
 ·obtain ⟨m,s,x,rfl,hx,hm,hs,hR⟩:=h
  refine Ac (AQ 4 (Ht Af ?_) GU.nd)
  obtain ⟨n,hn,hn1,hn2⟩:∃ n:Nat,2+x%2=(n:Nat)/\2<=n/\n<=3:=⟨(2+x%2).toNat,by omega,by omega,by omega⟩
  refine Ac (DG (EV (Aj Ag (Aj (Aa 2) Ag (Ba wC)) BD) T.xt wF wF) (λi ρ O'=>∃ (pv:List (Nat×Hn)) (y:Int) (v5:Option D),ρ=[some (.int (m:Nat)),some (.int s),some (.int y),some (.int (1:Nat)),some (.ptr O.length),v5]/\(∃ Y,O'=O++some (MO.lst (pv.map Bg))::Y)/\Ch ⟨CK1,CK12,CK9,CK8,CK10,CK0⟩ O' m s (1+1) pv/\(∀ z∈pv,O.length<z.1)/\pv.length=i/\Lo y) ⟨[],x,_,rfl,⟨[],rfl⟩,(λz hz=>absurd hz List.not_mem_nil),(λz hz=>absurd hz List.not_mem_nil),rfl,hx⟩ ?_ ?_)
  ·rintro i z ρ O' hz ⟨pv,y,v5,rfl,⟨Y,rfl⟩,hP,hF,hpl,hy⟩
   obtain ⟨hi,rfl⟩:=IF hz
   have hi:i<n:=by omega
   refine ⟨_,AW 5 GU.nd,?_⟩
   have hy':0<=y+(0+((i:Nat):Int))/\y+(0+((i:Nat):Int))<3000000000:=by have:=hy.1; have:=hy.2; omega
   refine Ac (AQ 2 (Ad.ev (AH jc (hr.mono wE) (Ab (Aj (Aa 2) (Aa 5) BD) Af) ⟨_,rfl,hy',rfl⟩) ?_) GU.nd)
   have hlo:=FE (y+(0+((i:Nat):Int)))
   generalize BO (y+(0+((i:Nat):Int)))=w at hlo
   have hLq:(O++some (MO.lst (pv.map Bg))::Y)[O.length]?=some (some (MO.lst (pv.map Bg))):=Be
   -- one more is taken in
   have fin:∀ (O2:Ae) (q:Nat) (h:Hn),(∃ Z,O2=O++some (MO.lst (pv.map Bg))::Y++Z)->Aw ⟨CK1,CK12,CK9,CK8,CK10,CK0⟩ O2 h q m s->(∃ n,AO n h m s)->AU h<1+1->O.length<q->∃ (pv2:List (Nat×Hn)) (y:Int) (v5:Option D),[some (D.int (m:Nat)),some (.int s),some (.int w),some (.int (1:Nat)),some (.ptr O.length),some (.int (0+((i:Nat):Int)))]=[some (.int (m:Nat)),some (.int s),some (.int y),some (.int (1:Nat)),some (.ptr O.length),v5]/\(∃ Y2,O2.set O.length (some (.lst (pv.map Bg++[.ptr q])))=O++some (MO.lst (pv2.map Bg))::Y2)/\Ch ⟨CK1,CK12,CK9,CK8,CK10,CK0⟩ (O2.set O.length (some (.lst (pv.map Bg++[.ptr q])))) m s (1+1) pv2/\(∀ z∈pv2,O.length<z.1)/\pv2.length=i+1/\Lo y:=λO2 q h ⟨Z,hZ⟩ hh hk hd hq=>by
    refine ⟨pv++[(q,h)],w,_,rfl,⟨Y++Z,?_⟩,λz hz=>?_,λz hz=>?_,by rw [List.length_append,hpl]; rfl,hlo⟩
    ·rw [hZ,List.append_assoc,List.cons_append,CM,List.map_append]; rfl
    ·rcases List.mem_append.mp hz with hz | hz
     ·refine ⟨?_,(hP z hz).2⟩
      have:=(hP z hz).1.ap (Y:=Z)
      rw [<- hZ] at this
      exact this.own λj h1 _=>List.getElem?_set_ne (by have:=hF z hz; omega)
     ·rw [List.mem_singleton.mp hz]
      exact ⟨hh.own λj h1 _=>List.getElem?_set_ne wF,hk,hd⟩
    ·rcases List.mem_append.mp hz with hz | hz
     ·exact hF z hz
     ·rw [List.mem_singleton.mp hz]; exact hq
   by_cases hi0:i=0
   ·subst hi0
    refine Ac (AR (AV.cast (k':=true) (BF.t (Hr (AN (Aa 3) Ag Gu) (λhbb=>(Hq (AN (Aa 5) Ag Bb))))) rfl) (λ_=>?_) (λhk=>by cases hk))
    refine Ac (JM (Aa 4) (Bs kz (hr.mono wE) (Ab (Aa 0) (Ab (Aa 1) (Ab (Aa 2) (Ab (Aj (Aa 3) Ag D8) Af)))) ⟨m,s,w,rfl,hlo,hm,hs,λO2 q y u2 hq2 hy hy0 hyd=>⟨by obtain ⟨Z,rfl⟩:=u2; exact HD Be,?_⟩⟩) Be (by rw [sizeLine_eq,List.length_map]; omega))
    exact Ar (Ar (fin O2 q y u2 hy ⟨0,hy0⟩ wF (by rw [List.length_append] at hq2; have:(some (MO.lst (pv.map Bg))::Y).length=Y.length+1:=rfl; omega)))
   ·refine Ac (AR (AV.cast (k':=false) (BF.t (Hr (AN (Aa 3) Ag Gu) (λhbb=>(Hq (AN (Aa 5) Ag Bb))))) (by rw [decide_eq_false (show ¬ (0+((i:Nat):Int))=0 by omega),Bool.and_false])) (λhk=>by cases hk) (λ_=>?_))
    refine Ac (JM (Aa 4) (Bs kb (hr.mono wE) (Ab (Aj (Aa 2) Ag (Ba wC)) (Ab (Aa 0) (Ab (Aa 1) (Ab (Aj (Aa 2) Ag (BN ⟨wC,wC⟩)) Af)))) ⟨m,_,s,_,rfl,by omega,⟨by have:=hlo.1; omega,by have:=hlo.1; have:=hlo.2; omega⟩,hm,hs,λv hv _=>⟨HD Be,?_⟩⟩) Be (by rw [sizeLine_eq,List.length_map]; omega))
    have hnew:Aw ⟨CK1,CK12,CK9,CK8,CK10,CK0⟩ (O++some (MO.lst (pv.map Bg))::Y++[some (Cs.o ⟨CK1,CK12,CK9,CK8,CK10,CK0⟩ (m:Nat) s v)]) (.p v) (O++some (MO.lst (pv.map Bg))::Y).length m s:=Aw.pi Be
    exact Ar (Ar (fin _ _ _ ⟨_,rfl⟩ hnew ⟨0,by simpa only [AO] using hv⟩ (by simp only [AU]; omega) (by rw [List.length_append]; show _<_+(_+1); omega)))
  ·rintro ρ O' ⟨pv,y,v5,rfl,⟨Y,rfl⟩,hP,hF,hpl,hy⟩
   rw [Er] at hpl
   have hpl:pv.length=n:=by omega
   have h3y:0<=y/\y<3000000000:=by have:=hy.1; have:=hy.2; omega
   refine Ac (AQ 2 (Ad.ev (AH jc (hr.mono wE) (Ab (Aa 2) Af) ⟨_,rfl,h3y,rfl⟩) ?_) GU.nd)
   have hlo:=FE y
   generalize BO y=w at hlo
   have hLq:(O++some (MO.lst (pv.map Bg))::Y)[O.length]?=some (some (MO.lst (pv.map Bg))):=Be
   refine Ac (AC (QV gf (hr.mono wE) (Hw (Ad.ev (BV T.xn (Ab (Aa 4) Af) (B0 (Or.inl (Or.inr (Or.inr ⟨_,rfl,hLq⟩))))) (Hw (Bs kb (hr.mono wE) (Ab (Aj (Aa 2) Ag (Ba wC)) (Ab (A0 T.xm (Ab (Aa 4) Af) (B6 (by first | exact Or.inr rfl | exact Or.inl (Or.inl rfl) | exact Or.inl (Or.inr (Or.inl rfl)) | exact Or.inl (Or.inr (Or.inr ⟨_,rfl,by first | assumption | rfl⟩))))) (Ab (Aa 1) (Ab (Aj (Aa 2) Ag (BN ⟨wC,wC⟩)) Af)))) ⟨pv.length,_,s,_,by rw [List.length_map],by omega,⟨by have:=hlo.1; omega,by have:=hlo.1; have:=hlo.2; omega⟩,by omega,hs,λv hv _=>BI.as Af ?_⟩))))))
   have hh:Aw ⟨CK1,CK12,CK9,CK8,CK10,CK0⟩ (O++some (MO.lst (pv.map Bg))::Y++[some (Cs.o ⟨CK1,CK12,CK9,CK8,CK10,CK0⟩ (pv.length:Nat) s v)]) (.p v) (O++some (MO.lst (pv.map Bg))::Y).length pv.length s:=Aw.pi Be
   have hP2:=hP.app (Y:=[some (Cs.o ⟨CK1,CK12,CK9,CK8,CK10,CK0⟩ (pv.length:Nat) s v)])
   have u2:∃ Z,O++some (MO.lst (pv.map Bg))::Y++[some (Cs.o ⟨CK1,CK12,CK9,CK8,CK10,CK0⟩ (pv.length:Nat) s v)]=O++Z:=⟨_,List.append_assoc ..⟩
   generalize O++some (MO.lst (pv.map Bg))::Y++[some (Cs.o ⟨CK1,CK12,CK9,CK8,CK10,CK0⟩ (pv.length:Nat) s v)]=O3 at hh hP2 u2 ⊢
   generalize (O++some (MO.lst (pv.map Bg))::Y).length=hq at hh ⊢
   refine ⟨O3.length,m,s,pv,hq,.p v,O3,rfl,rfl,rfl,hP2.up wE,λz hz=>?_,hm,hs,by omega,rfl,?_⟩
   ·rw [List.mem_singleton.mp hz]; exact ⟨hh,⟨0,by simpa only [AO] using hv⟩,by simp only [AU]; decide⟩
   have hn:=NW hP2 hv wF
   have ha:=Gk ⟨CK1,CK12,CK9,CK8,CK10,CK0⟩ (AZ (.t (pv.map (·.2)) (.p v) []) m) O3 [] m s
   rw [List.append_nil] at ha
   exact hR _ _ _ (JR u2) (by obtain ⟨Z,rfl⟩:=u2; rw [List.length_append]; omega) ha hn.1 hn.2
theorem W9 (Fn:Au K "_law_hand" "_law_hand" KU f fd) (hm:mg "_law_hand" = some (.ref f)) (hb:Binds K fd ["_law_sort","_law_many","_law_scale","_law_x"] []) (kb:Am P w K mg base 13 "_law_plain" (Ig ⟨CK1,CK12,CK9,CK8,CK10,CK0⟩)) (kz:Am P w K mg base 31 "_law_tier" (GK ⟨CK1,CK12,CK9,CK8,CK10,CK0⟩ 0)) (zu:Am P w K mg base 35 "_law_tier" (GK ⟨CK1,CK12,CK9,CK8,CK10,CK0⟩ 1)):Am P w K mg base 37 "_law_hand" (OF ⟨CK1,CK12,CK9,CK8,CK10,CK0⟩):=by
 refine A2 (k:=36) Fn Uk hm hb (λds O R h=>?_) (λcdv A outer s H E ds O R hr h=>?_)
 ·obtain ⟨_,_,_,_,rfl,_⟩:=h; rfl
 ·obtain ⟨m,so,s,x,rfl,hso,hx,hm,hs,hR⟩:=h
  by_cases h5:so<5
  ·refine Ac (AR (AV.cast (k':=true) (AN (Aa 0) Ag FN) (decide_eq_true h5)) (λ_=>?_) (λhk=>by cases hk))
   exact Ac (AC (Bs kb (hr.mono wE) (Ab (Aa 0) (Ab (Aa 1) (Ab (Aa 2) (Ab (Aa 3) Af)))) ⟨m,so,s,x,rfl,by omega,hx,hm,hs,λv hv hk=>hR _ _ (.p v) ⟨_,rfl⟩ (Nat.le_refl _) (Aw.pi Be) (by simpa only [AO] using hv) (by simp only [AU]; omega)⟩))
  refine Ac (AR (AV.cast (k':=false) (AN (Aa 0) Ag FN) (decide_eq_false h5)) (λhk=>by cases hk) (λ_=>Ar ?_))
  by_cases h6:so=5
  ·subst h6
   exact Ac (AC (Bs kz (hr.mono wE) (Ab (Aa 1) (Ab (Aa 2) (Ab (Aa 3) (Ab (Aj (Aa 0) Ag D8) Af)))) ⟨m,s,x,rfl,hx,hm,hs,λO' q y u hq hy hk hd=>hR O' q y u hq hy hk wF⟩))
  ·have h6:so=6:=by omega
   subst h6
   exact Ac (AC (Bs zu (hr.mono wE) (Ab (Aa 1) (Ab (Aa 2) (Ab (Aa 3) (Ab (Aj (Aa 0) Ag D8) Af)))) ⟨m,s,x,rfl,hx,hm,hs,λO' q y u hq hy hk hd=>hR O' q y u hq hy hk hd⟩))
theorem WM (Fn:Au K "parted" "parted" KC f fd) (hm:mg "parted" = some (.ref f)) (hb:Binds K fd ["many","scale"] []):Am P w K mg base 1 "parted" (AE Ou):=by
 refine A2 (k:=0) Fn Uh hm hb (λds O R h=>?_) (λcdv A outer s H E ds O R hr h=>?_)
 ·obtain ⟨_,⟨_,_,rfl,_⟩,_⟩:=h; rfl
 ·obtain ⟨d,⟨m,s,rfl,hm,rfl⟩,hR⟩:=h
  refine Ac (AC (Ad.ev (BV T.xn (Ab (CG (λj:Nat=>if decide ((0+(j:Int))%2=0)=true then D.int 0 else D.int s) ["adviser"] ["scale"] [1] (EV (Aa 0) T.xt wF wF) (by rw [List.length_range,sizeLine_eq]; omega) (by exact λq hq s H fp=>⟨[some _],rfl,(AW 0 (show List.Nodup (["adviser","scale"]:List Str) by decide +kernel)),⟨_,rfl,(MH (AN (Aj (Aa 0) Ag (Ba wC)) Ag Bb) (λhbb=>Ag) (λhbb=>(Aa 1)))⟩⟩)) Af) (B0 (by first | exact Or.inr rfl | exact Or.inl (Or.inl rfl) | exact Or.inl (Or.inr (Or.inl rfl)) | exact Or.inl (Or.inr (Or.inr ⟨_,rfl,by first | assumption | rfl⟩))))) ?_))
  have e:((List.range ((m:Nat):Int).toNat).map λj:Nat=>if decide ((0+(j:Int))%2=0)=true then D.int 0 else D.int s)=(sd m s).map od:=by
   rw [Int.toNat_natCast]
   unfold sd
   rw [List.map_map]
   refine List.map_congr_left λj _=>?_
   show (if decide ((0+(j:Int))%2=0)=true then D.int 0 else D.int s)=od (some (if j%2=0 then 0 else s))
   by_cases h:j%2=0
   ·rw [if_pos (decide_eq_true wF),if_pos h]; rfl
   ·rw [if_neg (by rw [decide_eq_true_eq]; omega),if_neg h]; rfl
  rw [e]
  exact hR
theorem WJ (Fn:Au K "ran" "ran" Kz f fd) (hm:mg "ran" = some (.ref f)) (hb:Binds K fd ["hand","turns"] []) (gk:Ek P w K mg base 5 "check_turns" (J6 CK6)) (jo:Al P w K mg base CK1 7 "anew" (F1 CK1)) (je:Al P w K mg base CK1 6 "say" (Bp CK1 CK12 CK9 CK8)) (jw:Al P w K mg base CK1 6 "hear" (FX CK1)) (jp:Al P w K mg base CK12 9 "anew" (Db CK12 CK9 false)) (ja:Al P w K mg base CK12 6 "say" (Bp CK1 CK12 CK9 CK8)) (jx:Al P w K mg base CK12 8 "hear" (Da CK12 CK9 false)) (jq:Al P w K mg base CK9 9 "anew" (Db CK12 CK9 true)) (jb:Al P w K mg base CK9 6 "say" (Bp CK1 CK12 CK9 CK8)) (jy:Al P w K mg base CK9 8 "hear" (Da CK12 CK9 true)) (jr:Al P w K mg base CK8 8 "anew" (F0 CK8)) (jf:Al P w K mg base CK8 6 "say" (Bp CK1 CK12 CK9 CK8)) (jz:Al P w K mg base CK8 6 "hear" (FW CK8)) (kx:Al P w K mg base CK10 28 "anew" (D4 ⟨CK1,CK12,CK9,CK8,CK10,CK0⟩ 2)) (ju:Al P w K mg base CK10 25 "say" (Dn ⟨CK1,CK12,CK9,CK8,CK10,CK0⟩ 2)) (ky:Al P w K mg base CK10 26 "hear" (D3 ⟨CK1,CK12,CK9,CK8,CK10,CK0⟩ 2)) (jt:Al P w K mg base CK0 8 "anew" (F2 CK0)) (jg:Al P w K mg base CK0 5 "say" (EO CK0)) (ka:Al P w K mg base CK0 6 "hear" (FY CK0)):Ek P w K mg base 29 "ran" (J9 ⟨CK1,CK12,CK9,CK8,CK10,CK0⟩ CK6 2):=by
 refine ⟨f,fd,_,Ma (k:=28) Fn GT (λds O R RX h=>?_) (λcdv A outer s H E ds O R RX hr h=>?_),hm,Fn.kp,hb⟩
 ·obtain ⟨_,_,_,_,_,_,_,_,_,_,⟨_,rfl,_⟩ | ⟨_,_,rfl,_⟩⟩:=h <;> rfl
 ·obtain ⟨q0,n,m,s,x,hW,hok,hj,hm,hs,⟨ts,rfl,hts,htl,hR⟩ | ⟨L,i,rfl,hA,hb,hX⟩⟩:=h
  ·refine CK (HS (Gp gk (hr.mono wE) (Ab (EE (C:=⟨CK1,CK12,CK9,CK8,CK10,CK0⟩) T.bu.cls T.de.cls T.du.cls T.eu.cls T.bw T.dg T.dy T.fh T.fq.cls T.fu T.fz.cls T.lb (Aa 0) hW hok) (Ab (EC (C:=⟨CK1,CK12,CK9,CK8,CK10,CK0⟩) T.bu.cls T.de.cls T.du.cls T.eu.cls T.bx T.dh T.dz T.fi T.fq.cls T.fv T.fz.cls T.lc (Aa 0) hW hok) (Ab (Aa 1) Af))) ⟨(m:Nat),s,.ts (ts.map C9),by rw [show av (.ts (ts.map C9))=D.tup (ts.map tD) from congrArg D.tup (JS ts)],λx hx=>?ok,λ_=>?rest,λj hj=>?no⟩))
   case ok=>obtain ⟨y,hy,rfl⟩:=List.mem_map.mp hx; exact (HW hm.2 (hts y hy)).2
   case no=>exact (QD hj (show Nu _ _ (.ts _) from λx hx=>by obtain ⟨y,hy,rfl⟩:=List.mem_map.mp hx; exact (HW hm.2 (hts y hy)).1)).elim
   case rest=>
    have hev:=MI hok hm.2 hts
    have h0:0<=s:=by omega
    refine Exs.x_ ?_
    refine GD ?_
    refine Ac (Fp (Ji (C:=⟨CK1,CK12,CK9,CK8,CK10,CK0⟩) jo jp jq jr (hr.mono wE) (hr.mono wE) (hr.mono wE) jt (hr.mono wE) kx (hr.mono wE) (Aa 0) hW hok hj hm hs ⟨_,AW 2 GT.nd,?_⟩))
    refine Ac (AQ 3 (Ht Af ?_) GT.nd)
    have k1:Kp O.length O (O++Bj ⟨CK1,CK12,CK9,CK8,CK10,CK0⟩ (AZ x m) O.length m s++[some (MO.lst [])]):=by rw [List.append_assoc]; exact Kp.app _ (Nat.le_refl _)
    have a1:Aw ⟨CK1,CK12,CK9,CK8,CK10,CK0⟩ (O++Bj ⟨CK1,CK12,CK9,CK8,CK10,CK0⟩ (AZ x m) O.length m s++[some (MO.lst [])]) (DS m x ts 0) O.length m s:=Gk ⟨CK1,CK12,CK9,CK8,CK10,CK0⟩ (AZ x m) O _ m s
    have l1:(O++Bj ⟨CK1,CK12,CK9,CK8,CK10,CK0⟩ (AZ x m) O.length m s).length=O.length+AM x:=by rw [List.length_append,Hi,F4]
    have b1:(O++Bj ⟨CK1,CK12,CK9,CK8,CK10,CK0⟩ (AZ x m) O.length m s++[some (MO.lst [])])[O.length+AM x]?=some (some (MO.lst (((List.range 0).map (CA m x ts)).map D.int))):=by rw [<- l1]; exact Be
    rw [l1]
    generalize O++Bj ⟨CK1,CK12,CK9,CK8,CK10,CK0⟩ (AZ x m) O.length m s++[some (MO.lst [])]=O1 at k1 a1 b1 ⊢
    refine Ac (DG (hp:=PassesOwn.leaving) (Cp (Aa 1) wB) (λi ρ O'=>∃ (v1 v2:Option D),ρ=[some (.ptr q0),some (.tup (ts.map tD)),some (.ptr O.length),some (.ptr (O.length+AM x)),v1,v2]/\Kp O.length O O'/\Aw ⟨CK1,CK12,CK9,CK8,CK10,CK0⟩ O' (DS m x ts i) O.length m s/\O'[O.length+AM x]?=some (some (MO.lst (((List.range i).map (CA m x ts)).map D.int)))) ⟨_,_,rfl,k1,a1,b1⟩ ?_ ?_)
    ·clear k1 a1 b1 l1
     rintro i z ρ O' hx ⟨v1,v2,rfl,kp,hA,hL⟩
     rw [List.getElem?_map] at hx
     obtain ⟨tn,hq,rfl⟩:=Option.map_eq_some_iff.mp hx
     have hi:=(List.getElem?_eq_some_iff.mp hq).1
     have hok1:=hts tn (List.mem_of_getElem? hq)
     have he:=hev i wF
     have hz:=OY (m:=m) (x:=x) (ts:=ts) i wF
     have hdp:=Re (m:=m) (x:=x) (ts:=ts) i wF
     have hsay:CA m x ts i=Bz (DS m x ts i) m tn.1:=by unfold CA; rw [NV hq]
     rw [Jj hq,List.range_succ,List.map_append,List.map_append,List.map_cons,List.map_nil,hsay]
     generalize DS m x ts i=y at he hA hz hdp
     generalize hLg:(List.range i).map (CA m x ts)=L at hL
     have hLl:L.length=i:=by rw [<- hLg,List.length_map,List.length_range]
     refine ⟨_,DJ (BZ (AW 4 GT.nd) (BZ (AW 5 GT.nd) DI)),?_⟩
     refine Ac (JN (Aa 3) hL (FJ (C:=⟨CK1,CK12,CK9,CK8,CK10,CK0⟩) je ja jb jf (hr.mono wE) jg (hr.mono wE) ju (hr.mono wE) (Aa 2) hA he wF hm h0 (hok1.said hm.2) (Ab (Aa 4) Af)) (by rw [sizeLine_eq,List.length_map]; omega) ?_)
     have hA2:Aw ⟨CK1,CK12,CK9,CK8,CK10,CK0⟩ (O'.set (O.length+AM x) (some (MO.lst (L.map D.int++[.int (Bz y m tn.1)])))) y O.length m s:=hA.own λj _ h2=>List.getElem?_set_ne wF
     have hL2:(O'.set (O.length+AM x) (some (MO.lst (L.map D.int++[.int (Bz y m tn.1)]))))[O.length+AM x]?=some (some (MO.lst (L.map D.int++[.int (Bz y m tn.1)]))):=Cc hL
     have kp2:Kp O.length O (O'.set (O.length+AM x) (some (MO.lst (L.map D.int++[.int (Bz y m tn.1)])))):=⟨by rw [List.length_set]; exact kp.l,λj hj=>by rw [List.getElem?_set_ne wF]; exact kp.o j hj⟩
     generalize O'.set (O.length+AM x) (some (MO.lst (L.map D.int++[.int (Bz y m tn.1)])))=O2 at hA2 hL2 kp2 ⊢
     refine Ac (Bd (Jh (C:=⟨CK1,CK12,CK9,CK8,CK10,CK0⟩) jw jx jy jz (hr.mono wE) (hr.mono wE) (hr.mono wE) ka (hr.mono wE) ky (hr.mono wE) (Aa 2) hA2 he wF wF hm (hok1.said hm.2) hok1.2.2 (Ab (Aa 4) (Ab (Aa 5) Af)) λO3 c3 hA3=>?_))
     exact Ar ⟨_,_,rfl,kp2.tr (Kp.bl c3 (Nat.le_refl _)),hA3,by rw [c3.o _ (.inr wF)]; exact hL2⟩
    ·rintro ρ O' ⟨v1,v2,rfl,kp,hA,hL⟩
     rw [List.length_map] at hL
     generalize (List.range ts.length).map (CA m x ts)=L at hR hL
     refine Ac (AC (Ad.ev (BV T.xn (Ab (Aa 3) Af) (B0 (by first | exact Or.inr rfl | exact Or.inl (Or.inl rfl) | exact Or.inl (Or.inr (Or.inl rfl)) | exact Or.inl (Or.inr (Or.inr ⟨_,rfl,by first | assumption | rfl⟩))))) ?_))
     exact ⟨kp.up,P9 _,hR⟩
  ·exact CK (HS (Gp gk (hr.mono wE) (Ab (EE (C:=⟨CK1,CK12,CK9,CK8,CK10,CK0⟩) T.bu.cls T.de.cls T.du.cls T.eu.cls T.bw T.dg T.dy T.fh T.fq.cls T.fu T.fz.cls T.lb (Aa 0) hW hok) (Ab (EC (C:=⟨CK1,CK12,CK9,CK8,CK10,CK0⟩) T.bu.cls T.de.cls T.du.cls T.eu.cls T.bx T.dh T.dz T.fi T.fq.cls T.fv T.fz.cls T.lc (Aa 0) hW hok) (Ab (Aa 1) Af))) ⟨(m:Nat),s,.ts L,rfl,hA,λg=>(QD (a:=.ts L) hb g).elim,λj hj=>by rw [Q0N hj (show HN _ _ (.ts L) i from hb)]; exact hX⟩))
theorem WF (Fn:Au K "trap" "trap" Kv f fd) (hm:mg "trap" = some (.ref f)) (hb:Binds K fd ["hand","many_turns"] []) (zv:Am P w K mg base 1 "parted" (AE Ou)) (jo:Al P w K mg base CK1 7 "anew" (F1 CK1)) (je:Al P w K mg base CK1 6 "say" (Bp CK1 CK12 CK9 CK8)) (jw:Al P w K mg base CK1 6 "hear" (FX CK1)) (jp:Al P w K mg base CK12 9 "anew" (Db CK12 CK9 false)) (ja:Al P w K mg base CK12 6 "say" (Bp CK1 CK12 CK9 CK8)) (jx:Al P w K mg base CK12 8 "hear" (Da CK12 CK9 false)) (jq:Al P w K mg base CK9 9 "anew" (Db CK12 CK9 true)) (jb:Al P w K mg base CK9 6 "say" (Bp CK1 CK12 CK9 CK8)) (jy:Al P w K mg base CK9 8 "hear" (Da CK12 CK9 true)) (jr:Al P w K mg base CK8 8 "anew" (F0 CK8)) (jf:Al P w K mg base CK8 6 "say" (Bp CK1 CK12 CK9 CK8)) (jz:Al P w K mg base CK8 6 "hear" (FW CK8)) (kx:Al P w K mg base CK10 28 "anew" (D4 ⟨CK1,CK12,CK9,CK8,CK10,CK0⟩ 2)) (ju:Al P w K mg base CK10 25 "say" (Dn ⟨CK1,CK12,CK9,CK8,CK10,CK0⟩ 2)) (ky:Al P w K mg base CK10 26 "hear" (D3 ⟨CK1,CK12,CK9,CK8,CK10,CK0⟩ 2)) (jt:Al P w K mg base CK0 8 "anew" (F2 CK0)) (jg:Al P w K mg base CK0 5 "say" (EO CK0)) (ka:Al P w K mg base CK0 6 "hear" (FY CK0)):Ek P w K mg base 29 "trap" (J7 ⟨CK1,CK12,CK9,CK8,CK10,CK0⟩ CK7 2):=by
 refine ⟨f,fd,_,Ma (k:=28) Fn F5 (λds O R RX h=>?_) (λcdv A outer s H E ds O R RX hr h=>?_),hm,Fn.kp,hb⟩
 ·obtain ⟨_,_,_,_,_,_,rfl,_⟩:=h; rfl
 ·obtain ⟨q,k,m,n,s,x,rfl,hW,hok,hj,hm,hs,hn,hX,hR⟩:=h
  have hm1:=hm
  have h0:0<=s:=by omega
  by_cases h1:m=1
  ·refine CK (GE (AV.cast (k':=true) (AN (EE (C:=⟨CK1,CK12,CK9,CK8,CK10,CK0⟩) T.bu.cls T.de.cls T.du.cls T.eu.cls T.bw T.dg T.dy T.fh T.fq.cls T.fu T.fz.cls T.lb (Aa 0) hW hok) Ag Bb) (decide_eq_true wF)) (λ_=>?_) (λhk=>by cases hk))
   exact CK (So T.md T.ma (Ab Ec Af) (hX h1) trivial)
  refine CK (GE (AV.cast (k':=false) (AN (EE (C:=⟨CK1,CK12,CK9,CK8,CK10,CK0⟩) T.bu.cls T.de.cls T.du.cls T.eu.cls T.bw T.dg T.dy T.fh T.fq.cls T.fu T.fz.cls T.lb (Aa 0) hW hok) Ag Bb) (decide_eq_false wF)) (λhk=>by cases hk) (λ_=>Fq ?_))
  refine Exs.x_ ?_
  refine GD ?_
  have hgood:=Qy (AO.anew x m s hok) h0 hm.2
  have hsd:=O8 (m:=m) h0 hm.2
  refine Ac (Fp (Ji (C:=⟨CK1,CK12,CK9,CK8,CK10,CK0⟩) jo jp jq jr (hr.mono wE) (hr.mono wE) (hr.mono wE) jt (hr.mono wE) kx (hr.mono wE) (Aa 0) hW hok hj hm1 hs ⟨_,AW 2 F5.nd,?_⟩))
  refine Ac (AQ 3 (Ad.ev (AH zv (hr.mono wE) (Ab (EE (C:=⟨CK1,CK12,CK9,CK8,CK10,CK0⟩) T.bu.cls T.de.cls T.du.cls T.eu.cls T.bw T.dg T.dy T.fh T.fq.cls T.fu T.fz.cls T.lb (Aa 0) hW.ap hok) (Ab (EC (C:=⟨CK1,CK12,CK9,CK8,CK10,CK0⟩) T.bu.cls T.de.cls T.du.cls T.eu.cls T.bx T.dh T.dz T.fi T.fq.cls T.fv T.fz.cls T.lc (Aa 0) hW.ap hok) Af)) ⟨m,s,rfl,hm.2,rfl⟩) ?_) F5.nd)
  refine Ac (AQ 4 (Ht Af ?_) F5.nd)
  have k1:Kp O.length O (O++Bj ⟨CK1,CK12,CK9,CK8,CK10,CK0⟩ (AZ x m) O.length m s++[some (MO.lst [])]):=by rw [List.append_assoc]; exact Kp.app _ (Nat.le_refl _)
  have a1:Aw ⟨CK1,CK12,CK9,CK8,CK10,CK0⟩ (O++Bj ⟨CK1,CK12,CK9,CK8,CK10,CK0⟩ (AZ x m) O.length m s++[some (MO.lst [])]) (Du m s 0 (AZ x m)) O.length m s:=Gk ⟨CK1,CK12,CK9,CK8,CK10,CK0⟩ (AZ x m) O _ m s
  have l1:(O++Bj ⟨CK1,CK12,CK9,CK8,CK10,CK0⟩ (AZ x m) O.length m s).length=O.length+AM x:=by rw [List.length_append,Hi,F4]
  have b1:(O++Bj ⟨CK1,CK12,CK9,CK8,CK10,CK0⟩ (AZ x m) O.length m s++[some (MO.lst [])])[O.length+AM x]?=some (some (MO.lst ((D2 m s 0 (AZ x m)).map tD))):=by rw [<- l1]; exact Be
  rw [l1]
  generalize O++Bj ⟨CK1,CK12,CK9,CK8,CK10,CK0⟩ (AZ x m) O.length m s++[some (MO.lst [])]=O1 at k1 a1 b1 ⊢
  have hsz:=λi=>(OX m s (AZ x m) i).trans (F4 x m)
  have hdp:=λi=>(Rb m s (AZ x m) i).trans (Hz x m)
  have hqn:=Aw.le _ _ _ _ hW
  refine Ac (DG (hp:=PassesOwn.leaving) (EV (Aa 1) T.xt wC wC) (λi ρ O'=>∃ v5 v6:Option D,ρ=[some (.ptr q),some (.int (n:Nat)),some (.ptr O.length),some (.tup ((sd m s).map od)),some (.ptr (O.length+AM x)),v5,v6]/\Kp O.length O O'/\Aw ⟨CK1,CK12,CK9,CK8,CK10,CK0⟩ O' (Du m s i (AZ x m)) O.length m s/\O'[O.length+AM x]?=some (some (MO.lst ((D2 m s i (AZ x m)).map tD)))) ⟨_,_,rfl,k1,a1,b1⟩ ?_ ?_)
  ·clear k1 a1 b1 l1
   rintro i z ρ O' hz ⟨v5,v6,rfl,kp,hA,hL⟩
   obtain ⟨hi,rfl⟩:=IF hz
   have hi:i<n:=by omega
   have hgi:=hgood i
   have hzi:=hsz i
   have hdi:=hdp i
   have htl:((D2 m s i (AZ x m)).map tD).length=i:=by rw [List.length_map,S2]
   rw [S1,List.map_append]
   show ∃ ρ1,_/\Exs _ ρ1 _ _ { nx:=λρ O'=>∃ v5 v6:Option D,ρ=_/\Kp _ _ O'/\Aw ⟨CK1,CK12,CK9,CK8,CK10,CK0⟩ O' (Bu (Du m s i (AZ x m)) m (sd m s) (D5 m s (Du m s i (AZ x m)))) _ _ _/\_,rt:=_,bk:=_,ct:=_ }
   have hW2:Aw ⟨CK1,CK12,CK9,CK8,CK10,CK0⟩ O' x q m s:=hW.own λj _ h2=>kp.o j wF
   generalize Du m s i (AZ x m)=w at hgi hzi hdi hA
   generalize (D2 m s i (AZ x m)).map tD=L at htl hL
   have eso:(if decide (Bz w m (sd m s)=0)=true then D.int s else D.int 0)=D.int (D5 m s w):=by
    unfold D5
    by_cases h:Bz w m (sd m s)=0
    ·rw [if_pos (decide_eq_true h),if_pos h]
    ·rw [if_neg (by rw [decide_eq_true_eq]; exact h),if_neg h]
   refine ⟨_,AW 5 F5.nd,?_⟩
   refine Ac (AQ 6 (Ad.ev (Ad.cast (MH (AN (FJ (C:=⟨CK1,CK12,CK9,CK8,CK10,CK0⟩) je ja jb jf (hr.mono wE) jg (hr.mono wE) ju (hr.mono wE) (Aa 2) hA hgi wF hm1 h0 hsd (Ab (Aa 3) Af)) Ag Bb) (λ_=>EC (C:=⟨CK1,CK12,CK9,CK8,CK10,CK0⟩) T.bu.cls T.de.cls T.du.cls T.eu.cls T.bx T.dh T.dz T.fi T.fq.cls T.fv T.fz.cls T.lc (Aa 0) hW2 hok) (λ_=>Ag)) eso) ?_) F5.nd)
   have hso:=OQ (m:=m) (y:=w) h0
   refine Ac (Bd (Jh (C:=⟨CK1,CK12,CK9,CK8,CK10,CK0⟩) jw jx jy jz (hr.mono wE) (hr.mono wE) (hr.mono wE) ka (hr.mono wE) ky (hr.mono wE) (Aa 2) hA hgi wF wF hm1 hsd hso (Ab (Aa 3) (Ab (Aa 6) Af)) λO3 c3 hA3=>?_))
   have hL3:O3[O.length+AM x]?=some (some (MO.lst L)):=by rw [c3.o _ (.inr wF)]; exact hL
   have hz3:=Fw w m (sd m s) (D5 m s w)
   refine Ac (JN (Aa 4) hL3 (BP (Ab (Aa 3) (Ab (Aa 6) Af))) (by rw [sizeLine_eq,htl]; omega) ?_)
   refine Ar ⟨_,_,rfl,(kp.tr (Kp.bl c3 (Nat.le_refl _))).tr ⟨by rw [List.length_set]; exact Nat.le_refl _,λj hj=>List.getElem?_set_ne wF⟩,hA3.own λj _ h2=>List.getElem?_set_ne wF,Cc hL3⟩
  ·rintro ρ O' ⟨v5,v6,rfl,kp,hA,hL⟩
   rw [Er,Int.toNat_natCast] at hL
   exact Ac (AC (Ad.ev (BV T.xn (Ab (Aa 4) Af) (B0 (Or.inl (Or.inr (Or.inr ⟨_,rfl,hL⟩))))) ⟨kp.up,He N2 _,hR h1⟩))
theorem Xb (Fn:Au K "_law_alone" "_law_alone" KY f fd) (hm:mg "_law_alone" = some (.ref f)) (hb:Binds K fd ["_law_error","_law_kind"] []):Am P w K mg base 1 "_law_alone" (Ki CK6 CK7):=by
 refine A2 (k:=0) Fn GW hm hb (λds O R h=>?_) (λcdv A outer s H E ds O R hr h=>?_)
 ·obtain ⟨_,_,_,_,rfl,_⟩:=h; rfl
 ·obtain ⟨q,C,fs,kd,rfl,hq,hk,hR⟩:=h
  rcases hk with ⟨rfl,rfl⟩ | ⟨rfl,rfl⟩
  ·refine Ac (AQ 2 (Ad.ev (Df (Ab (Dx T.xu (Aa 0) hq T.ln T.lm T.ls) (Ab (Dx T.xu (Aa 0) hq T.ln T.ms T.lv) (Ab (Dx T.xu (Aa 0) hq T.ln T.mw T.lw) Af)))) ?_) GW.nd)
   refine Ac (AQ 2 (Ad.ev (Aj (Aa 2) (Df (Ab (Dx T.xu (Aa 0) hq T.ln T.ma T.lx) (Ab (Dx T.xu (Aa 0) hq T.ln T.mx T.ly) (Ab (Dx T.xu (Aa 0) hq T.ln T.mz T.lz) Af)))) (Md (Nat.le_of_ble_eq_true rfl))) ?_) GW.nd)
   exact Ac (AC (Ad.ev (C4 (QX T.xu (Aa 0) hq T.ln T.bh T.lr) (λ_=>C4 (Dy (QZ (bs:=[true,false,false,false,false,false]) (Aa 2) (Or.inl rfl) Dz) Ag Bb) (λ_=>Ed (Dw (Aa 2) (Or.inl rfl) (Aa 1) rfl)))) hR))
  ·refine Ac (AQ 2 (Ad.ev (Df (Ab (Dx T.xu (Aa 0) hq T.mf T.lm T.mj) (Ab (Dx T.xu (Aa 0) hq T.mf T.ms T.ml) (Ab (Dx T.xu (Aa 0) hq T.mf T.mw T.mm) Af)))) ?_) GW.nd)
   refine Ac (AQ 2 (Ad.ev (Aj (Aa 2) (Df (Ab (Dx T.xu (Aa 0) hq T.mf T.ma T.mn) (Ab (Dx T.xu (Aa 0) hq T.mf T.mx T.mq) (Ab (Dx T.xu (Aa 0) hq T.mf T.mz T.mr) Af)))) (Md (Nat.le_of_ble_eq_true rfl))) ?_) GW.nd)
   exact Ac (AC (Ad.ev (C4 (QX T.xu (Aa 0) hq T.mf T.bh T.mi) (λ_=>C4 (Dy (QZ (bs:=[false,false,false,true,false,false]) (Aa 2) (Or.inl rfl) Dz) Ag Bb) (λ_=>Ed (Dw (Aa 2) (Or.inl rfl) (Aa 1) rfl)))) hR))
theorem WZ (Fn:Au K "_law_ran" "_law_ran" KR f fd) (hm:mg "_law_ran" = some (.ref f)) (hb:Binds K fd ["_law_hand_here","_law_turns"] []) (gl:Ek P w K mg base 29 "ran" (J9 ⟨CK1,CK12,CK9,CK8,CK10,CK0⟩ CK6 2)):Am P w K mg base 30 "_law_ran" (Oz ⟨CK1,CK12,CK9,CK8,CK10,CK0⟩ CK6 2):=by
 refine A2 (k:=29) Fn D6 hm hb (λds O R h=>?_) (λcdv A outer s H E ds O R hr h=>?_)
 ·obtain ⟨_,_,_,_,_,_,_,_,_,_,⟨_,rfl,_⟩ | ⟨_,_,rfl,_⟩⟩:=h <;> rfl
 ·obtain ⟨q,n,m,s,x,hW,hok,hj,hm,hs,⟨ts,rfl,hts,htl,hR⟩ | ⟨L,i,rfl,hA,hb,hR⟩⟩:=h
  ·refine Ac (AQ 2 (Ad.ev B5 ?_) D6.nd)
   refine Ac (AQ 3 (Ad.ev B5 ?_) D6.nd)
   refine Ac (HR 4 D6.nd T.lj (RX:=λC fs ρ O'=>False) (λpn E=>?_) (λv C fs ρ' O' hx=>hx.elim))
   refine CK (NE 2 (Gp gl (hr.mono wE) (Ab (Aa 0) (Ab (Aa 1) Af)) ⟨q,n,m,s,x,hW,hok,hj,hm,hs,.inl ⟨ts,rfl,hts,htl,?_⟩⟩) D6.nd)
   refine Fq ?_
   exact Ac (AC (Ad.ev (BP (Ab (Aa 2) (Ab (Aa 3) Af))) hR))
  ·refine Ac (AQ 2 (Ad.ev B5 ?_) D6.nd)
   refine Ac (AQ 3 (Ad.ev B5 ?_) D6.nd)
   refine Ac (HR 4 D6.nd T.lj (RX:=λC fs ρ O'=>C=CK6/\fs=[(("number" : Str),D.int (i:Nat))]/\ρ=[some (.ptr q),some (.tup (L.map tv)),some .non,some .non,none]/\O'=O) (λpn E=>?_) (λv C fs ρ' O' hx=>?_))
   ·exact CK (NE 2 (Gp gl (hr.mono wE) (Ab (Aa 0) (Ab (Aa 1) Af)) ⟨q,n,m,s,x,hW,hok,hj,hm,hs,.inr ⟨L,i,rfl,hA,hb,rfl,rfl,rfl,rfl⟩⟩) D6.nd)
   ·obtain ⟨rfl,rfl,rfl,rfl⟩:=hx
    refine ⟨T.lq,?_⟩
    refine Ac (AQ 3 (Ad.ev (Aa 4) ?_) D6.nd)
    refine Ar ?_
    exact Ac (AC (Ad.ev (BP (Ab (Aa 2) (Ab (Aa 3) Af))) (hR _ _ ⟨_,rfl⟩ Be)))
theorem WR (Fn:Au K "_law_trapped" "_law_trapped" KI f fd) (hm:mg "_law_trapped" = some (.ref f)) (hb:Binds K fd ["_law_hand_here","_law_many"] []) (gm:Ek P w K mg base 29 "trap" (J7 ⟨CK1,CK12,CK9,CK8,CK10,CK0⟩ CK7 2)) (gc:Am P w K mg base 1 "_law_alone" (Ki CK6 CK7)):Am P w K mg base 30 "_law_trapped" (Oe ⟨CK1,CK12,CK9,CK8,CK10,CK0⟩ 2):=by
 refine A2 (k:=29) Fn F7 hm hb (λds O R h=>?_) (λcdv A outer s H E ds O R hr h=>?_)
 ·obtain ⟨_,_,_,_,_,rfl,_⟩:=h; rfl
 ·obtain ⟨q,k,m,s,x,rfl,hW,hok,hj,hm,hs,hR⟩:=h
  by_cases h1:m=1
  ·subst h1
   refine GD ?_
   refine Ac (AQ 2 (Ad.ev B5 ?_) F7.nd)
   refine Ac (HR 3 F7.nd T.lj (RX:=λC fs ρ O'=>C=CK7/\fs=[]/\ρ=[some (.ptr q),some (.int ((1:Nat):Int)),some .non,none]/\O'=O) (λpn E=>?_) (λv C fs ρ' O' hx=>?_))
   ·exact CK (HS (Gp gm (hr.mono wE) (Ab (Aa 0) (Ab Ag Af)) ⟨q,k,1,3,s,x,rfl,hW,hok,hj,hm,hs,by decide,λ_=>⟨rfl,rfl,rfl,rfl⟩,λz=>absurd rfl z⟩))
   ·obtain ⟨rfl,rfl,rfl,rfl⟩:=hx
    refine ⟨T.mh,?_⟩
    refine Ac (AQ 2 (Ad.ev (Aa 3) ?_) F7.nd)
    refine Ar ?_
    refine Ac (AR (AV.cast (k':=false) (AN (Aa 1) Ag Gu) rfl) (λhk=>by cases hk) (λ_=>Ar ?_))
    exact Ac (AC (Ad.ev (Ev.evp (Bs gc (hr.mono wE) (Ab (Aa 2) (Ab Ag Af)) ⟨_,_,_,_,rfl,Be,.inr ⟨rfl,rfl⟩,rfl,rfl⟩)) ⟨⟨_,rfl⟩,rfl,hR⟩))
  ·refine Ac (AQ 2 (Ad.ev B5 ?_) F7.nd)
   refine Ac (HR 3 F7.nd T.lj (RX:=λC fs ρ O'=>False) (λpn E=>?_) (λv C fs ρ' O' hx=>hx.elim))
   refine CK (HS (Gp gm (hr.mono wE) (Ab (Aa 0) (Ab Ag Af)) ⟨q,k,m,3,s,x,rfl,hW,hok,hj,hm,hs,by decide,λz=>absurd z h1,λ_=>?_⟩))
   refine Fq ?_
   refine Ac (AR (AV.cast (k':=true) (AN (Aa 1) Ag Gu) (decide_eq_true wF)) (λ_=>?_) (λhk=>by cases hk))
   exact Ac (AC (Ad.ev (Ad.cast (d':=.bl true) (Dy (Aa 2) B5 EX) rfl) hR))
theorem WY (Fn:Au K "_law_right" "_law_right" KP f fd) (hm:mg "_law_right" = some (.ref f)) (hb:Binds K fd ["_law_found","_law_error","_law_bad","_law_many_turns","_law_scale"] []) (gc:Am P w K mg base 1 "_law_alone" (Ki CK6 CK7)):Am P w K mg base 4 "_law_right" (Oq CK6):=by
 refine A2 (k:=3) Fn Kn hm hb (λds O R h=>?_) (λcdv A outer s H E ds O R hr h=>?_)
 ·obtain ⟨⟨_,_,rfl,_⟩ | ⟨_,_,_,_,rfl,_⟩,_⟩:=h <;> rfl
 ·obtain ⟨⟨xs,s,rfl,hl,hxs⟩ | ⟨e,i,n,s,rfl,he,hi⟩,hR⟩:=h
  ·refine Ac (AR (AV.cast (k':=false) (AN (Aa 2) (Aa 3) FN) (decide_eq_false wF)) (λhk=>by cases hk) (λ_=>Ar ?_))
   refine Ac (AR (AV.cast (k':=false) (BF.t (Cu (AN (Aa 1) B5 Jq) (λhbb=>(Cu (BJ (BB (A0 T.xu (Ab (Aa 0) (Ab (CD T.xn) Af)) (Ef rfl)))) (λhbb=>(Dv (AN (A0 T.xm (Ab (Aa 0) Af) (B6 (by first | exact Or.inr rfl | exact Or.inl (Or.inl rfl) | exact Or.inl (Or.inr (Or.inl rfl)) | exact Or.inl (Or.inr (Or.inr ⟨_,rfl,by first | assumption | rfl⟩))))) (Aa 3) EG))))))) (by rw [List.length_map,decide_eq_true rfl]; rfl)) (λhk=>by cases hk) (λ_=>Ar ?_))
   refine Ac (DG (Cp (Aa 0) wB) (λi ρ O'=>O'=O/\∃ v6:Option D,ρ=[some (.tup (xs.map D.int)),some .non,some (.int (xs.length:Nat)),some (.int (xs.length:Nat)),some (.int s),none,v6]) ⟨rfl,_,rfl⟩ ?_ ?_)
   ·rintro i z ρ O' hz ⟨rfl,v6,rfl⟩
    rw [List.getElem?_map] at hz
    obtain ⟨x,hx,rfl⟩:=Option.map_eq_some_iff.mp hz
    have hx:=hxs x (List.mem_of_getElem? hx)
    refine ⟨_,AW 6 Kn.nd,?_⟩
    exact Ac (AR (AV.cast (k':=false) (BF.t (Cu (BJ (BB (A0 T.xu (Ab (Aa 6) (Ab (CD T.xw) Af)) (MV rfl)))) (λhbb=>(Cu (BB (A0 T.xu (Ab (Aa 6) (Ab (CD T.xx) Af)) (MW rfl))) (λhbb=>(Cu (AN (Aa 6) Ag FN) (λhbb=>(Dv (AN (Aa 6) (Aa 4) Gu))))))))) (by rw [decide_eq_false (show ¬ x<0 by omega),decide_eq_false (show ¬ x>s by omega)]; rfl)) (λhk=>by cases hk) (λ_=>Ar (Ar ⟨rfl,_,rfl⟩)))
   ·rintro ρ O' ⟨rfl,v6,rfl⟩
    exact Ac (AC (Ad.ev Dz hR))
  ·refine Ac (AR (AV.cast (k':=true) (AN (Aa 2) (Aa 3) FN) (decide_eq_true wF)) (λ_=>?_) (λhk=>by cases hk))
   refine Ac (AR (AV.cast (k':=false) (BF.t (Cu (AN (Aa 0) B5 Jq) (λhbb=>(Dv (BJ (BB (Ev.evp (Bs gc (hr.mono wE) (Ab (Aa 1) (Ab Ag Af)) ⟨_,_,_,_,rfl,he,.inl ⟨rfl,rfl⟩,rfl,rfl⟩)))))))) rfl) (λhk=>by cases hk) (λ_=>Ar ?_))
   refine Ac (AQ 5 (Ad.ev (ZS (Aa 1) he T.ln T.lp rfl) ?_) Kn.nd)
   exact Ac (AC (Ad.ev (Ad.cast (d':=.bl true) (C4 (A0 T.xu (Ab (Aa 5) (Ab (CD T.xw) Af)) (MV rfl)) (λhbb=>(C4 (QU (A0 T.xu (Ab (Aa 5) (Ab (CD T.xx) Af)) (MW rfl))) (λhbb=>(Ed (Dy (Aa 5) (Aa 2) Bb)))))) (by rw [decide_eq_true rfl]; rfl)) hR))
theorem WU (Fn:Au K "_law_spoilt" "_law_spoilt" KL f fd) (hm:mg "_law_spoilt" = some (.ref f)) (hb:Binds K fd ["_law_turn_here","_law_scale","_law_cell"] []):Am P w K mg base 1 "_law_spoilt" Oi:=by
 refine A2 (k:=0) Fn F8 hm hb (λds O R h=>?_) (λcdv A outer s H E ds O R hr h=>?_)
 ·obtain ⟨_,_,_,_,rfl,_⟩:=h; rfl
 ·obtain ⟨m,⟨said,so⟩,s,c,rfl,⟨hl,hok,hso⟩,hm,hR⟩:=h
  have hl:said.length=m:=hl
  have hm24:said.length<=24:=by omega
  have ob:=X6 s (c/9)
  have np2:∀ (l:List (Option Int)) (y:Ov),Cd (ov y)=true->Cd (tv (.two (.t (l.map A9)) y))=true:=λl y hy=>by
   show Cd (.tup [sv (.t (l.map A9)),ov y])=true
   rw [Fs]
   show (BS (l.map od)&&(Cd (ov y)&&true))=true
   rw [FC,hy]; rfl
  refine Ac (Sn (Aa 0) (DJ (BZ (AW 3 F8.nd) (BZ (AW 4 F8.nd) DI))) ?_)
  refine Ac (AQ 5 (Ad.ev (Aj (Aa 2) Ag (Ba wC)) ?_) F8.nd)
  refine Ac (AQ 6 (Ad.ev (Aj (Aj (Aa 2) Ag (BN ⟨wC,wC⟩)) (A0 T.xm (Ab (Aa 3) Af) (B6 (by first | exact Or.inr rfl | exact Or.inl (Or.inl rfl) | exact Or.inl (Or.inr (Or.inl rfl)) | exact Or.inl (Or.inr (Or.inr ⟨_,rfl,by first | assumption | rfl⟩))))) (Ba (by rw [List.length_map]; omega))) ?_) F8.nd)
  have hK:∃ k:Nat,c/9%(((said.map od).length:Nat):Int)=(k:Nat)/\k<said.length:=by
   rw [List.length_map]
   have h1:0<=c/9%((said.length:Nat):Int):=Int.emod_nonneg _ wF
   have h2:c/9%((said.length:Nat):Int)<(said.length:Nat):=Int.emod_lt_of_pos _ wF
   exact ⟨(c/9%((said.length:Nat):Int)).toNat,by omega,by omega⟩
  obtain ⟨k,ek,hkl⟩:=hK
  rw [ek]
  refine Ac (AR (AN (Aa 5) Ag Bb) (λ_=>?_) (λ_=>Ar ?_))
  ·refine Ac (AC (Ad.ev (BP (Ab (Aj (Aa 3) (BP (Ab Ag Af)) (Mc (MT (by rw [List.length_map]; omega) (Nat.le_of_ble_eq_true rfl)))) (Ab (Aa 4) Af))) ?_))
   have e:D.tup (said.map od++[D.int 0])=sv (.t ((said++[some 0]).map A9)):=by rw [Fs,List.map_append]; rfl
   rw [e]
   exact hR (.two (.t ((said++[some 0]).map A9)) (.i so)) ⟨⟨by show ((said++[some 0]).map A9).length<=100; simp; omega,by show (Dc _ _ _&&_)=false; rw [Kt (by simp; omega)]; rfl⟩,np2 _ _ rfl⟩
  refine Ac (AR (AN (Aa 5) Ag Bb) (λ_=>?_) (λ_=>Ar ?_))
  ·refine Ac (AC (Ad.ev (BP (Ab (MG (Aa 3) (Gq Ag) Jk) (Ab (Aa 4) Af))) ?_))
   rw [show (1:Int)=((1:Nat):Int) from rfl,Rn,<- Fs]
   exact hR (.two (.t ((said.drop 1).map A9)) (.i so)) ⟨⟨by show ((said.drop 1).map A9).length<=100; simp; omega,by show (Dc _ _ _&&_)=false; rw [Kt (by simp; omega)]; rfl⟩,np2 _ _ rfl⟩
  refine Ac (AR (AN (Aa 5) Ag Bb) (λ_=>?_) (λ_=>Ar ?_))
  ·refine Ac (AC (Ad.ev (BP (Ab (Aa 3) (Ab (Aa 4) (Ab (Aa 4) Af)))) ?_))
   exact hR (.many [.tup (said.map od),.int so,.int so]) ⟨⟨by show ¬ ((3:Nat):Int)=2; decide,rfl⟩,by show (BS (said.map od)&&true)=true; rw [FC]; rfl⟩
  refine Ac (AR (AN (Aa 5) Ag Bb) (λ_=>?_) (λ_=>Ar ?_))
  ·have wb:=SD said so (c/9) (m:Nat) s
   refine Ac (AC (Ad.ev (Dw (Df (Ab (BP (Ab (Aa 3) Af)) (Ab (Df (Ab (Aa 3) (Ab (Aa 4) Af))) (Ab (BP (Ab (BV T.xo (Ab (Aa 3) Af) (Rv (by first | exact Or.inr rfl | exact Or.inl (Or.inl rfl) | exact Or.inl (Or.inr (Or.inl rfl)) | exact Or.inl (Or.inr (Or.inr ⟨_,rfl,by first | assumption | rfl⟩))))) (Ab (Aa 4) Af))) Af)))) (by first | exact Or.inl rfl | exact Or.inr (Or.inl rfl) | exact Or.inr (Or.inr ⟨_,rfl,by first | assumption | rfl⟩)) (Aj (Aj (Aa 2) Ag (BN ⟨wC,wC⟩)) Ag (Ba wC)) (SE said so (c/9))) ?_))
   refine hR _ ⟨wb,?_⟩
   unfold GG
   split
   ·show (BS (said.map od)&&true)=true; rw [FC]; rfl
   split
   ·show ((BS (said.map od))&&(true&&true))=true; rw [FC]; rfl
   ·show ((BS (said.map od))&&(true&&true))=true; rw [FC]; rfl
  refine Ac (AR (AN (Aa 5) Ag Bb) (λ_=>?_) (λ_=>Ar ?_))
  ·have wb:=SB (c/9) (m:Nat) s
   refine Ac (AC (Ad.ev (Dw (Df (Ab B5 (Ab Ag (Ab (BP Af) (Ab Ec (Ab Dz Af)))))) (by first | exact Or.inl rfl | exact Or.inr (Or.inl rfl) | exact Or.inr (Or.inr ⟨_,rfl,by first | assumption | rfl⟩)) (Aj (Aj (Aa 2) Ag (BN ⟨wC,wC⟩)) Ag (Ba wC)) (SC (c/9))) ?_))
   refine hR _ ⟨wb,?_⟩
   unfold GF
   split
   ·rfl
   split
   ·rfl
   split
   ·rfl
   split <;> rfl
  refine Ac (AQ 7 (Ad.ev (Dw (Df (Ab (Aj (Aa 1) Ag BD) (Ab (ZO Ag) (Ab Dz (Ab Ec (Ab (BP (Ab Ag Af)) Af)))))) (by first | exact Or.inl rfl | exact Or.inr (Or.inl rfl) | exact Or.inr (Or.inr ⟨_,rfl,by first | assumption | rfl⟩)) (Aj (Aj (Aa 2) Ag (BN ⟨wC,wC⟩)) Ag (Ba wC)) (X7 s (c/9))) ?_) F8.nd)
  refine Ac (AR (AN (Aa 5) Ag Bb) (λ_=>?_) (λhk=>Ar ?_))
  ·refine Ac (AC (Ad.ev (BP (Ab (Aa 3) (Ab B5 Af))) ?_))
   rw [<- Fs]
   exact hR (.two (.t (said.map A9)) .n) ⟨⟨by show (said.map A9).length<=100; simp; omega,by show (_&&false)=false; exact Bool.and_false _⟩,np2 _ _ rfl⟩
  refine Ac (AR (AN (Aa 5) Ag Bb) (λ_=>?_) (λhk=>Ar ?_))
  ·refine Ac (AC (Ad.ev (BP (Ab (Aa 3) (Ab (Aa 7) Af))) ?_))
   rw [<- Fs]
   exact hR (.two (.t (said.map A9)) (C3 s (c/9))) ⟨⟨by show (said.map A9).length<=100; simp; omega,by show (_&&Dd s _)=false; rw [ob.2.1,Bool.and_false]⟩,np2 _ _ ob.2.2⟩
  have hct:=HA said none (some ((k:Nat):Int))
  have hcd:=HA said (some (((k:Nat):Int)+1)) none
  refine Ac (AC (Ad.ev (BP (Ab (Aj (Aj (MG (Aa 3) Jk (Gq (Aa 6))) (BP (Ab (Aa 7) Af)) (Mc (MT (Nat.le_trans (MK hm24 _ _) wE) (Nat.le_of_ble_eq_true rfl)))) (MG (Aa 3) (Gq (Aj (Aa 6) Ag BD)) Jk) (Mc (MT (by rw [List.length_append]; exact Nat.le_trans (Nat.add_le_add_right (MK hm24 _ _) _) (Nat.le_of_ble_eq_true rfl)) (Nat.le_trans (MK hm24 _ _) wE)))) (Ab (Aa 4) Af))) ?_))
  rw [show ((k:Nat):Int)+1=((k+1:Nat):Int) by omega,Q0j,Rn]
  have e:D.tup ((said.take k).map od++[ov (C3 s (c/9))]++(said.drop (k+1)).map od)=sv (.t ((said.take k).map A9++[C3 s (c/9)]++(said.drop (k+1)).map A9)):=by show _=D.tup (((said.take k).map A9++[C3 s (c/9)]++(said.drop (k+1)).map A9).map ov); rw [List.map_append,List.map_append,IJ,IJ]; rfl
  rw [e]
  refine hR (.two (.t ((said.take k).map A9++[C3 s (c/9)]++(said.drop (k+1)).map A9)) (.i so)) ⟨⟨by show ((said.take k).map A9++[C3 s (c/9)]++(said.drop (k+1)).map A9).length<=100; simp; omega,by show (Dc _ _ _&&_)=false; rw [U3 ob.1]; rfl⟩,?_⟩
  show Cd (.tup [sv _,ov _])=true
  rw [<- e]
  show (BS ((said.take k).map od++[ov (C3 s (c/9))]++(said.drop (k+1)).map od)&&(true&&true))=true
  have happ:∀ xs ys:List D,BS (xs++ys)=(BS xs&&BS ys):=λxs ys=>by
   induction xs with
   | nil=>rfl
   | cons x xs ih=>show (Cd x&&BS (xs++ys))=((Cd x&&BS xs)&&BS ys); rw [ih,Bool.and_assoc]
  rw [happ,happ,FC,FC]
  show ((true&&(Cd (ov (C3 s (c/9)))&&true))&&true&&_)=true
  rw [ob.2.2]; rfl
theorem WP (Fn:Au K "law" "law" F9 f fd)  (kc:Am P w K mg base 1 "_law_cell_at" (AE OL)) (gp:Am P w K mg base 2 "_law_seed" (AE Ol)) (zw:Am P w K mg base 1 "_law_size" (Pp PB Pq)) (zx:Am P w K mg base 3 "_law_turn" (AE Od)) (zy:Am P w K mg base 37 "_law_hand" (OF ⟨CK1,CK12,CK9,CK8,CK10,CK0⟩)) (kg:Am P w K mg base 30 "_law_ran" (Oz ⟨CK1,CK12,CK9,CK8,CK10,CK0⟩ CK6 2)) (gh:Am P w K mg base 4 "_law_right" (Oq CK6)) (gq:Am P w K mg base 30 "_law_trapped" (Oe ⟨CK1,CK12,CK9,CK8,CK10,CK0⟩ 2)) (zz:Am P w K mg base 1 "_law_spoilt" Oi) (je:Al P w K mg base CK1 6 "say" (Bp CK1 CK12 CK9 CK8)) (ja:Al P w K mg base CK12 6 "say" (Bp CK1 CK12 CK9 CK8)) (jb:Al P w K mg base CK9 6 "say" (Bp CK1 CK12 CK9 CK8)) (jf:Al P w K mg base CK8 6 "say" (Bp CK1 CK12 CK9 CK8)) (ju:Al P w K mg base CK10 25 "say" (Dn ⟨CK1,CK12,CK9,CK8,CK10,CK0⟩ 2)) (jg:Al P w K mg base CK0 5 "say" (EO CK0)):AF P w K mg base AI 41 f fd ["_law_script"] (AK K GL):=by
 refine Bh (k:=40) Fn Cm (λds O R h=>?_) (λcdv A outer s H E ds O R hr h=>?_)
 ·obtain ⟨_,rfl,_⟩:=h; rfl
 ·obtain ⟨ns,rfl,hl,hR⟩:=h
  refine GD ?_
  refine Ac (Fp (Bs zw (hr.mono wE) (Ab (AH kc (hr.mono wE) (Ab (Aa 0) (Ab Ag Af)) ⟨_,_,rfl,by first | decide | omega,rfl⟩) Af) ⟨⟨_,rfl⟩,λd hd=>?_⟩))
  obtain ⟨m,rfl,hm1,hm2⟩:=hd
  have hm:1<=m/\m<=24:=⟨hm1,hm2⟩
  refine ⟨_,AW 1 Cm.nd,?_⟩
  refine Ac (AQ 2 (Ad.ev (Dw (Df (Ab Ag (Ab (Aj Ag (Aj (Aj (AH kc (hr.mono wE) (Ab (Aa 0) (Ab Ag Af)) ⟨_,_,rfl,by first | decide | omega,rfl⟩) Ag (BN ⟨wC,wC⟩)) Ag (Ba wC)) BD) Af))) (by first | exact Or.inl rfl | exact Or.inr (Or.inl rfl) | exact Or.inr (Or.inr ⟨_,rfl,by first | assumption | rfl⟩)) (Aj (AH kc (hr.mono wE) (Ab (Aa 0) (Ab Ag Af)) ⟨_,_,rfl,by first | decide | omega,rfl⟩) Ag (Ba wC)) (NR wF)) ?_) Cm.nd)
  have hs:1<=(if Cg ns 1%2=0 then 1 else 2+Cg ns 1/2%9)/\(if Cg ns 1%2=0 then 1 else 2+Cg ns 1/2%9)<=10:=by split <;> omega
  generalize (if Cg ns 1%2=0 then 1 else 2+Cg ns 1/2%9)=s at hs
  have hs1:=hs.1
  have h0:0<=s:=by omega
  refine Ac (AQ 3 (Ad.ev (Aj (Aj (AH kc (hr.mono wE) (Ab (Aa 0) (Ab Ag Af)) ⟨_,_,rfl,by first | decide | omega,rfl⟩) Ag (BN ⟨wC,wC⟩)) Ag (Ba wC)) ?_) Cm.nd)
  have hso:0<=Cg ns 1/18%7/\Cg ns 1/18%7<=6:=by omega
  generalize Cg ns 1/18%7=so at hso
  refine Ac (Fp (Bs zy (hr.mono wE) (Ab (Aa 3) (Ab (Aa 1) (Ab (Aa 2) (Ab (AH gp (hr.mono wE) (Ab (AH kc (hr.mono wE) (Ab (Aa 0) (Ab Ag Af)) ⟨_,_,rfl,by first | decide | omega,rfl⟩) (Ab Ag Af)) ⟨_,_,rfl,by first | assumption | omega,rfl⟩) Af)))) ⟨m,so,s,_,rfl,hso,O7 _ _,hm,hs,λO1 q x u1 hq0 hx hk hd=>⟨_,AW 4 Cm.nd,?_⟩⟩))
  obtain ⟨cs,hcs⟩:∃ cs:List Int,cs=C6 ns (some 5) (some 45)++[Cg ns 2]:=⟨_,rfl⟩
  have hcl1:=HA ns (some 5) (some 45)
  have hcl:1<=cs.length/\cs.length<=64:=by rw [hcs,List.length_append]; show 1<=_+1/\_+1<=64; omega
  have hcl63:cs.length<=63:=by rw [hcs,List.length_append]; show _+1<=63; have:=Q0k ns; omega
  refine Ac (AQ 5 (Ad.ev (Ad.cast (d':=.lst (cs.map D.int)) (Aj (QT (Aa 0) (by first | exact Or.inl rfl | exact Or.inr (Or.inl rfl) | exact Or.inr (Or.inr ⟨_,rfl,by first | assumption | rfl⟩)) (Gq Ag) (Gq Ag)) (Df (Ab (AH kc (hr.mono wE) (Ab (Aa 0) (Ab Ag Af)) ⟨_,_,rfl,by first | decide | omega,rfl⟩) Af)) (Md (by rw [sizeLine_eq,List.length_map]; show _+1<=_; omega))) (by rw [hcs,List.map_append]; rfl)) ?_) Cm.nd)
  have hcat:∀ k:Nat,k<cs.length->Bv (cs.map D.int) (0+(k:Int))=some (.int (cs.getD k 0)):=λk hk=>by
   rw [Int.zero_add]
   exact EH (by rw [List.getElem?_map,List.getElem?_eq_getElem hk,List.getD_eq_getElem?_getD,List.getElem?_eq_getElem hk]; rfl)
  obtain ⟨ts,hts0⟩:∃ ts:List Tn,ts=(List.range cs.length).map λk:Nat=>FU m s true (GS (cs.getD k 0) (0+(k:Int))):=⟨_,rfl⟩
  have htl:ts.length=cs.length:=by rw [hts0,List.length_map,List.length_range]
  have hts:∀ t∈ts,DZ m s t:=λt ht=>by
   rw [hts0] at ht
   obtain ⟨k,_,rfl⟩:=List.mem_map.mp ht
   exact SW hs1 _
  refine Ac (Sh 6 (λk:Nat=>tD (FU m s true (GS (cs.getD k 0) (0+(k:Int))))) ["_law_k"] ["_law_cells","_law_many","_law_scale"] [5,1,2] (EV (A0 T.xm (Ab (Aa 5) Af) (B6 (by first | exact Or.inr rfl | exact Or.inl (Or.inl rfl) | exact Or.inl (Or.inr (Or.inl rfl)) | exact Or.inl (Or.inr (Or.inr ⟨_,rfl,by first | assumption | rfl⟩))))) T.xt wF (by rw [List.length_map]; omega)) (by rw [sizeLine_eq,List.length_range,Int.toNat_natCast,List.length_map]; omega) (by exact λq hq s H fp=>⟨[some _],rfl,(AW 0 (show List.Nodup (["_law_k","_law_cells","_law_many","_law_scale"]:List Str) by decide +kernel)),⟨_,rfl,(AH zx (hr.mono wE) (Ab (AH gp (hr.mono wE) (Ab (Dw (Aa 1) (by first | exact Or.inl rfl | exact Or.inr (Or.inl rfl) | exact Or.inr (Or.inr ⟨_,rfl,by first | assumption | rfl⟩)) (Aa 0) (hcat q (by have:=List.mem_range.mp hq; rw [Int.toNat_natCast,List.length_map] at this; exact this))) (Ab (Aa 0) Af)) ⟨_,_,rfl,by have:=List.mem_range.mp hq; rw [Int.toNat_natCast,List.length_map] at this; omega,rfl⟩) (Ab (Aa 2) (Ab (Aa 3) (Ab Dz Af)))) ⟨_,m,_,true,rfl,O7 _ _,hm2,hs1,rfl⟩)⟩⟩) ?_ Cm.nd)
  have ets:((List.range (((cs.map D.int).length:Nat):Int).toNat).map λk:Nat=>tD (FU m s true (GS (cs.getD k 0) (0+(k:Int)))))=ts.map tD:=by rw [hts0,Int.toNat_natCast,List.length_map,List.map_map]; rfl
  rw [ets]
  clear ets hts0 hcat hcs hcl1
  obtain ⟨t0,ht0⟩:∃ t,ts[0]?=some t:=⟨_,List.getElem?_eq_getElem wF⟩
  have hto0:=hts t0 (List.mem_of_getElem? ht0)
  have hL:(O1++[some (MO.lst (ts.map tD))])[O1.length]?=some (some (.lst (ts.map tD))):=Be
  have hx2:∀ Y,Aw ⟨CK1,CK12,CK9,CK8,CK10,CK0⟩ (O1++Y) x q m s:=λY=>hx.ap
  have kp1:∀ Y,∃ Z,O1++Y=O++Z:=λY=>JR u1
  have hat0:Bv (ts.map tD) 0=some (tD t0):=EH (j:=0) (by rw [List.getElem?_map,ht0]; rfl)
  refine Ac (AQ 7 (Ad.ev (CT (Dw (Aa 6) (by first | exact Or.inl rfl | exact Or.inr (Or.inl rfl) | exact Or.inr (Or.inr ⟨_,rfl,by first | assumption | rfl⟩)) Ag hat0) Ag rfl) ?_) Cm.nd)
  refine Ac (AQ 8 (Ad.ev (FJ (C:=⟨CK1,CK12,CK9,CK8,CK10,CK0⟩) je ja jb jf (hr.mono wE) jg (hr.mono wE) ju (hr.mono wE) (Aa 4) (hx2 _) hk hd hm h0 (hto0.said hm2) (Ab (Aa 7) Af)) ?_) Cm.nd)
  have hls:((List.range ts.length).map (CA m x ts)).length=ts.length:=by rw [List.length_map,List.length_range]
  refine Ac (Fp (Bs kg (hr.mono wE) (Ab (Aa 4) (Ab (BV T.xn (Ab (Aa 6) Af) (B0 (Or.inl (Or.inr (Or.inr ⟨_,rfl,hL⟩))))) Af)) ⟨q,0,m,s,x,hx2 _,hk,hd,hm,hs,.inl ⟨ts,rfl,hts,by omega,_,AW 9 Cm.nd,?_⟩⟩))
  refine Ac (AR (AV.cast (k':=false) (BJ (BB (Ev.evp (Bs gh (hr.mono wE) (Ab (CT (Aa 9) Ag rfl) (Ab (CT (Aa 9) Ag rfl) (Ab (A0 T.xm (Ab (Aa 6) Af) (B6 (by first | exact Or.inr rfl | exact Or.inl (Or.inl rfl) | exact Or.inl (Or.inr (Or.inl rfl)) | exact Or.inl (Or.inr (Or.inr ⟨_,rfl,by first | assumption | rfl⟩))))) (Ab (A0 T.xm (Ab (Aa 6) Af) (B6 (by first | exact Or.inr rfl | exact Or.inl (Or.inl rfl) | exact Or.inl (Or.inr (Or.inl rfl)) | exact Or.inl (Or.inr (Or.inr ⟨_,rfl,by first | assumption | rfl⟩))))) (Ab (Aa 2) Af))))) ⟨.inl ⟨(List.range ts.length).map (CA m x ts),s,by rw [List.length_map,List.length_map,List.length_range],by omega,Pl hk hm2 h0 hts⟩,rfl,rfl⟩)))) rfl) (λhk=>by cases hk) (λ_=>Ar ?_))
  refine Ac (AQ 10 (Ad.ev (Ad.cast (d':=.int (ts.length:Nat)) (A0 T.xm (Ab (Aa 6) Af) (B6 (by first | exact Or.inr rfl | exact Or.inl (Or.inl rfl) | exact Or.inl (Or.inr (Or.inl rfl)) | exact Or.inl (Or.inr (Or.inr ⟨_,rfl,by first | assumption | rfl⟩))))) (by rw [List.length_map])) ?_) Cm.nd)
  refine Ac (DG (Cp (QT (as:=[Cg ns 3,Cg ns 4]) (f:=D.int) (Df (Ab (AH kc (hr.mono wE) (Ab (Aa 0) (Ab Ag Af)) ⟨_,_,rfl,by first | decide | omega,rfl⟩) (Ab (AH kc (hr.mono wE) (Ab (Aa 0) (Ab Ag Af)) ⟨_,_,rfl,by first | decide | omega,rfl⟩) Af))) (Or.inl rfl) Jk (Gq (Aj (AH kc (hr.mono wE) (Ab (Aa 0) (Ab Ag Af)) ⟨_,_,rfl,by first | decide | omega,rfl⟩) Ag (Ba wC)))) (Or.inl rfl)) (λi ρ O'=>∃ (L:List Tv) (b:Nat) (v11 v12:Option D),ρ=[some (.scr (ns.map D.int)),some (.int (m:Nat)),some (.int s),some (.int so),some (.ptr q),some (.lst (cs.map D.int)),some (.ptr O1.length),some (.tup (t0.1.map od)),some (.int (Bz x m t0.1)),some (.tup [.tup (((List.range ts.length).map (CA m x ts)).map D.int),.non]),some (.int (b:Nat)),v11,v12,none,none]/\O'=O1++[some (MO.lst (L.map tv))]/\Dj m s ts i L b) ⟨ts.map C9,ts.length,_,_,rfl,by rw [JS],Dj.zero hm2 hts⟩ ?_ ?_)
  ·clear hL
   rintro i z ρ O' hz ⟨L,b,v11,v12,rfl,rfl,hP⟩
   rw [List.getElem?_map] at hz
   obtain ⟨c,hc,rfl⟩:=Option.map_eq_some_iff.mp hz
   have hi:=(List.getElem?_eq_some_iff.mp hc).1
   have hi2:=HA [Cg ns 3,Cg ns 4] none (some (Cg ns 3%3))
   have hi2:i<=1:=by have:[Cg ns 3,Cg ns 4].length=2:=rfl; omega
   have hL:(O1++[some (MO.lst (L.map tv))])[O1.length]?=some (some (.lst (L.map tv))):=Be
   have hPl:=hP.l
   refine ⟨_,AW 11 Cm.nd,?_⟩
   refine Ac (AQ 12 (Ad.ev (Aj (Aj (Aa 11) Ag (BN ⟨wC,wC⟩)) (A0 T.xm (Ab (Aa 6) Af) (B6 (by first | exact Or.inr rfl | exact Or.inl (Or.inl rfl) | exact Or.inl (Or.inr (Or.inl rfl)) | exact Or.inl (Or.inr (Or.inr ⟨_,rfl,by first | assumption | rfl⟩))))) (Ba (by rw [List.length_map]; omega))) ?_) Cm.nd)
   have hK:∃ k:Nat,c/3%(((L.map tv).length:Nat):Int)=(k:Nat)/\k<ts.length:=by
    rw [List.length_map,hPl]
    have h1:0<=c/3%((ts.length:Nat):Int):=Int.emod_nonneg _ wF
    have h2:c/3%((ts.length:Nat):Int)<(ts.length:Nat):=Int.emod_lt_of_pos _ wF
    exact ⟨(c/3%((ts.length:Nat):Int)).toNat,by omega,by omega⟩
   obtain ⟨k,ek,hkl⟩:=hK
   rw [ek]
   by_cases hkb:k=b
   ·exact Ac (AR (AV.cast (k':=false) (AN (Aa 12) (Aa 10) EG) (by rw [decide_eq_true (show ((k:Nat):Int)=(b:Nat) by rw [hkb])]; rfl)) (λhk=>by cases hk) (λ_=>Ar (Ar ⟨L,b,_,_,rfl,rfl,hP.skip wF⟩)))
   ·refine Ac (AR (AV.cast (k':=true) (AN (Aa 12) (Aa 10) EG) (by rw [decide_eq_false (show ¬ ((k:Nat):Int)=(b:Nat) by omega)]; rfl)) (λ_=>?_) (λhk=>by cases hk))
    obtain ⟨tk,htk⟩:∃ t,ts[k]?=some t:=⟨_,List.getElem?_eq_getElem hkl⟩
    have hLk:L[k]?=some (C9 tk):=by rw [hP.one hi2 k hkb,List.getElem?_map,htk]; rfl
    have hatk:Bv (L.map tv) ((k:Nat):Int)=some (tD tk):=EH (by rw [List.getElem?_map,hLk]; show some (tv (C9 tk))=_; rw [JT])
    refine Ac (Sm (j:=k) (Bs zz (hr.mono wE) (Ab (Dw (Aa 6) (by first | exact Or.inl rfl | exact Or.inr (Or.inl rfl) | exact Or.inr (Or.inr ⟨_,rfl,by first | assumption | rfl⟩)) (Aa 12) hatk) (Ab (Aa 2) (Ab (Aj (Aa 11) Ag (BN ⟨wC,wC⟩)) Af))) ⟨m,tk,s,_,rfl,hts tk (List.mem_of_getElem? htk),hm,λy hy=>⟨rfl,?_⟩⟩) (Aa 6) hL (Aa 12) (YO (by rw [List.length_map]; omega)))
    rw [CM,<- List.map_set]
    refine Ac (AQ 10 (Ad.ev (A0 T.bf (Ab (Aa 10) (Ab (Aa 12) Af)) Q0J) ?_) Cm.nd)
    refine Ar (Ar ⟨L.set k y,if k<b then k else b,some (.int c),some (.int (k:Nat)),?_,rfl,hP.next hkl hkb hy⟩)
    by_cases hlt:k<b
    ·rw [if_pos hlt,if_pos (show ((k:Nat):Int)<(b:Nat) by omega)]; rfl
    ·rw [if_neg hlt,if_neg (show ¬ ((k:Nat):Int)<(b:Nat) by omega)]; rfl
  clear hL
  rintro ρ O2 ⟨L,b,v11,v12,rfl,rfl,hP⟩
  have hL:(O1++[some (MO.lst (L.map tv))])[O1.length]?=some (some (.lst (L.map tv))):=Be
  have hPl:=hP.l
  have hbl:=hP.bl
  by_cases hb:b=ts.length
  ·have htv:=SQ hP hb
   subst hb
   rw [htv] at hL ⊢
   refine Ac (Fp (Bs kg (hr.mono wE) (Ab (Aa 4) (Ab (BV T.xn (Ab (Aa 6) Af) (B0 (Or.inl (Or.inr (Or.inr ⟨_,rfl,hL⟩))))) Af)) ⟨q,0,m,s,x,hx2 _,hk,hd,hm,hs,.inl ⟨ts,rfl,hts,by omega,_,DJ (BZ (AW 13 Cm.nd) (BZ (AW 14 Cm.nd) DI)),?_⟩⟩))
   refine Ac (AR (AV.cast (k':=false) (BJ (BB (Ev.evp (Bs gh (hr.mono wE) (Ab (Aa 13) (Ab (Aa 14) (Ab (Aa 10) (Ab (A0 T.xm (Ab (Aa 6) Af) (B6 (by first | exact Or.inr rfl | exact Or.inl (Or.inl rfl) | exact Or.inl (Or.inr (Or.inl rfl)) | exact Or.inl (Or.inr (Or.inr ⟨_,rfl,by first | assumption | rfl⟩))))) (Ab (Aa 2) Af))))) ⟨.inl ⟨(List.range ts.length).map (CA m x ts),s,by rw [hls,List.length_map],by omega,Pl hk hm2 h0 hts⟩,rfl,rfl⟩)))) rfl) (λhk=>by cases hk) (λ_=>Ar ?_))
   refine Ac (AR (AV.cast (k':=false) (BF.t (Cu (BJ (BB (Ev.evp (Bs gq (hr.mono wE) (Ab (Aa 4) (Ab (Aa 1) Af)) ⟨q,0,m,s,x,rfl,hx2 _,hk,hd,hm,hs,rfl,rfl⟩)))) (λhbb=>(Dv (AN (FJ (C:=⟨CK1,CK12,CK9,CK8,CK10,CK0⟩) je ja jb jf (hr.mono wE) jg (hr.mono wE) ju (hr.mono wE) (Aa 4) (hx2 _) hk hd hm h0 (hto0.said hm2) (Ab (Aa 7) Af)) (Aa 8) EG))))) (by rw [decide_eq_true rfl]; rfl)) (λhk=>by cases hk) (λ_=>Ar ?_))
   exact Ac (AC (Ad.ev (Ad.cast (d':=.bl true) (Dy (Ev.keep (d0:=.tup (((List.range ts.length).map (CA m x ts)).map D.int)) (QW (Ra:=λd O3=>(∃ Y',O3=O1++[some (MO.lst (ts.map tD))]++Y')/\∃ z,d=.tup [.tup (((List.range ts.length).map (CA m x ts)).map D.int),z]) (Bs kg (hr.mono wE) (Ab (Aa 4) (Ab (BV T.xn (Ab (Aa 6) Af) (B0 (Or.inl (Or.inr (Or.inr ⟨_,rfl,hL⟩))))) Af)) ⟨q,0,m,s,x,hx2 _,hk,hd,hm,hs,.inl ⟨ts,rfl,hts,by omega,⟨[],(List.append_nil _).symm⟩,_,rfl⟩⟩) (λda O3 ⟨hY,z,ed⟩=>⟨_,0,_,ed,Ag,rfl,hY,P9 _,rfl⟩))) (Aa 13) (Rs hr (Or.inl rfl) (Or.inl rfl) (plT _) (plT _) (Nat.le_trans (Nat.min_le_left _ _) (Q0d _)))) (congrArg D.bl (Z3 _))) ⟨kp1 _,rfl,hR⟩))
  ·have hb:b<ts.length:=by omega
   refine Ac (Fp (Bs kg (hr.mono wE) (Ab (Aa 4) (Ab (BV T.xn (Ab (Aa 6) Af) (B0 (Or.inl (Or.inr (Or.inr ⟨_,rfl,hL⟩))))) Af)) ⟨q,0,m,s,x,hx2 _,hk,hd,hm,hs,.inr ⟨L,b,rfl,hP.ok,hP.badV hb,λe O3 u3 he=>⟨_,DJ (BZ (AW 13 Cm.nd) (BZ (AW 14 Cm.nd) DI)),?_⟩⟩⟩))
   obtain ⟨Y3,rfl⟩:=u3
   have hL:=HD (Y:=Y3) hL
   have hx3:Aw ⟨CK1,CK12,CK9,CK8,CK10,CK0⟩ (O1++[some (MO.lst (L.map tv))]++Y3) x q m s:=(hx2 _).ap
   refine Ac (AR (AV.cast (k':=false) (BJ (BB (Ev.evp (Bs gh (hr.mono wE) (Ab (Aa 13) (Ab (Aa 14) (Ab (Aa 10) (Ab (A0 T.xm (Ab (Aa 6) Af) (B6 (by first | exact Or.inr rfl | exact Or.inl (Or.inl rfl) | exact Or.inl (Or.inr (Or.inl rfl)) | exact Or.inl (Or.inr (Or.inr ⟨_,rfl,by first | assumption | rfl⟩))))) (Ab (Aa 2) Af))))) ⟨.inr ⟨e,b,(L.map tv).length,s,rfl,he,by rw [List.length_map]; omega⟩,rfl,rfl⟩)))) rfl) (λhk=>by cases hk) (λ_=>Ar ?_))
   refine Ac (AR (AV.cast (k':=false) (BF.t (Cu (BJ (BB (Ev.evp (Bs gq (hr.mono wE) (Ab (Aa 4) (Ab (Aa 1) Af)) ⟨q,0,m,s,x,rfl,hx3,hk,hd,hm,hs,rfl,rfl⟩)))) (λhbb=>(Dv (AN (FJ (C:=⟨CK1,CK12,CK9,CK8,CK10,CK0⟩) je ja jb jf (hr.mono wE) jg (hr.mono wE) ju (hr.mono wE) (Aa 4) hx3 hk hd hm h0 (hto0.said hm2) (Ab (Aa 7) Af)) (Aa 8) EG))))) (by rw [decide_eq_true rfl]; rfl)) (λhk=>by cases hk) (λ_=>Ar ?_))
   exact Ac (AC (Ad.ev (Ad.cast (d':=.bl true) (Dy (Ev.keep (d0:=.non) (QW (Ra:=λd O3=>(∃ Y',O3=O1++[some (MO.lst (L.map tv))]++Y3++Y')/\∃ z,d=.tup [.non,z]) (Bs kg (hr.mono wE) (Ab (Aa 4) (Ab (BV T.xn (Ab (Aa 6) Af) (B0 (Or.inl (Or.inr (Or.inr ⟨_,rfl,hL⟩))))) Af)) ⟨q,0,m,s,x,hx3,hk,hd,hm,hs,.inr ⟨L,b,rfl,hP.ok,hP.badV hb,λe O3 u3 he=>⟨u3,_,rfl⟩⟩⟩) (λda O3 ⟨hY,z,ed⟩=>⟨_,0,_,ed,Ag,rfl,hY,rfl,rfl⟩))) (Aa 13) (Rs hr (Or.inl rfl) (Or.inl rfl) rfl rfl (Nat.le_of_ble_eq_true rfl))) rfl) ⟨by rw [List.append_assoc]; exact kp1 _,rfl,hR⟩))
end
theorem YB {α:Type} {us:List α} (h:us.length=1):∃ x0,us=[x0]:=by
 match us,h with
 | [x0],_=>exact ⟨_,rfl⟩
theorem IW {α:Type} {us:List α} (h:us.length=2):∃ x0 x1,us=[x0,x1]:=by
 match us,h with
 | [x0,x1],_=>exact ⟨_,_,rfl⟩
theorem Mo {α:Type} {us:List α} (h:us.length=3):∃ x0 x1 x2,us=[x0,x1,x2]:=by
 match us,h with
 | [x0,x1,x2],_=>exact ⟨_,_,_,rfl⟩
theorem Qn {α:Type} {us:List α} (h:us.length=4):∃ x0 x1 x2 x3,us=[x0,x1,x2,x3]:=by
 match us,h with
 | [x0,x1,x2,x3],_=>exact ⟨_,_,_,_,rfl⟩
theorem Qm {α:Type} {us:List α} (h:us.length=5):∃ x0 x1 x2 x3 x4,us=[x0,x1,x2,x3,x4]:=by
 match us,h with
 | [x0,x1,x2,x3,x4],_=>exact ⟨_,_,_,_,_,rfl⟩
theorem YA {α:Type} {us:List α} (h:us.length=7):∃ x0 x1 x2 x3 x4 x5 x6,us=[x0,x1,x2,x3,x4,x5,x6]:=by
 match us,h with
 | [x0,x1,x2,x3,x4,x5,x6],_=>exact ⟨_,_,_,_,_,_,_,rfl⟩
def FD (K:PySem.W.Frag) (x:Str) (st:Stmt) (f:Addr):Prop:=PySem.W.nsIn K mainGlobals x=some (some (.ref f))/\∃ fd,Au K x x st f fd
def FM (K:PySem.W.Frag) (C:Addr) (x q:Str) (st:Stmt) (f:Addr):Prop:=PySem.W.findIn K (.ref C) x=some (some (.ref f))/\PySem.W.isFn K (.ref f)=true/\∃ fd,Au K x q st f fd
section
variable {K:PySem.W.Frag} {C:Addr} {x q:Str} {st:Stmt} {f:Addr} {oc:Value} {od an:Option Addr} {osl:Array (Option Value)} {kV doc pm cdv ct:Value}
theorem fd_mk (a:PySem.W.nsIn K mainGlobals x=some (some (.ref f))) (l:K.lookup f=some ⟨oc,od,.func (PySem.W.fnOf x x (C5 st) (Cf st) (An st) .none kV doc pm an cdv ct),osl⟩) (c:PySem.W.codeIn K cdv x=true) (k:PySem.W.keepIn K (.ref f)=true):FD K x st f:=⟨a,_,MB l c k⟩
theorem fm_mk (a:PySem.W.findIn K (.ref C) x=some (some (.ref f))) (i:PySem.W.isFn K (.ref f)=true) (l:K.lookup f=some ⟨oc,od,.func (PySem.W.fnOf x q (C5 st) (Cf st) (An st) .none kV doc pm an cdv ct),osl⟩) (c:PySem.W.codeIn K cdv q=true) (k:PySem.W.keepIn K (.ref f)=true):FM K C x q st f:=⟨a,i,_,MB l c k⟩
end
section
variable {P:Program} {w:World} {K:PySem.W.Frag} {mg:Str->Option Value} {base:Heap} {x q:Str} {st:Stmt} {f:Addr} {fd:FuncData} {ps:List Str} {k:Nat} {sp:AS}
theorem AD (E:Au K x q st f fd) (h:∀ (kV doc pm:Value) (an:Option Addr) (cdv ct:Value) (us:List Value),us.length=ps.length->bindArgs (PySem.W.fnOf x q (C5 st) (Cf st) (An st) .none kV doc pm an cdv ct) ⟨us,[]⟩=pure (ps.zip us):=by intro _ _ _ _ _ _ us hl; first | (obtain ⟨_,rfl⟩:=YB hl; rfl) | (obtain ⟨_,_,rfl⟩:=IW hl; rfl) | (obtain ⟨_,_,_,rfl⟩:=Mo hl; rfl) | (obtain ⟨_,_,_,_,rfl⟩:=Qn hl; rfl) | (obtain ⟨_,_,_,_,_,rfl⟩:=Qm hl; rfl) | (obtain ⟨_,_,_,_,_,_,_,rfl⟩:=YA hl; rfl)):L2.Binds K fd ps []:=E.binds h
theorem Bi {C:Addr} (W:AF P w K mg base AI k f fd ps (AK K sp)) (a:PySem.W.findIn K (.ref C) x=some (some (.ref f))) (i:PySem.W.isFn K (.ref f)=true) (E:PySem.W.keepIn K (.ref f)=true) (b:L2.Binds K fd ps []) (c:A4 K C):Al P w K mg base C k x sp:=⟨⟨_,_,_,W,⟨a,i,E⟩,b⟩,c⟩
theorem Gh {C:Addr} (W:AF P w K mg base AI k f fd ps (AK K sp)) (m:PySem.W.makesIn K C=true) (a:PySem.W.findIn K (.ref C) "__init__" = some (some (.ref f))) (i:PySem.W.isFn K (.ref f)=true) (E:PySem.W.keepIn K (.ref C)=true) (b:L2.Binds K fd ps []) (t:mg x=some (.ref C)):Cy P w K mg base C k x sp:=⟨⟨_,_,_,W,⟨m,a,i,E⟩,b⟩,t⟩
end
def NZ (K:PySem.W.Frag) (x:Str):Prop:=PySem.W.nsIn K mainGlobals x=some none
def CB (K:PySem.W.Frag) (C:Addr):Prop:=PySem.W.plainGet K C Str.empty=true/\PySem.W.hasDictIn K C=true/\PySem.W.plainOver K C=true/\PySem.W.findIn K (.ref C) "__setattr__" = some (some (.builtin "object.__setattr__"))/\PySem.W.findIn K (.ref C) "__class__" = some (some (.builtin "object.__class__"))/\PySem.W.mroIn K C (.type "object")=some true
theorem CB.ty {K:PySem.W.Frag} {C:Addr} (h:CB K C) (gn:PySem.W.specialIn K (.builtin "object.__class__") "__get__" = some (some (.builtin "getset_descriptor.__get__"))) (gt:PySem.W.takesIn K (.builtin "object.__class__")=some true):Cl K C:=⟨⟨h.1,h.2.1,h.2.2.1,h.2.2.2.1⟩,h.2.2.2.2.1,gn,gt,h.2.2.2.2.2⟩
theorem all_mk {l:PySem.W.OpenLaw} {w:World} {K:PySem.W.Frag} {h:Heap} {mg:Str->Option Value} {fa:Addr} (X:K.In h) (G:h.Ns mainGlobals mg) (hfa:mg "law" = some (.ref fa)) {f1 f2 f3 f4 f5 f6 f7 f8 f9 f10 f11 f12 f13 f14 f15 f16 f17 f18 f19 f20 f21 f22 f23 f24 f25 f26 f27 f28 f29 f30 f31 f32 f33 f34 f35 f36 f37 f38 f39 f40 f41 f42 f44 f45 f46 f47 f48 f49 f50 f51 f52 f53 f54 f55 f56 f57 f58 f59 f60 f61 f62 f63 f64 f65 f66 f67 f68 f69 f70 f71 f72 f73:Addr} {f0 f43:Addr} {od0 an0 od43 an43:Option Addr} {sl0 sl43:Array (Option Value)} {oc0 kV0 dc0 pm0 cd0 ct0 oc43 kV43 dc43 pm43 cd43 ct43:Value} {CK1 CK12 CK9 CK8 CK0 CK10 CK2 CK6 CK7 CK4 CK5 CK3 CK11:Addr} {tk0:Tok} {tk1:Tok} {tk2:Tok} {tk3:Tok} {tk4:Tok} {T43:Addr} {cT43:Value} {dT43:Option Addr} {nT43:Nat} {sT43:Array (Option Value)} {nm_NoTurn qn_NoTurn:Str} {N_NoTurn:Addr} {bs_NoTurn sub_NoTurn:List Value} {sn_NoTurn:List Str} {ab_NoTurn:Bool} {col_NoTurn:Option Bool} {dd_NoTurn:Option Addr} {ka_NoTurn kb_NoTurn kc_NoTurn kd_NoTurn ke_NoTurn:Option Value}
  (aC0:PySem.W.nsIn K mainGlobals "Hand" = some (some (.ref CK1)))
  (aC1:PySem.W.nsIn K mainGlobals "Weigher" = some (some (.ref CK12)))
  (aC2:PySem.W.nsIn K mainGlobals "Shifter" = some (some (.ref CK9)))
  (aC3:PySem.W.nsIn K mainGlobals "Rounder" = some (some (.ref CK8)))
  (aC4:PySem.W.nsIn K mainGlobals "Follower" = some (some (.ref CK0)))
  (aC5:PySem.W.nsIn K mainGlobals "Tier" = some (some (.ref CK10)))
  (aE_HeedError:PySem.W.nsIn K mainGlobals "HeedError" = some (some (.ref CK2)))
  (aE_NoTurn:PySem.W.nsIn K mainGlobals "NoTurn" = some (some (.ref CK6)))
  (aE_NoWay:PySem.W.nsIn K mainGlobals "NoWay" = some (some (.ref CK7)))
  (aE_NoRow:PySem.W.nsIn K mainGlobals "NoRow" = some (some (.ref CK4)))
  (aE_NoRule:PySem.W.nsIn K mainGlobals "NoRule" = some (some (.ref CK5)))
  (aE_NoName:PySem.W.nsIn K mainGlobals "NoName" = some (some (.ref CK3)))
  (aE_Twice:PySem.W.nsIn K mainGlobals "Twice" = some (some (.ref CK11)))
  (a0:PySem.W.findIn K (.ref CK6) "__init__" = some (some (.ref f0)))
  (i0:PySem.W.isFn K (.ref f0)=true)
  (l0:K.lookup f0=some ⟨oc0,od0,.func (PySem.W.fnOf "__init__" "NoTurn.__init__" (C5 Ga) (Cf Ga) (An Ga) .none kV0 dc0 pm0 an0 cd0 ct0),sl0⟩)
  (c0:PySem.W.codeIn K cd0 "NoTurn.__init__" = true)
  (k0:PySem.W.keepIn K (.ref f0)=true)
  (d1:FD K "is_whole" KZ f1)
  (d2:FD K "counted" K5 f2)
  (d3:FD K "middle" KG f3)
  (d4:FD K "check_within" K6 f4)
  (d5:FD K "check_scale" Lb f5)
  (d6:FD K "check_making" Le f6)
  (d7:FD K "check_fraction" Lf f7)
  (d8:FD K "check_share" La f8)
  (d9:FD K "is_on_scale" K2 f9)
  (d10:FD K "is_said" K1 f10)
  (d11:FD K "check_said" Lc f11)
  (d12:FD K "power" KB f12)
  (d13:FD K "charge" Lg f13)
  (d14:FD K "is_turn" K0 f14)
  (d15:FD K "check_turn" K8 f15)
  (d16:FD K "awake_in" Lh f16)
  (d17:FD K "middle_awake" KD f17)
  (d18:FD K "times_awake" Kw f18)
  (d19:FD K "times_asleep" Kx f19)
  (d20:FD K "times" Ky f20)
  (d21:FD K "check_push" Ld f21)
  (d22:FD K "push_of" KA f22)
  (d23:FD K "first_least" K4 f23)
  (d24:FD K "check_turns" K7 f24)
  (d25:FM K CK1 "__init__" "Hand.__init__" LD f25)
  (d26:FM K CK1 "heeded" "Hand.heeded" Lz f26)
  (d27:FM K CK12 "heeded" "Weigher.heeded" Lk f27)
  (d28:FM K CK8 "heeded" "Rounder.heeded" Lu f28)
  (d29:FM K CK1 "say" "Hand.say" Ly f29)
  (d30:FM K CK1 "hear" "Hand.hear" LA f30)
  (d31:FM K CK1 "anew" "Hand.anew" LC f31)
  (d32:FM K CK8 "__init__" "Rounder.__init__" Lx f32)
  (d33:FM K CK8 "hear" "Rounder.hear" Lv f33)
  (d34:FM K CK8 "anew" "Rounder.anew" Lw f34)
  (d35:FM K CK12 "__init__" "Weigher.__init__" Ln f35)
  (d36:FM K CK9 "__init__" "Shifter.__init__" Ls f36)
  (d37:FM K CK12 "weigh" "Weigher.weigh" Lj f37)
  (d38:FM K CK9 "deal" "Shifter.deal" Lq f38)
  (d39:FM K CK12 "hear" "Weigher.hear" Ll f39)
  (d40:FM K CK9 "hear" "Shifter.hear" Lp f40)
  (d41:FM K CK12 "anew" "Weigher.anew" Lm f41)
  (d42:FM K CK9 "anew" "Shifter.anew" Lr f42)
  (a43:PySem.W.findIn K (.ref CK0) "__init__" = some (some (.ref f43)))
  (i43:PySem.W.isFn K (.ref f43)=true)
  (l43:K.lookup f43=some ⟨oc43,od43,.func (PySem.W.fnOf "__init__" "Follower.__init__" (C5 Gb) (Cf Gb) (An Gb) (.ref T43) kV43 dc43 pm43 an43 cd43 ct43),sl43⟩)
  (t43:K.lookup T43=some ⟨cT43,dT43,.seq #[.none] nT43,sT43⟩)
  (c43:PySem.W.codeIn K cd43 "Follower.__init__" = true)
  (k43:PySem.W.keepIn K (.ref f43)=true)
  (d44:FM K CK0 "say" "Follower.say" LE f44)
  (d45:FM K CK0 "hear" "Follower.hear" LJ f45)
  (d46:FM K CK0 "anew" "Follower.anew" LK f46)
  (d47:FD K "are_alike" Li f47)
  (d48:FD K "is_head" K3 f48)
  (d49:FD K "check_tier" K9 f49)
  (d50:FM K CK10 "__init__" "Tier.__init__" IA f50)
  (d51:FM K CK10 "ask" "Tier.ask" Iw f51)
  (d52:FM K CK10 "say" "Tier.say" Iu f52)
  (d53:FM K CK10 "hear" "Tier.hear" Iv f53)
  (d54:FM K CK10 "anew" "Tier.anew" Iy f54)
  (d55:FD K "_law_cell_at" KW f55)
  (d56:FD K "_law_next" KT f56)
  (d57:FD K "_law_seed" KN f57)
  (d58:FD K "_law_said" KO f58)
  (d59:FD K "_law_turn" KH f59)
  (d60:FD K "_law_size" KM f60)
  (d61:FD K "_law_plain" KS f61)
  (d62:FD K "_law_tier" KK f62)
  (d63:FD K "_law_tier" KJ f63)
  (d64:FD K "_law_hand" KU f64)
  (d65:FD K "parted" KC f65)
  (d66:FD K "ran" Kz f66)
  (d67:FD K "trap" Kv f67)
  (d68:FD K "_law_alone" KY f68)
  (d69:FD K "_law_ran" KR f69)
  (d70:FD K "_law_trapped" KI f70)
  (d71:FD K "_law_right" KP f71)
  (d72:FD K "_law_spoilt" KL f72)
  (d73:FD K "law" F9 f73)
  (cb0:CB K CK1)
  (n0_many:As K CK1 "many")
  (n0_scale:As K CK1 "scale")
  (q0_Hand:PySem.W.kitOne K (.ref CK1) (.ref CK1)=some true)
  (mk0:PySem.W.makesIn K CK1=true)
  (kc0:PySem.W.keepIn K (.ref CK1)=true)
  (so0___init__:PySem.W.specialIn K (.ref CK1) "__getattribute__" = some (some (.builtin "type.__getattribute__")))
  (rd0___init__:PySem.W.readsIn K CK1 (.type "type")=true)
  (fc0___init__:PySem.W.findCls K (.ref CK1) (.type "type") "__init__" = some (.val (.ref f25)))
  (cb1:CB K CK12)
  (n1_many:As K CK12 "many")
  (n1_scale:As K CK12 "scale")
  (n1_top:As K CK12 "top")
  (n1_bottom:As K CK12 "bottom")
  (n1_tops:As K CK12 "tops")
  (n1_under:As K CK12 "under")
  (q1_Hand:PySem.W.kitOne K (.ref CK12) (.ref CK1)=some true)
  (mk1:PySem.W.makesIn K CK12=true)
  (kc1:PySem.W.keepIn K (.ref CK12)=true)
  (e1_say:PySem.W.findIn K (.ref CK12) "say" = some (some (.ref f29)))
  (so1___init__:PySem.W.specialIn K (.ref CK12) "__getattribute__" = some (some (.builtin "type.__getattribute__")))
  (rd1___init__:PySem.W.readsIn K CK12 (.type "type")=true)
  (fc1___init__:PySem.W.findCls K (.ref CK12) (.type "type") "__init__" = some (.val (.ref f35)))
  (cb2:CB K CK9)
  (n2_many:As K CK9 "many")
  (n2_scale:As K CK9 "scale")
  (n2_top:As K CK9 "top")
  (n2_bottom:As K CK9 "bottom")
  (n2_tops:As K CK9 "tops")
  (n2_under:As K CK9 "under")
  (n2_share:As K CK9 "share")
  (n2_parts:As K CK9 "parts")
  (q2_Hand:PySem.W.kitOne K (.ref CK9) (.ref CK1)=some true)
  (mk2:PySem.W.makesIn K CK9=true)
  (kc2:PySem.W.keepIn K (.ref CK9)=true)
  (e2_heeded:PySem.W.findIn K (.ref CK9) "heeded" = some (some (.ref f27)))
  (e2_say:PySem.W.findIn K (.ref CK9) "say" = some (some (.ref f29)))
  (e2_weigh:PySem.W.findIn K (.ref CK9) "weigh" = some (some (.ref f37)))
  (cb3:CB K CK8)
  (n3_many:As K CK8 "many")
  (n3_scale:As K CK8 "scale")
  (n3_inside:As K CK8 "inside")
  (n3_over:As K CK8 "over")
  (q3_Hand:PySem.W.kitOne K (.ref CK8) (.ref CK1)=some true)
  (mk3:PySem.W.makesIn K CK8=true)
  (kc3:PySem.W.keepIn K (.ref CK8)=true)
  (e3_say:PySem.W.findIn K (.ref CK8) "say" = some (some (.ref f29)))
  (cb4:CB K CK0)
  (n4_many:As K CK0 "many")
  (n4_scale:As K CK0 "scale")
  (n4_push:As K CK0 "push")
  (n4_reached:As K CK0 "reached")
  (q4_Hand:PySem.W.kitOne K (.ref CK0) (.ref CK1)=some true)
  (mk4:PySem.W.makesIn K CK0=true)
  (kc4:PySem.W.keepIn K (.ref CK0)=true)
  (cb5:CB K CK10)
  (n5_many:As K CK10 "many")
  (n5_scale:As K CK10 "scale")
  (n5_hands:As K CK10 "hands")
  (n5_head:As K CK10 "head")
  (n5_charged:As K CK10 "charged")
  (q5_Hand:PySem.W.kitOne K (.ref CK10) (.ref CK1)=some true)
  (mk5:PySem.W.makesIn K CK10=true)
  (kc5:PySem.W.keepIn K (.ref CK10)=true)
  (Tga_NoTurn:PySem.W.findIn K (.ref CK6) "__getattribute__" = some (some (.builtin "BaseException.__getattribute__")))
  (Thk_NoTurn:PySem.W.findIn K (.ref CK6) "__getattr__" = some none)
  (Tmb_NoTurn:PySem.W.mroIn K CK6 (.type "BaseException")=some true)
  (Tmo_NoTurn:PySem.W.mroIn K CK6 (.type "object")=some true)
  (Tca_NoTurn:PySem.W.findIn K (.ref CK6) "__class__" = some (some (.builtin "object.__class__")))
  (Thd_NoTurn:PySem.W.hasDictIn K CK6=true)
  (Ll_NoTurn:K.lookup CK6=some (excClassObj nm_NoTurn qn_NoTurn CK6 N_NoTurn bs_NoTurn (.ref CK2::CY) true sn_NoTurn sub_NoTurn ab_NoTurn col_NoTurn dd_NoTurn ka_NoTurn kb_NoTurn kc_NoTurn kd_NoTurn ke_NoTurn "ValueError.__new__"))
  (Tsa_NoTurn:PySem.W.findIn K (.ref CK6) "__setattr__" = some (some (.builtin "object.__setattr__")))
  (Tkp_NoTurn:PySem.W.keepIn K (.ref CK6)=true)
  (Tga_NoWay:PySem.W.findIn K (.ref CK7) "__getattribute__" = some (some (.builtin "BaseException.__getattribute__")))
  (Thk_NoWay:PySem.W.findIn K (.ref CK7) "__getattr__" = some none)
  (Tmb_NoWay:PySem.W.mroIn K CK7 (.type "BaseException")=some true)
  (Tmo_NoWay:PySem.W.mroIn K CK7 (.type "object")=some true)
  (Tca_NoWay:PySem.W.findIn K (.ref CK7) "__class__" = some (some (.builtin "object.__class__")))
  (Thd_NoWay:PySem.W.hasDictIn K CK7=true)
  (Ee_HeedError:PySem.W.excIn K CK2 CY "ValueError.__new__" = true)
  (En_NoTurn_number:PySem.W.findIn K (.ref CK6) "number" = some none)
  (Ex_NoTurn_HeedError:PySem.W.exmOne K (.ref CK6) (.ref CK2)=some true)
  (Ei_NoTurn_ValueError:PySem.W.kitOne K (.ref CK6) (.type "ValueError")=some true)
  (Ei_NoTurn_NoTurn:PySem.W.kitOne K (.ref CK6) (.ref CK6)=some true)
  (Ei_NoTurn_NoRow:PySem.W.kitOne K (.ref CK6) (.ref CK4)=some false)
  (Ei_NoTurn_NoRule:PySem.W.kitOne K (.ref CK6) (.ref CK5)=some false)
  (Ei_NoTurn_NoWay:PySem.W.kitOne K (.ref CK6) (.ref CK7)=some false)
  (Ei_NoTurn_NoName:PySem.W.kitOne K (.ref CK6) (.ref CK3)=some false)
  (Ei_NoTurn_Twice:PySem.W.kitOne K (.ref CK6) (.ref CK11)=some false)
  (Ee_NoWay:PySem.W.excIn K CK7 CY "ValueError.__new__" = true)
  (Ex_NoWay_HeedError:PySem.W.exmOne K (.ref CK7) (.ref CK2)=some true)
  (Ei_NoWay_ValueError:PySem.W.kitOne K (.ref CK7) (.type "ValueError")=some true)
  (Ei_NoWay_NoTurn:PySem.W.kitOne K (.ref CK7) (.ref CK6)=some false)
  (Ei_NoWay_NoRow:PySem.W.kitOne K (.ref CK7) (.ref CK4)=some false)
  (Ei_NoWay_NoRule:PySem.W.kitOne K (.ref CK7) (.ref CK5)=some false)
  (Ei_NoWay_NoWay:PySem.W.kitOne K (.ref CK7) (.ref CK7)=some true)
  (Ei_NoWay_NoName:PySem.W.kitOne K (.ref CK7) (.ref CK3)=some false)
  (Ei_NoWay_Twice:PySem.W.kitOne K (.ref CK7) (.ref CK11)=some false)
  (gn:PySem.W.specialIn K (.builtin "object.__class__") "__get__" = some (some (.builtin "getset_descriptor.__get__")))
  (gt:PySem.W.takesIn K (.builtin "object.__class__")=some true)
  (z0:NZ K "len")
  (z1:NZ K "tuple")
  (z2:NZ K "list")
  (z3:NZ K "sum")
  (z4:NZ K "zip")
  (z5:NZ K "sorted")
  (z6:NZ K "range")
  (z7:NZ K "isinstance")
  (z8:NZ K "int")
  (z9:NZ K "bool")
  (z10:NZ K "all")
  (z11:NZ K "any")
  (z12:NZ K "enumerate")
  (z13:NZ K "abs")
  (z14:NZ K "min")
  (z15:NZ K "max")
  (z16:NZ K "ValueError")
  (y0:PySem.W.nsIn K mainGlobals "MOST_ADVISERS" = some (some (.int 24 tk0)))
  (y1:PySem.W.nsIn K mainGlobals "MOST_SCALE" = some (some (.int 10 tk1)))
  (y2:PySem.W.nsIn K mainGlobals "MOST_BOTTOM" = some (some (.int 100 tk2)))
  (y3:PySem.W.nsIn K mainGlobals "MOST_PARTS" = some (some (.int 100 tk3)))
  (y4:PySem.W.nsIn K mainGlobals "MOST_FIGURES" = some (some (.int 60 tk4))) :
  ∃ fd:FuncData,(∀ (s:Shared) (v:Value),BindsTo s fd ⟨[v],[]⟩ [("_law_script",v)])/\∀ base:Heap,K.In base->base.Ns mainGlobals mg->AF l.prog w K mg base AI 41 fa fd ["_law_script"] (AK K GL):=by
 obtain ⟨a73,_,E73⟩:=d73
 have e:=hfa.symm.trans (PySem.W.mg_of X G a73)
 cases e
 have T:Txt K mg CK1 CK12 CK9 CK8 CK0 CK10 CK2 CK6 CK7 CK4 CK5 CK3 CK11:=⟨PySem.W.mg_none_of X G z0,PySem.W.mg_none_of X G z1,PySem.W.mg_none_of X G z2,PySem.W.mg_none_of X G z3,PySem.W.mg_none_of X G z4,PySem.W.mg_none_of X G z5,PySem.W.mg_none_of X G z6,PySem.W.mg_none_of X G z7,PySem.W.mg_none_of X G z8,PySem.W.mg_none_of X G z9,PySem.W.mg_none_of X G z10,PySem.W.mg_none_of X G z11,PySem.W.mg_none_of X G z12,PySem.W.mg_none_of X G z13,PySem.W.mg_none_of X G z14,PySem.W.mg_none_of X G z15,PySem.W.mg_none_of X G z16,⟨_,PySem.W.mg_of X G y0⟩,⟨_,PySem.W.mg_of X G y1⟩,⟨_,PySem.W.mg_of X G y2⟩,⟨_,PySem.W.mg_of X G y3⟩,⟨_,PySem.W.mg_of X G y4⟩,cb0.ty gn gt,PySem.W.mg_of X G aC0,n0_many,n0_scale,q0_Hand,cb1.ty gn gt,PySem.W.mg_of X G aC1,n1_many,n1_scale,n1_top,n1_bottom,n1_tops,n1_under,q1_Hand,cb2.ty gn gt,PySem.W.mg_of X G aC2,n2_many,n2_scale,n2_top,n2_bottom,n2_tops,n2_under,n2_share,n2_parts,q2_Hand,cb3.ty gn gt,PySem.W.mg_of X G aC3,n3_many,n3_scale,n3_inside,n3_over,q3_Hand,cb4.ty gn gt,PySem.W.mg_of X G aC4,n4_many,n4_scale,n4_push,n4_reached,q4_Hand,cb5.ty gn gt,PySem.W.mg_of X G aC5,n5_many,n5_scale,n5_hands,n5_head,n5_charged,q5_Hand,PySem.W.mg_of X G aE_HeedError,Ee_HeedError,PySem.W.mg_of X G aE_NoTurn,⟨Tga_NoTurn,Thk_NoTurn,Tmb_NoTurn,Tmo_NoTurn,Tca_NoTurn,gn,gt,Thd_NoTurn⟩,En_NoTurn_number,Ex_NoTurn_HeedError,Ei_NoTurn_ValueError,Ei_NoTurn_NoTurn,Ei_NoTurn_NoRow,Ei_NoTurn_NoRule,Ei_NoTurn_NoWay,Ei_NoTurn_NoName,Ei_NoTurn_Twice,PySem.W.mg_of X G aE_NoWay,Ee_NoWay,⟨Tga_NoWay,Thk_NoWay,Tmb_NoWay,Tmo_NoWay,Tca_NoWay,gn,gt,Thd_NoWay⟩,Ex_NoWay_HeedError,Ei_NoWay_ValueError,Ei_NoWay_NoTurn,Ei_NoWay_NoRow,Ei_NoWay_NoRule,Ei_NoWay_NoWay,Ei_NoWay_NoName,Ei_NoWay_Twice,PySem.W.mg_of X G aE_NoRow,PySem.W.mg_of X G aE_NoRule,PySem.W.mg_of X G aE_NoName,PySem.W.mg_of X G aE_Twice⟩
 have E0:=MB (st:=Ga) l0 c0 k0
 have b0:=E0.binds (ps:=["self","number"]) λ_ _ _ _ _ _ us hl=>by obtain ⟨_,_,rfl⟩:=IW hl; rfl
 obtain ⟨a1,_,E1⟩:=d1
 obtain ⟨a2,_,E2⟩:=d2
 obtain ⟨a3,_,E3⟩:=d3
 obtain ⟨a4,_,E4⟩:=d4
 obtain ⟨a5,_,E5⟩:=d5
 obtain ⟨a6,_,E6⟩:=d6
 obtain ⟨a7,_,E7⟩:=d7
 obtain ⟨a8,_,E8⟩:=d8
 obtain ⟨a9,_,E9⟩:=d9
 obtain ⟨a10,_,E10⟩:=d10
 obtain ⟨a11,_,E11⟩:=d11
 obtain ⟨a12,_,E12⟩:=d12
 obtain ⟨a13,_,E13⟩:=d13
 obtain ⟨a14,_,E14⟩:=d14
 obtain ⟨a15,_,E15⟩:=d15
 obtain ⟨a16,_,E16⟩:=d16
 obtain ⟨a17,_,E17⟩:=d17
 obtain ⟨a18,_,E18⟩:=d18
 obtain ⟨a19,_,E19⟩:=d19
 obtain ⟨a20,_,E20⟩:=d20
 obtain ⟨a21,_,E21⟩:=d21
 obtain ⟨a22,_,E22⟩:=d22
 obtain ⟨a23,_,E23⟩:=d23
 obtain ⟨a24,_,E24⟩:=d24
 have b24:=E24.binds (ps:=["many","scale","turns"]) λ_ _ _ _ _ _ us hl=>by obtain ⟨_,_,_,rfl⟩:=Mo hl; rfl
 obtain ⟨a25,i25,_,E25⟩:=d25
 have b25:=E25.binds (ps:=["self","many","scale"]) λ_ _ _ _ _ _ us hl=>by obtain ⟨_,_,_,rfl⟩:=Mo hl; rfl
 obtain ⟨a26,i26,_,E26⟩:=d26
 obtain ⟨a27,i27,_,E27⟩:=d27
 obtain ⟨a28,i28,_,E28⟩:=d28
 obtain ⟨a29,i29,_,E29⟩:=d29
 obtain ⟨a30,i30,_,E30⟩:=d30
 obtain ⟨a31,i31,_,E31⟩:=d31
 obtain ⟨a32,i32,_,E32⟩:=d32
 obtain ⟨a33,i33,_,E33⟩:=d33
 obtain ⟨a34,i34,_,E34⟩:=d34
 obtain ⟨a35,i35,_,E35⟩:=d35
 have b35:=E35.binds (ps:=["self","many","scale","top","bottom"]) λ_ _ _ _ _ _ us hl=>by obtain ⟨_,_,_,_,_,rfl⟩:=Qm hl; rfl
 obtain ⟨a36,i36,_,E36⟩:=d36
 obtain ⟨a37,i37,_,E37⟩:=d37
 obtain ⟨a38,i38,_,E38⟩:=d38
 obtain ⟨a39,i39,_,E39⟩:=d39
 obtain ⟨a40,i40,_,E40⟩:=d40
 obtain ⟨a41,i41,_,E41⟩:=d41
 obtain ⟨a42,i42,_,E42⟩:=d42
 have E43:=Zp (st:=Gb) (dv:=[.none]) l43 t43 c43 k43
 have b43:=E43.binds (rest:=[]) (ps:=["self","many","scale","push"]) λ_ _ _ _ _ _ _ us hl=>by rw [List.append_nil] at hl; obtain ⟨_,_,_,_,rfl⟩:=Qn hl; exact ⟨_,rfl,rfl⟩
 obtain ⟨a44,i44,_,E44⟩:=d44
 obtain ⟨a45,i45,_,E45⟩:=d45
 obtain ⟨a46,i46,_,E46⟩:=d46
 obtain ⟨a47,_,E47⟩:=d47
 obtain ⟨a48,_,E48⟩:=d48
 obtain ⟨a49,_,E49⟩:=d49
 obtain ⟨a50,i50,_,E50⟩:=d50
 obtain ⟨a51,i51,_,E51⟩:=d51
 obtain ⟨a52,i52,_,E52⟩:=d52
 obtain ⟨a53,i53,_,E53⟩:=d53
 obtain ⟨a54,i54,_,E54⟩:=d54
 obtain ⟨a55,_,E55⟩:=d55
 obtain ⟨a56,_,E56⟩:=d56
 obtain ⟨a57,_,E57⟩:=d57
 obtain ⟨a58,_,E58⟩:=d58
 obtain ⟨a59,_,E59⟩:=d59
 obtain ⟨a60,_,E60⟩:=d60
 obtain ⟨a61,_,E61⟩:=d61
 obtain ⟨a62,_,E62⟩:=d62
 obtain ⟨a63,_,E63⟩:=d63
 obtain ⟨a64,_,E64⟩:=d64
 obtain ⟨a65,_,E65⟩:=d65
 obtain ⟨a66,_,E66⟩:=d66
 have b66:=E66.binds (ps:=["hand","turns"]) λ_ _ _ _ _ _ us hl=>by obtain ⟨_,_,rfl⟩:=IW hl; rfl
 obtain ⟨a67,_,E67⟩:=d67
 have b67:=E67.binds (ps:=["hand","many_turns"]) λ_ _ _ _ _ _ us hl=>by obtain ⟨_,_,rfl⟩:=IW hl; rfl
 obtain ⟨a68,_,E68⟩:=d68
 obtain ⟨a69,_,E69⟩:=d69
 obtain ⟨a70,_,E70⟩:=d70
 obtain ⟨a71,_,E71⟩:=d71
 obtain ⟨a72,_,E72⟩:=d72
 obtain ⟨_,_,kV,dc,pm,an,cd,ct,_,rfl,_,_⟩:=E73.ex
 refine ⟨PySem.W.fnOf "law" "law" (C5 F9) (Cf F9) (An F9) .none kV dc pm an cd ct,λs v=>.of_eq rfl,λbase _ _=>?_⟩
 have Z_NoTurn:Gz K CK6 f0 "number" :=⟨⟨_,_,_,_,_,_,_,_,_,_,_,_,_,_,_,Ll_NoTurn,λh X=>S8 X Ee_HeedError⟩,a0,beq_iff_eq.mp i0,Tsa_NoTurn,En_NoTurn_number,Tkp_NoTurn⟩
 have ym:AF l.prog w K mg base AI 1 f0 _ ["self","number"] (GO CK6 "number"):=XT T E0 Z_NoTurn
 have kf:=Xc (P:=l.prog) (w:=w) (base:=base) T E1 (PySem.W.mg_of X G a1) (AD E1)
 have gu:=Xi (P:=l.prog) (w:=w) (base:=base) T E2 (PySem.W.mg_of X G a2) (AD E2)
 have gw:=WO T E3 (PySem.W.mg_of X G a3) (AD E3) gu
 have jh:=Xj T E4 (PySem.W.mg_of X G a4) (AD E4) kf
 have gv:=Xo T E5 (PySem.W.mg_of X G a5) (AD E5) jh
 have gz:=Xr T E6 (PySem.W.mg_of X G a6) (AD E6) jh gv
 have ze:=Xs T E7 (PySem.W.mg_of X G a7) (AD E7) jh
 have zg:=Xn T E8 (PySem.W.mg_of X G a8) (AD E8) jh
 have kh:=Xf T E9 (PySem.W.mg_of X G a9) (AD E9) kf
 have ki:=Xe T E10 (PySem.W.mg_of X G a10) (AD E10) kh
 have jn:=Xp T E11 (PySem.W.mg_of X G a11) (AD E11) ki
 have jk:=WL (P:=l.prog) (w:=w) (base:=base) T E12 (PySem.W.mg_of X G a12) (AD E12)
 have ji:=Xt (P:=l.prog) (w:=w) (base:=base) T E13 (PySem.W.mg_of X G a13) (AD E13)
 have kj:=Xd T E14 (PySem.W.mg_of X G a14) (AD E14) ki kh
 have jd:=Xl T E15 (PySem.W.mg_of X G a15) (AD E15) kj
 have kl:=Xu (P:=l.prog) (w:=w) (base:=base) T E16 (PySem.W.mg_of X G a16) (AD E16)
 have gd:=WN T E17 (PySem.W.mg_of X G a17) (AD E17) gw kl
 have gx:=WG T E18 (PySem.W.mg_of X G a18) (AD E18) jk
 have km:=WH T E19 (PySem.W.mg_of X G a19) (AD E19) jk
 have zi:=WI T E20 (PySem.W.mg_of X G a20) (AD E20) ji km gx
 have gy:=Xq T E21 (PySem.W.mg_of X G a21) (AD E21) jh jk
 have zn:=WK T E22 (PySem.W.mg_of X G a22) (AD E22) gy
 have zo:=Xh (P:=l.prog) (w:=w) (base:=base) T E23 (PySem.W.mg_of X G a23) (AD E23)
 have J_NoTurn:Nt l.prog w K mg base CK6 1 "NoTurn" "number" :=⟨⟨_,_,_,ym,Z_NoTurn,b0⟩,T.ln,T.lm⟩
 have gk:Ek l.prog w K mg base 5 "check_turns" (J6 CK6):=Xk T E24 (PySem.W.mg_of X G a24) b24 kj J_NoTurn
 have yc:=XY T E25 gz
 have yn:=XV (P:=l.prog) (w:=w) (base:=base) T E26
 have yd:=Xx (P:=l.prog) (w:=w) (base:=base) T E27
 have yo:=XM (P:=l.prog) (w:=w) (base:=base) T E28
 have za:=Bi yn a26 i26 E26.kp (AD E26) T.bu.cls
 have zb:=Bi yd a27 i27 E27.kp (AD E27) T.de.cls
 have zc:=Bi yd e2_heeded i27 E27.kp (AD E27) T.du.cls
 have zd:=Bi yo a28 i28 E28.kp (AD E28) T.eu.cls
 have gr:=XU T E29 jn gd za zb zc zd
 have yp:=XW T E30 jd
 have kn:=Gh yc mk0 a25 i25 kc0 (AD E25) T.bv
 have yq:=XX T E31 kn
 have jl:Ff l.prog w K mg base "Hand" 5 "__init__" (EQ (λC=>C=CK1\/C=CK12\/C=CK9\/C=CK8\/C=CK10\/C=CK0)):=⟨_,_,_,_,_,T.bv,so0___init__,rd0___init__,fc0___init__,rfl,yc,E25.kp,b25⟩
 have yr:=XS T E32 jl
 have yt:=XO T E33 jd ji
 have ko:=Gh yr mk3 a32 i32 kc3 (AD E32) T.fg
 have yu:=XQ T E34 ko
 have ye:=XA T E35 ze jl
 have zh:Ff l.prog w K mg base "Weigher" 6 "__init__" (GM CK12 CK9):=⟨_,_,_,_,_,T.df,so1___init__,rd1___init__,fc1___init__,rfl,ye,E35.kp,b35⟩
 have yv:=XL T E36 zg zh
 have ja:=Bi gr e1_say i29 E29.kp (AD E29) T.de.cls
 have jb:=Bi gr e2_say i29 E29.kp (AD E29) T.du.cls
 have yf:=Xw T E37 ji ja jb zi km
 have yw:=XI (P:=l.prog) (w:=w) (base:=base) T E38
 have zj:=Bi yf a37 i37 E37.kp (AD E37) T.de.cls
 have yx:=Xy T E39 jd zj
 have zk:=Bi yf e2_weigh i37 E37.kp (AD E37) T.du.cls
 have zm:=Bi yw a38 i38 E38.kp (AD E38) T.du.cls
 have yy:=XH T E40 jd zk zm
 have kt:=Gh ye mk1 a35 i35 kc1 (AD E35) T.df
 have yz:=Xz T E41 kt
 have ku:=Gh yv mk2 a36 i36 kc2 (AD E36) T.dw
 have vc:=XJ T E42 ku
 have vd:AF l.prog w K mg base AI 6 f43 _ ["self","many","scale","push"] (AK K (GN CK0)):=X3 T E43 zn jl
 have ve:=XZ T E44 jn kl zo
 have vf:=X0 T E45 jd ji
 have kv:Cy l.prog w K mg base CK0 6 "Follower" (GN CK0):=⟨⟨_,_,_,vd,⟨mk4,a43,i43,kc4⟩,b43⟩,T.ft⟩
 have vg:=X2 T E46 kv
 have zp:=Xv (P:=l.prog) (w:=w) (base:=base) T E47 (PySem.W.mg_of X G a47) (AD E47)
 have zq:=Xg (P:=l.prog) (w:=w) (base:=base) T E48 (PySem.W.mg_of X G a48) (AD E48)
 have gj:=Xm T E49 (PySem.W.mg_of X G a49) (AD E49) zp zq
 have xk:AF l.prog w K mg base AI 10 f50 _ ["self","hands","head"] (AK K (En ⟨CK1,CK12,CK9,CK8,CK10,CK0⟩ 0)):=XG T E50
 have xl:AF l.prog w K mg base AI 7 f51 _ ["self","said"] (AK K (ER ⟨CK1,CK12,CK9,CK8,CK10,CK0⟩ 0)):=XE T E51
 have vh:AF l.prog w K mg base AI 9 f52 _ ["self","said"] (AK K (Dn ⟨CK1,CK12,CK9,CK8,CK10,CK0⟩ 0)):=XB T E52
 have vk:AF l.prog w K mg base AI 10 f53 _ ["self","said","so"] (AK K (D3 ⟨CK1,CK12,CK9,CK8,CK10,CK0⟩ 0)):=XD T E53
 have vm:AF l.prog w K mg base AI 12 f54 _ ["self"] (AK K (D4 ⟨CK1,CK12,CK9,CK8,CK10,CK0⟩ 0)):=XF T E54
 have jo:=Bi yq a31 i31 E31.kp (AD E31) T.bu.cls
 have jp:=Bi yz a41 i41 E41.kp (AD E41) T.de.cls
 have jq:=Bi vc a42 i42 E42.kp (AD E42) T.du.cls
 have jr:=Bi yu a34 i34 E34.kp (AD E34) T.eu.cls
 have jt:=Bi vg a46 i46 E46.kp (AD E46) T.fq.cls
 have vn:=Bi vm a54 i54 E54.kp (AD E54) T.fz.cls
 have vo:AF l.prog w K mg base AI 18 f50 _ ["self","hands","head"] (AK K (En ⟨CK1,CK12,CK9,CK8,CK10,CK0⟩ 1)):=P0 (j:=0) T E50 gj jl jo jp jq jr jt vn
 have je:=Bi gr a29 i29 E29.kp (AD E29) T.bu.cls
 have jf:=Bi gr e3_say i29 E29.kp (AD E29) T.eu.cls
 have jg:=Bi ve a44 i44 E44.kp (AD E44) T.fq.cls
 have yg:=Bi vh a52 i52 E52.kp (AD E52) T.fz.cls
 have vp:AF l.prog w K mg base AI 15 f51 _ ["self","said"] (AK K (ER ⟨CK1,CK12,CK9,CK8,CK10,CK0⟩ 1)):=PY (j:=0) T E51 je ja jb jf jg yg
 have yh:=Bi vp a51 i51 E51.kp (AD E51) T.fz.cls
 have vq:AF l.prog w K mg base AI 17 f52 _ ["self","said"] (AK K (Dn ⟨CK1,CK12,CK9,CK8,CK10,CK0⟩ 1)):=PV (j:=0) T E52 jn yh je ja jb jf jg yg
 have jw:=Bi yp a30 i30 E30.kp (AD E30) T.bu.cls
 have jx:=Bi yx a39 i39 E39.kp (AD E39) T.de.cls
 have jy:=Bi yy a40 i40 E40.kp (AD E40) T.du.cls
 have jz:=Bi yt a33 i33 E33.kp (AD E33) T.eu.cls
 have ka:=Bi vf a45 i45 E45.kp (AD E45) T.fq.cls
 have vt:=Bi vk a53 i53 E53.kp (AD E53) T.fz.cls
 have vv:AF l.prog w K mg base AI 18 f53 _ ["self","said","so"] (AK K (D3 ⟨CK1,CK12,CK9,CK8,CK10,CK0⟩ 1)):=PX (j:=0) T E53 jd ji yh jw jx jy jz ka vt
 have vw:=Gh vo mk5 a50 i50 kc5 (AD E50) T.la
 have vx:AF l.prog w K mg base AI 20 f54 _ ["self"] (AK K (D4 ⟨CK1,CK12,CK9,CK8,CK10,CK0⟩ 1)):=PZ (j:=0) T E54 vw
 have vz:=Bi vx a54 i54 E54.kp (AD E54) T.fz.cls
 have xc:AF l.prog w K mg base AI 26 f50 _ ["self","hands","head"] (AK K (En ⟨CK1,CK12,CK9,CK8,CK10,CK0⟩ 2)):=P0 (j:=1) T E50 gj jl jo jp jq jr jt vz
 have yi:=Bi vq a52 i52 E52.kp (AD E52) T.fz.cls
 have xf:AF l.prog w K mg base AI 23 f51 _ ["self","said"] (AK K (ER ⟨CK1,CK12,CK9,CK8,CK10,CK0⟩ 2)):=PY (j:=1) T E51 je ja jb jf jg yi
 have yj:=Bi xf a51 i51 E51.kp (AD E51) T.fz.cls
 have xg:AF l.prog w K mg base AI 25 f52 _ ["self","said"] (AK K (Dn ⟨CK1,CK12,CK9,CK8,CK10,CK0⟩ 2)):=PV (j:=1) T E52 jn yj je ja jb jf jg yi
 have xh:=Bi vv a53 i53 E53.kp (AD E53) T.fz.cls
 have xi:AF l.prog w K mg base AI 26 f53 _ ["self","said","so"] (AK K (D3 ⟨CK1,CK12,CK9,CK8,CK10,CK0⟩ 2)):=PX (j:=1) T E53 jd ji yj jw jx jy jz ka xh
 have ya:=Gh xc mk5 a50 i50 kc5 (AD E50) T.la
 have xj:AF l.prog w K mg base AI 28 f54 _ ["self"] (AK K (D4 ⟨CK1,CK12,CK9,CK8,CK10,CK0⟩ 2)):=PZ (j:=1) T E54 ya
 have kc:=Xa (P:=l.prog) (w:=w) (base:=base) T E55 (PySem.W.mg_of X G a55) (AD E55)
 have jc:=W8 (P:=l.prog) (w:=w) (base:=base) T E56 (PySem.W.mg_of X G a56) (AD E56)
 have gp:=WW T E57 (PySem.W.mg_of X G a57) (AD E57) jc
 have zt:=WX T E58 (PySem.W.mg_of X G a58) (AD E58) jc
 have zx:=WQ T E59 (PySem.W.mg_of X G a59) (AD E59) zt jc
 have zw:=WV (P:=l.prog) (w:=w) (base:=base) T E60 (PySem.W.mg_of X G a60) (AD E60)
 have kb:=W0 T E61 (PySem.W.mg_of X G a61) (AD E61) jc kn kt ku ko kv
 have kz:=WT T E62 (PySem.W.mg_of X G a62) (AD E62) jc kb ya
 have zu:=WS T E63 (PySem.W.mg_of X G a63) (AD E63) jc kb ya kz
 have zy:=W9 T E64 (PySem.W.mg_of X G a64) (AD E64) kb kz zu
 have zv:=WM (P:=l.prog) (w:=w) (base:=base) T E65 (PySem.W.mg_of X G a65) (AD E65)
 have yk:=Bi xj a54 i54 E54.kp (AD E54) T.fz.cls
 have yb:=Bi xg a52 i52 E52.kp (AD E52) T.fz.cls
 have yl:=Bi xi a53 i53 E53.kp (AD E53) T.fz.cls
 have gl:Ek l.prog w K mg base 29 "ran" (J9 ⟨CK1,CK12,CK9,CK8,CK10,CK0⟩ CK6 2):=WJ T E66 (PySem.W.mg_of X G a66) b66 gk jo je jw jp ja jx jq jb jy jr jf jz yk yb yl jt jg ka
 have gm:Ek l.prog w K mg base 29 "trap" (J7 ⟨CK1,CK12,CK9,CK8,CK10,CK0⟩ CK7 2):=WF T E67 (PySem.W.mg_of X G a67) b67 zv jo je jw jp ja jx jq jb jy jr jf jz yk yb yl jt jg ka
 have gc:=Xb (P:=l.prog) (w:=w) (base:=base) T E68 (PySem.W.mg_of X G a68) (AD E68)
 have kg:=WZ T E69 (PySem.W.mg_of X G a69) (AD E69) gl
 have gq:=WR T E70 (PySem.W.mg_of X G a70) (AD E70) gm gc
 have gh:=WY T E71 (PySem.W.mg_of X G a71) (AD E71) gc
 have zz:=WU (P:=l.prog) (w:=w) (base:=base) T E72 (PySem.W.mg_of X G a72) (AD E72)
 exact WP T E73 kc gp zw zx zy kg gh gq zz je ja jb jf yb jg
theorem walk {l:PySem.W.OpenLaw} {q:Program} {loose:List Str} {XP:(Str->Option Value)->Heap->Prop} {YP:World->Heap->Prop} {d:DefRec} {K:Params->PySem.W.Frag} (hn:l.most=some 63) (hdf:d.params.defaults=[])
  (hY:∀ (w:World) (h:Heap),YP w h->(K w.params).In h)
  (F:∀ (w:World) (mg:Str->Option Value) (fa:Addr) (h:Heap),(K w.params).In h->h.Ns mainGlobals mg->mg d.name=some (.ref fa)->
   ∃ fd:FuncData,(∀ (s:Shared) (u:Value),BindsTo s fd ⟨[u],[]⟩ [("_law_script",u)])/\∀ base:Heap,(K w.params).In base->base.Ns mainGlobals mg->AF l.prog w (K w.params) mg base AI 41 fa fd ["_law_script"] (AK (K w.params) GL)) :
  PySem.W.WalkO q loose XP YP l.row.toRowW d [] (λf vs=>PySem.call f vs):=
 L2.walk_of (n:=63) (k:=41) (x := "_law_script") (CX:=λ_=>AI) (sp:=λw=>AK (K w.params) GL) hn wE hdf ⟨rfl,by decide,by decide⟩ hY F (λ_ _ a ns hl _ hS=>YD hl hS) λ_ _ _ _ _ z=>z
end My
open PySem PySem.W PyProof.Rows
theorem My.walkZ {q:Program} {loose:List Str} {XP:(Str->Option Value)->Heap->Prop} {K:Params->PySem.W.Frag} {as:List Addr} {n t:Nat} {r:RowW} {d:DefRec} {kwd:List (Str×Expr)} {run:Value->List Value->Sem Value} (e:∀ P,as=(K P).map (·.1))
  (h:WalkO q loose XP (λw h=>(K w.params).In h) r d kwd run):WalkX q loose XP (X.obsZ as) (X.valZ K n t) r d kwd run:=λw s₀ s₁ mg mb G y a o pm cd doc dV kV ho hd hcd hD hmg hg args vals as' L hpre hlay hrd hwl hlo=>
 h w s₀ s₁ mg mb G (λb o' e'=>L.keeps _ _ ((X.z_facts e y).2.1 b o' e')) a o pm cd doc dV kV ho hd hcd hD hmg hg args vals as' hpre hlay hrd hwl hlo
def PySem.W.Fast.tw825813134880498162 : Nat := 0
def PySem.W.Fast.tw3817257009883769334 : Nat := 0
def PySem.W.Fast.tw5926468384477553180 : Nat := 0
def PySem.W.Fast.tw15062175434523693707 : Nat := 0
def PySem.W.Fast.tw8784309383376988996 : Nat := 0
def PySem.W.Fast.tw9809086851402908976 : Nat := 0
def PySem.W.Fast.tw563288376230211571 : Nat := 0
def PySem.W.Fast.tw4369014351106823635 : Nat := 0
def PySem.W.Fast.tw8035363207637937234 : Nat := 0
def PySem.W.Fast.tw2588744892598155872 : Nat := 0
def PySem.W.Fast.tw13326441931541258384 : Nat := 0
def PySem.W.Fast.tw4411617831013282035 : Nat := 0
def PySem.W.Fast.tw5399150209199353 : Nat := 0
def PySem.W.Fast.tw9854689957119797869 : Nat := 0
def PySem.W.Fast.tw11585334553523146736 : Nat := 0
def PySem.W.Fast.tw5514822283441325013 : Nat := 0
def PySem.W.Fast.tw8195955990405785622 : Nat := 0
def PySem.W.Fast.tw14344807683591967454 : Nat := 0
def PySem.W.Fast.tw11791304091041374785 : Nat := 0
def PySem.W.Fast.tw7822373866427083650 : Nat := 0
def PySem.W.Fast.tw2624330799499742869 : Nat := 0
def PySem.W.Fast.tw11941403972697919021 : Nat := 0
def PySem.W.Fast.tw7334077331876852655 : Nat := 0
def PySem.W.Fast.tw6707137871664641320 : Nat := 0
def PySem.W.Fast.tw1975386346214308949 : Nat := 0
def PySem.W.Fast.tw6321564458884598045 : Nat := 0
def PySem.W.Fast.tw6112166661903144435 : Nat := 0
def PySem.W.Fast.tw18134187033752258993 : Nat := 0
def PySem.W.Fast.tw9154502616308412831 : Nat := 0
def PySem.W.Fast.tw16361693350359278677 : Nat := 0
def PySem.W.Fast.tw16052754251968488676 : Nat := 0
def PySem.W.Fast.tw15590611281940474198 : Nat := 0
def PySem.W.Fast.tw10107023013426303238 : Nat := 0
def PySem.W.Fast.tw10060658473321394851 : Nat := 0
def PySem.W.Fast.tw9813845264025529285 : Nat := 0
def PySem.W.Fast.tw9907535258458907024 : Nat := 0
def PySem.W.Fast.tw15339004331347494535 : Nat := 0
def PySem.W.Fast.tw2674485286231089707 : Nat := 0
def PySem.W.Fast.tw8699479323148959607 : Nat := 0
def PySem.W.Fast.tw2616786663631737495 : Nat := 0
def PySem.W.Fast.tw4465649475054651545 : Nat := 0
def PySem.W.Fast.tw16212776042419950506 : Nat := 0
def PySem.W.Fast.tw6325541359322405096 : Nat := 0
def PySem.W.Fast.tw7393036682221789051 : Nat := 0
def PySem.W.Fast.tw10840825151343412420 : Nat := 0
def PySem.W.Fast.tw9964695754018192018 : Nat := 0
def PySem.W.Fast.tw16087653679963344970 : Nat := 0
def PySem.W.Fast.tw16798043202048459567 : Nat := 0
def PySem.W.Fast.tw2881773937375238803 : Nat := 0
def PySem.W.Fast.tw8477063164470753134 : Nat := 0
def PySem.W.Fast.tw10566047720810357074 : Nat := 0
def PySem.W.Fast.tw6984853675554373130 : Nat := 0
def PySem.W.Fast.tw9593687178952643793 : Nat := 0
def PySem.W.Fast.tw9358694479752305926 : Nat := 0
def PySem.W.Fast.tw16040325607393360508 : Nat := 0
def PySem.W.Fast.tw7909310616632946523 : Nat := 0
def PySem.W.Fast.tw9816531148904184565 : Nat := 0
def PySem.W.Fast.tw10269120742244393296 : Nat := 0
def PySem.W.Fast.tw15066974238476621493 : Nat := 0
def PySem.W.Fast.tw9009549407652818096 : Nat := 0
def PySem.W.Fast.tw7322566369316373661 : Nat := 0
def PySem.W.Fast.tw14013946194778164850 : Nat := 0
def PySem.W.Fast.tw17667201097343765384 : Nat := 0
def PySem.W.Fast.tw2990934896688373546 : Nat := 0
def PySem.W.Fast.tw17243237945200919610 : Nat := 0
def PySem.W.Fast.tw10629977460971820065 : Nat := 0
def PySem.W.Fast.tw8863102105409936592 : Nat := 0
def PySem.W.Fast.tw16445565975353622236 : Nat := 0
def PySem.W.Fast.tw8900278775672086972 : Nat := 0
def PySem.W.Fast.tw18322766866634542446 : Nat := 0
def PySem.W.Fast.tw7089768983407059934 : Nat := 0
def PySem.W.Fast.tw6336476788343660794 : Nat := 0
def PySem.W.Fast.tw4625015989916174525 : Nat := 0
def PySem.W.Fast.tw1064775051123527950 : Nat := 0
def PySem.W.Fast.tw12083889914829633034 : Nat := 0
def PySem.W.Fast.tw12120010672977822849 : Nat := 0
def PySem.W.Fast.tw7801046764399626911 : Nat := 0
def PySem.W.Fast.tw4247986801052024704 : Nat := 0
def PySem.W.Fast.tw17739779815859563995 : Nat := 0
def PySem.W.Fast.tw4637764158680959311 : Nat := 0
def PySem.W.Fast.tw3618770514260552630 : Nat := 0
def PySem.W.Fast.tw18233274554790050318 : Nat := 0
def PySem.W.Fast.tw14038768408970288771 : Nat := 0
def PySem.W.Fast.tw8627011554297810890 : Nat := 0
def PySem.W.Fast.tw1910355387383194091 : Nat := 0
def PySem.W.Fast.tw17765675166860310091 : Nat := 0
def PySem.W.Fast.tw9365727628784978657 : Nat := 0
def PySem.W.Fast.tw10019874999336712905 : Nat := 0
def PySem.W.Fast.tw2291533223254204405 : Nat := 0
def PySem.W.Fast.tw17581755198935776490 : Nat := 0
def PySem.W.Fast.tw7508139915904584064 : Nat := 0
def PySem.W.Fast.tw12413522147026081480 : Nat := 0
def PySem.W.Fast.tw6175167481273206471 : Nat := 0
def PySem.W.Fast.tw5373372387685451632 : Nat := 0
def PySem.W.Fast.tw16833747016257794403 : Nat := 0
def PySem.W.Fast.tw43059259212668256 : Nat := 0
def PySem.W.Fast.tw8406669736032304453 : Nat := 0
def PySem.W.Fast.tw12804999490452559291 : Nat := 0
def PySem.W.Fast.tw3225019911102510318 : Nat := 0
def PySem.W.Fast.tw14109326304957781145 : Nat := 0
def PySem.W.Fast.tw11285988689755234030 : Nat := 0
def PySem.W.Fast.tw9304156893804124530 : Nat := 0
def PySem.W.Fast.tw12473190728313336656 : Nat := 0
def PySem.W.Fast.tw5951186733289581 : Nat := 0
def PySem.W.Fast.tw14410752022240433428 : Nat := 0
def PySem.W.Fast.tw3173861199994710714 : Nat := 0
def PySem.W.Fast.tw16206981074011398922 : Nat := 0
def PySem.W.Fast.tw10372844858908946029 : Nat := 0
def PySem.W.Fast.tw12819399728107200334 : Nat := 0
def PySem.W.Fast.tw6705093468958477331 : Nat := 0
def PySem.W.Fast.tw10827950094549134510 : Nat := 0
def PySem.W.Fast.tw11752557186812675196 : Nat := 0
def PySem.W.Fast.tw15811107869634409339 : Nat := 0
def PySem.W.Fast.tw3548137499180455842 : Nat := 0
def PySem.W.Fast.tw14468667401198288353 : Nat := 0
def PySem.W.Fast.tw16555016322177210683 : Nat := 0
def PySem.W.Fast.tw15381433871014652615 : Nat := 0
def PySem.W.Fast.tw5028592091638880349 : Nat := 0
def PySem.W.Fast.tw7357300885300990965 : Nat := 0
def PySem.W.Fast.tw3624785056736024180 : Nat := 0
def PySem.W.Fast.tw13944904921675684277 : Nat := 0
def PySem.W.Fast.tw1330886808250563843 : Nat := 0
def PySem.W.Fast.tw8431089282955374420 : Nat := 0
def PySem.W.Fast.tw6986394528252318040 : Nat := 0
def PySem.W.Fast.tw15588892093520759329 : Nat := 0
def PySem.W.Fast.tw17658033056586004070 : Nat := 0
def PySem.W.Fast.tw5886207563497465637 : Nat := 0
def PySem.W.Fast.tw17863649328246063719 : Nat := 0
def PySem.W.Fast.tw11875165369790688691 : Nat := 0
def PySem.W.Fast.tw3896990923051560155 : Nat := 0
def PySem.W.Fast.tw7939144999526244104 : Nat := 0
def PySem.W.Fast.tw4033854995385890640 : Nat := 0
def PySem.W.Fast.tw16316168672186091257 : Nat := 0
def PySem.W.Fast.tw13489331858403623758 : Nat := 0
def PySem.W.Fast.tw15291378734537240622 : Nat := 0
def PySem.W.Fast.tw4692497534786146856 : Nat := 0
def PySem.W.Fast.tw16812543708478911820 : Nat := 0
def PySem.W.Fast.tw8997474587019262439 : Nat := 0
def PySem.W.Fast.tw7689793419445096159 : Nat := 0
def PySem.W.Fast.tw7071735267053279640 : Nat := 0
def PySem.W.Fast.tw7486300607383542439 : Nat := 0
def PySem.W.Fast.tw8541905952488777007 : Nat := 0
def PySem.W.Fast.tw16909882020850831863 : Nat := 0
def PySem.W.Fast.tw3791444515434978112 : Nat := 0
def PySem.W.Fast.tw3207056414195355758 : Nat := 0
def PySem.W.Fast.tw10385572164855616455 : Nat := 0
def PySem.W.Fast.tw656403489293083642 : Nat := 0
def PySem.W.Fast.tw8316105855301585116 : Nat := 0
def PySem.W.Fast.tw7177559109477447711 : Nat := 0
def PySem.W.Fast.tw14130563425694284541 : Nat := 0
def PySem.W.Fast.tw16042524053166629752 : Nat := 0
def PySem.W.Fast.tw10187976151708133063 : Nat := 0
def PySem.W.Fast.tw2663277016772067896 : Nat := 0
def PySem.W.Fast.tw9367717840284515360 : Nat := 0
def PySem.W.Fast.tw11751143288263026122 : Nat := 0
def PySem.W.Fast.tw7617249151943761610 : Nat := 0
def PySem.W.Fast.tw3116324086799682701 : Nat := 0
def PySem.W.Fast.tw8206413155621148197 : Nat := 0
def PySem.W.Fast.tw15426704373833715992 : Nat := 0
def PySem.W.Fast.tw6540694945169992412 : Nat := 0
def PySem.W.Fast.tw18114846381672574831 : Nat := 0
def PySem.W.Fast.tw2399376658388651933 : Nat := 0
def PySem.W.Fast.tw13946460386362604249 : Nat := 0
def PySem.W.Fast.tw885837357711199473 : Nat := 0
def PySem.W.Fast.tw1135309857655832709 : Nat := 0
def PySem.W.Fast.tw17535805589979106271 : Nat := 0
def PySem.W.Fast.tw13027231506009430314 : Nat := 0
def PySem.W.Fast.tw13190704220164063231 : Nat := 0
def PySem.W.Fast.tw15514265903240553601 : Nat := 0
def PySem.W.Fast.tw470863505677829261 : Nat := 0
def PySem.W.Fast.tw2956975294743029157 : Nat := 0
def PySem.W.Fast.tw2472647956224700805 : Nat := 0
def PySem.W.Fast.tw733087257520323248 : Nat := 0
def PySem.W.Fast.tw17545636359341746675 : Nat := 0
def PySem.W.Fast.tw544743396151712960 : Nat := 0
def PySem.W.Fast.tw6407531436462021714 : Nat := 0
def PySem.W.Fast.tw16155937958248390981 : Nat := 0
open PySem PySem.W PyProof.Rows
set_option maxRecDepth 100000 in
set_option maxHeartbeats 0 in
theorem PySem.Challenge.cw_heedwise_k94_sorts_of_hands_refuse_holds : PySem.Challenge.rw_heedwise_k94_sorts_of_hands_refuse.Holds := by
 w_on; o_law; z_head; (case hw=>w_witness2)
 k_fill
 refine My.walkZ (λP=>rfl) ?_
 refine My.walk (l:=PySem.Challenge.rw_heedwise_k94_sorts_of_hands_refuse) rfl rfl (λw h Y=>Y) ?F
 case F=>
  intro w mg fa h KX G hmg
  refine' My.all_mk KX G hmg ?aC0 ?aC1 ?aC2 ?aC3 ?aC4 ?aC5 ?aE_HeedError ?aE_NoTurn ?aE_NoWay ?aE_NoRow ?aE_NoRule ?aE_NoName ?aE_Twice ?a0 ?i0 ?l0 ?c0 ?k0 ?d1 ?d2 ?d3 ?d4 ?d5 ?d6 ?d7 ?d8 ?d9 ?d10 ?d11 ?d12 ?d13 ?d14 ?d15 ?d16 ?d17 ?d18 ?d19 ?d20 ?d21 ?d22 ?d23 ?d24 ?d25 ?d26 ?d27 ?d28 ?d29 ?d30 ?d31 ?d32 ?d33 ?d34 ?d35 ?d36 ?d37 ?d38 ?d39 ?d40 ?d41 ?d42 ?a43 ?i43 ?l43 ?t43 ?c43 ?k43 ?d44 ?d45 ?d46 ?d47 ?d48 ?d49 ?d50 ?d51 ?d52 ?d53 ?d54 ?d55 ?d56 ?d57 ?d58 ?d59 ?d60 ?d61 ?d62 ?d63 ?d64 ?d65 ?d66 ?d67 ?d68 ?d69 ?d70 ?d71 ?d72 ?d73 ?cb0 ?n0_many ?n0_scale ?q0_Hand ?mk0 ?kc0 ?so0___init__ ?rd0___init__ ?fc0___init__ ?cb1 ?n1_many ?n1_scale ?n1_top ?n1_bottom ?n1_tops ?n1_under ?q1_Hand ?mk1 ?kc1 ?e1_say ?so1___init__ ?rd1___init__ ?fc1___init__ ?cb2 ?n2_many ?n2_scale ?n2_top ?n2_bottom ?n2_tops ?n2_under ?n2_share ?n2_parts ?q2_Hand ?mk2 ?kc2 ?e2_heeded ?e2_say ?e2_weigh ?cb3 ?n3_many ?n3_scale ?n3_inside ?n3_over ?q3_Hand ?mk3 ?kc3 ?e3_say ?cb4 ?n4_many ?n4_scale ?n4_push ?n4_reached ?q4_Hand ?mk4 ?kc4 ?cb5 ?n5_many ?n5_scale ?n5_hands ?n5_head ?n5_charged ?q5_Hand ?mk5 ?kc5 ?Tga_NoTurn ?Thk_NoTurn ?Tmb_NoTurn ?Tmo_NoTurn ?Tca_NoTurn ?Thd_NoTurn ?Ll_NoTurn ?Tsa_NoTurn ?Tkp_NoTurn ?Tga_NoWay ?Thk_NoWay ?Tmb_NoWay ?Tmo_NoWay ?Tca_NoWay ?Thd_NoWay ?Ee_HeedError ?En_NoTurn_number ?Ex_NoTurn_HeedError ?Ei_NoTurn_ValueError ?Ei_NoTurn_NoTurn ?Ei_NoTurn_NoRow ?Ei_NoTurn_NoRule ?Ei_NoTurn_NoWay ?Ei_NoTurn_NoName ?Ei_NoTurn_Twice ?Ee_NoWay ?Ex_NoWay_HeedError ?Ei_NoWay_ValueError ?Ei_NoWay_NoTurn ?Ei_NoWay_NoRow ?Ei_NoWay_NoRule ?Ei_NoWay_NoWay ?Ei_NoWay_NoName ?Ei_NoWay_Twice ?gn ?gt ?z0 ?z1 ?z2 ?z3 ?z4 ?z5 ?z6 ?z7 ?z8 ?z9 ?z10 ?z11 ?z12 ?z13 ?z14 ?z15 ?z16 ?y0 ?y1 ?y2 ?y3 ?y4
  case aC0|aC1|aC2|aC3|aC4|aC5|aE_HeedError|aE_NoTurn|aE_NoWay|aE_NoRow|aE_NoRule|aE_NoName|aE_Twice=>
   k_is
  case d1|d2|d3|d4|d5|d6|d7|d8|d9|d10|d11|d12|d13|d14|d15|d16|d17|d18|d19|d20|d21|d22|d23|d24|d47|d48|d49|d55|d56|d57|d58|d59|d60|d61|d62|d63|d64|d65|d66|d67|d68|d69|d70|d71|d72|d73=>
   refine' My.fd_mk ?a ?l ?c ?k
   case a|l|c|k=>k_is
  case d25|d26|d27|d28|d29|d30|d31|d32|d33|d34|d35|d36|d37|d38|d39|d40|d41|d42|d44|d45|d46|d50|d51|d52|d53|d54=>
   refine' My.fm_mk ?a ?i ?l ?c ?k
   case a|i|l|c|k=>k_is
  case cb0|cb1|cb2|cb3|cb4|cb5=>
   refine ⟨?_,?_,?_,?_,?_,?_⟩ <;> k_is
  case a0|i0|l0|c0|k0|a43|i43|l43|t43|c43|k43|mk0|kc0|so0___init__|rd0___init__|fc0___init__|mk1|kc1|e1_say|so1___init__|rd1___init__|fc1___init__|mk2|kc2|e2_heeded|e2_say|e2_weigh|mk3|kc3|e3_say|mk4|kc4|mk5|kc5|Tga_NoTurn|Thk_NoTurn|Tmb_NoTurn|Tmo_NoTurn|Tca_NoTurn|Thd_NoTurn|Ll_NoTurn|Tsa_NoTurn|Tkp_NoTurn|Tga_NoWay|Thk_NoWay|Tmb_NoWay|Tmo_NoWay|Tca_NoWay|Thd_NoWay|En_NoTurn_number|gn|gt|y0|y1|y2|y3|y4=>
   k_is
  case n0_many|n0_scale|n1_many|n1_scale|n1_top|n1_bottom|n1_tops|n1_under|n2_many|n2_scale|n2_top|n2_bottom|n2_tops|n2_under|n2_share|n2_parts|n3_many|n3_scale|n3_inside|n3_over|n4_many|n4_scale|n4_push|n4_reached|n5_many|n5_scale|n5_hands|n5_head|n5_charged|z0|z1|z2|z3|z4|z5|z6|z7|z8|z9|z10|z11|z12|z13|z14|z15|z16=>
   (show _=_; k_is)
  case q0_Hand|q1_Hand|q2_Hand|q3_Hand|q4_Hand|q5_Hand|Ei_NoTurn_ValueError|Ei_NoTurn_NoTurn|Ei_NoTurn_NoRow|Ei_NoTurn_NoRule|Ei_NoTurn_NoWay|Ei_NoTurn_NoName|Ei_NoTurn_Twice|Ei_NoWay_ValueError|Ei_NoWay_NoTurn|Ei_NoWay_NoRow|Ei_NoWay_NoRule|Ei_NoWay_NoWay|Ei_NoWay_NoName|Ei_NoWay_Twice=>
   kit_is
  case Ee_HeedError|Ee_NoWay=>
   k_exc
  case Ex_NoTurn_HeedError|Ex_NoWay_HeedError=>
   exact Eq.refl _
