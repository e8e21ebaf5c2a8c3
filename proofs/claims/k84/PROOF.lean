import PyProof.Rows.All
import Wide.All
import OpenK.AllK
import Wide.FinOn
import Lean
import PyProof.EqAt
import PyProof.EqKinds
import PyProof.TupleCall
import PyProof.NeData
import PyProof.WalkInts
import PyProof.ListRange
import KE.KIntText
import PyProof.DictWalks
import PyProof.DictItems
import KE.KDictList
import PyProof.Rows.SortKeyStr
import PyProof.NeKinds
import PySem.Challenge.RW_heedwise_k84_rows_told
theorem wB {p : Prop} (h : p := by first | exact Or.inl rfl | exact Or.inr (Or.inl rfl) | exact Or.inr (Or.inr rfl) | assumption) : p := h
theorem wC {p : Prop} (h : p := by first | decide | omega) : p := h
theorem wD {p : Prop} (h : p := by decide +kernel) : p := h
theorem wE {p : Prop} (h : p := by decide) : p := h
theorem wF {p : Prop} (h : p := by omega) : p := h
set_option Elab.async false
set_option linter.all false
set_option maxRecDepth 100000
namespace L2
open PySem PySem.Spec PyProof.Rows
abbrev Ak:=Sum Int Str
def F0:Ak->Value->Bool
 | .inl k,v=>Value.isInt k v
 | .inr x,v=>Value.isStrOf x v
def WU (w:World):Ak->Int
 | .inl k=>hashInt k
 | .inr x=>hashStr w x
theorem DS:∀ {k:Ak} {v:Value},F0 k v=true->(∃ i t,k=Sum.inl i/\v=Value.int i t)\/(∃ x t,k=Sum.inr x/\v=Value.str x t)
 | .inl i,v,h=>by
  obtain ⟨t,e⟩:=Value.isInt_shape (k:=i) (v:=v) h
  exact .inl ⟨i,t,rfl,e⟩
 | .inr x,v,h=>by
  obtain ⟨t,e⟩:=Value.isStrOf_shape (x:=x) (v:=v) h
  exact .inr ⟨x,t,rfl,e⟩
theorem WT (i:Int) (t:Tok):F0 (.inl i) (.int i t)=true:=by simp [F0,Value.isInt]
theorem WS (x:Str) (t:Tok):F0 (.inr x) (.str x t)=true:=by simp [F0,Value.isStrOf]
theorem WR (a b:Int):decide ((Sum.inl a:Ak)=Sum.inl b)=(a==b):=by
 by_cases e:a=b
 ·subst e; simp
 ·have h:¬ (Sum.inl a:Ak)=Sum.inl b:=λq=>e (Sum.inl.inj q)
  rw [decide_eq_false h]
  exact (beq_eq_false_iff_ne.mpr e).symm
theorem WO (a b:Str):decide ((Sum.inr a:Ak)=Sum.inr b)=decide (a=b):=by
 by_cases e:a=b
 ·subst e; simp
 ·have h:¬ (Sum.inr a:Ak)=Sum.inr b:=λq=>e (Sum.inr.inj q)
  rw [decide_eq_false h,decide_eq_false e]
theorem WQ (a:Int) (b:Str):decide ((Sum.inl a:Ak)=Sum.inr b)=false:=decide_eq_false (λq=>nomatch q)
theorem WP (a:Str) (b:Int):decide ((Sum.inr a:Ak)=Sum.inl b)=false:=decide_eq_false (λq=>nomatch q)
def Ba (prog:Program) (w:World):PySem.KeyKind prog w Ak where
 is:=F0
 hash:=WU w
 inj:=λv a b ha hb=>by
  rcases DS ha with ⟨i,t,rfl,rfl⟩ | ⟨x,t,rfl,rfl⟩
  ·rcases DS hb with ⟨j,u,rfl,e⟩ | ⟨y,u,rfl,e⟩
   ·injection e with e1 _; rw [e1]
   ·exact nomatch e
  ·rcases DS hb with ⟨j,u,rfl,e⟩ | ⟨y,u,rfl,e⟩
   ·exact nomatch e
   ·injection e with e1 _; rw [e1]
 byValue:=λk v h=>by
  rcases DS h with ⟨i,t,rfl,rfl⟩ | ⟨x,t,rfl,rfl⟩ <;> rfl
 pyHash:=λhv h=>by
  rcases DS hv with ⟨i,t,rfl,rfl⟩ | ⟨x,t,rfl,rfl⟩
  ·exact wpAny_pyHash_int h
  ·exact wpAny_pyHash_str h
 eqBool:=λhu hv h=>by
  rcases DS hu with ⟨i,t,rfl,rfl⟩ | ⟨x,t,rfl,rfl⟩
  ·rcases DS hv with ⟨j,u,rfl,rfl⟩ | ⟨y,u,rfl,rfl⟩
   ·rw [WR] at h; exact wpAny_eqBool_int h
   ·rw [WQ] at h; exact SeqAt.EqAt.int_str i t y u _ _ _ _ h
  ·rcases DS hv with ⟨j,u,rfl,rfl⟩ | ⟨y,u,rfl,rfl⟩
   ·rw [WP] at h; exact SeqAt.EqAt.str_int x t j u _ _ _ _ h
   ·rw [WO] at h; exact wpAny_eqBool_str h
 «strs»:=λk x t v h=>by
  rcases DS h with ⟨i,u,rfl,e⟩ | ⟨y,u,rfl,e⟩
  ·exact nomatch e
  ·injection e with e1 _
   subst e1
   cases v <;> rfl
theorem Wv (prog:Program) (w:World) (i:Int) (t:Tok):(Ba prog w).is (.inl i) (.int i t)=true:=WT i t
theorem Wu (prog:Program) (w:World) (x:Str) (t:Tok):(Ba prog w).is (.inr x) (.str x t)=true:=WS x t
end L2
namespace L2
open PySem PySem.Spec PyProof.Rows
inductive V where
 | non | bl (b:Bool) | int (i:Int) | str (x:Str) | byt (b:Array UInt8) | flt (b:UInt64) | ref (a:Addr) | ty (n:String)
 deriving DecidableEq
def Aw:V->Value->Prop
 | .non,u=>u=Value.none
 | .bl b,u=>u=Value.bool b
 | .int i,u=>∃ t,u=Value.int i t
 | .str x,u=>∃ t,u=Value.str x t
 | .byt b,u=>∃ t,u=Value.bytes b t
 | .flt b,u=>∃ t,u=Value.float b t
 | .ref a,u=>u=Value.ref a
 | .ty n,u=>u=Value.type n
abbrev Aq:List V->List Value->Prop:=Paired Aw
theorem Aq.length {xs:List V} {us:List Value} (r:Aq xs us):xs.length=us.length:=Paired.length r
theorem Aq.get:∀ {xs:List V} {us:List Value} {i:Nat} {x:V},Aq xs us->xs[i]?=some x->∃ u,us[i]?=some u/\Aw x u
 | _,_,_,_,.nil,e=>by simp at e
 | _,_,0,_,.cons r _,e=>by simp at e; subst e; exact ⟨_,rfl,r⟩
 | _,_,i+1,x,.cons _ t,e=>by
  obtain ⟨u,h1,h2⟩:=Aq.get (i:=i) (x:=x) t (by simpa using e)
  exact ⟨u,by simpa using h1,h2⟩
theorem Aq.append:∀ {xs ys:List V} {us ws:List Value},Aq xs us->Aq ys ws->Aq (xs++ys) (us++ws)
 | _,_,_,_,.nil,s=>s
 | _,_,_,_,.cons r t,s=>.cons r (Aq.append t s)
theorem Aq.take:∀ {xs:List V} {us:List Value} (n:Nat),Aq xs us->Aq (xs.take n) (us.take n)
 | _,_,0,_=>.nil
 | _,_,_+1,.nil=>.nil
 | _,_,n+1,.cons r t=>.cons r (Aq.take n t)
theorem Aq.drop:∀ {xs:List V} {us:List Value} (n:Nat),Aq xs us->Aq (xs.drop n) (us.drop n)
 | _,_,0,r=>r
 | _,_,_+1,.nil=>.nil
 | _,_,n+1,.cons _ t=>Aq.drop n t
theorem Aq.none_of:∀ {xs:List V} {us:List Value} {i:Nat},Aq xs us->xs[i]?=none->us[i]?=none:=λ{xs us i} r e=>by
 have h1:=r.length
 have h2:xs.length<=i:=List.getElem?_eq_none_iff.mp e
 exact List.getElem?_eq_none_iff.mpr wF
def BX:Option V->Option Value->Prop
 | some v,some u=>Aw v u
 | none,none=>True
 | _,_=>False
def KV {κ:Type}:List (κ×V)->List (κ×Value)->Prop:=Paired λ(p:κ×V) (q:κ×Value)=>p.1=q.1/\Aw p.2 q.2
def kV:Ak->V
 | .inl i=>.int i
 | .inr x=>.str x
inductive HO where
 | lst (xs:List V)
 | tup (xs:List V)
 | dK (kvs:List (Ak×V)) | dT (kvs:List (List Ak×V))
 | set (S:Int->Bool) (n:Nat)
 | ins (C dx:Addr) (fs:List (Str×V))
 | own (x:Addr)
 | xd (fs:List (Str×V))
 | met (f x:Addr)
 | rng (lo hi:Int)
 | frz (o:Obj) (u:HO)
 | tbl (ps:Array Value)
 | ext (φ:Heap->Prop)
abbrev Hp:=Addr->Option HO
def An (H:Hp) (a:Addr) (o:HO):Hp:=λb=>if b=a then some o else H b
theorem AJ {H:Hp} {a:Addr} {o:HO}:An H a o a=some o:=by unfold An; rw [if_pos rfl]
theorem As {H:Hp} {a b:Addr} {o:HO} (h:b≠a):An H a o b=H b:=by unfold An; rw [if_neg h]
theorem RP {H:Hp} {a:Addr} {o u:HO}:An (An H a o) a u=An H a u:=by
 funext b; unfold An; split <;> rfl
theorem Wk {H:Hp} {a b:Addr} {o u:HO} (h:H a=some o) (h':H b=some u) (d:o≠u):a≠b:=by
 intro e; subst e; rw [h] at h'; exact d (Option.some.inj h')
theorem BO {H:Hp} {a b:Addr} {o:HO} (h:H a=some o) (h':H b=none):a≠b:=by
 intro e; subst e; rw [h] at h'; cases h'
def En (h:Heap) (a:Addr) (items:Array Value):Prop:=∃ o,h.get? a=some o/\o.dict=none/\o.cls=.type "tuple" /\ ∃ n,o.data=.seq items n
theorem En.t {h:Heap} {a:Addr} {items:Array Value} (x:En h a items):IsTup h a items:=let ⟨o,e,_,r⟩:=x; ⟨o,e,r⟩
theorem En.new (h:Heap) (items:Array Value):En (h.push { cls:=.type "tuple",data:=.seq items }) h.objs.size items:=⟨_,Heap.get?_push_size _ rfl,rfl,rfl,_,rfl⟩
section
variable (P:Program) (w:World)
def Bn (H:Hp) (h:Heap) (a:Addr):HO->Prop
 | .lst xs=>xs.length<=sizeLine/\∃ (its:List Value) (n:Nat),Aq xs its/\h.get? a=some { cls:=.type "list",data:=.seq its.toArray n }
 | .tup xs=>xs.length<=sizeLine/\∃ its:List Value,Aq xs its/\En h a its.toArray
 | .dK kvs=>kvs.length<=sizeLine/\(a==sysModules)=false/\∃ vs,KV kvs vs/\h.DictOf (Ba P w) a vs
 | .dT kvs=>kvs.length<=sizeLine/\(a==sysModules)=false/\∃ xs:List (List Ak×Addr×Value),
   Paired (λ(p:List Ak×V) (q:List Ak×Addr×Value)=>p.1=q.1/\H q.2.1=some (.tup (p.1.map kV))/\Aw p.2 q.2.2) kvs xs /\
   ∃ o es ep,h.get? a=some o/\o.ExactDict/\o.data=.dict es ep/\es.toList=xs.map (entryOfKey (tupleKind (Ba P w)))/\(xs.map (·.1)).Nodup
 | .set S n=>h.SetOf (intKind P w) a S n
 | .ins C dx fs=>H dx=some (.own a)/\fs.length<=1000/\dx≠a/\h.get? a=some (PySem.W.instObj C dx) /\
   ∃ mA,h.Ns1 dx mA/\(∀ f,BX (fs.lookup f) (mA f))/\PySem.Within mA (fs.map (·.1))
 | .own _=>∃ o,h.get? a=some o
 | .xd fs=>∃ mA,h.Ns1 a mA/\∀ f,BX (fs.lookup f) (mA f)
 | .rng lo hi=>∃ t u v,h.get? a=some { cls:=.type "range",data:=.fields #[.int lo t,.int hi u,.int 1 v] }
 | .frz o u=>h.get? a=some o/\Bn H h a u
 | .tbl ps=>h.get? a=some { cls:=.none,data:=.fields ps }
 | .met f x=>h.get? a=some (PySem.W.methodObj (.ref f) (.ref x))
 | .ext φ=>φ h/\(∃ o,h.get? a=some o)/\∀ h1 h2:Heap,φ h1->(∀ o,h1.get? a=some o->h2.get? a=some o)->φ h2
def A3 (H:Hp) (h:Heap):Prop:=∀ a o,H a=some o->Bn P w H h a o
end
section
variable {P:Program} {w:World} {H H':Hp} {h h':Heap} {a:Addr} {o:HO}
theorem Bn.lt (x:Bn P w H h a o):a<h.objs.size:=by
 cases o with
 | lst xs=>obtain ⟨_,_,_,_,e⟩:=x; exact Heap.lt_size e
 | tup xs=>obtain ⟨_,_,_,p⟩:=x; exact p.t.lt
 | dK kvs=>obtain ⟨_,_,_,_,o,_,_,e,_⟩:=x; exact Heap.lt_size e
 | dT kvs=>obtain ⟨_,_,_,_,o,_,_,e,_⟩:=x; exact Heap.lt_size e
 | set S n=>obtain ⟨o,_,_,_,e,_⟩:=x; exact Heap.lt_size e
 | ins C dx fs=>obtain ⟨_,_,_,e,_⟩:=x; exact Heap.lt_size e
 | own y=>obtain ⟨_,e⟩:=x; exact Heap.lt_size e
 | xd fs=>obtain ⟨_,⟨_,_,_,e,_⟩,_⟩:=x; exact Heap.lt_size e
 | rng lo hi=>obtain ⟨_,_,_,e⟩:=x; exact Heap.lt_size e
 | frz ob u=>obtain ⟨e,_⟩:=x; exact Heap.lt_size e
 | tbl ps=>exact Heap.lt_size (show h.get? a=some _ from x)
 | met f y=>exact Heap.lt_size (show h.get? a=some _ from x)
 | ext φ=>obtain ⟨_,⟨_,e⟩,_⟩:=x; exact Heap.lt_size e
theorem Paired.mapP {α β:Type} {F G:α->β->Prop}:∀ {l₁:List α} {l₂:List β},Paired F l₁ l₂->(∀ a b,F a b->G a b)->Paired G l₁ l₂
 | _,_,.nil,_=>.nil
 | _,_,.cons r t,f=>.cons (f _ _ r) (Paired.mapP t f)
theorem Bn.stay (x:Bn P w H h a o) (k:∀ b u,(b=a\/H b=some (.own a))->h.get? b=some u->h'.get? b=some u)
  (ho:∀ b,H b=some (.own a)->H' b=some (.own a)) (ht:∀ b xs,H b=some (.tup xs)->H' b=some (.tup xs)):Bn P w H' h' a o:=by
 induction o with
 | lst xs=>obtain ⟨z,its,n,r,e⟩:=x; exact ⟨z,its,n,r,k _ _ (.inl rfl) e⟩
 | tup xs=>obtain ⟨z,its,r,ob,e,c⟩:=x; exact ⟨z,its,r,ob,k _ _ (.inl rfl) e,c⟩
 | dK kvs=>obtain ⟨z,y,vs,r,ob,es,ep,e,c⟩:=x; exact ⟨z,y,vs,r,ob,es,ep,k _ _ (.inl rfl) e,c⟩
 | dT kvs=>
  obtain ⟨z,y,xs,r,ob,es,ep,e,c⟩:=x
  exact ⟨z,y,xs,Paired.mapP r λp q z=>⟨z.1,ht _ _ z.2.1,z.2.2⟩,ob,es,ep,k _ _ (.inl rfl) e,c⟩
 | set S n=>obtain ⟨ob,es,ep,t,e,c⟩:=x; exact ⟨ob,es,ep,t,k _ _ (.inl rfl) e,c⟩
 | ins C dx fs=>
  obtain ⟨d,z,ne,e,mA,⟨od,es,ep,e2,c⟩,r⟩:=x
  exact ⟨ho _ d,z,ne,k _ _ (.inl rfl) e,mA,⟨od,es,ep,k _ _ (.inr d) e2,c⟩,r⟩
 | own y=>obtain ⟨ob,e⟩:=x; exact ⟨ob,k _ _ (.inl rfl) e⟩
 | xd fs=>obtain ⟨mA,⟨od,es,ep,e,c⟩,r⟩:=x; exact ⟨mA,⟨od,es,ep,k _ _ (.inl rfl) e,c⟩,r⟩
 | rng lo hi=>obtain ⟨t,u,v,e⟩:=x; exact ⟨t,u,v,k _ _ (.inl rfl) e⟩
 | frz ob u ih=>obtain ⟨e,q⟩:=x; exact ⟨k _ _ (.inl rfl) e,ih q⟩
 | tbl ps=>
  have e:h.get? a=some { cls:=.none,data:=.fields ps }:=x
  show h'.get? a=some { cls:=.none,data:=.fields ps }
  exact k a _ (.inl rfl) e
 | met f y=>
  have e:h.get? a=some (PySem.W.methodObj (.ref f) (.ref y)):=x
  show h'.get? a=some (PySem.W.methodObj (.ref f) (.ref y))
  exact k a _ (.inl rfl) e
 | ext φ=>obtain ⟨p,⟨o,e⟩,st⟩:=x; exact ⟨st _ _ p λo q=>k _ _ (.inl rfl) q,⟨o,k _ _ (.inl rfl) e⟩,st⟩
theorem A3.lt (x:A3 P w H h) (e:H a=some o):a<h.objs.size:=(x a o e).lt
theorem A3.fresh (x:A3 P w H h) (e:h.objs.size<=a):H a=none:=by
 cases q:H a with
 | none=>rfl
 | some u=>exact absurd (Nat.lt_of_lt_of_le (x.lt q) e) (Nat.lt_irrefl _)
theorem A3.kept (x:A3 P w H h) (k:∀ b u,h.get? b=some u->h'.get? b=some u):A3 P w H h':=λa o e=>
 (x a o e).stay (λb u _ q=>k b u q) (λ_ q=>q) λ_ _ q=>q
theorem A3.laid (x:A3 P w H h) (k:∀ b u,h.get? b=some u->h'.get? b=some u) (hp:h.objs.size<=a) (new:Bn P w (An H a o) h' a o):A3 P w (An H a o) h':=λb u e=>by
 have hn:=x.fresh hp
 by_cases hb:b=a
 ·subst hb; rw [AJ] at e; cases e; exact new
 ·rw [As hb] at e
  exact (x b u e).stay (λc v _ q=>k c v q) (λc q=>by rw [As (BO q hn)]; exact q) λc xs q=>by rw [As (BO q hn)]; exact q
end
def Rd (H:Hp) (a:Addr) (u:HO):Prop:=H a=some u\/∃ o,H a=some (.frz o u)
theorem Rd.ok {P:Program} {w:World} {H:Hp} {h:Heap} {a:Addr} {u:HO} (r:Rd H a u) (x:A3 P w H h):Bn P w H h a u:=by
 rcases r with r | ⟨o,r⟩
 ·exact x a u r
 ·obtain ⟨_,q⟩:=x a _ r
  exact q
def Hn:Option HO->Prop
 | some (.lst _)=>True
 | some (.dK _)=>True
 | some (.dT _)=>True
 | some (.set _ _)=>True
 | some (.ins _ _ _)=>True
 | some (.ext _)=>True
 | _=>False
section
variable {P:Program} {w:World} {H:Hp} {h h':Heap} {x e:Addr} {o':HO}
theorem A3.write (ok:A3 P w H h) (mu:Hn (H x)) (he:e=x\/H e=some (.own x)) (k:∀ b u,b≠e->h.get? b=some u->h'.get? b=some u) (heo:∃ u,h'.get? e=some u)
  (new:Bn P w (An H x o') h' x o'):A3 P w (An H x o') h':=λb u q=>by
 have nown:∀ c y,H c=some (.own y)->c≠x:=λc y r z=>by subst z; rw [r] at mu; exact mu
 have ntup:∀ c xs,H c=some (.tup xs)->c≠x:=λc xs r z=>by subst z; rw [r] at mu; exact mu
 by_cases hb:b=x
 ·subst hb; rw [AJ] at q; cases q; exact new
 ·rw [As hb] at q
  by_cases hbe:b=e
  ·have q':H b=some (.own x):=by
    rcases he with z | z
    ·exact absurd (hbe.trans z) hb
    ·rw [hbe]; exact z
   rw [q] at q'; cases q'
   obtain ⟨v,hv⟩:=heo
   exact ⟨v,by rw [hbe]; exact hv⟩
  ·refine (ok b u q).stay (λc v hc r=>k c v ?_ r) (λc r=>by rw [As (nown c b r)]; exact r) λc xs r=>by rw [As (ntup c xs r)]; exact r
   rcases hc with rfl | hc
   ·exact hbe
   ·rintro rfl
    rcases he with z | z
    ·exact nown c b hc z
    ·rw [hc] at z; cases z; exact hb rfl
end
structure Un (fs ex:List Addr) (H H':Hp) (h h':Heap):Prop where
 keep:∀ b o,h.get? b=some o->H b=none->b∉fs->b∉ex->h'.get? b=some o
 slot:∀ b o,h.get? b=some o->H b=none->b∈fs->b∉ex->∃ sl,h'.get? b=some { o with slots:=sl }
 free:∀ b o,h.get? b=some o->H b=none->b∉ex->H' b=none
 there:∀ b o,h.get? b=some o->b∉ex->∃ o',h'.get? b=some o'
 tups:∀ b xs,H b=some (.tup xs)->H' b=some (.tup xs)
 frzs:∀ b o u,H b=some (.frz o u)->H' b=some (.frz o u)
 tbls:∀ b ps,H b=some (.tbl ps)->∃ more,H' b=some (.tbl (ps++more))
section
variable {fs fs' ex ex':List Addr} {H H1 H2:Hp} {h h1 h2 h':Heap} {a x e:Addr} {o:HO}
theorem Un.any (u:Un fs ex H H1 h h1) {b:Addr} {ob:Obj} (q:h.get? b=some ob) (n:H b=none) (hx:b∉ex):∃ sl,h1.get? b=some { ob with slots:=sl }:=by
 by_cases hb:b∈fs
 ·exact u.slot b ob q n hb hx
 ·exact ⟨ob.slots,u.keep b ob q n hb hx⟩
theorem Un.kept (k:∀ b u,h.get? b=some u->h'.get? b=some u):Un fs ex H H h h':=
 ⟨λb ob q _ _ _=>k b ob q,λb ob q _ _ _=>⟨ob.slots,k b ob q⟩,λ_ _ _ n _=>n,λb ob q _=>⟨ob,k b ob q⟩,λ_ _ q=>q,λ_ _ _ q=>q,λ_ ps q=>⟨#[],by rw [q]; simp⟩⟩
theorem Un.refl:Un fs ex H H h h:=Un.kept λ_ _ q=>q
theorem Un.laid (k:∀ b u,h.get? b=some u->h'.get? b=some u) (hp:h.objs.size<=a) (hn:H a=none):Un fs ex H (An H a o) h h' where
 keep:=λb u q _ _ _=>k b u q
 slot:=λb u q _ _ _=>⟨u.slots,k b u q⟩
 free:=λb u q n _=>by rw [As (Nat.ne_of_lt (Nat.lt_of_lt_of_le (Heap.lt_size q) hp))]; exact n
 there:=λb u q _=>⟨u,k b u q⟩
 tups:=λb xs q=>by rw [As (BO q hn)]; exact q
 frzs:=λb u xs q=>by rw [As (BO q hn)]; exact q
 tbls:=λb ps q=>⟨#[],by rw [As (BO q hn),q]; simp⟩
theorem Un.write (mu:Hn (H x)) (he:e=x\/H e=some (.own x)) (k:∀ b u,b≠e->h.get? b=some u->h'.get? b=some u) (heo:∃ u,h'.get? e=some u):Un fs ex H (An H x o) h h':=by
 have hx:∀ b,H b=none->b≠x:=λb n z=>by subst z; rw [n] at mu; exact mu
 have hb:∀ b,H b=none->b≠e:=λb n z=>by
  subst z
  rcases he with r | r
  ·exact hx b n r
  ·rw [n] at r; cases r
 have hm:∀ b u,H b=some u->¬ Hn (some u)->b≠x:=λb u q nm z=>by subst z; rw [q] at mu; exact nm mu
 refine ⟨λb u q n _ _=>k b u (hb b n) q,λb u q n _ _=>⟨u.slots,k b u (hb b n) q⟩,λb u q n _=>by rw [As (hx b n)]; exact n,λb u q _=>?_,
  λb xs q=>by rw [As (hm b _ q λz=>z)]; exact q,λb u xs q=>by rw [As (hm b _ q λz=>z)]; exact q,λb ps q=>⟨#[],by rw [As (hm b _ q λz=>z),q]; simp⟩⟩
 by_cases hbe:b=e
 ·subst hbe; exact heo
 ·exact ⟨u,k b u hbe q⟩
end
def trk (h:Heap) (H:Hp):List Addr:=(List.range h.objs.size).filter λa=>(H a).isSome
def Ef (h:Heap) (H:Hp):Heap:=PySem.W.hideAll h (trk h H)
theorem Xr (h:Heap) (H:Hp):(Ef h H).objs.size=h.objs.size:=PySem.W.hideAll_size _ _
theorem Xs {h:Heap} {H:Hp} {b:Addr} {o:Obj} (e:h.get? b=some o) (n:H b=none):(Ef h H).get? b=some o:=
 PySem.W.hideAll_get _ e λhm=>by
  have q:(H b).isSome=true:=(List.mem_filter.mp hm).2
  rw [n] at q; simp at q
theorem V5 {h:Heap} {H:Hp} {b:Addr} {o:Obj} (e:(Ef h H).get? b=some o):h.get? b=some o/\H b=none:=by
 have e':h.get? b=some o:=PySem.W.of_hideAll (trk h H) e
 refine ⟨e',?_⟩
 cases q:H b with
 | none=>rfl
 | some x=>
  have hm:b∈trk h H:=List.mem_filter.mpr ⟨List.mem_range.mpr (Heap.lt_size e'),by simp [q]⟩
  have z:(Ef h H).get? b=none:=PySem.W.hideAll_none (trk h H) hm
  rw [z] at e; cases e
def ZG (g h:Heap) (L:Addr):List (Addr×Obj):=(List.range h.objs.size).filterMap λa=>if a=L\/(g.get? a).isSome=true then none else (h.get? a).map λo=>(a,o)
def AK (g h:Heap) (L d:Addr):List (Addr×Obj):=(ZG g h L).filter λp=>decide (p.1≠d)
end L2
namespace L2
open PySem PySem.Spec PyProof.Rows
structure Mod (K:PySem.W.Frag) (mg:Str->Option Value) (base:Heap):Prop where
 kin:K.In base
 glob:base.Ns mainGlobals mg
 blt:∃ mb,base.Ns builtinsNs mb/\∀ x:Str,x ≠ "__name__" -> mb x=bootBuiltins x
 nolimit:base.NoLimit
structure Cx where
 prog:Program
 w:World
 K:PySem.W.Frag
 mg:Str->Option Value
 base:Heap
 A:Around
 N:List Str
 s₀:Shared
 H₀:Hp
 env:Env
 outer:List Env
 stack:List Env
 ex:List Addr
 fn:Str->Bool
 calm:Bool
 pn:List (Addr×Obj)
 xe:Value->Shared->Prop
def AV (l:List Env):List Addr:=l.filterMap (·.frame)
abbrev Cx.fs (X:Cx):List Addr:=AV X.outer
def Dl (sc:Scope) (x:Str):Prop:=sc.names.lookup x=some .local\/sc.names.lookup x=some .cell\/sc.names.lookup x=some .free
def Fz (sc:Scope) (x:Str):Prop:=sc.names.lookup x=some .local\/sc.names.lookup x=some .cell
def Look (env:Env) (h:Heap) (m:Str->Option Value) (x:Str) (u:Value):Prop:=
 (env.kindOf x=some .local/\m x=some u)\/((env.kindOf x=some .cell\/env.kindOf x=some .free)/\∃ c,env.cells.lookup x=some c/\h.IsCell c (some u))
structure Cx.Ok (X:Cx):Prop where
 mod:Mod X.K X.mg X.base
 kind:X.env.scope.kind=.function
 glob:X.env.globals=mainGlobals
 blt:X.env.builtins=builtinsNs
 above:X.s₀.heap.objs.size<=X.env.locals
 inj:∀ x y c,X.env.cells.lookup x=some c->X.env.cells.lookup y=some c->x=y
 has:∀ x,(X.env.kindOf x=some .cell\/X.env.kindOf x=some .free)->∃ c,X.env.cells.lookup x=some c
 cab:∀ x c,X.fn x=true->X.env.cells.lookup x=some c->X.s₀.heap.objs.size<=c
 hd:X.calm=true->X.A.handled=none
 frames:X.A.frames=some X.stack
 stk:X.stack=X.outer\/(X.stack=X.env::X.outer/\X.env.frame=some X.env.locals)
 exf:∀ b∈X.ex,b≠X.env.locals/\∀ x c,X.env.cells.lookup x=some c->c≠b
 bs:∀ b o,X.base.get? b=some o->X.s₀.heap.get? b=some o/\X.H₀ b=none
 bsz:X.base.objs.size<=X.s₀.heap.objs.size
 noex:∀ b o,X.base.get? b=some o->b∉X.ex
 exfs:∀ b∈X.ex,b∉X.fs
 funs:X.s₀.heap.FunFrames X.base X.outer
 frf:∀ b∈X.fs,X.H₀ b=none
structure Inv (X:Cx) (pins:List (Addr×Obj)) (σ:List (Option V)) (H:Hp) (s:Shared):Prop where
 ok:X.Ok
 os:s.os=X.s₀.os
 bare:AllBare s.gens
 base:Un X.fs X.ex X.H₀ H X.s₀.heap s.heap
 loc:∃ m,s.heap.Ns X.env.locals m/\∀ (i:Nat) (x:Str) (v:V),X.N[i]?=some x->σ[i]?=some (some v)->Dl X.env.scope x->∃ u,Aw v u/\Look X.env s.heap m x u
 cell:∀ x c,X.env.cells.lookup x=some c->∃ v,s.heap.IsCell c v
 free:H X.env.locals=none
 freeC:∀ x c,X.env.cells.lookup x=some c->H c=none
 pin:∀ p∈X.pn++pins,s.heap.get? p.1=some p.2/\H p.1=none/\p.1≠X.env.locals/\p.1∉X.fs/\∀ v,p.2.data≠.cell v
 hok:A3 X.prog X.w H s.heap
 len:σ.length=X.N.length
section
variable {X:Cx} {pins:List (Addr×Obj)} {σ:List (Option V)} {H H':Hp} {s:Shared} {h':Heap}
theorem Cx.Ok.nofr (ok:X.Ok) {b:Addr} {o:Obj} (e:X.base.get? b=some o):b∉X.fs:=λhb=>by
 have:=(ok.funs.mem hb).1
 rw [e] at this; cases this
theorem Inv.bs (I:Inv X pins σ H s):∀ b o,X.base.get? b=some o->s.heap.get? b=some o/\H b=none:=λb o e=>
 ⟨I.base.keep b o (I.ok.bs b o e).1 (I.ok.bs b o e).2 (I.ok.nofr e) (I.ok.noex b o e),I.base.free b o (I.ok.bs b o e).1 (I.ok.bs b o e).2 (I.ok.noex b o e)⟩
theorem Inv.bk (I:Inv X pins σ H s):∀ b o,X.base.get? b=some o->s.heap.get? b=some o:=λb o e=>(I.bs b o e).1
theorem Inv.mod (I:Inv X pins σ H s):Mod X.K X.mg X.base:=I.ok.mod
theorem Inv.kIn (I:Inv X pins σ H s):X.K.In s.heap:=I.ok.mod.kin.keeps I.bk
theorem Inv.lt (I:Inv X pins σ H s):X.env.locals<s.heap.objs.size:=let ⟨_,hn,_⟩:=I.loc; hn.lt
theorem Inv.sz (I:Inv X pins σ H s):X.s₀.heap.objs.size<=s.heap.objs.size:=Nat.le_trans I.ok.above (Nat.le_of_lt I.lt)
theorem Inv.nofs (I:Inv X pins σ H s) {a:Addr} (h:s.heap.objs.size<=a):a∉X.fs:=λhb=>by
 obtain ⟨_,o,ho,_⟩:=I.ok.funs.mem hb
 exact absurd (Nat.lt_of_lt_of_le (Heap.lt_size ho) (Nat.le_trans I.sz h)) (Nat.lt_irrefl _)
theorem Inv.cne (I:Inv X pins σ H s):∀ x c,X.env.cells.lookup x=some c->c≠X.env.locals:=λx c e z=>by
 obtain ⟨v,o,ho,hd⟩:=I.cell x c e
 obtain ⟨m,⟨o',es,ep,ho',hd',_⟩,_⟩:=I.loc
 rw [z,ho'] at ho; cases ho; rw [hd'] at hd; cases hd
theorem Inv.funs (I:Inv X pins σ H s):s.heap.FunFrames X.base X.outer:=by
 have all:∀ (l:List Env),(∀ b∈AV l,b∈X.fs)->X.s₀.heap.FunFrames X.base l->s.heap.FunFrames X.base l:=by
  intro l
  induction l with
  | nil=>intro _ _; trivial
  | cons env r ih=>
   intro hs hl
   obtain ⟨hk,⟨L,o,hf,hn,ho,hd⟩,hr⟩:=hl
   have hL:L∈X.fs:=hs L (by unfold AV; rw [List.filterMap_cons,hf]; exact List.mem_cons_self)
   obtain ⟨sl,e⟩:=I.base.slot L o ho (I.ok.frf L hL) hL λz=>I.ok.exfs L z hL
   exact ⟨hk,⟨L,_,hf,hn,e,hd⟩,ih (λb hb=>hs b (by unfold AV; rw [List.filterMap_cons,hf]; exact List.mem_cons_of_mem _ hb)) hr⟩
 exact all X.outer (λ_ hb=>hb) I.ok.funs
theorem Inv.stack (I:Inv X pins σ H s):s.heap.FunFrames X.base X.stack:=by
 rcases I.ok.stk with e | ⟨e,hf⟩
 ·rw [e]; exact I.funs
 ·rw [e]
  obtain ⟨m,hn,_⟩:=I.loc
  refine .cons (by rw [I.ok.kind]; decide) hf hn ?_ I.funs
  exact Heap.get?_none_of_le (Nat.le_trans I.ok.bsz I.ok.above)
theorem Inv.stkSub (I:Inv X pins σ H s):∀ b∈AV X.stack,b∈X.env.locals::X.fs:=λb hb=>by
 rcases I.ok.stk with e | ⟨e,hf⟩
 ·rw [e] at hb; exact List.mem_cons_of_mem _ hb
 ·rw [e] at hb
  unfold AV at hb
  rw [List.filterMap_cons,hf] at hb
  exact hb
theorem Inv.stkFree (I:Inv X pins σ H s):∀ b∈AV X.stack,H b=none:=λb hb=>by
 rcases List.mem_cons.mp (I.stkSub b hb) with e | hb
 ·rw [e]; exact I.free
 ·obtain ⟨_,o,ho,_⟩:=I.ok.funs.mem hb
  exact I.base.free b o ho (I.ok.frf b hb) λz=>I.ok.exfs b z hb
theorem Inv.step {g':Array GenState} {t':Nat} {d':Drawn} {ch:List Addr} (I:Inv X pins σ H s)
  (hch:∀ b∈ch,(b∈X.ex\/X.s₀.heap.objs.size<=b)/\b≠X.env.locals/\(∀ x c,X.env.cells.lookup x=some c->c≠b)/\∀ p∈X.pn++pins,p.1≠b)
  (keep:∀ b o,b≠X.env.locals->b∉X.fs->b∉ch->s.heap.get? b=some o->H b=none->h'.get? b=some o)
  (slot:∀ b o,b≠X.env.locals->b∈X.fs->b∉ch->s.heap.get? b=some o->H b=none->∃ sl,h'.get? b=some { o with slots:=sl }) (free:∀ b o,b∉ch->s.heap.get? b=some o->H b=none->H' b=none)
  (there:∀ b o,b∉ch->s.heap.get? b=some o->∃ o',h'.get? b=some o')
  (tups:∀ b xs,H b=some (.tup xs)->H' b=some (.tup xs)) (frzs:∀ b o u,H b=some (.frz o u)->H' b=some (.frz o u)) (tbls:∀ b ps,H b=some (.tbl ps)->∃ more,H' b=some (.tbl (ps++more)))
  (ns:∀ m,s.heap.Ns X.env.locals m->h'.Ns X.env.locals m) (hok:A3 X.prog X.w H' h') (hg:AllBare g') :
  Inv X pins σ H' { s with heap:=h',gens:=g',drawn:=d',toks:=t' }:=by
 have neL:∀ b o,X.s₀.heap.get? b=some o->b≠X.env.locals:=λb o e=>Nat.ne_of_lt (Nat.lt_of_lt_of_le (Heap.lt_size e) I.ok.above)
 have neC:∀ b o,X.s₀.heap.get? b=some o->b∉X.ex->b∉ch:=λb o e hx hb=>by
  rcases (hch b hb).1 with z | z
  ·exact hx z
  ·exact absurd (Nat.lt_of_lt_of_le (Heap.lt_size e) z) (Nat.lt_irrefl _)
 have cellK:∀ x c,X.env.cells.lookup x=some c->∀ v,s.heap.IsCell c v->h'.IsCell c v:=λx c e v ⟨o,ho,hd⟩=>by
  have nch:c∉ch:=λz=>(hch c z).2.2.1 x c e rfl
  by_cases hc:c∈X.fs
  ·obtain ⟨sl,q⟩:=slot c o (I.cne x c e) hc nch ho (I.freeC x c e)
   exact ⟨_,q,hd⟩
  ·exact ⟨o,keep c o (I.cne x c e) hc nch ho (I.freeC x c e),hd⟩
 refine ⟨I.ok,I.os,hg,⟨λb o e n hb hx=>?_,λb o e n hb hx=>?_,λb o e n hx=>?_,λb o e hx=>?_,λb xs e=>tups b xs (I.base.tups b xs e),λb o xs e=>frzs b o xs (I.base.frzs b o xs e),λb ps e=>?_⟩,?_,λx c e=>?_,?_,λx c e=>?_,λp hp=>?_,hok,I.len⟩
 ·exact keep b o (neL b o e) hb (neC b o e hx) (I.base.keep b o e n hb hx) (I.base.free b o e n hx)
 ·obtain ⟨sl,e1⟩:=I.base.slot b o e n hb hx
  obtain ⟨sl',e2⟩:=slot b _ (neL b o e) hb (neC b o e hx) e1 (I.base.free b o e n hx)
  exact ⟨sl',e2⟩
 ·obtain ⟨o',e1⟩:=I.base.there b o e hx
  exact free b o' (neC b o e hx) e1 (I.base.free b o e n hx)
 ·obtain ⟨o',e1⟩:=I.base.there b o e hx
  exact there b o' (neC b o e hx) e1
 ·obtain ⟨m1,e1⟩:=I.base.tbls b ps e
  obtain ⟨m2,e2⟩:=tbls b _ e1
  exact ⟨m1++m2,by rw [e2,Array.append_assoc]⟩
 ·obtain ⟨m,hn,hl⟩:=I.loc
  refine ⟨m,ns m hn,λi x v e1 e2 e3=>?_⟩
  obtain ⟨u,r,l⟩:=hl i x v e1 e2 e3
  refine ⟨u,r,?_⟩
  rcases l with l | ⟨k,c,e,z⟩
  ·exact .inl l
  ·exact .inr ⟨k,c,e,cellK x c e _ z⟩
 ·obtain ⟨v,z⟩:=I.cell x c e
  exact ⟨v,cellK x c e v z⟩
 ·obtain ⟨m,⟨o,_,_,ho,_⟩,_⟩:=I.loc
  exact free _ o (λz=>(hch _ z).2.1 rfl) ho I.free
 ·obtain ⟨v,o,ho,hd⟩:=I.cell x c e
  exact free c o (λz=>(hch c z).2.2.1 x c e rfl) ho (I.freeC x c e)
 ·obtain ⟨e,n,ne,nf,d⟩:=I.pin p hp
  have nch:p.1∉ch:=λz=>(hch p.1 z).2.2.2 p hp rfl
  exact ⟨keep p.1 p.2 ne nf nch e n,free p.1 p.2 nch e n,ne,nf,d⟩
theorem Inv.un {t':Nat} (I:Inv X pins σ H s) (u:Un X.fs [] H H' s.heap h') (hok:A3 X.prog X.w H' h'):Inv X pins σ H' { s with heap:=h',toks:=t' }:=by
 obtain ⟨m,⟨o,es,ep,ho,r⟩,_⟩:=id I.loc
 obtain ⟨sl,hL⟩:=u.any ho I.free (by simp)
 exact I.step (g':=s.gens) (d':=s.drawn) (ch:=[]) (λ_ z=>nomatch z) (λb o _ hb _ e n=>u.keep b o e n hb (by simp)) (λb o _ hb _ e n=>u.slot b o e n hb (by simp)) (λb o _ e n=>u.free b o e n (by simp)) (λb o _ e=>u.there b o e (by simp)) u.tups u.frzs u.tbls (λm' hm=>by
  obtain ⟨o',es',ep',ho',r'⟩:=hm
  rw [ho] at ho'; cases ho'
  exact ⟨_,es',ep',hL,r'⟩) hok I.bare
theorem Inv.call {g':Array GenState} {t':Nat} {d':Drawn} {ch:List Addr} (I:Inv X pins σ H s) (u:Un (AV X.stack) ch H H' s.heap h') (hok:A3 X.prog X.w H' h') (hg:AllBare g')
  (hch:∀ b∈ch,(b∈X.ex\/X.s₀.heap.objs.size<=b)/\b≠X.env.locals/\(∀ x c,X.env.cells.lookup x=some c->c≠b)/\∀ p∈X.pn++pins,p.1≠b) :
  Inv X pins σ H' { s with heap:=h',gens:=g',drawn:=d',toks:=t' }:=by
 obtain ⟨m,⟨o,es,ep,ho,r⟩,_⟩:=id I.loc
 obtain ⟨sl,hL⟩:=u.any ho I.free λz=>(hch _ z).2.1 rfl
 exact I.step (ch:=ch) hch (λb o hL hb hc e n=>u.keep b o e n (λz=>(List.mem_cons.mp (I.stkSub b z)).elim hL hb) hc) (λb o _ _ hc e n=>u.any e n hc) (λb o hc e n=>u.free b o e n hc) (λb o hc e=>u.there b o e hc) u.tups u.frzs u.tbls (λm' hm=>by
  obtain ⟨o',es',ep',ho',r'⟩:=hm
  rw [ho] at ho'; cases ho'
  exact ⟨_,es',ep',hL,r'⟩) hok hg
theorem Inv.turned {t':Nat} {it:Addr} (I:Inv X pins σ H s) (k:∀ b o,b≠it->s.heap.get? b=some o->h'.get? b=some o) (hn:H it=none) (hL:it≠X.env.locals)
  (h1:it∈X.ex\/X.s₀.heap.objs.size<=it) (h2:∀ x c,X.env.cells.lookup x=some c->c≠it) (h3:∀ p∈X.pn++pins,p.1≠it):Inv X pins σ H { s with heap:=h',toks:=t' }:=by
 have nit:∀ b u,H b=some u->b≠it:=λb u e z=>by rw [z,hn] at e; cases e
 refine I.step (g':=s.gens) (d':=s.drawn) (ch:=[it]) (λb hb=>?_) (λb o _ _ hc e _=>k b o (λz=>hc (by simp [z])) e) (λb o _ _ hc e _=>⟨o.slots,k b o (λz=>hc (by simp [z])) e⟩) (λ_ _ _ _ n=>n)
  (λb o hc e=>⟨o,k b o (λz=>hc (by simp [z])) e⟩) (λ_ _ e=>e) (λ_ _ _ e=>e) (λb ps e=>⟨#[],by rw [e]; simp⟩) (λm hm=>?_) (λb u e=>?_) I.bare
 ·have e:b=it:=by simpa using hb
  subst e
  exact ⟨h1,hL,h2,h3⟩
 ·obtain ⟨o,es,ep,ho,r⟩:=hm
  exact ⟨o,es,ep,k _ o (Ne.symm hL) ho,r⟩
 ·refine (I.hok b u e).stay (λc v hc q=>k c v ?_ q) (λ_ q=>q) λ_ _ q=>q
  rcases hc with z | z
  ·rw [z]; exact nit b u e
  ·exact nit c _ z
theorem Inv.tok (I:Inv X pins σ H s) (t:Nat):Inv X pins σ H { s with toks:=t }:=I.un (h':=s.heap) (t':=t) Un.refl I.hok
theorem Inv.kept {t':Nat} (I:Inv X pins σ H s) (k:∀ b u,s.heap.get? b=some u->h'.get? b=some u):Inv X pins σ H { s with heap:=h',toks:=t' }:=I.un (Un.kept k) (I.hok.kept k)
theorem Inv.laid {a:Addr} {o:HO} {t':Nat} (I:Inv X pins σ H s) (k:∀ b u,s.heap.get? b=some u->h'.get? b=some u) (hp:s.heap.objs.size<=a) (new:Bn X.prog X.w (An H a o) h' a o) :
  Inv X pins σ (An H a o) { s with heap:=h',toks:=t' }:=I.un (Un.laid k hp (I.hok.fresh hp)) (I.hok.laid k hp new)
theorem Inv.write {x e:Addr} {o:HO} {t':Nat} (I:Inv X pins σ H s) (mu:Hn (H x)) (he:e=x\/H e=some (.own x)) (k:∀ b u,b≠e->s.heap.get? b=some u->h'.get? b=some u) (heo:∃ u,h'.get? e=some u)
  (new:Bn X.prog X.w (An H x o) h' x o):Inv X pins σ (An H x o) { s with heap:=h',toks:=t' }:=I.un (Un.write mu he k heo) (I.hok.write mu he k heo new)
theorem Inv.pins_of {pins':List (Addr×Obj)} (I:Inv X pins σ H s) (h:∀ p∈pins',s.heap.get? p.1=some p.2/\H p.1=none/\p.1≠X.env.locals/\p.1∉X.fs/\∀ v,p.2.data≠.cell v):Inv X pins' σ H s:=
 ⟨I.ok,I.os,I.bare,I.base,I.loc,I.cell,I.free,I.freeC,λp hp=>(List.mem_append.mp hp).elim (λz=>I.pin p (List.mem_append_left _ z)) (h p),I.hok,I.len⟩
theorem Lh {N:List Str} (hN:N.Nodup) {i j:Nat} {x:Str} (a:N[i]?=some x) (b:N[j]?=some x):i=j:=by
 obtain ⟨h1,e1⟩:=List.getElem?_eq_some_iff.mp a
 obtain ⟨h2,e2⟩:=List.getElem?_eq_some_iff.mp b
 exact (List.getElem_inj hN).mp (e1.trans e2.symm)
theorem SJ {M:Model} {A:Around} {E:Value->Shared->Prop} {i:Nat} {x:Str} {v:V} {u:Value} {Q:Unit->Shared->Prop} (I:Inv X pins σ H s) (hN:X.N.Nodup) (hi:X.N[i]?=some x) (hx:Fz X.env.scope x) (r:Aw v u)
  (h:∀ s',Inv X pins (σ.set i (some v)) H s'->(∃ a,Heap.SameBut a s.heap s'.heap/\(a=X.env.locals\/X.env.cells.lookup x=some a))->Q () s') (hf:X.fn x=true\/X.env.scope.names.lookup x=some .local:=by first | exact .inl rfl | exact .inr rfl | assumption):wpAny M A (storeName X.env x u) Q E s:=by
 obtain ⟨m,hn,hl⟩:=id I.loc
 have hcls:(X.env.scope.kind==.class||(X.env.scope.kind==.module&&X.env.locals != X.env.globals))=false:=by rw [I.ok.kind]; rfl
 have hiσ:i<σ.length:=by rw [I.len]; exact (List.getElem?_eq_some_iff.mp hi).1
 have cne:=I.cne
 have tracked:∀ {a:Addr} {h':Heap},(∃ o,s.heap.get? a=some o/\H a=none)->Heap.SameBut a s.heap h'->A3 X.prog X.w H h':=λ{a h'} ha hs b ob e=>by
  obtain ⟨_,_,hfree⟩:=ha
  refine (I.hok b ob e).stay (λc w' hc q=>(hs.2 c ?_).trans q) (λ_ q=>q) λ_ _ q=>q
  rintro rfl
  rcases hc with rfl | hc
  ·rw [hfree] at e; cases e
  ·rw [hfree] at hc; cases hc
 rcases hx with hk | hk
 ·refine wpAny_storeName_local hk hn (λh' hn' hs=>?_) hcls
  obtain ⟨oL,_,_,hoL,_⟩:=id hn
  refine h _ ⟨I.ok,I.os,I.bare,⟨λb o e n hb hx=>?_,λb o e n hb hx=>?_,I.base.free,λb o e hx=>?_,I.base.tups,I.base.frzs,I.base.tbls⟩,⟨_,hn',λj y v' e1 e2 e3=>?_⟩,λy c e=>?_,I.free,I.freeC,λp hp=>?_,tracked ⟨oL,hoL,I.free⟩ hs,by simpa using I.len⟩ ⟨_,hs,.inl rfl⟩
  ·exact (hs.2 b (Nat.ne_of_lt (Nat.lt_of_lt_of_le (Heap.lt_size e) I.ok.above))).trans (I.base.keep b o e n hb hx)
  ·obtain ⟨sl,e1⟩:=I.base.slot b o e n hb hx
   exact ⟨sl,(hs.2 b (Nat.ne_of_lt (Nat.lt_of_lt_of_le (Heap.lt_size e) I.ok.above))).trans e1⟩
  ·obtain ⟨o',e1⟩:=I.base.there b o e hx
   exact ⟨o',(hs.2 b (Nat.ne_of_lt (Nat.lt_of_lt_of_le (Heap.lt_size e) I.ok.above))).trans e1⟩
  ·by_cases hj:j=i
   ·subst hj
    rw [hi] at e1; cases e1
    rw [List.getElem?_set_self hiσ] at e2
    cases e2
    exact ⟨u,r,.inl ⟨hk,by simp⟩⟩
   ·rw [List.getElem?_set_ne (Ne.symm hj)] at e2
    obtain ⟨u',r',q⟩:=hl j y v' e1 e2 e3
    refine ⟨u',r',?_⟩
    rcases q with ⟨k,e⟩ | ⟨k,c,e,z⟩
    ·refine .inl ⟨k,?_⟩
     have:y≠x:=λe=>hj (Lh hN e1 (e ▸ hi))
     simp [this,e]
    ·exact .inr ⟨k,c,e,z.sameBut hs (cne y c e)⟩
  ·obtain ⟨w',z⟩:=I.cell y c e
   exact ⟨w',z.sameBut hs (cne y c e)⟩
  ·obtain ⟨e,n,ne,nf,d⟩:=I.pin p hp
   exact ⟨(hs.2 p.1 ne).trans e,n,ne,nf,d⟩
 ·have hfn:X.fn x=true:=by
   rcases hf with z | z
   ·exact z
   ·rw [z] at hk; cases hk
  obtain ⟨c,hc⟩:=I.ok.has x (.inl hk)
  obtain ⟨w',z⟩:=I.cell x c hc
  refine wpAny_storeName_cell I.ok.kind hk hc z (λh' hc' hs=>?_)
  obtain ⟨oc,hoc,hocd⟩:=id z
  refine h { s with heap:=h' } ⟨I.ok,I.os,I.bare,⟨λb o e n hb hx=>?_,λb o e n hb hx=>?_,I.base.free,λb o e hx=>?_,I.base.tups,I.base.frzs,I.base.tbls⟩,⟨m,hn.sameBut hs (Ne.symm (cne x c hc)),λj y v' e1 e2 e3=>?_⟩,λy c' e=>?_,I.free,I.freeC,λp hp=>?_,tracked ⟨oc,hoc,I.freeC x c hc⟩ hs,by simpa using I.len⟩ ⟨c,hs,.inr hc⟩
  ·exact (hs.2 b (Nat.ne_of_lt (Nat.lt_of_lt_of_le (Heap.lt_size e) (I.ok.cab x c hfn hc)))).trans (I.base.keep b o e n hb hx)
  ·obtain ⟨sl,e1⟩:=I.base.slot b o e n hb hx
   exact ⟨sl,(hs.2 b (Nat.ne_of_lt (Nat.lt_of_lt_of_le (Heap.lt_size e) (I.ok.cab x c hfn hc)))).trans e1⟩
  ·obtain ⟨o',e1⟩:=I.base.there b o e hx
   exact ⟨o',(hs.2 b (Nat.ne_of_lt (Nat.lt_of_lt_of_le (Heap.lt_size e) (I.ok.cab x c hfn hc)))).trans e1⟩
  ·by_cases hj:j=i
   ·subst hj
    rw [hi] at e1; cases e1
    rw [List.getElem?_set_self hiσ] at e2
    cases e2
    exact ⟨u,r,.inr ⟨.inl hk,c,hc,hc'⟩⟩
   ·rw [List.getElem?_set_ne (Ne.symm hj)] at e2
    obtain ⟨u',r',q⟩:=hl j y v' e1 e2 e3
    refine ⟨u',r',?_⟩
    rcases q with q | ⟨k,c',e,z'⟩
    ·exact .inl q
    ·refine .inr ⟨k,c',e,z'.sameBut hs ?_⟩
     rintro rfl
     exact hj (Lh hN e1 (I.ok.inj _ _ _ e hc ▸ hi))
  ·by_cases hcc:c'=c
   ·subst hcc; exact ⟨_,hc'⟩
   ·obtain ⟨w2,z2⟩:=I.cell y c' e
    exact ⟨w2,z2.sameBut hs hcc⟩
  ·obtain ⟨e,n,ne,nf,d⟩:=I.pin p hp
   refine ⟨(hs.2 p.1 ?_).trans e,n,ne,nf,d⟩
   intro q
   rw [q,hoc] at e
   have q':oc=p.2:=Option.some.inj e
   exact d w' (by rw [<- q']; exact hocd)
theorem HA {M:Model} {A:Around} {E:Value->Shared->Prop} {i:Nat} {x:Str} {v:V} {u:Value} {Q:Unit->Shared->Prop} (I:Inv X pins σ H s) (hN:X.N.Nodup) (hi:X.N[i]?=some x) (hx:Fz X.env.scope x) (r:Aw v u)
  (h:∀ s',Inv X pins (σ.set i (some v)) H s'->Q () s') (hf:X.fn x=true\/X.env.scope.names.lookup x=some .local:=by first | exact .inl rfl | exact .inr rfl | assumption):wpAny M A (storeName X.env x u) Q E s:=
 SJ I hN hi hx r (λs' I' _=>h s' I') hf
theorem Inv.call' {s':Shared} {ch:List Addr} (I:Inv X pins σ H s) (ho:s'.os=s.os) (u:Un (AV X.stack) ch H H' s.heap s'.heap) (hok:A3 X.prog X.w H' s'.heap) (hg:AllBare s'.gens)
  (hch:∀ b∈ch,(b∈X.ex\/X.s₀.heap.objs.size<=b)/\b≠X.env.locals/\(∀ x c,X.env.cells.lookup x=some c->c≠b)/\∀ p∈X.pn++pins,p.1≠b):Inv X pins σ H' s':=by
 obtain ⟨h',g',d',t',o'⟩:=s'
 have e:o'=s.os:=ho
 subst e
 exact I.call (g':=g') (t':=t') (d':=d') u hok hg hch
end
abbrev XK:=Value->Option Addr->Hp->Prop
abbrev St:=List (Option V)
abbrev VK:=V->Hp->Prop
abbrev TE:=St->Hp->VK->Prop
abbrev TT:=St->Hp->(Bool->Hp->Prop)->Prop
abbrev TA:=St->Hp->(List V->Hp->Prop)->Prop
structure EO where
 nx:St->Hp->Prop
 rt:VK
 bk:St->Hp->Prop:=λ_ _=>False
 ct:St->Hp->Prop:=λ_ _=>False
abbrev TS:=EO->St->Hp->Prop
def EP (X:Cx) (pins:List (Addr×Obj)) (σ:St) (Q:VK) (u:Value) (s':Shared):Prop:=∃ v H',Inv X pins σ H' s'/\Aw v u/\Q v H'
def TP (X:Cx) (pins:List (Addr×Obj)) (σ:St) (Q:Bool->Hp->Prop) (b:Bool) (s':Shared):Prop:=∃ H',Inv X pins σ H' s'/\Q b H'
def AP (X:Cx) (pins:List (Addr×Obj)) (σ:St) (Q:List V->Hp->Prop) (us:List Value) (s':Shared):Prop:=∃ vs H',Inv X pins σ H' s'/\Aq vs us/\Q vs H'
def SP (X:Cx) (pins:List (Addr×Obj)) (D:EO) (f:Flow) (s':Shared):Prop:=
 match f with
 | .next=>∃ σ' H',Inv X pins σ' H' s'/\D.nx σ' H'
 | .brk=>∃ σ' H',Inv X pins σ' H' s'/\D.bk σ' H'
 | .cont=>∃ σ' H',Inv X pins σ' H' s'/\D.ct σ' H'
 | .ret u=>∃ v σ' H',Inv X pins σ' H' s'/\Aw v u/\D.rt v H'
def PE (X:Cx) (e:Expr) (t:TE):Prop:=
 ∀ (pins:List (Addr×Obj)) (s:Shared) (σ:St) (H:Hp) (Q:VK),Inv X pins σ H s->t σ H Q->wpAny (model X.prog X.w) X.A (eval e X.env) (EP X pins σ Q) X.xe s
def PT (X:Cx) (e:Expr) (t:TT):Prop:=
 ∀ (pins:List (Addr×Obj)) (s:Shared) (σ:St) (H:Hp) (Q:Bool->Hp->Prop),Inv X pins σ H s->t σ H Q->wpAny (model X.prog X.w) X.A (isTrue e X.env (eval e X.env)) (TP X pins σ Q) X.xe s
def PW (X:Cx) (e:Expr) (t:TT):Prop:=
 ∀ (whole:Sem Value) (pins:List (Addr×Obj)) (s:Shared) (σ:St) (H:Hp) (Q:Bool->Hp->Prop),Inv X pins σ H s->t σ H Q->wpAny (model X.prog X.w) X.A (isTrue e X.env whole) (TP X pins σ Q) X.xe s
theorem PW.pt {X:Cx} {e:Expr} {t:TT} (h:PW X e t):PT X e t:=h _
def PA (X:Cx) (es:List Expr) (t:TA):Prop:=
 ∀ (pos:Pos) (pins:List (Addr×Obj)) (s:Shared) (σ:St) (H:Hp) (Q:List V->Hp->Prop),Inv X pins σ H s->t σ H Q->wpAny (model X.prog X.w) X.A (spliced (backTo pos (starEach es X.env))) (AP X pins σ Q) X.xe s
def PS (X:Cx) (st:Stmt) (t:TS):Prop:=
 ∀ (pins:List (Addr×Obj)) (s:Shared) (σ:St) (H:Hp) (D:EO),Inv X pins σ H s->t D σ H->wpAny (model X.prog X.w) X.A (exec st X.env) (SP X pins D) X.xe s
def PSs (X:Cx) (st:List Stmt) (t:TS):Prop:=
 ∀ (pins:List (Addr×Obj)) (s:Shared) (σ:St) (H:Hp) (D:EO),Inv X pins σ H s->t D σ H->wpAny (model X.prog X.w) X.A (execs st X.env) (SP X pins D) X.xe s
theorem Ao {α:Type} {t:Sem α} {Q Q':α->Shared->Prop} {M:Model} {A:Around} {E:Value->Shared->Prop} {s:Shared} (h:wpAny M A t Q E s) (hQ:∀ a s,Q a s->Q' a s):wpAny M A t Q' E s:=wpAny_mono h hQ λ_ _ x=>x
end L2
namespace L2
open PySem PySem.Spec PyProof.Rows
section
variable {X:Cx}
def R7 (i:Nat):TE:=λσ H Q=>∃ v,σ[i]?=some (some v)/\Q v H
def tC (v:V):TE:=λ_ H Q=>Q v H
theorem K6 {i:Nat} {x:Str} {pos:Pos} (hN:X.N[i]?=some x) (hv:Dl X.env.scope x) (hd:(x==("__debug__" : Str))=false:=by decide) (hcd:(x==("__classdict__" : Str))=false:=by decide):PE X (.Name x pos) (R7 i):=by
 intro pins s σ H Q I h
 obtain ⟨v,e,h⟩:=h
 obtain ⟨m,hn,hl⟩:=I.loc
 obtain ⟨u,r,l⟩:=hl i x v hN e hv
 have fin:EP X pins σ Q u s:=⟨v,H,I,r,h⟩
 rcases l with ⟨hk,hm⟩ | ⟨hk,c,hc,hcell⟩
 ·exact wpAny_Name (wpAny_loadName_local I.ok.kind hk hn hm fin) hd
 ·rcases hk with hk | hk
  ·exact wpAny_Name (wpAny_loadName_cell I.ok.kind hk hc hcell fin) hd
  ·exact wpAny_Name (wpAny_loadName_free I.ok.kind hk hc hcell fin hcd) hd
theorem UV {i j pos}:PE X (.Constant (.int i) j pos) (tC (.int i)):=λ_ _ _ H _ I h=>wpAny_Constant_int ⟨.int i,H,I.tok _,⟨_,rfl⟩,h⟩
theorem U3 {b j pos}:PE X (.Constant (.bool b) j pos) (tC (.bl b)):=λ_ _ _ H _ I h=>Constant_bool ⟨.bl b,H,I,rfl,h⟩
theorem UQ {j pos}:PE X (.Constant .none j pos) (tC .non):=λ_ _ _ H _ I h=>Constant_none ⟨.non,H,I,rfl,h⟩
theorem UM {x j pos}:PE X (.Constant (.str x) j pos) (tC (.str x)):=λ_ _ _ H _ I h=>Calls.Constant_str ⟨.str x,H,I.tok _,⟨_,rfl⟩,h⟩
def Gl (X:Cx) (x:Str):Prop:=X.env.kindOf x=some .globalImplicit
theorem Fe {E:Value->Shared->Prop} {pins:List (Addr×Obj)} {s:Shared} {σ:St} {H:Hp} {x:Str} {u:Value} {pos:Pos} {Q:Value->Shared->Prop} (I:Inv X pins σ H s) (hg:Gl X x) (hm:X.mg x=some u) (h:Q u s)
  (hd:(x==("__debug__" : Str))=false:=by decide):wpAny (model X.prog X.w) X.A (eval (.Name x pos) X.env) Q E s:=
 Calls.Name_function_global I.ok.kind hg (Calls.loadGlobal_global (by rw [I.ok.glob]; exact I.mod.glob.keeps I.bk) hm h) hd
theorem DA {E:Value->Shared->Prop} {pins:List (Addr×Obj)} {s:Shared} {σ:St} {H:Hp} {x:Str} {u:Value} {pos:Pos} {Q:Value->Shared->Prop} (I:Inv X pins σ H s) (hg:Gl X x) (hm:X.mg x=none) (hv:bootBuiltins x=some u) (h:Q u s)
  (hn:x ≠ "__name__" := by decide) (hd:(x==("__debug__" : Str))=false:=by decide):wpAny (model X.prog X.w) X.A (eval (.Name x pos) X.env) Q E s:=by
 obtain ⟨mb,h1,h2⟩:=I.mod.blt
 exact Calls.Name_function_global I.ok.kind hg (Calls.loadGlobal_builtin (by rw [I.ok.glob]; exact I.mod.glob.keeps I.bk) hm (by rw [I.ok.blt]; exact h1.keeps I.bk) ((h2 x hn).trans hv) h) hd
theorem K8 {x:Str} {v:V} {u:Value} {pos:Pos} (hg:Gl X x) (hm:X.mg x=some u) (r:Aw v u) (hd:(x==("__debug__" : Str))=false:=by decide):PE X (.Name x pos) (tC v):=
 λ_ _ _ H _ I h=>Fe I hg hm ⟨v,H,I,r,h⟩ hd
theorem U2 {x:Str} {v:V} {u:Value} {pos:Pos} (hg:Gl X x) (hm:X.mg x=none) (hv:bootBuiltins x=some u) (r:Aw v u) (hn:x ≠ "__name__" := by decide) (hd:(x==("__debug__" : Str))=false:=by decide):PE X (.Name x pos) (tC v):=
 λ_ _ _ H _ I h=>DA I hg hm hv ⟨v,H,I,r,h⟩ hn hd
variable {a b:Expr} {ta tb:TE} {pos:Pos}
variable {tA tB':TT} {AK:List Expr}
def Sj (t:TT):TT:=λσ H Q=>t σ H λc H1=>Q (!c) H1
theorem Ur (ha:PT X a tA):PW X (.BoolOp .And [a] pos) tA:=by
 intro wh pins s σ H Q I h
 refine isTrue_and (Ao (ha pins s σ H Q I h) λc s1 e=>?_)
 cases c with
 | true=>exact isTrue_and_nil e
 | false=>exact e
theorem Uq (ha:PT X a tA):PW X (.BoolOp .Or [a] pos) tA:=by
 intro wh pins s σ H Q I h
 refine isTrue_or (Ao (ha pins s σ H Q I h) λc s1 e=>?_)
 cases c with
 | false=>exact isTrue_or_nil e
 | true=>exact e
theorem OA (ha:PT X a tA):PT X (.UnaryOp .Not a pos) (Sj tA):=by
 intro pins s σ H Q I h
 exact isTrue_not (ha pins s σ H (λc H1=>Q (!c) H1) I h)
def Si (ta:TE):TE:=λσ H Q=>ta σ H λx H1=>∃ c,x=.bl c/\Q (.bl (!c)) H1
theorem UO {op} {t:TE} (h:PE X a t):PE X (.BoolOp op [a] pos) t:=λpins s σ H Q I hw=>BoolOp_one (h pins s σ H Q I hw)
theorem UP (ha:PE X a ta):PE X (.UnaryOp .Not a pos) (Si ta):=by
 intro pins s σ H Q I h
 refine UnaryOp_ (Ao (ha pins s σ H _ I h) λv s1 ⟨x,H1,I1,r1,q1⟩=>?_)
 obtain ⟨c,rfl,q1⟩:=q1
 cases r1
 exact not_of (wpAny_truthy_bool ⟨.bl (!c),H1,I1,rfl,q1⟩)
end
end L2
namespace L2
open PySem PySem.Spec PyProof.Rows
def A0 (K:PySem.W.Frag) (H:Hp) (a:Addr) (xs:List V):Prop:=
 Rd H a (.lst xs) \/
  ∃ (o:Obj) (its:Array Value) (n:Nat),K.lookup a=some o/\o.cls=.type "list" /\ o.dict=none/\o.data=.seq its n/\its.size<=sizeLine/\Aq xs its.toList
def Bm (K:PySem.W.Frag) (H:Hp) (a:Addr) (xs:List V):Prop:=
 Rd H a (.tup xs) \/
  ∃ (o:Obj) (its:Array Value) (n:Nat),K.lookup a=some o/\o.cls=.type "tuple" /\ o.dict=none/\o.data=.seq its n/\its.size<=sizeLine/\Aq xs its.toList
def ZJ:Value->Option V
 | .none=>some .non
 | .bool b=>some (.bl b)
 | .int i _=>some (.int i)
 | .str x _=>some (.str x)
 | .bytes b _=>some (.byt b)
 | .float b _=>some (.flt b)
 | .ref a=>some (.ref a)
 | .type n=>some (.ty n)
 | _=>none
theorem Aw.abs {x:V} {u:Value} (r:Aw x u):ZJ u=some x:=by
 cases x with
 | non=>cases r; rfl
 | bl _=>cases r; rfl
 | int _=>obtain ⟨t,rfl⟩:=r; rfl
 | str _=>obtain ⟨t,rfl⟩:=r; rfl
 | byt _=>obtain ⟨t,rfl⟩:=r; rfl
 | flt _=>obtain ⟨t,rfl⟩:=r; rfl
 | ref _=>cases r; rfl
 | ty _=>cases r; rfl
theorem Aw.inj {x y:V} {u:Value} (r:Aw x u) (q:Aw y u):x=y:=Option.some.inj (r.abs.symm.trans q.abs)
theorem Aq.inj:∀ {xs ys:List V} {us:List Value},Aq xs us->Aq ys us->xs=ys
 | _,_,_,.nil,.nil=>rfl
 | _,_,_,.cons r t,.cons r' t'=>by rw [r.inj r',Aq.inj t t']
section
variable {X:Cx} {pins:List (Addr×Obj)} {σ:St} {H:Hp} {s:Shared} {a:Addr} {xs ys:List V}
theorem A0.of {K:PySem.W.Frag} (h:H a=some (.lst xs)):A0 K H a xs:=.inl (.inl h)
theorem Bm.of {K:PySem.W.Frag} (h:H a=some (.tup xs)):Bm K H a xs:=.inl (.inl h)
theorem Inv.list (I:Inv X pins σ H s) (h:A0 X.K H a xs):∃ its:List Value,Aq xs its/\PlainL s.heap a its.toArray/\xs.length<=sizeLine:=by
 rcases h with h | ⟨o,its,n,hk,hc,hd,hs,hz,r⟩
 ·obtain ⟨z,its,n,r,e⟩:=h.ok I.hok
  exact ⟨its,r,⟨_,n,e,rfl,rfl,rfl⟩,z⟩
 ·refine ⟨its.toList,r,⟨o,n,I.kIn a o hk,hc,hd,by simpa using hs⟩,?_⟩
  have e:=r.length
  simp only [Array.length_toList] at e
  omega
theorem Inv.tuple (I:Inv X pins σ H s) (h:Bm X.K H a xs):∃ its:List Value,Aq xs its/\IsTup s.heap a its.toArray/\xs.length<=sizeLine:=by
 rcases h with h | ⟨o,its,n,hk,hc,_,hs,hz,r⟩
 ·obtain ⟨z,its,r,p⟩:=h.ok I.hok
  exact ⟨its,r,p.t,z⟩
 ·refine ⟨its.toList,r,⟨o,I.kIn a o hk,hc,n,by simpa using hs⟩,?_⟩
  have e:=r.length
  simp only [Array.length_toList] at e
  omega
theorem Inv.tupN (I:Inv X pins σ H s) (h:Bm X.K H a xs):∃ its:List Value,Aq xs its/\En s.heap a its.toArray/\xs.length<=sizeLine:=by
 rcases h with h | ⟨o,its,n,hk,hc,hd,hs,hz,r⟩
 ·obtain ⟨z,its,r,p⟩:=h.ok I.hok
  exact ⟨its,r,p,z⟩
 ·refine ⟨its.toList,r,⟨o,I.kIn a o hk,hd,hc,n,by simpa using hs⟩,?_⟩
  have e:=r.length
  simp only [Array.length_toList] at e
  omega
theorem Inv.list_inj (I:Inv X pins σ H s) (h:A0 X.K H a xs) (h':A0 X.K H a ys):xs=ys:=by
 obtain ⟨its,r,⟨o,n,e,_,_,d⟩,_⟩:=I.list h
 obtain ⟨its',r',⟨o',n',e',_,_,d'⟩,_⟩:=I.list h'
 rw [e] at e'; cases e'
 rw [d] at d'
 injection d' with d1 _
 have:its=its':=by simpa using congrArg Array.toList d1
 subst this
 exact r.inj r'
theorem Inv.tuple_inj (I:Inv X pins σ H s) (h:Bm X.K H a xs) (h':Bm X.K H a ys):xs=ys:=by
 obtain ⟨its,r,⟨o,e,_,n,d⟩,_⟩:=I.tuple h
 obtain ⟨its',r',⟨o',e',_,n',d'⟩,_⟩:=I.tuple h'
 rw [e] at e'; cases e'
 rw [d] at d'
 injection d' with d1 _
 have:its=its':=by simpa using congrArg Array.toList d1
 subst this
 exact r.inj r'
end
abbrev Cx.wish (X:Cx) (E:Value->Shared->Prop):Cx:={ X with xe:=E }
abbrev Cx.nox (X:Cx):Cx:=X.wish λ_ _=>False
theorem Cx.Ok.wish {X:Cx} (ok:X.Ok) (E:Value->Shared->Prop):(X.wish E).Ok:=
 ⟨ok.mod,ok.kind,ok.glob,ok.blt,ok.above,ok.inj,ok.has,ok.cab,ok.hd,ok.frames,ok.stk,ok.exf,ok.bs,ok.bsz,ok.noex,ok.exfs,ok.funs,ok.frf⟩
theorem Cx.Ok.unwish {X:Cx} {E:Value->Shared->Prop} (ok:(X.wish E).Ok):X.Ok:=
 ⟨ok.mod,ok.kind,ok.glob,ok.blt,ok.above,ok.inj,ok.has,ok.cab,ok.hd,ok.frames,ok.stk,ok.exf,ok.bs,ok.bsz,ok.noex,ok.exfs,ok.funs,ok.frf⟩
section
variable {X:Cx} {pins:List (Addr×Obj)} {σ:St} {H:Hp} {s:Shared} {E:Value->Shared->Prop}
theorem Inv.wish (I:Inv X pins σ H s) (E:Value->Shared->Prop):Inv (X.wish E) pins σ H s:=⟨I.ok.wish E,I.os,I.bare,I.base,I.loc,I.cell,I.free,I.freeC,I.pin,I.hok,I.len⟩
theorem Inv.unwish (I:Inv (X.wish E) pins σ H s):Inv X pins σ H s:=⟨I.ok.unwish,I.os,I.bare,I.base,I.loc,I.cell,I.free,I.freeC,I.pin,I.hok,I.len⟩
theorem SP.unwish {D:EO} {f:Flow} {s':Shared} (h:SP (X.wish E) pins D f s'):SP X pins D f s':=by
 cases f with
 | next=>obtain ⟨σ',H',I,q⟩:=h; exact ⟨σ',H',I.unwish,q⟩
 | brk=>obtain ⟨σ',H',I,q⟩:=h; exact ⟨σ',H',I.unwish,q⟩
 | cont=>obtain ⟨σ',H',I,q⟩:=h; exact ⟨σ',H',I.unwish,q⟩
 | ret u=>obtain ⟨v,σ',H',I,r,q⟩:=h; exact ⟨v,σ',H',I.unwish,r,q⟩
theorem PSs.nox {st:List Stmt} {t:TS} (h:PSs X.nox st t):PSs X st t:=λpins s σ H D I hw=>
 wpAny_mono (h pins s σ H D (I.wish _) hw) (λ_ _ q=>q.unwish) λ_ _ z=>False.elim z
end
section
variable {X:Cx} {st:Stmt} {AK:List Stmt} {t u:TS} {e:Expr} {te:TE} {pos:Pos}
def Sl:TS:=λD σ H=>D.nx σ H
def Sb (t u:TS):TS:=λD σ H=>t { D with nx:=u D } σ H
theorem KZ:PSs X [] Sl:=λ_ _ σ H _ I h=>wpAny_execs_nil ⟨σ,H,I,h⟩
theorem K0 (h1:PS X st t) (h2:PSs X AK u):PSs X (st::AK) (Sb t u):=by
 intro pins s σ H D I h
 refine wpAny_execs_cons (Ao (h1 pins s σ H { D with nx:=u D } I h) λf s1 q=>?_)
 cases f with
 | next=>
  obtain ⟨σ',H',I',q⟩:=q
  exact h2 pins s1 σ' H' D I' q
 | ret v=>exact q
 | brk=>exact q
 | cont=>exact q
theorem Inv.quiet {pins:List (Addr×Obj)} {σ:St} {H:Hp} {s:Shared} (I:Inv X pins σ H s):interactive X.env=false:=by simp [interactive,I.ok.kind]
def Su (te:TE):TS:=λD σ H=>te σ H λ_ H1=>D.nx σ H1
theorem FT (he:PE X e te) (hs:swapsWith e none pos.line X.env=pure false:=by rfl):PS X (.Expr e pos) (Su te):=by
 intro pins s σ H D I h
 exact wpAny_Expr_any (Ao (he pins s σ H _ I h) λv s1 ⟨x,H1,I1,r1,q1⟩=>⟨σ,H1,I1,q1⟩) I.quiet hs
def Sc (te:TE):TS:=λD σ H=>te σ H D.rt
theorem OC (he:PE X e te):PS X (.Return (some e) pos) (Sc te):=by
 intro pins s σ H D I h
 exact wpAny_Return_some (Ao (he pins s σ H _ I h) λv s1 ⟨x,H1,I1,r1,q1⟩=>⟨x,σ,H1,I1,r1,q1⟩)
def So (c:TT) (t u:TS):TS:=λD σ H=>c σ H λb H1=>if b=true then t D σ H1 else u D σ H1
theorem K1 {c:Expr} {a b:List Stmt} {tc:TT} (hc:PT X c tc) (ha:PSs X a t) (hb:PSs X b u):PS X (.If c a b pos) (So tc t u):=by
 intro pins s σ H D I h
 refine wpAny_If (Ao (hc pins s σ H _ I h) λd s1 ⟨H1,I1,q1⟩=>?_)
 cases d with
 | true=>exact ha pins s1 σ H1 D I1 q1
 | false=>exact hb pins s1 σ H1 D I1 q1
end
abbrev TG:=V->St->Hp->(St->Hp->Prop)->Prop
abbrev Fu:=List V->St->Hp->(St->Hp->Prop)->Prop
def PG (X:Cx) (target:Expr) (t:TG):Prop:=
 ∀ (pins:List (Addr×Obj)) (s:Shared) (σ:St) (H:Hp) (v:V) (u:Value) (Q:St->Hp->Prop),Inv X pins σ H s->Aw v u->t v σ H Q->
  wpAny (model X.prog X.w) X.A (assign target X.env u) (λ_ s'=>∃ σ' H',Inv X pins σ' H' s'/\Q σ' H') X.xe s
def Hm (X:Cx) (ts:List Expr) (t:Fu):Prop:=
 ∀ (pins:List (Addr×Obj)) (s:Shared) (σ:St) (H:Hp) (vs:List V) (us:List Value) (Q:St->Hp->Prop),Inv X pins σ H s->Aq vs us->t vs σ H Q->
  wpAny (model X.prog X.w) X.A (assignInOrder ((assignEach ts X.env).map (·.2)) us) (λ_ s'=>∃ σ' H',Inv X pins σ' H' s'/\Q σ' H') X.xe s
section
variable {X:Cx} {pos:Pos}
def PM (i:Nat):TG:=λv σ H Q=>Q (σ.set i (some v)) H
theorem UK {i:Nat} {x:Str} (hN:X.N.Nodup) (hi:X.N[i]?=some x) (hx:Fz X.env.scope x) (hf:X.fn x=true\/X.env.scope.names.lookup x=some .local:=by first | exact .inl rfl | exact .inr rfl | assumption):PG X (.Name x pos) (PM i):=by
 intro pins s σ H v u Q I r h
 exact wpAny_assign_Name (HA I hN hi hx r (λs' I'=>⟨_,H,I',h⟩) hf)
def XA:Fu:=λvs σ H Q=>vs=[]/\Q σ H
def XB (t:TG) (u:Fu):Fu:=λvs σ H Q=>∃ v r,vs=v::r/\t v σ H λσ' H'=>u r σ' H' Q
theorem UH:Hm X [] XA:=by
 intro pins s σ H vs us Q I r h
 obtain ⟨e,h⟩:=h
 subst e
 cases r
 exact assignInOrder_nil ⟨σ,H,I,h⟩
theorem UI {e:Expr} {es:List Expr} {t:TG} {u:Fu} (h1:PG X e t) (h2:Hm X es u)
  (hs:(assignEach (e::es) X.env).map (·.2)=assign e X.env::(assignEach es X.env).map (·.2):=by rfl):Hm X (e::es) (XB t u):=by
 intro pins s σ H vs us Q I r h
 obtain ⟨v,vr,e1,h⟩:=h
 subst e1
 cases r with
 | cons r rr=>
  rw [hs]
  refine assignInOrder_cons (Ao (h1 pins s σ H _ _ _ I r h) λ_ s1 ⟨σ1,H1,I1,q1⟩=>?_)
  exact h2 pins s1 σ1 H1 _ _ Q I1 rr q1
def Xz (K:PySem.W.Frag) (n:Nat) (t:Fu):TG:=λv σ H Q=>∃ a xs,v=.ref a/\Bm K H a xs/\xs.length=n/\t xs σ H Q
theorem UJ {es:List Expr} {k:Nat} {t:Fu} {n:Nat} (hc:X.calm=true) (h:Hm X es t)
  (hn:(assignEach es X.env).length=n:=by rfl) (hst:(assignEach es X.env).findIdx? (·.1)=none:=by rfl):PG X (.Tuple es k pos) (Xz X.K n t):=by
 intro pins s σ H v u Q I r hw
 obtain ⟨a,xs,e1,hq,hl,hw⟩:=hw
 subst e1
 cases r
 obtain ⟨its,rv,ht,hz⟩:=I.tuple hq
 refine assign_Tuple_tuple (I.ok.hd hc) ht (by simp [hn,<- hl,rv.length]) hst λh' hx=>?_
 have I1:Inv X pins σ H { s with heap:=h' }:=I.kept (t':=s.toks) λb o e=>hx b o (Nat.ne_of_lt (Heap.lt_size e)) e
 exact h pins _ σ H xs _ Q I1 (by simpa using rv) hw
def NI (te:TE) (g:TG):TS:=λD σ H=>te σ H λx H1=>g x σ H1 D.nx
theorem Uu {tg e:Expr} {te:TE} {g:TG} (he:PE X e te) (hg:PG X tg g) (hs:swapsWithSole [tg] e pos.line X.env=pure false:=by rfl) (hw:swappedStores [tg] e X.env=pure none:=by rfl)
  (h1:(assignEach [tg] X.env).map (·.2)=[assign tg X.env]:=by rfl):PS X (.Assign [tg] e pos) (NI te g):=by
 intro pins s σ H D I h
 refine wpAny_Assign_stores (Ao (he pins s σ H _ I h) λv s1 ⟨x,H1,I1,r1,q1⟩=>?_) hs hw
 rw [h1]
 exact Ao (hg pins s1 σ H1 x v _ I1 r1 q1) λ_ s2 q=>q
theorem OB {i:Nat} {x:Str} {e:Expr} {te:TE} {pos':Pos} (hN:X.N.Nodup) (hi:X.N[i]?=some x) (hx:Fz X.env.scope x) (he:PE X e te) (hs:swapsWith e (some (.Name x pos')) pos.line X.env=pure false:=by rfl) (hf:X.fn x=true\/X.env.scope.names.lookup x=some .local:=by first | exact .inl rfl | exact .inr rfl | assumption) :
  PS X (.Assign [.Name x pos'] e pos) (NI te (PM i)):=by
 intro pins s σ H D I h
 refine wpAny_Assign_Name (Ao (he pins s σ H _ I h) λv s1 ⟨y,H1,I1,r1,q1⟩=>?_) hs
 exact HA I1 hN hi hx r1 (λs2 I2=>⟨_,H1,I2,q1⟩) hf
end
section
variable {X:Cx} {pos:Pos}
end
structure It where
 go:Nat->Hp->Prop
 yld:Nat->Hp->V->Hp->Prop
 stop:Nat->Hp->Prop
def B9 (X:Cx) (pins:List (Addr×Obj)) (H:Hp) (b:Addr):Prop:=
 H b=none/\b≠X.env.locals/\b∉X.fs/\(b∈X.ex\/X.s₀.heap.objs.size<=b)/\(∀ x c,X.env.cells.lookup x=some c->c≠b)/\∀ p∈X.pn++pins,p.1≠b
theorem Inv.fpOk {X:Cx} {pins:List (Addr×Obj)} {σ:St} {H H':Hp} {s:Shared} {b:Addr} (I:Inv X pins σ H s) (hb:s.heap.objs.size<=b) (hn:H' b=none):B9 X pins H' b:=by
 refine ⟨hn,Nat.ne_of_gt (Nat.lt_of_lt_of_le I.lt hb),I.nofs hb,.inr (Nat.le_trans I.sz hb),λx c e z=>?_,λp hp z=>?_⟩
 ·obtain ⟨v,q⟩:=I.cell x c e
  exact absurd (Nat.lt_of_lt_of_le q.lt (by rw [z]; exact hb)) (Nat.lt_irrefl _)
 ·exact absurd (Nat.lt_of_lt_of_le (Heap.lt_size (I.pin p hp).1) (by rw [z]; exact hb)) (Nat.lt_irrefl _)
structure D3 (P:Program) (w:World) (K:PySem.W.Frag) (tg:Expr) (J:It) (fp:List Addr) (it:Addr) (tn:Nat->Heap->Prop):Prop where
 mem:it∈fp
 obj:∀ i h,tn i h->∀ b∈fp,∃ o,h.get? b=some o/\∀ v,o.data≠.cell v
 keep:∀ i h h',tn i h->(∀ b∈fp,∀ o,h.get? b=some o->h'.get? b=some o)->tn i h'
 item:∀ (X:Cx),X.prog=P->X.w=w->X.K=K->X.calm=true->∀ (i:Nat) (pins:List (Addr×Obj)) (s:Shared) (σ:St) (H:Hp) (E:Value->Shared->Prop),Inv X pins σ H s->(∀ b∈fp,B9 X pins H b)->tn i s.heap->J.go i H->
  wpAny (model P w) X.A (pyNext (.ref it)) (λr s1=>∃ u,r=some u /\
   wpAny (model P w) X.A (letOwnedTupleGo tg (.ref it) u) (λ_ s2=>∃ x H',Inv X pins σ H' s2/\Aw x u/\J.yld i H x H'/\tn (i+1) s2.heap/\∀ b∈fp,H' b=none) E s1) E s
 done:∀ (X:Cx),X.prog=P->X.w=w->X.K=K->X.calm=true->∀ (i:Nat) (pins:List (Addr×Obj)) (s:Shared) (σ:St) (H:Hp) (E:Value->Shared->Prop),Inv X pins σ H s->(∀ b∈fp,B9 X pins H b)->tn i s.heap->J.stop i H->
  wpAny (model P w) X.A (pyNext (.ref it)) (λr s1=>r=none/\Inv X pins σ H s1) E s
 self:∀ (A:Around) (i:Nat) (s:Shared) (Q:Value->Shared->Prop) (E:Value->Shared->Prop),tn i s.heap->Q (.ref it) s->wpAny (model P w) A (pyIter (.ref it)) Q E s
abbrev TI:=St->Hp->(It->Hp->Prop)->Prop
def Ji (X:Cx) (pins:List (Addr×Obj)) (σ:St) (tg:Expr) (R:It->Hp->Prop) (itv:Value) (s2:Shared):Prop:=
 ∃ (it:Addr) (fp:List Addr) (tn:Nat->Heap->Prop) (J:It) (H':Hp),itv=.ref it/\Inv X pins σ H' s2/\D3 X.prog X.w X.K tg J fp it tn/\tn 0 s2.heap/\(∀ b∈fp,B9 X pins H' b)/\R J H'
def PI (X:Cx) (tg iter:Expr) (wi:TI):Prop:=
 ∀ (pins:List (Addr×Obj)) (s:Shared) (σ:St) (H:Hp) (R:It->Hp->Prop),Inv X pins σ H s->wi σ H R->
  wpAny (model X.prog X.w) X.A (eval iter X.env) (λv s1=>wpAny (model X.prog X.w) X.A (pyIter v) (Ji X pins σ tg R) X.xe s1) X.xe s
theorem G6 {M:Model} {A:Around} {E:Value->Shared->Prop} {s:Shared} {tg:Expr} {it:Addr} {u:Value} {o:Obj} {n:String} {vs:Array Value} {Q:Unit->Shared->Prop} (ho:s.heap.get? it=some o) (hc:o.cls=.type n) (hd:o.data=.fields vs)
    (hn:["enumerate","zip","dict_itemiterator","dict_reverseitemiterator","odict_iterator","itertools.zip_longest","itertools.pairwise"].contains n=false) (hQ:Q () s):wpAny M A (letOwnedTupleGo tg (.ref it) u) Q E s:=by
  unfold letOwnedTupleGo
  cases tg <;> first
    | exact wpAny_pure hQ
    | (cases u <;> first
        | exact wpAny_pure hQ
        | (refine wpAny_bind (wpAny_load ho ?_)
           rw [hc,hd]
           show wpAny M A (if (["enumerate","zip","dict_itemiterator","dict_reverseitemiterator","odict_iterator","itertools.zip_longest","itertools.pairwise"].contains n&&vs[0]?==some (rawInt _))=true then _ else _) Q E s
           rw [if_neg (by intro h; rw [hn,Bool.false_and] at h; cases h)]
           exact wpAny_pure hQ))
def Ng (K:PySem.W.Frag) (a:Addr):It:=
 ⟨λi H=>∃ xs x,A0 K H a xs/\xs[i]?=some x,λi H x H'=>H'=H/\∀ xs,A0 K H a xs->xs[i]?=some x,λi H=>∃ xs,A0 K H a xs/\xs.length<=i⟩
def Nd (K:PySem.W.Frag) (a:Addr):It:=
 ⟨λi H=>∃ xs x,Bm K H a xs/\xs[i]?=some x,λi H x H'=>H'=H/\∀ xs,Bm K H a xs->xs[i]?=some x,λi H=>∃ xs,Bm K H a xs/\xs.length<=i⟩
def Jo (lo:Int) (n:Nat):It:=⟨λi _=>i<n,λi H x H'=>H'=H/\x=.int (lo+i),λi _=>n<=i⟩
theorem RZ {P:Program} {w:World} {K:PySem.W.Frag} {tg:Expr} (a it:Addr):D3 P w K tg (Ng K a) [it] it (λi h=>h.IsListIter it a i) where
 mem:=by simp
 obj:=λi h st b hb=>by
  have e:b=it:=by simpa using hb
  subst e
  obtain ⟨o,e,c,d⟩:=st
  exact ⟨o,e,λv z=>by rw [d] at z; cases z⟩
 keep:=λi h h' st k=>st.at λo e=>k it (by simp) o e
 item:=by
  intro X hP hw hK hc i pins s σ H E I hf st hg
  subst hP hw hK
  obtain ⟨xs,x,hq,hx⟩:=hg
  obtain ⟨its,rv,p,hz⟩:=I.list hq
  obtain ⟨u,hu,ru⟩:=rv.get hx
  obtain ⟨f0,f1,f2,f3,f4,f5⟩:=hf it (by simp)
  refine wpAny_pyNext_list_item st p.isList (x:=u) (by simpa using hu) λh' st' sb=>?_
  have I1:Inv X pins σ H { s with heap:=h' }:=I.turned (t':=s.toks) (λb o hb e=>(sb.2 b hb).trans e) f0 f1 f3 f4 f5
  obtain ⟨o,e,c,d⟩:=id st'
  exact ⟨u,rfl,G6 (s:={ s with heap:=h' }) e c d wE ⟨x,H,I1,ru,⟨rfl,λys hy=>by rw [I.list_inj hy hq]; exact hx⟩,st',λb hb=>(hf b hb).1⟩⟩
 done:=by
  intro X hP hw hK hc i pins s σ H E I hf st hg
  subst hP hw hK
  obtain ⟨xs,hq,hx⟩:=hg
  obtain ⟨its,rv,p,hz⟩:=I.list hq
  obtain ⟨f0,f1,f2,f3,f4,f5⟩:=hf it (by simp)
  have hl:=rv.length
  exact wpAny_pyNext_list_end (I.ok.hd hc) st p.isList (by simp; omega) λh' eb=>⟨rfl,I.turned (t':=s.toks) (λb o hb e=>eb b o hb e) f0 f1 f3 f4 f5⟩
 self:=λ_ _ _ _ _ st h=>wpAny_pyIter_listiter st h
theorem RV {P:Program} {w:World} {K:PySem.W.Frag} {tg:Expr} (a it:Addr):D3 P w K tg (Nd K a) [it] it (λi h=>h.IsTupleIter it a i) where
 mem:=by simp
 obj:=λi h st b hb=>by
  have e:b=it:=by simpa using hb
  subst e
  obtain ⟨o,e,c,d⟩:=st
  exact ⟨o,e,λv z=>by rw [d] at z; cases z⟩
 keep:=λi h h' st k=>st.at λo e=>k it (by simp) o e
 item:=by
  intro X hP hw hK hc i pins s σ H E I hf st hg
  subst hP hw hK
  obtain ⟨xs,x,hq,hx⟩:=hg
  obtain ⟨its,rv,p,hz⟩:=I.tuple hq
  obtain ⟨u,hu,ru⟩:=rv.get hx
  obtain ⟨f0,f1,f2,f3,f4,f5⟩:=hf it (by simp)
  refine wpAny_pyNext_tuple_item st (show s.heap.IsTuple a its.toArray from p) (x:=u) (by simpa using hu) λh' st' sb=>?_
  have I1:Inv X pins σ H { s with heap:=h' }:=I.turned (t':=s.toks) (λb o hb e=>(sb.2 b hb).trans e) f0 f1 f3 f4 f5
  obtain ⟨o,e,c,d⟩:=id st'
  exact ⟨u,rfl,G6 (s:={ s with heap:=h' }) e c d wE ⟨x,H,I1,ru,⟨rfl,λys hy=>by rw [I.tuple_inj hy hq]; exact hx⟩,st',λb hb=>(hf b hb).1⟩⟩
 done:=by
  intro X hP hw hK hc i pins s σ H E I hf st hg
  subst hP hw hK
  obtain ⟨xs,hq,hx⟩:=hg
  obtain ⟨its,rv,p,hz⟩:=I.tuple hq
  obtain ⟨f0,f1,f2,f3,f4,f5⟩:=hf it (by simp)
  have hl:=rv.length
  exact wpAny_pyNext_tuple_end (I.ok.hd hc) st (show s.heap.IsTuple a its.toArray from p) (by simp; omega) λh' eb=>⟨rfl,I.turned (t':=s.toks) (λb o hb e=>eb b o hb e) f0 f1 f3 f4 f5⟩
 self:=λ_ _ _ _ _ st h=>wpAny_pyIter_tupleiter st h
theorem RY {P:Program} {w:World} {K:PySem.W.Frag} {tg:Expr} (it:Addr) (lo:Int) (n:Nat):D3 P w K tg (Jo lo n) [it] it (λi h=>IsRangeIter h it (lo+(i:Nat)*1) ((n:Int)-(i:Nat)) 1) where
 mem:=by simp
 obj:=λi h st b hb=>by
  have e:b=it:=by simpa using hb
  subst e
  exact ⟨_,st,λv z=>by
   have z':Data.fields _=Data.cell v:=z
   cases z'⟩
 keep:=λi h h' st k=>k it (by simp) _ st
 item:=by
  intro X hP hw hK hc i pins s σ H E I hf st hg
  subst hP hw hK
  obtain ⟨f0,f1,f2,f3,f4,f5⟩:=hf it (by simp)
  have W:=Walks.range (prog:=X.prog) (w:=X.w) (I.ok.hd hc) it lo 1 n
  refine W.item i s _ _ hg st λv h' tk hv st' kk=>?_
  obtain ⟨t,rfl⟩:=hv
  have I1:Inv X pins σ H { s with heap:=h',toks:=tk }:=I.turned (λb o hb e=>kk b o (by simpa using hb) e) f0 f1 f3 f4 f5
  refine ⟨_,rfl,G6 (s:={ s with heap:=h',toks:=tk }) (n := "range_iterator") st' rfl rfl wE ⟨.int (lo+i),H,I1,⟨t,?_⟩,⟨rfl,rfl⟩,st',λb hb=>(hf b hb).1⟩⟩
  rw [Int.mul_one]
 done:=by
  intro X hP hw hK hc i pins s σ H E I hf st hg
  subst hP hw hK
  obtain ⟨f0,f1,f2,f3,f4,f5⟩:=hf it (by simp)
  exact wpAny_pyNext_range_end (I.ok.hd hc) st (by have:n<=i:=hg; omega) λh' eb=>⟨rfl,I.turned (t':=s.toks) (λb o hb e=>eb b o hb e) f0 f1 f3 f4 f5⟩
 self:=λ_ _ _ _ _ st h=>wpAny_pyIter_rangeiter st h
end L2
namespace L2
open PySem PySem.Spec PyProof.Rows
section
variable {X:Cx} {tg:Expr}
def Xp (K:PySem.W.Frag) (tl:TE):TI:=λσ H R=>tl σ H λx H1=>∃ a,x=.ref a/\(∃ xs,A0 K H1 a xs)/\R (Ng K a) H1
def Xn (K:PySem.W.Frag) (tl:TE):TI:=λσ H R=>tl σ H λx H1=>∃ a,x=.ref a/\(∃ xs,Bm K H1 a xs)/\R (Nd K a) H1
theorem ON {l:Expr} {tl:TE} (hl:PE X l tl):PI X tg l (Xp X.K tl):=by
 intro pins s σ H R I h
 refine Ao (hl pins s σ H _ I h) λv s1 ⟨x,H1,I1,r1,q1⟩=>?_
 obtain ⟨a,e,⟨xs,hq⟩,q⟩:=q1
 subst e
 cases r1
 obtain ⟨its,rv,p,hz⟩:=I1.list hq
 refine wpAny_pyIter_list p.isList ?_
 refine ⟨s1.heap.objs.size,[s1.heap.objs.size],_,_,H1,rfl,I1.kept (t':=s1.toks) λb o e=>Heap.get?_push_of_some _ e,RZ a _,⟨_,Heap.get?_push_size _ rfl,rfl,rfl⟩,λb hb=>?_,q⟩
 have e:b=s1.heap.objs.size:=by simpa using hb
 subst e
 exact I1.fpOk (Nat.le_refl _) (I1.hok.fresh (Nat.le_refl _))
theorem UF {l:Expr} {tl:TE} (hl:PE X l tl):PI X tg l (Xn X.K tl):=by
 intro pins s σ H R I h
 refine Ao (hl pins s σ H _ I h) λv s1 ⟨x,H1,I1,r1,q1⟩=>?_
 obtain ⟨a,e,⟨xs,hq⟩,q⟩:=q1
 subst e
 cases r1
 obtain ⟨its,rv,p,hz⟩:=I1.tuple hq
 refine wpAny_pyIter_tuple (show s1.heap.IsTuple a its.toArray from p) ?_
 refine ⟨s1.heap.objs.size,[s1.heap.objs.size],_,_,H1,rfl,I1.kept (t':=s1.toks) λb o e=>Heap.get?_push_of_some _ e,RV a _,⟨_,Heap.get?_push_size _ rfl,rfl,rfl⟩,λb hb=>?_,q⟩
 have e:b=s1.heap.objs.size:=by simpa using hb
 subst e
 exact I1.fpOk (Nat.le_refl _) (I1.hok.fresh (Nat.le_refl _))
theorem Ub {pins:List (Addr×Obj)} {σ:St} {H:Hp} {s:Shared} {R:It->Hp->Prop} {E:Value->Shared->Prop} {lo hi:Int} {t u v:Tok} {tk:Nat} (I:Inv X pins σ H s) (h1:-(2 ^ 62)<=lo) (h2:lo<2 ^ 62) (h3:-(2 ^ 62)<=hi) (h4:hi<2 ^ 62)
  (q:R (Jo lo (hi-lo).toNat) H):wpAny (model X.prog X.w) X.A (pyIter (.ref s.heap.objs.size)) (Ji X pins σ tg R) E { s with heap:=s.heap.push { cls:=.type "range",data:=.fields #[.int lo t,.int hi u,.int 1 v] },toks:=tk }:=by
 refine wpAny_pyIter_range (IsRange.new ..) (small_one h1 h2 h3 h4) ?_
 have I1:Inv X pins σ H { s with heap:=s.heap.push { cls:=.type "range",data:=.fields #[.int lo t,.int hi u,.int 1 v] },toks:=tk }:=I.kept λb o e=>Heap.get?_push_of_some _ e
 refine ⟨(s.heap.push { cls:=.type "range",data:=.fields #[.int lo t,.int hi u,.int 1 v] }).objs.size,[(s.heap.push { cls:=.type "range",data:=.fields #[.int lo t,.int hi u,.int 1 v] }).objs.size],_,_,H,rfl,
  I1.kept (t':=tk) λb o e=>Heap.get?_push_of_some _ e,RY _ lo (hi-lo).toNat,?_,λb hb=>?_,q⟩
 ·have e1:lo+((0:Nat):Int)*1=lo:=by simp
  have e2:(((hi-lo).toNat:Nat):Int)-((0:Nat):Int)=Builtin.Range.rangeSize lo hi 1:=by rw [rangeSize_one]; split <;> omega
  show IsRangeIter _ _ (lo+((0:Nat):Int)*1) ((((hi-lo).toNat:Nat):Int)-((0:Nat):Int)) 1
  rw [e1,e2]
  exact Heap.get?_push_size _ rfl
 ·have e:b=(s.heap.push { cls:=.type "range",data:=.fields #[.int lo t,.int hi u,.int 1 v] }).objs.size:=by simpa using hb
  subst e
  exact I1.fpOk (Nat.le_refl _) (I1.hok.fresh (Nat.le_refl _))
def Xo (ta:TA):TI:=λσ H R=>ta σ H λvs H1=>∃ j:Int,vs=[.int j]/\-(2 ^ 62)<=j/\j<2 ^ 62/\R (Jo 0 j.toNat) H1
theorem UG {a:Expr} {ta:TA} {p pos:Pos} (hg:Gl X "range") (hm:X.mg "range" = none) (ha:PA X [a] ta) (hs:starEach [a] X.env=[(false,eval a X.env)]:=by rfl):PI X tg (.Call (.Name "range" p) [a] [] pos) (Xo ta):=by
 intro pins s σ H R I h
 refine Call_ (DA I hg hm boot_range (PyProof.Rows.callWith_type1 (Ao (ha pos pins s σ H _ I h) λus s1 ⟨vs,H1,I1,r1,q1⟩=>?_) hs rfl))
 obtain ⟨j,e,q1,q2,q⟩:=q1
 subst e
 cases r1 with
 | cons r rr=>
  cases rr
  obtain ⟨t,rfl⟩:=r
  exact call_range_1 (Ub I1 wF wF q1 q2 (by simpa using q))
def Sr (wi:TI) (g:TG) (tb:TS):TS:=λD σ H=>wi σ H λJ H1=>∃ W:Nat->Nat->St->Hp->Prop,(∃ m,W 0 m σ H1)/\∀ i m σ H,W i m σ H->
 (J.stop i H/\D.nx σ H)\/(J.go i H/\∃ N:St->Hp->Prop,(∀ σ' H',N σ' H'->∃ m',m'<m/\W (i+1) m' σ' H')/\∀ x H',J.yld i H x H'->g x σ H' λσ2 H2=>tb { D with nx:=N,ct:=N,bk:=D.nx } σ2 H2)
def Ec (fp:List Addr) (h:Heap):List (Addr×Obj):=fp.filterMap λb=>(h.get? b).map λo=>(b,o)
theorem Ip {fp:List Addr} {h:Heap} {b:Addr} {o:Obj} (hb:b∈fp) (e:h.get? b=some o):(b,o)∈Ec fp h:=List.mem_filterMap.mpr ⟨b,hb,by rw [e]; rfl⟩
theorem OZ {fp:List Addr} {h:Heap} {p:Addr×Obj} (hp:p∈Ec fp h):p.1∈fp/\h.get? p.1=some p.2:=by
 obtain ⟨b,hb,e⟩:=List.mem_filterMap.mp hp
 cases q:h.get? b with
 | none=>rw [q] at e; cases e
 | some o=>
  rw [q] at e
  have e':(b,o)=p:=Option.some.inj e
  subst e'
  exact ⟨hb,q⟩
theorem Inv.pinned {pins:List (Addr×Obj)} {σ:St} {H:Hp} {s:Shared} {fp:List Addr} (I:Inv X pins σ H s) (hf:∀ b∈fp,B9 X pins H b) (ho:∀ b∈fp,∃ o,s.heap.get? b=some o/\∀ v,o.data≠.cell v):Inv X (pins++Ec fp s.heap) σ H s:=
 I.pins_of λp hp=>(List.mem_append.mp hp).elim (λz=>I.pin p (List.mem_append_right _ z)) λz=>by
  obtain ⟨hb,e⟩:=OZ z
  obtain ⟨f0,f1,f2,_⟩:=hf p.1 hb
  obtain ⟨o,e',d⟩:=ho p.1 hb
  rw [e] at e'; cases e'
  exact ⟨e,f0,f1,f2,d⟩
theorem Inv.unpinned {pins pl:List (Addr×Obj)} {σ:St} {H:Hp} {s:Shared} (I:Inv X (pins++pl) σ H s):Inv X pins σ H s:=I.pins_of λp hp=>I.pin p (List.mem_append_right _ (List.mem_append_left _ hp))
theorem OD {iter:Expr} {body:List Stmt} {wi:TI} {g:TG} {tb:TS} {pos:Pos} (hp:PassesOwn (model X.prog X.w) X.A X.env X.xe) (hc:X.calm=true) (hi:PI X tg iter wi) (hg:PG X tg g) (hb:PSs X body tb)
  (hs:∀ x,foldedSetIterable iter X.env x=pure x:=by intro _; rfl):PS X (.For tg iter body [] pos) (Sr wi g tb):=by
 intro pins s σ H D I h
 refine wpAny_For (Ao (hi pins s σ H _ I h) λv s1 h1=>Ao h1 λitv s2 h2=>?_) hs
 obtain ⟨it,fp,tn,J,H2,e,I2,T,st2,f2,W,⟨m0,w0⟩,turn⟩:=h2
 subst e
 -- what stays true of the iterator's objects through the loop
 have stat:∀ {H':Hp},(∀ b∈fp,H' b=none)->∀ b∈fp,B9 X pins H' b:=λhn b hb=>⟨hn b hb,(f2 b hb).2⟩
 refine codeAny_forLoop_any (λn s'=>∃ i σ' H',Inv X pins σ' H' s'/\tn i s'.heap/\(∀ b∈fp,H' b=none)/\W i n σ' H') ?_ m0 ⟨0,σ,H2,I2,st2,λb hb=>(f2 b hb).1,w0⟩
 rintro n s3 ⟨i,σ3,H3,I3,st3,fr3,w3⟩
 rcases turn i n σ3 H3 w3 with ⟨stop,qn⟩ | ⟨go,N,hN,step⟩
 ·refine wpAny_passesOwn hp (Ao (T.done X rfl rfl rfl hc i pins s3 σ3 H3 X.xe I3 (stat fr3) st3 stop) λr s4 ⟨hr,I4⟩=>?_)
  subst hr
  exact wpAny_execs_nil ⟨σ3,H3,I4,qn⟩
 ·refine wpAny_passesOwn hp (Ao (T.item X rfl rfl rfl hc i pins s3 σ3 H3 X.xe I3 (stat fr3) st3 go) λr s4 ⟨u,hr,h4⟩=>?_)
  subst hr
  refine wpAny_passesOwn hp (Ao h4 λ_ s5 ⟨x,H5,I5,r5,y5,st5,fr5⟩=>?_)
  have I5':=I5.pinned (stat fr5) (T.obj _ _ st5)
  refine wpAny_passesOwn hp (Ao (hg _ s5 σ3 H5 x u _ I5' r5 (step x H5 y5)) λ_ s6 ⟨σ6,H6,I6,q6⟩=>?_)
  refine wpAny_passesOwn hp (Ao (hb _ s6 σ6 H6 _ I6 q6) λf s7 q7=>?_)
  have again:∀ {σ7:St} {H7:Hp},Inv X (pins++Ec fp s5.heap) σ7 H7 s7->N σ7 H7->∃ m,m<n/\∃ i σ' H',Inv X pins σ' H' s7/\tn i s7.heap/\(∀ b∈fp,H' b=none)/\W i m σ' H':=λ{σ7 H7} I7 n7=>by
   obtain ⟨m',hm,w7⟩:=hN σ7 H7 n7
   refine ⟨m',hm,i+1,σ7,H7,I7.unpinned,T.keep _ _ _ st5 λb hb o e=>(I7.pin (b,o) (List.mem_append_right _ (List.mem_append_right _ (Ip hb e)))).1,λb hb=>?_,w7⟩
   obtain ⟨o,e,d⟩:=T.obj _ _ st5 b hb
   exact (I7.pin (b,o) (List.mem_append_right _ (List.mem_append_right _ (Ip hb e)))).2.1
  cases f with
  | next=>obtain ⟨σ7,H7,I7,n7⟩:=q7; exact again I7 n7
  | cont=>obtain ⟨σ7,H7,I7,n7⟩:=q7; exact again I7 n7
  | brk=>obtain ⟨σ7,H7,I7,q7⟩:=q7; exact ⟨σ7,H7,I7.unpinned,q7⟩
  | ret v=>obtain ⟨x7,σ7,H7,I7,r7,q7⟩:=q7; exact ⟨x7,σ7,H7,I7.unpinned,r7,q7⟩
end
end L2
namespace L2
open PySem PySem.Spec PyProof.Rows
abbrev R2:=V->V->Hp->VK->Prop
def BL (X:Cx) (f:Value->Value->Sem Value) (r:R2):Prop:=
 ∀ (pins:List (Addr×Obj)) (s:Shared) (σ:St) (H:Hp) (x y:V) (v u:Value) (Q:VK),Inv X pins σ H s->Aw x v->Aw y u->r x y H Q->
  wpAny (model X.prog X.w) X.A (f v u) (EP X pins σ Q) X.xe s
def M3 (X:Cx) (f:Value->Sem Value) (r:V->Hp->VK->Prop):Prop:=
 ∀ (pins:List (Addr×Obj)) (s:Shared) (σ:St) (H:Hp) (x:V) (v:Value) (Q:VK),Inv X pins σ H s->Aw x v->r x H Q->
  wpAny (model X.prog X.w) X.A (f v) (EP X pins σ Q) X.xe s
def D7 (X:Cx) (f:Value) (r:List V->Hp->VK->Prop):Prop:=
 ∀ (pins:List (Addr×Obj)) (s:Shared) (σ:St) (H:Hp) (xs:List V) (us:List Value) (Q:VK),Inv X pins σ H s->Aq xs us->r xs H Q->
  wpAny (model X.prog X.w) X.A (call f us) (EP X pins σ Q) X.xe s
def ZM (X:Cx) (r:V->Hp->(Bool->Hp->Prop)->Prop):Prop:=
 ∀ (pins:List (Addr×Obj)) (s:Shared) (σ:St) (H:Hp) (x:V) (v:Value) (Q:Bool->Hp->Prop),Inv X pins σ H s->Aw x v->r x H Q->
  wpAny (model X.prog X.w) X.A (truthy v) (TP X pins σ Q) X.xe s
def tOp (r:R2) (ta tb:TE):TE:=λσ H Q=>ta σ H λx H1=>tb σ H1 λy H2=>r x y H2 Q
def tUn (r:V->Hp->VK->Prop) (ta:TE):TE:=λσ H Q=>ta σ H λx H1=>r x H1 Q
def rI (C:Int->Int->Prop) (g:Int->Int->V):R2:=λx y H Q=>∃ i j,x=.int i/\y=.int j/\C i j/\Q (g i j) H
def DM (g:Int->Int->V):R2:=λx y H Q=>∃ i j,x=.int i/\y=.int j/\Q (g i j) H
def rU (g:Int->V):V->Hp->VK->Prop:=λx H Q=>∃ i,x=.int i/\Q (g i) H
section
variable {X:Cx} {a b c:Expr} {ta tb tc:TE} {pos:Pos}
theorem Ge (ha:PE X a ta) (hb:PE X b tb) {pins:List (Addr×Obj)} {s:Shared} {σ:St} {H:Hp} {R:V->V->Hp->Prop} (I:Inv X pins σ H s)
  (h:ta σ H λx H1=>tb σ H1 λy H2=>R x y H2) {Q:Value->Shared->Prop} {f:Value->Value->Sem Value}
  (hf:∀ v u s2 x y H2,Inv X pins σ H2 s2->Aw x v->Aw y u->R x y H2->wpAny (model X.prog X.w) X.A (f v u) Q X.xe s2) :
  wpAny (model X.prog X.w) X.A (eval a X.env) (λv s₁=>wpAny (model X.prog X.w) X.A (eval b X.env) (λu s₂=>wpAny (model X.prog X.w) X.A (f v u) Q X.xe s₂) X.xe s₁) X.xe s:=by
 refine Ao (ha pins s σ H _ I h) λv s1 ⟨x,H1,I1,r1,q1⟩=>?_
 refine Ao (hb pins s1 σ H1 _ I1 q1) λu s2 ⟨y,H2,I2,r2,q2⟩=>?_
 exact hf v u s2 x y H2 I2 r1 r2 q2
theorem UL {op:UnaryOp} {r:V->Hp->VK->Prop} (ho:M3 X (unaryOp op) r) (ha:PE X a ta):PE X (.UnaryOp op a pos) (tUn r ta):=by
 intro pins s σ H Q I h
 exact UnaryOp_ (Ao (ha pins s σ H _ I h) λv s1 ⟨x,H1,I1,r1,q1⟩=>ho pins s1 σ H1 x v Q I1 r1 q1)
theorem Lb {f:Value->Value->Sem Value} {C:Int->Int->Prop} {g:Int->Int->Int}
  (rule:∀ (i j:Int) (t u:Tok) (s:Shared) (Q:Value->Shared->Prop) (E:Value->Shared->Prop),C i j->Q (.int (g i j) s.toks) { s with toks:=s.toks+1 }->wpAny (model X.prog X.w) X.A (f (.int i t) (.int j u)) Q E s) :
  BL X f (rI C λi j=>.int (g i j)):=by
 intro pins s σ H x y v u Q I rx ry h
 obtain ⟨i,j,rfl,rfl,hc,q⟩:=h
 obtain ⟨t,rfl⟩:=rx
 obtain ⟨t',rfl⟩:=ry
 exact rule i j t t' s _ _ hc ⟨.int (g i j),H,I.tok _,⟨_,rfl⟩,q⟩
theorem OV {f:Value->Value->Sem Value} {g:Int->Int->Int}
  (rule:∀ (i j:Int) (t u:Tok) (s:Shared) (Q:Value->Shared->Prop) (E:Value->Shared->Prop),Q (.int (g i j) s.toks) { s with toks:=s.toks+1 }->wpAny (model X.prog X.w) X.A (f (.int i t) (.int j u)) Q E s) :
  BL X f (DM λi j=>.int (g i j)):=by
 intro pins s σ H x y v u Q I rx ry h
 obtain ⟨i,j,rfl,rfl,q⟩:=h
 obtain ⟨t,rfl⟩:=rx
 obtain ⟨t',rfl⟩:=ry
 exact rule i j t t' s _ _ ⟨.int (g i j),H,I.tok _,⟨_,rfl⟩,q⟩
theorem H0 {f:Value->Value->Sem Value} {g:Int->Int->Bool}
  (rule:∀ (i j:Int) (t u:Tok) (s:Shared) (Q:Value->Shared->Prop) (E:Value->Shared->Prop),Q (.bool (g i j)) s->wpAny (model X.prog X.w) X.A (f (.int i t) (.int j u)) Q E s) :
  BL X f (DM λi j=>.bl (g i j)):=by
 intro pins s σ H x y v u Q I rx ry h
 obtain ⟨i,j,rfl,rfl,q⟩:=h
 obtain ⟨t,rfl⟩:=rx
 obtain ⟨t',rfl⟩:=ry
 exact rule i j t t' s _ _ ⟨.bl (g i j),H,I,rfl,q⟩
def Rr (i j:Int):Prop:=0<j/\j<1073741824
def EQ (i j:Int):Prop:=(-(2 ^ 64)<i/\i<2 ^ 64)\/(-(2 ^ 64)<j/\j<2 ^ 64)
theorem EQ.ok {i j:Int} (h:EQ i j):IntMulOk i j:=by
 rcases h with ⟨h1,h2⟩ | ⟨h1,h2⟩
 ·exact .of_left (intBits_le_64 h1 h2)
 ·exact .of_right (intBits_le_64 h1 h2)
theorem Vh:BL X (binaryOp .Add) (DM λi j=>.int (i+j)):=OV λ_ _ _ _ _ _ _ q=>add_int q
theorem U5:BL X (binaryOp .Sub) (DM λi j=>.int (i-j)):=OV λ_ _ _ _ _ _ _ q=>sub_int q
theorem Vf:BL X (binaryOp .FloorDiv) (rI Rr λi j=>.int (i/j)):=Lb λi j _ _ _ _ _ hc q=>by
 have h1:(0:Int)<j:=hc.1
 have h2:j<1073741824:=hc.2
 exact floordiv_int wF (by rw [Int.fdiv_eq_ediv_of_nonneg i wF]; exact q) (.inl (PyProof.noPylong_small wF))
theorem U8:BL X (binaryOp .Mod) (rI (λ_ j=>0<j) λi j=>.int (i%j)):=Lb λi j _ _ _ _ _ hc q=>by
 have h1:(0:Int)<j:=hc
 exact mod_int' wF (by rw [Int.fmod_eq_emod_of_nonneg i wF]; exact q)
theorem unI {f:Value->Sem Value} {g:Int->Int}
  (rule:∀ (i:Int) (t:Tok) (s:Shared) (Q:Value->Shared->Prop) (E:Value->Shared->Prop),Q (.int (g i) s.toks) { s with toks:=s.toks+1 }->wpAny (model X.prog X.w) X.A (f (.int i t)) Q E s) :
  M3 X f (rU λi=>.int (g i)):=by
 intro pins s σ H x v Q I rx h
 obtain ⟨i,rfl,q⟩:=h
 obtain ⟨t,rfl⟩:=rx
 exact rule i t s _ _ ⟨.int (g i),H,I.tok _,⟨_,rfl⟩,q⟩
theorem RQ:M3 X (unaryOp .USub) (rU λi=>.int (-i)):=unI λ_ _ _ _ _ q=>neg_int q
end
def Oj:V->V->Bool
 | .non,.non=>true | .non,.int _=>true | .int _,.non=>true | .non,.bl _=>true | .bl _,.non=>true | .non,.str _=>true | .str _,.non=>true
 | .int _,.int _=>true | .bl _,.bl _=>true | .str _,.str _=>true | .byt _,.byt _=>true
 | .int _,.str _=>true | .str _,.int _=>true | .bl _,.str _=>true | .str _,.bl _=>true
 | _,_=>false
def rEq:R2:=λx y H Q=>Oj x y=true/\Q (.bl (decide (x=y))) H
def rNe:R2:=λx y H Q=>Oj x y=true/\Q (.bl (!decide (x=y))) H
theorem Qv {i j:Int}:decide (V.int i=V.int j)=(i==j):=by
 rw [Bool.eq_iff_iff]
 simp
theorem Qx {i j:Bool}:decide (V.bl i=V.bl j)=(i==j):=by
 rw [Bool.eq_iff_iff]
 simp
theorem IS {i j:Str}:decide (V.str i=V.str j)=(i==j):=by
 rw [Bool.eq_iff_iff]
 simp
theorem Qw {i j:Array UInt8}:decide (V.byt i=V.byt j)=(i.toList==j.toList):=by
 rw [Bool.eq_iff_iff]
 cases i
 cases j
 simp
section
variable {X:Cx} {a b c:Expr} {ta tb tc:TE} {pos:Pos}
theorem Bb {pins:List (Addr×Obj)} {σ:St} {H:Hp} {s:Shared} {Q:VK} {k k':Bool} (I:Inv X pins σ H s) (q:Q (.bl k) H) (e:k=k'):EP X pins σ Q (.bool k') s:=by
 subst e
 exact ⟨.bl k,H,I,rfl,q⟩
theorem OT:BL X (compareOp .Eq) rEq:=by
 intro pins s σ H x y v u Q I rx ry h
 obtain ⟨hs,q⟩:=h
 cases x with
 | non=>
  cases rx
  cases y with
  | non=>cases ry; exact PySem.EqNone.eq_none_none (Bb I q (by simp))
  | bl j=>cases ry; exact PySem.EqNone.eq_none_bool (Bb I q (by simp))
  | int j=>obtain ⟨t',rfl⟩:=ry; exact PySem.EqNone.eq_none_int (Bb I q (by simp))
  | str j=>obtain ⟨t',rfl⟩:=ry; exact PySem.EqNone.eq_none_str (Bb I q (by simp))
  | _=>exact absurd (show false=true from hs) Bool.false_ne_true
 | bl i=>
  cases rx
  cases y with
  | non=>cases ry; exact PySem.EqNone.eq_bool_none (Bb I q (by simp))
  | bl j=>cases ry; exact eq_bool (Bb I q Qx)
  | str j=>obtain ⟨t',rfl⟩:=ry; exact PySem.EqMixed.eq_bool_str (Bb I q (by simp))
  | _=>exact absurd (show false=true from hs) Bool.false_ne_true
 | int i=>
  obtain ⟨t,rfl⟩:=rx
  cases y with
  | non=>cases ry; exact PySem.EqNone.eq_int_none (Bb I q (by simp))
  | int j=>obtain ⟨t',rfl⟩:=ry; exact eq_int (Bb I q Qv)
  | str j=>obtain ⟨t',rfl⟩:=ry; exact PySem.EqMixed.eq_int_str (Bb I q (by simp))
  | _=>exact absurd (show false=true from hs) Bool.false_ne_true
 | str i=>
  obtain ⟨t,rfl⟩:=rx
  cases y with
  | non=>cases ry; exact PySem.EqNone.eq_str_none (Bb I q (by simp))
  | bl j=>cases ry; exact PySem.EqMixed.eq_str_bool (Bb I q (by simp))
  | int j=>obtain ⟨t',rfl⟩:=ry; exact PySem.EqMixed.eq_str_int (Bb I q (by simp))
  | str j=>obtain ⟨t',rfl⟩:=ry; exact eq_str (Bb I q IS)
  | _=>exact absurd (show false=true from hs) Bool.false_ne_true
 | byt i=>
  obtain ⟨t,rfl⟩:=rx
  cases y with
  | byt j=>obtain ⟨t',rfl⟩:=ry; exact PySem.W.eq_bytes (Bb I q Qw)
  | _=>exact absurd (show false=true from hs) Bool.false_ne_true
 | _=>cases y <;> exact absurd (show false=true from hs) Bool.false_ne_true
theorem OS:BL X (compareOp .NotEq) rNe:=by
 intro pins s σ H x y v u Q I rx ry h
 obtain ⟨hs,q⟩:=h
 cases x with
 | non=>
  cases rx
  cases y with
  | non=>cases ry; exact PySem.EqNone.ne_none_none (Bb I q (by simp))
  | bl j=>cases ry; exact PySem.EqNone.ne_none_bool (Bb I q (by simp))
  | int j=>obtain ⟨t',rfl⟩:=ry; exact PySem.EqNone.ne_none_int (Bb I q (by simp))
  | str j=>obtain ⟨t',rfl⟩:=ry; exact PySem.EqNone.ne_none_str (Bb I q (by simp))
  | _=>exact absurd (show false=true from hs) Bool.false_ne_true
 | bl i=>
  cases rx
  cases y with
  | non=>cases ry; exact PySem.EqNone.ne_bool_none (Bb I q (by simp))
  | bl j=>cases ry; exact ne_bool (Bb I q (congrArg not Qx))
  | str j=>obtain ⟨t',rfl⟩:=ry; exact PySem.EqMixed.ne_bool_str (Bb I q (by simp))
  | _=>exact absurd (show false=true from hs) Bool.false_ne_true
 | int i=>
  obtain ⟨t,rfl⟩:=rx
  cases y with
  | non=>cases ry; exact PySem.EqNone.ne_int_none (Bb I q (by simp))
  | int j=>obtain ⟨t',rfl⟩:=ry; exact ne_int (Bb I q (congrArg not Qv))
  | str j=>obtain ⟨t',rfl⟩:=ry; exact PySem.EqMixed.ne_int_str (Bb I q (by simp))
  | _=>exact absurd (show false=true from hs) Bool.false_ne_true
 | str i=>
  obtain ⟨t,rfl⟩:=rx
  cases y with
  | non=>cases ry; exact PySem.EqNone.ne_str_none (Bb I q (by simp))
  | bl j=>cases ry; exact PySem.EqMixed.ne_str_bool (Bb I q (by simp))
  | int j=>obtain ⟨t',rfl⟩:=ry; exact PySem.EqMixed.ne_str_int (Bb I q (by simp))
  | str j=>obtain ⟨t',rfl⟩:=ry; exact ne_str (Bb I q (congrArg not IS))
  | _=>exact absurd (show false=true from hs) Bool.false_ne_true
 | byt i=>
  obtain ⟨t,rfl⟩:=rx
  cases y with
  | byt j=>obtain ⟨t',rfl⟩:=ry; exact PySem.W.ne_bytes (Bb I q (congrArg not Qw))
  | _=>exact absurd (show false=true from hs) Bool.false_ne_true
 | _=>cases y <;> exact absurd (show false=true from hs) Bool.false_ne_true
theorem U9:BL X (compareOp .Lt) (DM λi j=>.bl (decide (i<j))):=H0 λ_ _ _ _ _ _ _ q=>lt_int q
theorem Va:BL X (compareOp .LtE) (DM λi j=>.bl (decide (i<=j))):=H0 λ_ _ _ _ _ _ _ q=>le_int q
theorem Vd:BL X (compareOp .Gt) (DM λi j=>.bl (decide (j<i))):=H0 λ_ _ _ _ _ _ _ q=>gt_int q
theorem Ve:BL X (compareOp .GtE) (DM λi j=>.bl (decide (j<=i))):=H0 λ_ _ _ _ _ _ _ q=>ge_int q
theorem Vc:BL X (compareOp .In) (λx y H Q=>∃ i j,x=.str i/\y=.str j/\Q (.bl (!(Builtin.Str.occurrences j i 0 j.length 1).isEmpty)) H):=by
 intro pins s σ H x y v u Q I rx ry h
 obtain ⟨i,j,rfl,rfl,q⟩:=h
 obtain ⟨t,rfl⟩:=rx
 obtain ⟨t',rfl⟩:=ry
 exact in_str (Bb I q rfl)
theorem Vb:BL X (compareOp .Is) (λx y H Q=>y=.non/\Q (.bl (decide (x=.non))) H):=by
 intro pins s σ H x y v u Q I rx ry h
 obtain ⟨rfl,q⟩:=h
 cases ry
 refine is_none_gen (Bb I q ?_)
 cases x <;> first
  | (cases rx; rfl)
  | (obtain ⟨t,rfl⟩:=rx; rfl)
theorem Lg (b:Expr) {op:CmpOp} (h:op≠.In:=by decide) (h2:op≠.NotIn:=by decide):behindInMarks op b=false:=by
 have e1:(op==CmpOp.In)=false:=by cases op <;> first | rfl | exact absurd rfl h
 have e2:(op==CmpOp.NotIn)=false:=by cases op <;> first | rfl | exact absurd rfl h2
 cases b <;> simp [behindInMarks,e1,e2]
def Q5 (K:PySem.W.Frag) (x:V) (H:Hp) (k:Bool):Prop:=
 match x with
 | .non=>k=false
 | .bl b=>k=b
 | .int i=>k=(i != 0)
 | .str y=>y.length<=sizeLine/\k=((y.length:Int) != 0)
 | .byt y=>y.size<=sizeLine/\k=((y.size:Int) != 0)
 | .ref p=>(∃ xs,A0 K H p xs/\k=!xs.isEmpty)\/(∃ xs,Bm K H p xs/\k=!xs.isEmpty)\/∃ kvs,H p=some (.dK kvs)/\k=!kvs.isEmpty
 | _=>False
theorem Xe {κ:Type} {kvs:List (κ×V)} {vs:List (κ×Value)} (r:KV kvs vs):(!vs.isEmpty)=!kvs.isEmpty:=by
 cases r <;> rfl
theorem Px {xs:List V} {its:List Value} (r:Aq xs its):(!its.toArray.isEmpty)=!xs.isEmpty:=by
 cases r <;> simp
theorem GY:(sizeLine:Nat)<2 ^ 63:=by rw [sizeLine_eq]; decide
theorem R6:ZM X (λx H Q=>∃ k,Q5 X.K x H k/\Q k H):=by
 intro pins s σ H x v Q I rx h
 obtain ⟨k,e,q⟩:=h
 have hl:=GY
 have hs:sizeLine=16777216:=sizeLine_eq
 cases x with
 | non=>
  cases rx
  have e':k=false:=e
  subst e'
  exact truthy_none ⟨H,I,q⟩
 | bl b=>
  cases rx
  have e':k=b:=e
  subst e'
  exact wpAny_truthy_bool ⟨H,I,q⟩
 | int i=>
  obtain ⟨t,rfl⟩:=rx
  have e':k=(i != 0):=e
  subst e'
  exact PySem.P.truthy_int ⟨H,I,q⟩
 | str y=>
  obtain ⟨t,rfl⟩:=rx
  obtain ⟨hy,e'⟩:y.length<=sizeLine/\k=((y.length:Int) != 0):=e
  subst e'
  exact PySem.P.truthy_str wF ⟨H,I.tok _,q⟩
 | byt y=>
  obtain ⟨t,rfl⟩:=rx
  obtain ⟨hy,e'⟩:y.size<=sizeLine/\k=((y.size:Int) != 0):=e
  subst e'
  exact PySem.W.truthy_bytes wF ⟨H,I.tok _,q⟩
 | ref p=>
  cases rx
  have e':(∃ xs,A0 X.K H p xs/\k=!xs.isEmpty)\/(∃ xs,Bm X.K H p xs/\k=!xs.isEmpty)\/∃ kvs,H p=some (.dK kvs)/\k=!kvs.isEmpty:=e
  rcases e' with ⟨xs,hx,e'⟩ | ⟨xs,hx,e'⟩ | ⟨kvs,hx,e'⟩
  ·subst e'
   obtain ⟨its,r,pl,hz⟩:=I.list hx
   have hlen:=r.length
   exact wpAny_truthy_list pl.isList (by simp only [List.size_toArray]; omega) ⟨H,I.tok _,by rw [Px r]; exact q⟩
  ·subst e'
   obtain ⟨its,r,pl,hz⟩:=I.tuple hx
   have hlen:=r.length
   exact truthy_tuple pl (by simp only [List.size_toArray]; omega) ⟨H,I.tok _,by rw [Px r]; exact q⟩
  ·subst e'
   obtain ⟨hz,hS,vs,r,m⟩:kvs.length<=sizeLine/\(p==sysModules)=false/\∃ vs,KV kvs vs/\s.heap.DictOf (Ba X.prog X.w) p vs:=I.hok p _ hx
   have hlen:kvs.length=vs.length:=Paired.length r
   exact wpAny_truthy_dict hS m wF ⟨H,I.tok _,by rw [Xe r]; exact q⟩
 | _=>exact (show False from e).elim
theorem Oz (ha:PE X a ta) (he:∀ whole,isTrue a X.env whole=(do let v <- whole; standAt a.pos; holding [v] (truthy v))) :
  PT X a (λσ H Q=>ta σ H λx H'=>∃ k,Q5 X.K x H' k/\Q k H'):=by
 intro pins s σ H Q I h
 exact isTrue_plain (Ao (ha pins s σ H _ I h) λv s1 ⟨x,H1,I1,r1,q1⟩=>R6 pins s1 σ H1 x v Q I1 r1 q1) (he _)
theorem Vg:BL X (binaryOp .Add) (λx y H Q=>∃ i j,x=.str i/\y=.str j/\i.length+j.length<=sizeLine/\Q (.str (i++j)) H):=by
 intro pins s σ H x y v u Q I rx ry h
 obtain ⟨i,j,rfl,rfl,hz,q⟩:=h
 obtain ⟨t,rfl⟩:=rx
 obtain ⟨t',rfl⟩:=ry
 exact add_str (λt' tk=>⟨.str (i++j),H,I.tok _,⟨_,rfl⟩,q⟩) hz
def Q8 (b:Expr):Prop:=∀ o i,subscripted b false o i=operate [o,i] (getItem o i)
theorem UU (ha:PE X a ta) (hb:PE X b tb) (hs:Q8 b) :
  PE X (.Subscript a b pos) (tOp (λx y H Q=>∃ z i c,x=.str z/\y=.int i/\0<=i/\i<2 ^ 63/\i<z.length/\z.cps[i.toNat]?=some c/\Q (.str ⟨#[c]⟩) H) ta tb):=by
 intro pins s σ H Q I h
 refine Subscript_ (Ge ha hb I h λv u s2 x y H2 I2 rx ry q=>?_)
 obtain ⟨z,i,c,rfl,rfl,h0,h63,h1,hc,q⟩:=q
 obtain ⟨t,rfl⟩:=rx
 obtain ⟨t',rfl⟩:=ry
 have e:seqIndex? i z.length=some i.toNat:=PySem.StrLaws.seqIndex_nonneg h0 h1
 exact tail_any (typeIs_str s2 z t) slot_str_getitem.lookup (getItem_str (c:=c) (by
  have e1:decide (i < -(2 ^ 63:Int))=false:=decide_eq_false wF
  have e2:decide (i>=2 ^ 63)=false:=decide_eq_false wF
  rw [e1,e2] <;> rfl) (by rw [e]; exact hc) ⟨.str ⟨#[c]⟩,H2,I2.tok _,⟨_,rfl⟩,q⟩) (hs _ _)
theorem Ds {x:V} {us:List Value} (r:Aq [x] us):∃ u,us=[u]/\Aw x u:=by
 cases r with
 | cons r1 r2=>cases r2; exact ⟨_,rfl,r1⟩
theorem Hz {x y:V} {us:List Value} (r:Aq [x,y] us):∃ u w',us=[u,w']/\Aw x u/\Aw y w':=by
 cases r with
 | cons r1 r2=>
  cases r2 with
  | cons r3 r4=>cases r4; exact ⟨_,_,rfl,r1,r3⟩
theorem Zq:D7 X (.builtin "abs") (λxs H Q=>∃ i,xs=[.int i]/\Q (.int (if i<0 then -i else i)) H):=by
 intro pins s σ H xs us Q I r h
 obtain ⟨i,rfl,q⟩:=h
 obtain ⟨u,rfl,t,rfl⟩:=Ds r
 exact call_abs_int λu tk=>⟨.int (if i<0 then -i else i),H,I.tok _,⟨_,rfl⟩,q⟩
theorem Zo:D7 X (.type "int") (λxs H Q=>(∃ i,xs=[.int i]/\Q (.int i) H)\/∃ k,xs=[.bl k]/\Q (.int (if k then 1 else 0)) H):=by
 intro pins s σ H xs us Q I r h
 rcases h with ⟨i,rfl,q⟩ | ⟨k,rfl,q⟩
 ·obtain ⟨u,rfl,t,rfl⟩:=Ds r
  exact call_int_int ⟨.int i,H,I,⟨_,rfl⟩,q⟩
 ·obtain ⟨u,rfl,r1⟩:=Ds r
  cases r1
  exact call_int_bool ⟨.int (if k then 1 else 0),H,I.tok _,⟨_,rfl⟩,q⟩
end
end L2
namespace L2
open PySem PySem.Spec PyProof.Rows
structure Fy (h:Heap) (x dx C:Addr) (mA:Str->Option Value):Prop where
 obj:h.get? x=some (PySem.W.instObj C dx)
 ns:h.Ns1 dx mA
 ne:dx≠x
theorem Pl {h:Heap} {dx:Addr} {mA:Str->Option Value} (n:h.Ns1 dx mA):∃ od,h.get? dx=some od/\∀ name,PySem.W.lookIn name od=some (mA name):=by
 obtain ⟨o,es,ep,ho,hd,hk,_,hm⟩:=n
 refine ⟨o,ho,λname=>?_⟩
 have e:=hm name
 unfold nsFind findBy at e
 rw [<- Array.find?_toList] at e
 unfold PySem.W.lookIn
 rw [hd]
 dsimp only
 split
 ·rename_i y q
  rw [q] at e
  exact congrArg some e
 ·rename_i q
  rw [q] at e
  have a:es.toList.any (·.refKey)=false:=by
   rw [List.any_eq_false]
   intro y hy
   obtain ⟨z,t,hkey⟩:=hk y (Array.mem_toList_iff.mp hy)
   simp [DictEntry.refKey,hkey]
  have a':¬ es.toList.any (·.refKey)=true:=by rw [a]; exact Bool.false_ne_true
  rw [if_neg a']
  exact congrArg some e
theorem Fy.look {h:Heap} {x dx C:Addr} {mA:Str->Option Value} (I:Fy h x dx C mA):∃ od,PySem.W.InstAt h x (PySem.W.instObj C dx) C (some od)/\∀ name,PySem.W.lookIn name od=some (mA name):=
 let ⟨od,ho,hl⟩:=Pl I.ns
 ⟨od,⟨I.obj,rfl,rfl,ho⟩,hl⟩
section
variable {prog:Program} {w:World} {A:Around} {E:Value->Shared->Prop} {s:Shared} {K:PySem.W.Frag} {x dx C f:Addr} {mA:Str->Option Value} {name:Str} {v:Value}
theorem Xx {expr:Bool} {Q:Value->Shared->Prop} (X:K.In s.heap) (I:Fy s.heap x dx C mA) (hg:PySem.W.plainGet K C name=true) (hh:PySem.W.hasDictIn K C=true)
  (ha:PySem.W.findIn K (.ref C) name=some none) (hv:mA name=some v) (hv':PySem.W.handedIn v=true) (h:Q v { s with toks:=s.toks+1 }) :
  wpAny (model prog w) A (getAttr (.ref x) name expr) Q E s:=by
 obtain ⟨od,J,hl⟩:=I.look
 exact PySem.W.get_value X J (PySem.W.plainGet_of hg).1 (PySem.W.findObj_own hh ha rfl (by rw [hl,hv])) hv' h
theorem Xw {pl:Sem Bool} {Q:Value×List Value->Shared->Prop} (X:K.In s.heap) (I:Fy s.heap x dx C mA) (hg:PySem.W.plainGet K C name=true)
  (hf:PySem.W.findIn K (.ref C) name=some (some (.ref f))) (ht:PySem.W.isFn K (.ref f)=true) (hv:mA name=none) (h:Q (.ref f,[.ref x]) s) :
  wpAny (model prog w) A (getMethod (.ref x) name pl) Q E s:=by
 obtain ⟨od,J,hl⟩:=I.look
 exact PySem.W.method_fn X J (PySem.W.plainGet_of hg).1 (PySem.W.plainGet_of hg).2 hf (beq_iff_eq.mp ht) (by show (PySem.W.lookIn name od).map (·.isSome)=some false; rw [hl,hv]; rfl) h
theorem Tk {ns:List Str} {Q:Unit->Shared->Prop} (X:K.In s.heap) (I:Fy s.heap x dx C mA)
  (hs:PySem.W.findIn K (.ref C) "__setattr__" = some (some (.builtin "object.__setattr__"))) (hp:PySem.W.plainOver K C=true) (ht:PySem.W.takerIn K C name=some none) (hh:PySem.W.hasDictIn K C=true)
  (hw:PySem.Within mA ns) (hsz:ns.length<=sizeLine)
  (h:∀ h',Fy h' x dx C (λy=>if y=name then some v else mA y)->Heap.SameBut dx s.heap h'->Q () { s with heap:=h',toks:=s.toks+2 }) :
  wpAny (model prog w) A (setAttr (.ref x) name v) Q E s:=by
 obtain ⟨od,J,hl⟩:=I.look
 refine PySem.W.set_plain X J hs (PySem.W.osa_open (s:={ s with toks:=s.toks+1 }) (r:=none) X J hp ht λb=>?_)
 obtain ⟨cd,hc,hd'⟩:=PySem.W.any_some hh
 have hx:s.heap.get? x=some ⟨.ref C,some dx,.plain,#[]⟩:=I.obj
 refine wpAny_bind (wpAny_pure (wpAny_bind (wpAny_bind (wpAny_loadPart hx (wpAny_bind (PySem.W.Looks.here (s:={ s with toks:=s.toks+1 }) (PySem.W.looks_clsIn X hc) ?_))))))
 rw [hd']
 refine wpAny_pure (a:=some dx) (wpAny_bind (wpAny_pure (wpAny_bind ?_)))
 refine wpAny_nsSet1 (s:={ s with toks:=s.toks+1 }) I.ns λh' hn2 hs2=>?_
 obtain ⟨oD,esD,epD,hoD,hdD,hcD⟩:=hn2.count (PySem.Within.cons name v hw)
 refine wpAny_bind (wpAny_lookBehind hoD (by rw [hdD]; exact pastItsLine_dict (Nat.le_trans hcD (by rw [List.length_cons]; omega))) ?_)
 exact wpAny_pure (h _ ⟨(hs2.2 _ (Ne.symm I.ne)).trans I.obj,hn2,I.ne⟩ hs2)
theorem WE {R:Result->Shared->Prop} {vs:List Value} {kw:List (Str×Value)} (X:K.In s.heap) (hm:PySem.W.makesIn K C=true)
  (hi:PySem.W.findIn K (.ref C) "__init__" = some (some (.ref f))) (hf:PySem.W.typeIn K (.ref f)=some (.type "function"))
  (h:codeAny (model prog w) (A.under (.builtin "type.__call__" ⟨.ref C::vs,kw⟩)) (.call (.ref f) ⟨.ref (s.heap.objs.size+1)::vs,kw⟩) (PySem.W.InitBack (s.heap.objs.size+1) R)
   { s with heap:=(s.heap.push PySem.W.emptyDict).push (PySem.W.instObj C s.heap.objs.size) }) :
  codeAny (model prog w) A (.call (.ref C) ⟨vs,kw⟩) R s:=by
 obtain ⟨hh,g,d,t,os⟩:=s
 exact PySem.W.make_core (PySem.W.makes_of X hm) (PySem.W.looks_findIn X hi) (λself=>PySem.W.bind_fn X self hf) (.inl rfl) h
end
def Cp (f:Str) (v:V):List (Str×V)->List (Str×V)
 | []=>[(f,v)]
 | (g,x)::r=>if g=f then (g,v)::r else (g,x)::Cp f v r
theorem Pk (f g:Str) (v:V):∀ fs:List (Str×V),(Cp f v fs).lookup g=if g=f then some v else fs.lookup g
 | []=>by
  show List.lookup g [(f,v)]=_
  by_cases h:g=f
  ·have hb:(g==f)=true:=beq_iff_eq.mpr h
   simp only [List.lookup,hb,if_pos h]
  ·have hb:(g==f)=false:=beq_eq_false_iff_ne.mpr h
   simp only [List.lookup,hb,if_neg h]
 | (k,x)::r=>by
  have ih:=Pk f g v r
  rw [show Cp f v ((k,x)::r)=(if k=f then (k,v)::r else (k,x)::Cp f v r) from rfl]
  by_cases hk:k=f
  ·rw [if_pos hk]
   by_cases h:g=k
   ·have hb:(g==k)=true:=beq_iff_eq.mpr h
    simp only [List.lookup,hb,if_pos (h.trans hk)]
   ·have hb:(g==k)=false:=beq_eq_false_iff_ne.mpr h
    simp only [List.lookup,hb,if_neg (λe:g=f=>h (e.trans hk.symm))]
  ·rw [if_neg hk]
   by_cases h:g=k
   ·have hb:(g==k)=true:=beq_iff_eq.mpr h
    simp only [List.lookup,hb,if_neg (λe:g=f=>hk (h.symm.trans e))]
   ·have hb:(g==k)=false:=beq_eq_false_iff_ne.mpr h
    simp only [List.lookup,hb]
    exact ih
theorem Mi (f:Str) (v:V):∀ fs:List (Str×V),f∈(Cp f v fs).map (·.1)/\∀ g,g∈fs.map (·.1)->g∈(Cp f v fs).map (·.1)
 | []=>⟨by simp [Cp],λg h=>by simp at h⟩
 | (k,x)::r=>by
  obtain ⟨i1,i2⟩:=Mi f v r
  rw [show Cp f v ((k,x)::r)=(if k=f then (k,v)::r else (k,x)::Cp f v r) from rfl]
  by_cases hk:k=f
  ·rw [if_pos hk]
   subst hk
   exact ⟨by simp,λg h=>by simpa using h⟩
  ·rw [if_neg hk]
   refine ⟨?_,λg h=>?_⟩
   ·rw [List.map_cons]
    exact List.mem_cons_of_mem _ i1
   ·rw [List.map_cons] at h ⊢
    rcases List.mem_cons.mp h with e | e
    ·exact List.mem_cons.mpr (.inl e)
    ·exact List.mem_cons_of_mem _ (i2 g e)
theorem Pn (f:Str) (v:V):∀ fs:List (Str×V),(Cp f v fs).length<=fs.length+1
 | []=>by simp [Cp]
 | (k,x)::r=>by
  have ih:=Pn f v r
  rw [show Cp f v ((k,x)::r)=(if k=f then (k,v)::r else (k,x)::Cp f v r) from rfl]
  by_cases hk:k=f
  ·rw [if_pos hk,List.length_cons,List.length_cons]; omega
  ·rw [if_neg hk,List.length_cons,List.length_cons]; omega
theorem BX.some_of {v:V} {o:Option Value} (r:BX (some v) o):∃ u,o=some u/\Aw v u:=by
 cases o with
 | none=>exact (show False from r).elim
 | some u=>exact ⟨u,rfl,r⟩
theorem BX.none_of {o:Option Value} (r:BX none o):o=none:=by
 cases o with
 | none=>rfl
 | some u=>exact (show False from r).elim
theorem PC {v:V} {u:Value} (r:Aw v u):PySem.W.handedIn u=true:=by
 cases v with
 | non=>cases (show u=Value.none from r); rfl
 | bl b=>cases (show u=Value.bool b from r); rfl
 | int i=>obtain ⟨t,e⟩:=(show ∃ t,u=Value.int i t from r); cases e; rfl
 | str x=>obtain ⟨t,e⟩:=(show ∃ t,u=Value.str x t from r); cases e; rfl
 | byt b=>obtain ⟨t,e⟩:=(show ∃ t,u=Value.bytes b t from r); cases e; rfl
 | flt b=>obtain ⟨t,e⟩:=(show ∃ t,u=Value.float b t from r); cases e; rfl
 | ref a=>cases (show u=Value.ref a from r); rfl
 | ty n=>cases (show u=Value.type n from r); rfl
section
variable {P:Program} {w:World} {H H':Hp} {h h':Heap} {a C dx:Addr} {fs fs':List (Str×V)}
theorem Mp (hok:A3 P w H h) (e:H a=some (.ins C dx fs)):∃ mA,Fy h a dx C mA/\(∀ f,BX (fs.lookup f) (mA f))/\PySem.Within mA (fs.map (·.1))/\fs.length<=1000/\H dx=some (.own a):=by
 obtain ⟨d,z,ne,ob,mA,n,r,q⟩:=(show Bn P w H h a (.ins C dx fs) from hok a _ e)
 exact ⟨mA,⟨ob,n,ne⟩,r,q,z,d⟩
end
structure CF (K:PySem.W.Frag) (C:Addr):Prop where
 pg:PySem.W.plainGet K C Str.empty=true
 hd:PySem.W.hasDictIn K C=true
 po:PySem.W.plainOver K C=true
 sa:PySem.W.findIn K (.ref C) "__setattr__" = some (some (.builtin "object.__setattr__"))
theorem CF.get {K:PySem.W.Frag} {C:Addr} (c:CF K C) (f:Str):PySem.W.plainGet K C f=true:=c.pg
def B8 (K:PySem.W.Frag) (C:Addr) (f:Str):Prop:=PySem.W.findIn K (.ref C) f=some none
theorem B8.taker {K:PySem.W.Frag} {C:Addr} {f:Str} (n:B8 K C f):PySem.W.takerIn K C f=some none:=by
 unfold PySem.W.takerIn
 rw [show PySem.W.findIn K (.ref C) f=some none from n]
 rfl
structure Ho (K:PySem.W.Frag) (C:Addr) (m:Str) (f:Addr):Prop where
 at_:PySem.W.findIn K (.ref C) m=some (some (.ref f))
 fn:PySem.W.isFn K (.ref f)=true
 kp:PySem.W.keepIn K (.ref f)=true
section
variable {X:Cx} {pins:List (Addr×Obj)} {σ:St} {H:Hp} {s:Shared} {a C dx:Addr} {fs:List (Str×V)} {f:Str} {v:V} {A:Around} {E:Value->Shared->Prop}
theorem Xv {b:Bool} {Q:Value->Shared->Prop} (I:Inv X pins σ H s) (e:H a=some (.ins C dx fs)) (c:CF X.K C) (n:B8 X.K C f) (l:fs.lookup f=some v)
  (h:∀ u s',Inv X pins σ H s'->Aw v u->Q u s'):wpAny (model X.prog X.w) A (getAttr (.ref a) f b) Q E s:=by
 obtain ⟨mA,O,r,_,_,_⟩:=Mp I.hok e
 obtain ⟨u,hu,ru⟩:=BX.some_of (v:=v) (o:=mA f) (by rw [<- l]; exact r f)
 exact Xx I.kIn O (c.get f) c.hd n hu (PC ru) (h u _ (I.tok _) ru)
theorem IC {m:Str} {g:Addr} {pl:Sem Bool} {Q:Value×List Value->Shared->Prop} (I:Inv X pins σ H s) (e:H a=some (.ins C dx fs)) (c:CF X.K C) (k:Ho X.K C m g) (l:fs.lookup m=none)
  (h:Q (.ref g,[.ref a]) s):wpAny (model X.prog X.w) A (getMethod (.ref a) m pl) Q E s:=by
 obtain ⟨mA,O,r,_,_,_⟩:=Mp I.hok e
 have hn:mA m=none:=BX.none_of (by rw [<- l]; exact r m)
 exact Xw I.kIn O (c.get m) k.at_ k.fn hn h
theorem Oi {y:V} {u:Value} {Q:Unit->Shared->Prop} (I:Inv X pins σ H s) (e:H a=some (.ins C dx fs)) (c:CF X.K C) (n:B8 X.K C f) (hl:fs.length<1000) (ry:Aw y u)
  (h:∀ s',Inv X pins σ (An H a (.ins C dx (Cp f y fs))) s'->Q () s'):wpAny (model X.prog X.w) A (setAttr (.ref a) f u) Q E s:=by
 obtain ⟨mA,O,r,wi,_,ho⟩:=Mp I.hok e
 have hz:(fs.map (·.1)).length<=sizeLine:=by rw [List.length_map,sizeLine_eq]; omega
 refine Tk I.kIn O c.sa c.po n.taker c.hd wi hz λh' O' sb=>h _ ?_
 have hd:∃ o,h'.get? dx=some o:=let ⟨o,_,_,e',_⟩:=O'.ns; ⟨o,e'⟩
 refine I.write (x:=a) (e:=dx) (by rw [e]; exact True.intro) (.inr ho) (λb q hb z=>(sb.2 b hb).trans z) hd ?_
 refine ⟨by rw [As O.ne]; exact ho,?_,O.ne,O'.obj,_,O'.ns,λg=>?_,λg hg=>?_⟩
 ·have:=Pn f y fs; omega
 ·show BX ((Cp f y fs).lookup g) (if g=f then some u else mA g)
  rw [Pk]
  by_cases q:g=f
  ·rw [if_pos q,if_pos q]; exact ry
  ·rw [if_neg q,if_neg q]; exact r g
 ·by_cases q:g=f
  ·rw [q]; exact (Mi f y fs).1
  ·refine (Mi f y fs).2 g (wi g λz=>hg ?_)
   show (if g=f then some u else mA g)=none
   rw [if_neg q]; exact z
theorem Inv.made (I:Inv X pins σ H s):Inv X pins σ (An (An H s.heap.objs.size (.own (s.heap.objs.size+1))) (s.heap.objs.size+1) (.ins C s.heap.objs.size []))
  { s with heap:=(s.heap.push PySem.W.emptyDict).push (PySem.W.instObj C s.heap.objs.size) }:=by
 have e1:(s.heap.push PySem.W.emptyDict).get? s.heap.objs.size=some PySem.W.emptyDict:=Heap.get?_push_size s.heap rfl
 have e2:((s.heap.push PySem.W.emptyDict).push (PySem.W.instObj C s.heap.objs.size)).get? (s.heap.objs.size+1)=some (PySem.W.instObj C s.heap.objs.size):=by
  have:=Heap.get?_push_size (s.heap.push PySem.W.emptyDict) (o:=PySem.W.instObj C s.heap.objs.size) rfl
  rwa [Heap.size_push] at this
 have e3:(s.heap.push PySem.W.emptyDict).Ns s.heap.objs.size (λ_=>none):=⟨PySem.W.emptyDict,#[],_,e1,rfl,(λe he=>absurd he (by simp)),λ_=>rfl⟩
 have I1:=I.laid (a:=s.heap.objs.size) (o:=.own (s.heap.objs.size+1)) (h':=s.heap.push PySem.W.emptyDict) (t':=s.toks) (λb u q=>Heap.get?_push_of_some _ q) (Nat.le_refl _) ⟨_,e1⟩
 refine I1.laid (a:=s.heap.objs.size+1) (o:=.ins C s.heap.objs.size []) (t':=s.toks) (λb u q=>Heap.get?_push_of_some _ q) (Nat.le_of_eq (Heap.size_push _ _)) ?_
 have ne:s.heap.objs.size≠s.heap.objs.size+1:=Nat.ne_of_lt (Nat.lt_succ_self _)
 refine ⟨by rw [As ne,AJ],Nat.zero_le _,ne,e2,λ_=>none,(Heap.Ns1.of_empty e3).at λo q=>Heap.get?_push_of_some _ q,λ_=>True.intro,λy hy=>absurd rfl hy⟩
theorem QZ {prog:Program} {w:World} {env:Env} {e:Expr} {f:Str} {pos:Pos} {s:Shared} {Q:Value->Shared->Prop} (hb:attributeBase e f env (eval e env)=eval e env)
  (h:wpAny (model prog w) A (eval e env) (λo s₁=>wpAny (model prog w) A (getAttr o f true) Q E s₁) E s):wpAny (model prog w) A (eval (.Attribute e f pos) env) Q E s:=
 Attribute_any_ h (by rw [arm_eval_Attribute,hb])
end
def Ss (K:PySem.W.Frag) (ta:TE) (f:Str):TE:=λσ H Q=>ta σ H λx H1=>∃ a C dx fs v,x=.ref a/\H1 a=some (.ins C dx fs)/\CF K C/\B8 K C f/\fs.lookup f=some v/\Q v H1
section
variable {X:Cx} {o e value:Expr} {f:Str} {pos pos' tpos:Pos} {ta tv:TE}
theorem UW (he:PE X e ta) (hb:attributeBase e f X.env (eval e X.env)=eval e X.env):PE X (.Attribute e f pos) (Ss X.K ta f):=by
 intro pins s σ H Q I h
 refine QZ hb (Ao (he pins s σ H _ I h) λu s1 ⟨x,H1,I1,rx,a,C,dx,fs,v,ex,ea,c,n,l,q⟩=>?_)
 subst ex
 obtain rfl:u=Value.ref a:=rx
 exact Xv I1 ea c n l λu' s2 I2 ru=>⟨v,H1,I2,ru,q⟩
end
section
variable {X:Cx} {pins:List (Addr×Obj)} {σ:St} {H:Hp} {s:Shared} {A:Around} {E:Value->Shared->Prop} {Q:Value->Shared->Prop} {c:Value} {b:Bool}
inductive DE (K:PySem.W.Frag) (H:Hp):V->Value->Prop where
 | non:DE K H .non (.type "NoneType")
 | bl (x:Bool):DE K H (.bl x) (.type "bool")
 | int (i:Int):DE K H (.int i) (.type "int")
 | str (x:Str):DE K H (.str x) (.type "str")
 | flt (x:UInt64):DE K H (.flt x) (.type "float")
 | lst {a:Addr} {xs:List V} (e:H a=some (.lst xs)):DE K H (.ref a) (.type "list")
 | frz {a:Addr} {o:Obj} {xs:List V} (e:H a=some (.frz o (.lst xs))):DE K H (.ref a) (.type "list")
 | tup {a:Addr} {xs:List V} (e:H a=some (.tup xs)):DE K H (.ref a) (.type "tuple")
 | dK {a:Addr} {kvs:List (Ak×V)} (e:H a=some (.dK kvs)):DE K H (.ref a) (.type "dict")
 | dT {a:Addr} {kvs:List (List Ak×V)} (e:H a=some (.dT kvs)):DE K H (.ref a) (.type "dict")
 | ins {a C dx:Addr} {fs:List (Str×V)} (e:H a=some (.ins C dx fs)) (cl:CF K C) (ha:PySem.W.findIn K (.ref C) "__class__" = some (some (.builtin "object.__class__")))
   (hn:PySem.W.specialIn K (.builtin "object.__class__") "__get__" = some (some (.builtin "getset_descriptor.__get__"))) (htk:PySem.W.takesIn K (.builtin "object.__class__")=some true)
   (hm:PySem.W.mroIn K C (.type "object")=some true):DE K H (.ref a) (.ref C)
end
end L2
namespace L2
open PySem PySem.Spec PyProof.Rows
structure AR (k:Nat) (A:Around):Prop where
 hd:A.handled=none
 dp:A.depth+3*k+5<recursionLimit
 un:A.units+16*k+200<cLine
theorem AR.mono {j k:Nat} {A:Around} (r:AR k A) (h:j<=k):AR j A:=⟨r.hd,by have:=r.dp; omega,by have:=r.un; omega⟩
theorem AR.deeper {k:Nat} {A:Around} (r:AR (k+1) A) (env:Env):AR k (A.deeper env):=
 ⟨r.hd,by have:=r.dp; show A.depth+1+3*k+5<_; omega,by have:=r.un; show A.units+3+16*k+200<_; omega⟩
theorem WF {A:Around} {C:Addr} {us:List Value} {kw:List (Str×Value)}:(A.under (.builtin "type.__call__" ⟨.ref C::us,kw⟩)).depth=A.depth+1:=by
 first | rfl | simp [Around.under,Code.weight,Code.isCreation,Code.isGuard,Code.isCaller,Code.frames,Code.isFrame,guardIds]
theorem WD {A:Around} {C:Addr} {us:List Value} {kw:List (Str×Value)}:(A.under (.builtin "type.__call__" ⟨.ref C::us,kw⟩)).units=A.units+1:=by
 first | rfl | simp [Around.under,Code.cUnits,Code.frames,Code.isFrame]
theorem AR.make {k:Nat} {A:Around} (r:AR (k+1) A) (C:Addr) (us:List Value) (kw:List (Str×Value)):AR k (A.under (.builtin "type.__call__" ⟨.ref C::us,kw⟩)):=
 ⟨r.hd,by have:=r.dp; rw [WF]; omega,by have:=r.un; rw [WD]; omega⟩
theorem AR.depth {k:Nat} {A:Around} (r:AR k A):A.depth<recursionLimit:=by have:=r.dp; omega
theorem AR.units {k:Nat} {A:Around} (r:AR k A):A.units+64<cLine:=by have:=r.un; omega
def NE:TA:=λ_ H Q=>Q [] H
def Sz (ta:TE) (tr:TA):TA:=λσ H Q=>ta σ H λx H1=>tr σ H1 λxs H2=>Q (x::xs) H2
section
variable {X:Cx} {e:Expr} {es:List Expr} {te:TE} {t:TA} {pos:Pos}
theorem Ez:PA X [] NE:=λ_ _ _ _ H Q I h=>Calls.spliced_nil ⟨[],H,I,.nil,h⟩
theorem Dx (ha:PE X e te) (hr:PA X es t) (hs:starEach (e::es) X.env=(false,eval e X.env)::starEach es X.env:=by rfl):PA X (e::es) (Sz te t):=by
 intro pos pins s σ H Q I h
 rw [hs]
 show wpAny _ _ (spliced ((false,eval e X.env)::backTo pos (starEach es X.env))) _ _ s
 refine Calls.spliced_cons (Ao (ha pins s σ H _ I h) λu s1 ⟨x,H1,I1,r1,q1⟩=>?_)
 exact Ao (hr pos pins s1 σ H1 _ I1 q1) λus s2 ⟨xs,H2,I2,r2,q2⟩=>⟨x::xs,H2,I2,.cons r1 r2,q2⟩
def R9 (t:TA):TE:=λσ H Q=>t σ H λxs H1=>xs.length<=sizeLine/\∀ p,H1 p=none->Q (.ref p) (An H1 p (.tup xs))
def Sn (t:TA):TE:=λσ H Q=>t σ H λxs H1=>xs.length<=sizeLine/\∀ p,H1 p=none->Q (.ref p) (An H1 p (.lst xs))
theorem OO {x1} (h:PA X es t):PE X (.Tuple es x1 pos) (R9 t):=by
 intro pins s σ H Q I hq
 refine wpAny_Tuple_spliced (Ao (h pos pins s σ H _ I hq) λus s1 ⟨xs,H1,I1,r,z,q⟩=>⟨by rw [<- r.length]; exact z,?_⟩)
 have hf:H1 s1.heap.objs.size=none:=I1.hok.fresh (Nat.le_refl _)
 refine ⟨.ref s1.heap.objs.size,An H1 s1.heap.objs.size (.tup xs),I1.laid (t':=s1.toks) (λb u e=>Heap.get?_push_of_some _ e) (Nat.le_refl _) ?_,rfl,q _ hf⟩
 exact ⟨z,us,r,En.new _ _⟩
theorem K7 (h:PA X es t):PE X (.List es pos) (Sn t):=by
 intro pins s σ H Q I hq
 refine wpAny_List_spliced (Ao (h pos pins s σ H _ I hq) λus s1 ⟨xs,H1,I1,r,z,q⟩=>⟨by rw [<- r.length]; exact z,?_⟩)
 have hf:H1 s1.heap.objs.size=none:=I1.hok.fresh (Nat.le_refl _)
 refine ⟨.ref s1.heap.objs.size,An H1 s1.heap.objs.size (.lst xs),I1.laid (t':=s1.toks) (λb u e=>Heap.get?_push_of_some _ e) (Nat.le_refl _) ?_,rfl,q _ hf⟩
 exact ⟨z,us,0,r,Heap.get?_push_size _ rfl⟩
end
abbrev Sp:=List V->Hp->VK->XK->Prop
abbrev CS:=List Env->Hp->Shared->XK->Value->Shared->Prop
structure FB (P:Program) (w:World) (K:PySem.W.Frag) (mg:Str->Option Value) (base:Heap) (A:Around) (outer:List Env) (s:Shared) (H:Hp):Prop where
 frames:A.frames=some outer
 mod:Mod K mg base
 bs:∀ b o,base.get? b=some o->s.heap.get? b=some o/\H b=none
 bsz:base.objs.size<=s.heap.objs.size
 funs:s.heap.FunFrames base outer
 frf:∀ b∈AV outer,H b=none
 hok:A3 P w H s.heap
 bare:AllBare s.gens
def CE (outer:List Env) (P:Program) (w:World) (H:Hp) (s:Shared) (Q:VK) (u:Value) (s':Shared):Prop:=
 ∃ v H',s'.os=s.os/\AllBare s'.gens/\Un (AV outer) [] H H' s.heap s'.heap/\A3 P w H' s'.heap/\Aw v u/\Q v H'
def CR (CX:CS) (outer:List Env) (P:Program) (w:World) (H:Hp) (s:Shared) (Q:VK) (E:XK) (r:Result) (s':Shared):Prop:=
 match r with
 | .ok (.ret u)=>CE outer P w H s Q u s'
 | .ok _=>False
 | .error e=>CX outer H s E e s'
structure AI (P:Program) (w:World) (K:PySem.W.Frag) (mg:Str->Option Value) (base:Heap) (CX:CS) (k:Nat) (f:Addr) (fd:FuncData) (ps:List Str) (sp:Sp):Prop where
 len:∀ vs H Q E,sp vs H Q E->vs.length=ps.length
 run:∀ (A:Around) (outer:List Env) (s:Shared) (H:Hp) (args:Args) (us:List Value) (vs:List V) (Q:VK) (E:XK),AR k A->FB P w K mg base A outer s H->BindsTo s fd args (ps.zip us)->Aq vs us->sp vs H Q E->
  codeAny (model P w) A (.call (.ref f) args) (CR CX outer P w H s Q E) s
theorem FB.make {P:Program} {w:World} {K:PySem.W.Frag} {mg:Str->Option Value} {base:Heap} {A:Around} {outer:List Env} {s:Shared} {H:Hp} (e:FB P w K mg base A outer s H) (C:Addr) (us:List Value) (kw:List (Str×Value)) :
  FB P w K mg base (A.under (.builtin "type.__call__" ⟨.ref C::us,kw⟩)) outer s H:=⟨by first | exact e.frames | (simpa [Around.under,Code.envs,Code.isFrame,pushEnvs] using e.frames),e.mod,e.bs,e.bsz,e.funs,e.frf,e.hok,e.bare⟩
section
variable {X:Cx} {pins:List (Addr×Obj)} {σ:St} {H:Hp} {s s':Shared}
theorem Inv.env0 (I:Inv X pins σ H s):FB X.prog X.w X.K X.mg X.base X.A X.stack s H:=
 ⟨I.ok.frames,I.ok.mod,I.bs,Nat.le_trans I.ok.bsz I.sz,I.stack,I.stkFree,I.hok,I.bare⟩
theorem Inv.after {Q:VK} {u:Value} (I:Inv X pins σ H s) (h:CE X.stack X.prog X.w H s Q u s'):EP X pins σ Q u s':=by
 obtain ⟨v,H',os,bare,un,hok,r,q⟩:=h
 obtain ⟨hh,g,d,t,os'⟩:=s'
 obtain rfl:os'=s.os:=os
 exact ⟨v,H',I.call (h':=hh) (g':=g) (d':=d) (t':=t) (ch:=[]) un hok bare (λb z=>absurd z (by simp)),r,q⟩
end
def SB (sp:Sp) (dvs:List V) (E:XK) (t:TA):TE:=λσ H Q=>t σ H λvs H1=>sp (vs++dvs) H1 Q E
def NF (C:Addr) (m:Str) (sp:Sp) (dvs:List V) (E:XK) (ta:TE) (t:TA):TE:=λσ H Q=>ta σ H λx H1=>∃ a dx fs,x=.ref a/\H1 a=some (.ins C dx fs)/\fs.lookup m=none /\
 t σ H1 λvs H2=>sp (x::(vs++dvs)) H2 Q E
def Sm (C:Addr) (sp:Sp) (dvs:List V) (E:XK) (t:TA):TE:=λσ H Q=>t σ H λvs H1=>∀ x dx,H1 x=none->H1 dx=none->dx≠x->
 sp (.ref x::(vs++dvs)) (An (An H1 dx (.own x)) x (.ins C dx [])) (λv H2=>v=.non/\Q (.ref x) H2) E
def Binds (K:PySem.W.Frag) (fd:FuncData) (ps:List Str) (ds:List Value):Prop:=
 ∀ (s:Shared) (us:List Value),K.In s.heap->(us++ds).length=ps.length->BindsTo s fd ⟨us,[]⟩ (ps.zip (us++ds))
theorem Binds.all {K:PySem.W.Frag} {fd:FuncData} {ps:List Str} (h:∀ us:List Value,us.length=ps.length->bindArgs fd ⟨us,[]⟩=pure (ps.zip us)):Binds K fd ps []:=λs us _ hl=>by
 rw [List.append_nil] at hl ⊢
 exact .of_eq (h us hl)
def EK (CX:CS) (X:Cx) (E:XK):Prop:=∀ (pins:List (Addr×Obj)) (σ:St) (H:Hp) (s:Shared) (e:Value) (s':Shared),Inv X pins σ H s->CX X.stack H s E e s'->X.xe e s'
section
variable {X:Cx} {CX:CS} {k:Nat} {f C:Addr} {fd:FuncData} {ps:List Str} {sp:Sp} {dvs:List V} {ds:List Value} {E:XK} {x m:Str} {p pos apos:Pos} {e o:Expr} {es:List Expr} {ta:TE} {t:TA}
theorem KP {pins:List (Addr×Obj)} {σ:St} {H:Hp} {s:Shared} {Q:VK} {us:List Value} {vs:List V} (F:AI X.prog X.w X.K X.mg X.base CX k f fd ps sp) (hr:AR k X.A) (hb:Binds X.K fd ps ds) (hd:Aq dvs ds) (hx:EK CX X E)
  (I:Inv X pins σ H s) (r:Aq vs us) (h:sp (vs++dvs) H Q E):wpAny (model X.prog X.w) X.A (call (.ref f) us) (EP X pins σ Q) X.xe s:=by
 have r2:Aq (vs++dvs) (us++ds):=r.append hd
 have hl:(us++ds).length=ps.length:=by rw [<- r2.length]; exact F.len _ _ _ _ h
 refine wpAny_call (codeAny_mono (F.run X.A X.stack s H ⟨us,[]⟩ (us++ds) (vs++dvs) Q E hr I.env0 (hb s us I.kIn hl) r2 h) λr s' hq=>?_)
 cases r with
 | error e=>exact hx pins σ H s e s' I hq
 | ok fl=>
  cases fl with
  | ret u=>exact I.after hq
  | next=>exact False.elim hq
  | brk=>exact False.elim hq
  | cont=>exact False.elim hq
theorem U1 (F:AI X.prog X.w X.K X.mg X.base CX k f fd ps sp) (hr:AR k X.A) (hg:Gl X x) (hm:X.mg x=some (.ref f)) (hk:PySem.W.keepIn X.K (.ref f)=true) (hb:Binds X.K fd ps ds) (hd:Aq dvs ds) (hx:EK CX X E)
  (ha:PA X (e::es) t) (hdb:(x==("__debug__" : Str))=false:=by decide) (he:starEach (e::es) X.env=(false,eval e X.env)::starEach es X.env:=by rfl) (hpl:(backTo pos (starEach es X.env)).any (·.1)=false:=by rfl) :
  PE X (.Call (.Name x p) (e::es) [] pos) (SB sp dvs E t):=by
 intro pins s σ H Q I h
 refine wpAny_Call_Name_kw (Fe I hg hm ?_ hdb)
 refine PySem.W.callWith_K (h₀:=X.base) I.ok.mod.kin hk (Ao (ha pos pins s σ H _ I h) λus s1 ⟨vs,H1,I1,r,q⟩=>⟨I1.kIn,?_⟩) he hpl
 exact KP F hr hb hd hx I1 r q
theorem US {pl:Sem Bool} (he:PE X o ta) (c:CF X.K C) (hm:Ho X.K C m f) (F:AI X.prog X.w X.K X.mg X.base CX k f fd ps sp) (hr:AR k X.A) (hb:Binds X.K fd ps ds) (hd:Aq dvs ds) (hx:EK CX X E) (ha:PA X (e::es) t)
  (hst:starEach (e::es) X.env=(false,eval e X.env)::starEach es X.env:=by rfl) (hpl:(backTo pos (starEach es X.env)).any (·.1)=false:=by rfl)
  (ht:eval (.Call (.Attribute o m apos) (e::es) [] pos) X.env=(do
   let ov <- eval o X.env
   standAt apos.atName
   let (f,first) <- holding [ov] (getMethod ov m pl)
   callWith pos f first (backTo pos (starEach (e::es) X.env)) (backToKw pos (keywordEach [] X.env))):=by rfl) :
  PE X (.Call (.Attribute o m apos) (e::es) [] pos) (NF C m sp dvs E ta t):=by
 intro pins s σ H Q I h
 refine PySem.W.methodCall_KW (pl:=pl) (Ao (he pins s σ H _ I h) λu s1 ⟨x,H1,I1,rx,a,dx,fs,ex,ea,l,q⟩=>?_) ht
 subst ex
 obtain rfl:u=Value.ref a:=rx
 refine IC I1 ea c hm l ?_
 refine PySem.W.callWith_K (first:=[.ref a]) (h₀:=X.base) I.ok.mod.kin hm.kp (Ao (ha pos pins s1 σ H1 _ I1 q) λus s2 ⟨vs,H2,I2,r,q2⟩=>⟨I2.kIn,?_⟩) hst hpl
 exact KP (us:=.ref a::us) (vs:=.ref a::vs) F hr hb hd hx I2 (.cons rfl r) q2
theorem UR {pl:Sem Bool} (he:PE X o ta) (c:CF X.K C) (hm:Ho X.K C m f) (F:AI X.prog X.w X.K X.mg X.base CX k f fd ps sp) (hr:AR k X.A) (hb:Binds X.K fd ps ds) (hd:Aq dvs ds) (hx:EK CX X E)
  (ht:eval (.Call (.Attribute o m apos) [] [] pos) X.env=(do
   let ov <- eval o X.env
   standAt apos.atName
   let (f,first) <- holding [ov] (getMethod ov m pl)
   callWith pos f first (backTo pos (starEach [] X.env)) (backToKw pos (keywordEach [] X.env))):=by rfl) :
  PE X (.Call (.Attribute o m apos) [] [] pos) (NF C m sp dvs E ta NE):=by
 intro pins s σ H Q I h
 refine PySem.W.methodCall_KW (pl:=pl) (Ao (he pins s σ H _ I h) λu s1 ⟨x,H1,I1,rx,a,dx,fs,ex,ea,l,q⟩=>?_) ht
 subst ex
 obtain rfl:u=Value.ref a:=rx
 refine IC I1 ea c hm l ?_
 exact PySem.W.callWith_K0 (first:=[.ref a]) I1.kIn hm.kp (KP (us:=[.ref a]) (vs:=[.ref a]) F hr hb hd hx I1 (.cons rfl .nil) q)
structure Mk (K:PySem.W.Frag) (C f:Addr):Prop where
 makes:PySem.W.makesIn K C=true
 init:PySem.W.findIn K (.ref C) "__init__" = some (some (.ref f))
 fn:PySem.W.isFn K (.ref f)=true
 kp:PySem.W.keepIn K (.ref C)=true
theorem T7 {pins:List (Addr×Obj)} {σ:St} {H:Hp} {s:Shared} {Q:VK} {us:List Value} {vs:List V} (M:Mk X.K C f) (F:AI X.prog X.w X.K X.mg X.base CX k f fd ps sp) (hr:AR (k+1) X.A) (hb:Binds X.K fd ps ds) (hd:Aq dvs ds)
  (hx:EK CX X E) (I:Inv X pins σ H s) (r:Aq vs us)
  (h:∀ x dx,H x=none->H dx=none->dx≠x->sp (.ref x::(vs++dvs)) (An (An H dx (.own x)) x (.ins C dx [])) (λv H2=>v=.non/\Q (.ref x) H2) E) :
  wpAny (model X.prog X.w) X.A (call (.ref C) us) (EP X pins σ Q) X.xe s:=by
 have hq:=h (s.heap.objs.size+1) s.heap.objs.size (I.hok.fresh (Nat.le_succ _)) (I.hok.fresh (Nat.le_refl _)) (Nat.ne_of_lt (Nat.lt_succ_self _))
 have I2:=Inv.made (C:=C) I
 have r2:Aq (V.ref (s.heap.objs.size+1)::(vs++dvs)) (Value.ref (s.heap.objs.size+1)::(us++ds)):=.cons rfl (r.append hd)
 have hl:(Value.ref (s.heap.objs.size+1)::us++ds).length=ps.length:=by
  have e:=r2.length
  rw [F.len _ _ _ _ hq] at e
  exact e.symm
 refine wpAny_call (WE (f:=f) I.kIn M.makes M.init (beq_iff_eq.mp M.fn) (codeAny_mono (F.run _ X.stack _ _ ⟨Value.ref (s.heap.objs.size+1)::us,[]⟩ (Value.ref (s.heap.objs.size+1)::(us++ds)) _ _ E (hr.make C us [])
  (I2.env0.make C us []) (hb _ (Value.ref (s.heap.objs.size+1)::us) I2.kIn hl) r2 hq) λr s' hq'=>?_))
 cases r with
 | error e=>exact hx pins σ _ _ e s' I2 hq'
 | ok fl=>
  cases fl with
  | ret u=>
   obtain ⟨v,H',I3,rv,ev,q3⟩:=I2.after hq'
   subst ev
   exact ⟨rv,⟨V.ref (s.heap.objs.size+1),H',I3,rfl,q3⟩⟩
  | next=>exact False.elim hq'
  | brk=>exact False.elim hq'
  | cont=>exact False.elim hq'
theorem UT (M:Mk X.K C f) (F:AI X.prog X.w X.K X.mg X.base CX k f fd ps sp) (hr:AR (k+1) X.A) (hg:Gl X x) (hm:X.mg x=some (.ref C)) (hb:Binds X.K fd ps ds) (hd:Aq dvs ds) (hx:EK CX X E)
  (ha:PA X (e::es) t) (hdb:(x==("__debug__" : Str))=false:=by decide) (he:starEach (e::es) X.env=(false,eval e X.env)::starEach es X.env:=by rfl) (hpl:(backTo pos (starEach es X.env)).any (·.1)=false:=by rfl) :
  PE X (.Call (.Name x p) (e::es) [] pos) (Sm C sp dvs E t):=by
 intro pins s σ H Q I h
 refine wpAny_Call_Name_kw (Fe I hg hm ?_ hdb)
 refine PySem.W.callWith_K (h₀:=X.base) I.ok.mod.kin M.kp (Ao (ha pos pins s σ H _ I h) λus s1 ⟨vs,H1,I1,r,q⟩=>⟨I1.kIn,?_⟩) he hpl
 exact T7 M F hr hb hd hx I1 r q
end
section
variable {X:Cx} {CX:CS} {k:Nat} {f C:Addr} {fd:FuncData} {ps ks:List Str} {sp:Sp} {E:XK} {x m:Str} {p pos apos kpos:Pos} {e o:Expr} {es:List Expr} {kws:List Keyword} {te ta:TE} {t tk:TA} {nm:Option Str}
variable {g:List Value->List Value->List Value} {gV:List V->List V->List V}
end
structure AD (N P:List Str) (sc:Scope):Prop where
 kind:sc.kind=.function
 co:sc.isCoroutine=false
 gen:sc.isGenerator=false
 nd:N.Nodup
 pre:N.take P.length=P
 par:∀ x∈P,sc.names.lookup x=some .local\/sc.names.lookup x=some .cell
 nofree:∀ y∈sc.names,y.2≠.free
theorem QN {kindOf:Str->Option NameKind} {x:Str}:∀ {binds:List (Str×Value)} {m:Str->Option Value},(∀ v,(x,v)∉binds)->bindL kindOf binds m x=m x
 | [],_,_=>rfl
 | (n,v)::r,m,h=>by
  unfold bindL
  rw [QN λw hw=>h w (List.mem_cons_of_mem _ hw)]
  split
  ·have:x≠n:=by rintro rfl; exact h v List.mem_cons_self
   simp [this]
  ·rfl
theorem QP {kindOf:Str->Option NameKind} {x:Str}:∀ {binds:List (Str×Value)} {m:Str->Option Value},(∀ v,(x,v)∉binds)->bindC kindOf binds m x=m x
 | [],_,_=>rfl
 | (n,v)::r,m,h=>by
  unfold bindC
  rw [QP λw hw=>h w (List.mem_cons_of_mem _ hw)]
  split
  ·rfl
  ·have:x≠n:=by rintro rfl; exact h v List.mem_cons_self
   simp [this]
theorem QO {kindOf:Str->Option NameKind} {x:Str} {v:Value}:∀ {P:List Str} {vs:List Value} {i:Nat} {m:Str->Option Value},P.Nodup->P[i]?=some x->vs[i]?=some v->kindOf x=some .local->
  bindL kindOf (P.zip vs) m x=some v
 | [],_,_,_,_,h,_,_=>by simp at h
 | _::_,[],_,_,_,_,h,_=>by simp at h
 | p::P,w::vs,0,m,nd,h1,h2,hk=>by
  simp at h1 h2; subst h1; subst h2
  show bindL kindOf ((p,w)::P.zip vs) m p=_
  unfold bindL
  rw [QN λv hv=>(List.nodup_cons.mp nd).1 (List.of_mem_zip hv).1,if_pos hk]
  simp
 | p::P,w::vs,i+1,m,nd,h1,h2,hk=>by
  show bindL kindOf ((p,w)::P.zip vs) m x=_
  unfold bindL
  exact QO (i:=i) (List.nodup_cons.mp nd).2 (by simpa using h1) (by simpa using h2) hk
theorem QQ {kindOf:Str->Option NameKind} {x:Str} {v:Value}:∀ {P:List Str} {vs:List Value} {i:Nat} {m:Str->Option Value},P.Nodup->P[i]?=some x->vs[i]?=some v->kindOf x≠some .local->
  bindC kindOf (P.zip vs) m x=some v
 | [],_,_,_,_,h,_,_=>by simp at h
 | _::_,[],_,_,_,_,h,_=>by simp at h
 | p::P,w::vs,0,m,nd,h1,h2,hk=>by
  simp at h1 h2; subst h1; subst h2
  show bindC kindOf ((p,w)::P.zip vs) m p=_
  unfold bindC
  rw [QP λv hv=>(List.nodup_cons.mp nd).1 (List.of_mem_zip hv).1,if_neg hk]
  simp
 | p::P,w::vs,i+1,m,nd,h1,h2,hk=>by
  show bindC kindOf ((p,w)::P.zip vs) m x=_
  unfold bindC
  exact QQ (i:=i) (List.nodup_cons.mp nd).2 (by simpa using h1) (by simpa using h2) hk
def start (N:List Str) (vs:List V):St:=vs.map some++List.replicate (N.length-vs.length) none
def Dj (CX:CS) (P:Program) (w:World) (K:PySem.W.Frag) (mg:Str->Option Value) (base:Heap) (N:List Str) (qual:Str) (scope:Scope) (f:Addr) (cd:Value) (A:Around) (outer:List Env) (s:Shared) (H:Hp) (E:XK):Cx where
 prog:=P
 w:=w
 K:=K
 mg:=mg
 base:=base
 A:=A.deeper (envOfC qual scope s.heap.objs.size f cd)
 N:=N
 s₀:=s
 H₀:=H
 env:=envOfC qual scope s.heap.objs.size f cd
 outer:=outer
 stack:=envOfC qual scope s.heap.objs.size f cd::outer
 ex:=[]
 calm:=true
 fn:=λ_=>true
 pn:=[]
 xe:=λe s'=>wpAny (model P w) (A.deeper (envOfC qual scope s.heap.objs.size f cd)) (leaving (envOfC qual scope s.heap.objs.size f cd) e) (λ_ s''=>CX outer H s E e s'') (λe' s''=>CX outer H s E e' s'') s'
theorem QF {sc:Scope} {n:Nat} {x:Str} (h:sc.names.lookup x=some .cell):∃ c,(cellsFrom n sc.names []).lookup x=some c:=by
 have q:=PySem.W.cellsFrom_some sc.names n [] (.inl h)
 exact Option.isSome_iff_exists.mp q
theorem Xf {CX:CS} {P:Program} {w:World} {K:PySem.W.Frag} {mg:Str->Option Value} {base:Heap} {N ps:List Str} {qual:Str} {scope:Scope} {f:Addr} {cd:Value} {A:Around} {outer:List Env} {s s1:Shared} {H:Hp} {E:XK} {us:List Value} {vs:List V}
  (S:AD N ps scope) (hd:A.handled=none) (e0:FB P w K mg base A outer s H) (hl:vs.length=ps.length) (r:Aq vs us)
  (x:InCallC s s.heap.objs.size (bindL (envOfC qual scope s.heap.objs.size f cd).kindOf (ps.zip us) λ_=>none) (cellsFrom (s.heap.objs.size+1) scope.names []) (bindC (envOfC qual scope s.heap.objs.size f cd).kindOf (ps.zip us) λ_=>none) s1) :
  Inv (Dj CX P w K mg base N qual scope f cd A outer s H E) [] (start N vs) H s1:=by
 have hpl:ps.length<=N.length:=by have:=congrArg List.length S.pre; rw [List.length_take] at this; omega
 obtain ⟨h1,tk,rfl,hk⟩:=x.done
 have noA:∀ b:Addr,b∉(Dj CX P w K mg base N qual scope f cd A outer s H E).ex:=λb z=>absurd (show b∈([]:List Addr) from z) (by simp)
 refine ⟨⟨e0.mod,S.kind,rfl,rfl,Nat.le_refl _,λy z c h1 h2=>?_,λy hy=>?_,λy c _ h=>?_,λ_=>hd,Around.frames_deeper e0.frames,.inr ⟨rfl,rfl⟩,λb z=>absurd z (noA b),e0.bs,e0.bsz,λb _ _=>noA b,λb z=>absurd z (noA b),e0.funs,e0.frf⟩,
  rfl,e0.bare,Un.kept hk,⟨_,x.toInCall.ns,λi y v h1 h2 h3=>?_⟩,λy c h=>⟨_,x.cell y c h⟩,e0.hok.fresh (Nat.le_refl _),λy c h=>?_,λp hp=>absurd (show p∈([]:List (Addr×Obj)) from hp) (by simp),e0.hok.kept hk,?_⟩
 ·exact name_of_addr x.apart (PySem.mem_of_lookup h1) (PySem.mem_of_lookup h2)
 ·have hy:scope.names.lookup y=some .cell\/scope.names.lookup y=some .free:=hy
  rcases hy with hy | hy
  ·exact QF hy
  ·exact absurd rfl (S.nofree _ (PySem.mem_of_lookup hy))
 ·exact Nat.le_of_lt (x.above y c (PySem.mem_of_lookup h))
 ·have hi:i<vs.length:=by
   unfold start at h2
   by_cases hi:i<vs.length
   ·exact hi
   ·rw [List.getElem?_append_right (by simpa using hi)] at h2
    rw [List.getElem?_replicate] at h2
    split at h2 <;> cases h2
  have ha:vs[i]?=some v:=by
   unfold start at h2
   rw [List.getElem?_append_left (by simpa using hi),List.getElem?_map] at h2
   cases e:vs[i]? with
   | none=>rw [e] at h2; cases h2
   | some a=>rw [e] at h2; cases h2; rfl
  obtain ⟨u,hu,rv⟩:=r.get ha
  have hp:ps[i]?=some y:=by
   rw [<- S.pre,List.getElem?_take_of_lt wF]; exact h1
  have ndP:ps.Nodup:=by rw [<- S.pre]; exact S.nd.sublist (List.take_sublist _ _)
  refine ⟨u,rv,?_⟩
  rcases S.par y (List.mem_of_getElem? hp) with k | k
  ·exact .inl ⟨k,QO ndP hp hu k⟩
  ·obtain ⟨c,e⟩:=QF (n:=s.heap.objs.size+1) k
   refine .inr ⟨.inl k,c,e,?_⟩
   have q:=x.cell y c e
   rw [QQ ndP hp hu (by show scope.names.lookup y≠_; rw [k]; decide)] at q
   exact q
 ·exact e0.hok.fresh (Nat.le_of_lt (x.above y c (PySem.mem_of_lookup h)))
 ·unfold start
  show _=N.length
  rw [List.length_append,List.length_map,List.length_replicate]
  omega
theorem PR {CX:CS} {P:Program} {w:World} {K:PySem.W.Frag} {mg:Str->Option Value} {base:Heap} {k:Nat} {f:Addr} {name qual:Str} {params:Arguments} {body:List Stmt} {scope:Scope} {dV kV doc pm cdv ct oc:Value} {an od:Option Addr}
  {osl:Array (Option Value)} {N ps:List Str} {sp:Sp} (lk:K.lookup f=some ⟨oc,od,.func (PySem.W.fnOf name qual params body scope dV kV doc pm an cdv ct),osl⟩) (hcd:PySem.W.codeIn K cdv qual=true) (S:AD N ps scope)
  (len:∀ vs H Q E,sp vs H Q E->vs.length=ps.length)
  (hbody:∀ (A:Around) (outer:List Env) (s:Shared) (H:Hp) (vs:List V) (Q:VK) (E:XK),AR k (A.deeper (envOfC qual scope s.heap.objs.size f cdv))->sp vs H Q E->
   ∃ t,PSs (Dj CX P w K mg base N qual scope f cdv A outer s H E) body t/\t { nx:=λ_ H'=>Q .non H',rt:=Q } (start N vs) H) :
  AI P w K mg base CX (k+1) f (PySem.W.fnOf name qual params body scope dV kV doc pm an cdv ct) ps sp:=by
 refine ⟨len,λA outer s H args us vs Q E hr e0 hb r hsp=>?_⟩
 have hl:=len _ _ _ _ hsp
 have KX:K.In s.heap:=e0.mod.kin.keeps λb o e=>(e0.bs b o e).1
 have lim:s.heap.NoLimit:=e0.mod.nolimit.keeps λb o e=>(e0.bs b o e).1
 have hkind:∀ y∈ps.zip us,scope.names.lookup y.1=some .local\/(scope.names.lookup y.1=some .cell/\((cellsFrom (s.heap.objs.size+1) scope.names []).lookup y.1).isSome=true):=λ⟨n,v⟩ hy=>by
  rcases S.par n (List.of_mem_zip hy).1 with q | q
  ·exact .inl q
  ·exact .inr ⟨q,PySem.W.cellsFrom_some _ _ _ (.inl q)⟩
 refine codeAny_call_function hr.depth (KX _ _ lk) rfl S.co S.gen rfl (PySem.W.codeRec_of KX hcd) (hb _ _ _ _ ?_)
 refine wpAny_newFunctionEnv_cells S.kind hkind λenv he s1 x=>?_
 subst he
 refine ⟨lim.keeps x.toInCall.keep,codeAny_func ?_⟩
 obtain ⟨t,ht,hq⟩:=hbody A outer s H vs Q E (hr.deeper _) hsp
 have I:Inv (Dj CX P w K mg base N qual scope f cdv A outer s H E) [] (start N vs) H s1:=Xf S hr.hd e0 hl r x
 refine wpAny_mono (ht [] s1 (start N vs) H _ I hq) (λfl s' hs=>?_) λe s' hs=>hs
 have fin:∀ {σ':St} {H':Hp} {v:V} {u:Value},Inv (Dj CX P w K mg base N qual scope f cdv A outer s H E) [] σ' H' s'->Aw v u->Q v H'->CE outer P w H s Q u s':=
  λ{σ' H' v u} J rv q=>⟨v,H',J.os,J.bare,J.base,J.hok,rv,q⟩
 cases fl with
 | ret u=>
  obtain ⟨v,σ',H',J,rv,q⟩:=hs
  exact fin J rv q
 | next=>
  obtain ⟨σ',H',J,q⟩:=hs
  exact fin (v:=V.non) (u:=Value.none) J rfl q
 | brk=>
  obtain ⟨_,_,_,q⟩:=hs
  exact False.elim q
 | cont=>
  obtain ⟨_,_,_,q⟩:=hs
  exact False.elim q
end L2
namespace L2
open PySem PySem.Spec PyProof.Rows
section
variable {X:Cx} {x:Str} {p pos:Pos} {e:Expr} {es:List Expr} {t:TA} {id T:String} {r:List V->Hp->VK->Prop}
def tCB (r:List V->Hp->VK->Prop) (t:TA):TE:=λσ H Q=>t σ H λvs H1=>r vs H1 Q
theorem OP (hc:D7 X (.builtin id) r) (hg:Gl X x) (hm:X.mg x=none) (hv:bootBuiltins x=some (.builtin id)) (ha:PA X (e::es) t) (hn:x ≠ "__name__" := by decide) (hdb:(x==("__debug__" : Str))=false:=by decide)
  (he:starEach (e::es) X.env=(false,eval e X.env)::starEach es X.env:=by rfl) (hpl:(backTo pos (starEach es X.env)).any (·.1)=false:=by rfl):PE X (.Call (.Name x p) (e::es) [] pos) (tCB r t):=by
 intro pins s σ H Q I h
 refine wpAny_Call_Name_kw (DA I hg hm hv ?_ hn hdb)
 exact PyProof.Rows.callWith_builtin1 (Ao (ha pos pins s σ H _ I h) λus s1 ⟨vs,H1,I1,r1,q1⟩=>hc pins s1 σ H1 vs us Q I1 r1 q1) he hpl
theorem K9 (hc:D7 X (.type T) r) (hg:Gl X x) (hm:X.mg x=none) (hv:bootBuiltins x=some (.type T)) (ha:PA X (e::es) t) (hn:x ≠ "__name__" := by decide) (hdb:(x==("__debug__" : Str))=false:=by decide)
  (he:starEach (e::es) X.env=(false,eval e X.env)::starEach es X.env:=by rfl) (hpl:(backTo pos (starEach es X.env)).any (·.1)=false:=by rfl):PE X (.Call (.Name x p) (e::es) [] pos) (tCB r t):=by
 intro pins s σ H Q I h
 refine wpAny_Call_Name_kw (DA I hg hm hv ?_ hn hdb)
 exact PyProof.Rows.callWith_type1 (Ao (ha pos pins s σ H _ I h) λus s1 ⟨vs,H1,I1,r1,q1⟩=>hc pins s1 σ H1 vs us Q I1 r1 q1) he hpl
end
end L2
namespace HT
open PySem PyProof.Rows
def WG:List Int->List Int->Bool
 | [],[]=>false
 | [],_::_=>true
 | _::_,[]=>false
 | x::xs,y::ys=>if x=y then WG xs ys else decide (x<y)
section
open PySem.SeqAt
open PySem.AutoSeq1 (wpAny_loadPart')
open PySem.MeetsSeq PySem.MeetsSeq2 PySem.MeetsSeq3
end
section
variable {prog:Program} {w:World} {A:Around} {E:Value->Shared->Prop} {s:Shared}
def sIx (n d:Nat):Option Int->Nat
 | none=>d
 | some v=>if v<0 then (v+(n:Int)).toNat else min v.toNat n
theorem sIx_none (n d:Nat):sIx n d none=d:=rfl
theorem sIx_nat (n d k:Nat):sIx n d (some (k:Int))=min k n:=by
 show (if (k:Int)<0 then ((k:Int)+(n:Int)).toNat else min (k:Int).toNat n)=min k n
 rw [if_neg wF,Int.toNat_natCast]
end
end HT
namespace L2
open PySem PySem.Spec PyProof.Rows
abbrev TO:=St->Hp->(Option Int->Hp->Prop)->Prop
def PO (X:Cx) (e:Option Expr) (t:TO):Prop:=
 ∀ (pins:List (Addr×Obj)) (s:Shared) (σ:St) (H:Hp) (Q:Option Int->Hp->Prop),Inv X pins σ H s->t σ H Q->
  wpAny (model X.prog X.w) X.A (evalPart e X.env) (λu s'=>∃ o H',Inv X pins σ H' s'/\IsPart u o/\Q o H') X.xe s
def Sk:TO:=λ_ H Q=>Q none H
def Sd (t:TE):TO:=λσ H Q=>t σ H λx H1=>∃ i,x=.int i/\Q (some i) H1
section
variable {X:Cx} {e:Expr} {te:TE} {lo hi:Option Expr} {tl th:TO} {pos p2:Pos}
theorem UB:PO X none Sk:=by
 intro pins s σ H Q I h
 rw [evalPart_none]
 exact wpAny_pure ⟨none,H,I,.none,h⟩
theorem UA (h:PE X e te):PO X (some e) (Sd te):=by
 intro pins s σ H Q I hw
 rw [evalPart_some]
 refine Ao (h pins s σ H _ I hw) λu s1 ⟨x,H1,I1,r1,q1⟩=>?_
 obtain ⟨i,rfl,q⟩:=q1
 obtain ⟨t,rfl⟩:=r1
 exact ⟨some i,H1,I1,.int i t,q⟩
def SlR (X:Cx) (r:V->Option Int->Option Int->Hp->VK->Prop):Prop:=
 ∀ (pins:List (Addr×Obj)) (s:Shared) (σ:St) (H:Hp) (x:V) (v vl vu:Value) (lo hi:Option Int) (sl:Addr) (Q:VK),Inv X pins σ H s->Aw x v->s.heap.IsSliceOf sl vl vu .none->IsPart vl lo->IsPart vu hi->r x lo hi H Q->
  ∃ T id,typeLookup (.type T) "__getitem__" = pure (some (.builtin id))/\s.TypeIs v T/\wpAny (model X.prog X.w) X.A (getItem v (.ref sl)) (EP X pins σ Q) X.xe s
def tSl (r:V->Option Int->Option Int->Hp->VK->Prop) (te:TE) (tl th:TO):TE:=λσ H Q=>te σ H λx H1=>tl σ H1 λl H2=>th σ H2 λu H3=>r x l u H3 Q
theorem UN {r:V->Option Int->Option Int->Hp->VK->Prop} (hr:SlR X r) (he:PE X e te) (hl:PO X lo tl) (hu:PO X hi th):PE X (.Subscript e (.Slice lo hi none p2) pos) (tSl r te tl th):=by
 intro pins s σ H Q I h
 refine Subscript_ (Ao (he pins s σ H _ I h) λv s1 ⟨x,H1,I1,r1,q1⟩=>?_)
 refine wpAny_Slice (Ao (hl pins s1 σ H1 _ I1 q1) λvl s2 ⟨l,H2,I2,pl,q2⟩=>Ao (hu pins s2 σ H2 _ I2 q2) λvu s3 ⟨u,H3,I3,pu,q3⟩=>?_)
 rw [evalPart_none]
 refine wpAny_pure ?_
 have I4:Inv X pins σ H3 { s3 with heap:=s3.heap.push { cls:=.type "slice",data:=.fields #[vl,vu,.none] } }:=I3.kept (t':=s3.toks) λb ob q=>Heap.get?_push_of_some _ q
 obtain ⟨T,id,hT,ht,hg⟩:=hr pins { s3 with heap:=s3.heap.push { cls:=.type "slice",data:=.fields #[vl,vu,.none] } } σ H3 x v vl vu l u s3.heap.objs.size Q I4 r1 (Heap.IsSliceOf.new ..) pl pu q3
 show wpAny (model X.prog X.w) X.A (subscriptTail e (.Slice lo hi none p2) v (.ref s3.heap.objs.size)) (EP X pins σ Q) X.xe { s3 with heap:=s3.heap.push { cls:=.type "slice",data:=.fields #[vl,vu,.none] } }
 exact tail_any (ops:=[.ref s3.heap.objs.size,v]) ht hT hg (by with_unfolding_all rfl)
def Fm (xs:List V) (lo hi:Option Int):List V:=(xs.drop (HT.sIx xs.length 0 lo)).take (HT.sIx xs.length xs.length hi-HT.sIx xs.length 0 lo)
theorem YW (xs:List V) (lo hi:Option Int):(Fm xs lo hi).length<=xs.length:=by
 unfold Fm
 rw [List.length_take,List.length_drop]
 omega
end
end L2
namespace L2
open PySem PySem.Spec PyProof.Rows
def Fh (n:Nat) (i:Int):Option Nat:=if 0<=i then (if i<n then some i.toNat else none) else if -(n:Int)<=i then some (i+n).toNat else none
def Bg {α:Type} (xs:List α) (i:Int):Option α:=(Fh xs.length i).bind λj=>xs[j]?
theorem WW {n:Nat} {i:Int} {j:Nat} (h:Fh n i=some j):seqIndex? i n=some j/\j<n/\-(n:Int)<=i/\i<n:=by
 unfold Fh at h
 by_cases h0:0<=i
 ·rw [if_pos h0] at h
  by_cases h1:i<n
  ·rw [if_pos h1] at h
   have e:i.toNat=j:=Option.some.inj h
   exact ⟨by rw [seqIndex_of h0 h1,e],by omega,by omega,h1⟩
  ·rw [if_neg h1] at h; cases h
 ·rw [if_neg h0] at h
  by_cases h1:-(n:Int)<=i
  ·rw [if_pos h1] at h
   have e:(i+n).toNat=j:=Option.some.inj h
   exact ⟨by rw [seqIndex_neg wF h1,e],by omega,h1,by omega⟩
  ·rw [if_neg h1] at h; cases h
theorem Q3 {α:Type} {xs:List α} {i:Int} {v:α} (h:Bg xs i=some v):∃ j,seqIndex? i xs.length=some j/\xs[j]?=some v/\j<xs.length/\-(xs.length:Int)<=i/\i<xs.length:=by
 unfold Bg at h
 cases e:Fh xs.length i with
 | none=>rw [e] at h; cases h
 | some j=>
  rw [e] at h
  obtain ⟨h1,h2,h3,h4⟩:=WW e
  exact ⟨j,h1,h,h2,h3,h4⟩
theorem C5 {α:Type} {xs:List α} {j:Nat} {v:α} (h:xs[j]?=some v):Bg xs (j:Int)=some v:=by
 have hj:j<xs.length:=(List.getElem?_eq_some_iff.mp h).1
 have e:Fh xs.length (j:Int)=some j:=by
  unfold Fh
  rw [if_pos wF,if_pos wF]; simp
 unfold Bg; rw [e]; exact h
def M5 (b:Expr):Prop:=∀ o i,subscripted b false o i=operate [o,i] (getItem o i)
def IxR (X:Cx) (r:R2):Prop:=
 ∀ (value slice:Expr) (pins:List (Addr×Obj)) (s:Shared) (σ:St) (H:Hp) (x y:V) (v u:Value) (Q:VK),Inv X pins σ H s->Aw x v->Aw y u->r x y H Q->
  subscripted slice false v u=operate [v,u] (getItem v u)->wpAny (model X.prog X.w) X.A (subscriptTail value slice v u) (EP X pins σ Q) X.xe s
def Jk (X:Cx) (id:String) (r:V->List V->Hp->VK->Prop):Prop:=
 ∀ (pins:List (Addr×Obj)) (s:Shared) (σ:St) (H:Hp) (x:V) (xs:List V) (v:Value) (us:List Value) (Q:VK),Inv X pins σ H s->Aw x v->Aq xs us->r x xs H Q->
  wpAny (model X.prog X.w) X.A (call (.builtin id) (v::us)) (EP X pins σ Q) X.xe s
section
variable {X:Cx} {a b:Expr} {ta tb:TE} {pos:Pos}
def Uj (K:PySem.W.Frag):R2:=λx y H Q=>∃ p xs i v,x=.ref p/\y=.int i/\A0 K H p xs/\Bg xs i=some v/\Q v H
def Ui (K:PySem.W.Frag):R2:=λx y H Q=>∃ p xs i v,x=.ref p/\y=.int i/\Bm K H p xs/\Bg xs i=some v/\Q v H
theorem Pq:IxR X (Uj X.K):=by
 intro value slice pins s σ H x y v u Q I rx ry h hs
 obtain ⟨p,xs,i,z,rfl,rfl,hq,he,q⟩:=h
 cases rx
 obtain ⟨t,rfl⟩:=ry
 obtain ⟨its,r,pl,hz⟩:=I.list hq
 obtain ⟨j,h1,h2,h3,h4,h5⟩:=Q3 he
 obtain ⟨w,ew,rw'⟩:=r.get h2
 have hl:=r.length
 have hn:=GY
 have fin:EP X pins σ Q w s:=⟨z,H,I,rw',q⟩
 by_cases h0:0<=i
 ·have hj:i.toNat=j:=by
   rw [seqIndex_of h0 h5] at h1
   exact Option.some.inj h1
  exact item_listR pl.isList h0 wF (by rw [hj]; simpa using ew) fin hs
 ·have hj:(i+(its.toArray.size:Int)).toNat=j:=by
   rw [seqIndex_neg wF h4] at h1
   rw [List.size_toArray,<- hl]
   exact Option.some.inj h1
  exact subscriptTail_builtinR (x:=w) pl.isList.typeIs slot_list_getitem.lookup
   (wpAny_getItem_list_neg (Q:=λr s'=>r=w/\EP X pins σ Q r s') pl.isList wF (by rw [List.size_toArray] <;> omega) wF (by rw [hj]; simpa using ew) ⟨rfl,fin⟩) hs
theorem WV:IxR X (Ui X.K):=by
 intro value slice pins s σ H x y v u Q I rx ry h hs
 obtain ⟨p,xs,i,z,rfl,rfl,hq,he,q⟩:=h
 cases rx
 obtain ⟨t,rfl⟩:=ry
 obtain ⟨its,r,pl,hz⟩:=I.tuple hq
 obtain ⟨j,h1,h2,h3,h4,h5⟩:=Q3 he
 obtain ⟨w,ew,rw'⟩:=r.get h2
 have hl:=r.length
 have hn:=GY
 have fin:EP X pins σ Q w s:=⟨z,H,I,rw',q⟩
 exact subscriptTail_builtinR (x:=w) pl.typeIs slot_tuple_getitem.lookup
  (getItem_tuple (j:=j) (Q:=λr s'=>r=w/\EP X pins σ Q r s') pl wF wF (by rw [List.size_toArray,<- hl]; exact h1) (by simpa using ew) ⟨rfl,fin⟩) hs
theorem Ta (lo hi:Option Int) (n:Nat):(sliceBounds lo hi none n).1=((HT.sIx n 0 lo:Nat):Int)/\(sliceBounds lo hi none n).2.1=((HT.sIx n n hi:Nat):Int)/\(sliceBounds lo hi none n).2.2=1:=by
 refine ⟨?_,?_,rfl⟩
 ·cases lo with
  | none=>simp [sliceBounds,HT.sIx]
  | some i=>
   simp only [sliceBounds,HT.sIx,Option.getD_none,show (1:Int)>0 by decide,if_true]
   by_cases h:i<0
   ·simp only [h,if_true] <;> omega
   ·simp only [h,if_false] <;> omega
 ·cases hi with
  | none=>simp [sliceBounds,HT.sIx]
  | some i=>
   simp only [sliceBounds,HT.sIx,Option.getD_none,show (1:Int)>0 by decide,if_true]
   by_cases h:i<0
   ·simp only [h,if_true] <;> omega
   ·simp only [h,if_false] <;> omega
theorem Tb (its:List Value) (lo hi:Option Int):slicePick its.toArray lo hi none=((its.drop (HT.sIx its.length 0 lo)).take (HT.sIx its.length its.length hi-HT.sIx its.length 0 lo)).toArray:=by
 obtain ⟨h1,h2,h3⟩:=Ta lo hi its.toArray.size
 unfold slicePick
 rw [h1,h2,h3]
 simp only [sliceRange_one,pick_run,List.size_toArray] <;> rfl
def Uf (K:PySem.W.Frag):V->Option Int->Option Int->Hp->VK->Prop:=λx lo hi H Q=>∃ a xs,x=.ref a/\A0 K H a xs/\∀ p,H p=none->Q (.ref p) (An H p (.lst (Fm xs lo hi)))
theorem Td:SlR X (Uf X.K):=by
 intro pins s σ H x v vl vu lo hi sl Q I rx hs pl pu h
 obtain ⟨a,xs,rfl,hx,q⟩:=h
 cases rx
 obtain ⟨its,r,ht,hz⟩:=I.list hx
 have hlen:=r.length
 refine ⟨"list",_,slot_list_getitem.lookup,ht.isList.typeIs,?_⟩
 refine wpAny_getItem_list_slice ht.isList hs pl pu .none (by simp) ?_ (by rw [List.size_toArray] <;> omega)
 rw [Tb,<- hlen]
 refine ⟨.ref s.heap.objs.size,_,I.laid (t':=s.toks) (o:=.lst (Fm xs lo hi)) (λb ob q=>Heap.get?_push_of_some _ q) (Nat.le_refl _) ?_,rfl,q _ (I.hok.fresh (Nat.le_refl _))⟩
 exact ⟨Nat.le_trans (YW xs lo hi) hz,_,0,(r.drop (HT.sIx xs.length 0 lo)).take (HT.sIx xs.length xs.length hi-HT.sIx xs.length 0 lo),Heap.get?_push_size _ rfl⟩
theorem Zn:D7 X (.builtin "len") (λxs H Q=>∃ p ys,xs=[.ref p]/\(A0 X.K H p ys\/Bm X.K H p ys)/\Q (.int ys.length) H):=by
 intro pins s σ H xs us Q I r h
 obtain ⟨p,ys,rfl,hq,q⟩:=h
 obtain ⟨u,rfl,rx⟩:=Ds r
 cases rx
 have hn:=GY
 rcases hq with hq | hq
 ·obtain ⟨its,r',pl,hz⟩:=I.list hq
  have hlen:=r'.length
  exact Calls.call_len_list pl.isList (by simp only [List.size_toArray] <;> omega) ⟨.int ys.length,H,I.tok _,⟨s.toks+1,by rw [List.size_toArray,hlen]⟩,q⟩
 ·obtain ⟨its,r',pl,hz⟩:=I.tuple hq
  have hlen:=r'.length
  exact len_tuple pl (by simp only [List.size_toArray] <;> omega) ⟨.int ys.length,H,I.tok _,⟨s.toks+1,by rw [List.size_toArray,hlen]⟩,q⟩
theorem Zm:D7 X (.builtin "len") (λxs H Q=>∃ z,xs=[.str z]/\z.length<=sizeLine/\Q (.int z.length) H):=by
 intro pins s σ H xs us Q I r h
 obtain ⟨z,rfl,hz,q⟩:=h
 obtain ⟨u,rfl,t,rfl⟩:=Ds r
 have hn:=GY
 exact len_str wF ⟨.int z.length,H,I.tok _,⟨_,rfl⟩,q⟩
theorem Zl:D7 X (.type "list") (λxs H Q=>∃ p ys,xs=[.ref p]/\(A0 X.K H p ys\/Bm X.K H p ys)/\∀ l,H l=none->Q (.ref l) (An H l (.lst ys))):=by
 intro pins s σ H xs us Q I r h
 obtain ⟨p,ys,rfl,hq,q⟩:=h
 obtain ⟨u,rfl,rx⟩:=Ds r
 cases rx
 have fin:∀ (its:List Value),Aq ys its->ys.length<=sizeLine->∀ (h':Heap) (c':Nat),(∀ b o',s.heap.get? b=some o'->h'.get? b=some o')->
   h'.get? s.heap.objs.size=some { cls:=.type "list",dict:=none,data:=.seq its.toArray c',slots:=#[] }->EP X pins σ Q (.ref s.heap.objs.size) { s with heap:=h' }:=λits r' hz h' c' kp e=>
  ⟨.ref s.heap.objs.size,_,I.laid (t':=s.toks) kp (Nat.le_refl _) (show Bn X.prog X.w _ h' _ (.lst ys) from ⟨hz,its,c',r',e⟩),rfl,q _ (I.hok.fresh (Nat.le_refl _))⟩
 rcases hq with hq | hq
 ·obtain ⟨its,r',pl,hz⟩:=I.list hq
  have hlen:=r'.length
  obtain ⟨o,ho,hc,n,hd⟩:=pl.isList
  exact call_list_seq p (.inl rfl) ho hc hd (λh' c' kp e=>fin its r' hz h' c' kp e) (by simp only [List.size_toArray] <;> omega)
 ·obtain ⟨its,r',pl,hz⟩:=I.tuple hq
  have hlen:=r'.length
  obtain ⟨o,ho,hc,n,hd⟩:=pl
  exact call_list_seq p (.inr rfl) ho hc hd (λh' c' kp e=>fin its r' hz h' c' kp e) (by simp only [List.size_toArray] <;> omega)
theorem Zi:D7 X (.type "tuple") (λxs H Q=>∃ p ys,xs=[.ref p]/\((A0 X.K H p ys/\∀ l,H l=none->Q (.ref l) (An H l (.tup ys)))\/(Bm X.K H p ys/\Q (.ref p) H))):=by
 intro pins s σ H xs us Q I r h
 obtain ⟨p,ys,rfl,h⟩:=h
 obtain ⟨u,rfl,rx⟩:=Ds r
 cases rx
 rcases h with ⟨hq,q⟩ | ⟨hq,q⟩
 ·obtain ⟨its,r',pl,hz⟩:=I.list hq
  have hlen:=r'.length
  refine call_tuple_list pl.isList (λh' kp=>?_) (by simp only [List.size_toArray] <;> omega)
  have I1:Inv X pins σ H { s with heap:=h' }:=I.kept (t':=s.toks) kp
  have I2:Inv X pins σ (An H h'.objs.size (.tup ys)) { s with heap:=h'.push { cls:=.type "tuple",data:=.seq its.toArray } }:=
   I1.laid (t':=s.toks) (λb o e=>Heap.get?_push_of_some _ e) (Nat.le_refl _) (show Bn X.prog X.w _ _ _ (.tup ys) from ⟨hz,its,r',En.new _ _⟩)
  exact ⟨.ref h'.objs.size,_,I2,rfl,q _ (I1.hok.fresh (Nat.le_refl _))⟩
 ·obtain ⟨its,r',pl,hz⟩:=I.tuple hq
  exact call_tuple_same pl ⟨.ref p,H,I,rfl,q⟩
def tyV (K:PySem.W.Frag) (T:String) (x:V) (H:Hp):Prop:=match x with
 | .str _=>T = "str"
 | .int _=>T = "int"
 | .ref p=>(T = "list" /\ ∃ xs,A0 K H p xs)\/(T = "tuple" /\ ∃ xs,Bm K H p xs) \/
   (T = "dict" /\ ((∃ kvs,H p=some (.dK kvs))\/∃ kvs,H p=some (.dT kvs)))\/(T = "set" /\ ∃ S n,H p=some (.set S n))
 | _=>False
theorem RS {pins:List (Addr×Obj)} {σ:St} {H:Hp} {s:Shared} {T:String} {x:V} {v:Value} (I:Inv X pins σ H s) (r:Aw x v) (ty:tyV X.K T x H) :
  s.TypeIs v T/\∀ a,v=.ref a->∃ ob,s.heap.get? a=some ob/\ob.dict=none:=by
 cases x with
 | str z=>
  obtain ⟨t,rfl⟩:=r
  cases (show T = "str" from ty)
  exact ⟨typeIs_str s z t,λ_ e=>nomatch e⟩
 | int i=>
  obtain ⟨t,rfl⟩:=r
  cases (show T = "int" from ty)
  exact ⟨typeIs_int s i t,λ_ e=>nomatch e⟩
 | ref p=>
  cases r
  rcases ty with ⟨rfl,xs,hq⟩ | ⟨rfl,xs,hq⟩ | ⟨rfl,hk⟩ | ⟨rfl,S,n,hk⟩
  ·obtain ⟨its,_,pl,_⟩:=I.list hq
   refine ⟨pl.isList.typeIs,λa e=>?_⟩
   cases e
   obtain ⟨o,n,e,c,hd,_⟩:=pl
   exact ⟨o,e,hd⟩
  ·obtain ⟨its,_,⟨o,e1,hd,hc,_⟩,_⟩:=I.tupN hq
   refine ⟨⟨o,e1,hc⟩,λa e=>?_⟩
   cases e
   exact ⟨o,e1,hd⟩
  ·have z:∃ o,s.heap.get? p=some o/\o.ExactDict:=by
    rcases hk with ⟨kvs,hk⟩ | ⟨kvs,hk⟩
    ·obtain ⟨_,_,_,_,o,_,_,e,ex,_⟩:=I.hok p _ hk
     exact ⟨o,e,ex⟩
    ·obtain ⟨_,_,_,_,o,_,_,e,ex,_⟩:=I.hok p _ hk
     exact ⟨o,e,ex⟩
   obtain ⟨o,e,ex⟩:=z
   refine ⟨⟨o,e,ex.1⟩,λa e2=>?_⟩
   cases e2
   exact ⟨o,e,ex.2.1⟩
  ·obtain ⟨o,_,_,_,e,ex,_⟩:=I.hok p _ hk
   refine ⟨⟨o,e,ex.1⟩,λa e2=>?_⟩
   cases e2
   exact ⟨o,e,ex.2.1⟩
 | _=>exact False.elim ty
def tBM (K:PySem.W.Frag) (T:String) (r:V->List V->Hp->VK->Prop) (to:TE) (t:TA):TE:=λσ H Q=>to σ H λx H1=>tyV K T x H1/\t σ H1 λxs H2=>r x xs H2 Q
variable {o e:Expr} {es:List Expr} {to:TE} {t:TA} {name:Str} {apos cpos:Pos} {T id:String} {r:V->List V->Hp->VK->Prop}
theorem FV (pa:PlainAttrs T) (slot:Slot T name id) (hty:typeOf (.builtin id)=pure (.type "method_descriptor")) (hm:Jk X id r) (ho:PE X o to) (ha:PA X (e::es) t)
  (hbase:attributeBase o name X.env (eval o X.env)=eval o X.env:=by rfl)
  (hfew:((backTo cpos (starEach (e::es) X.env)).all (λx=>!x.1)&&(backToKw cpos (keywordEach [] X.env)).all (λx=>x.1.isSome)
   && decide ((e::es).length+([]:List Keyword).length+(if ([]:List Keyword).isEmpty then 0 else 1)<30))=true:=by rfl)
  (hline:(apos.endLine==cpos.line)=true:=by rfl) (hs:starEach (e::es) X.env=(false,eval e X.env)::starEach es X.env:=by rfl) (hplain:(backTo cpos (starEach es X.env)).any (·.1)=false:=by rfl) :
  PE X (.Call (.Attribute o name apos) (e::es) [] cpos) (tBM X.K T r to t):=by
 intro pins s σ H Q I h
 refine wpAny_Call_method_late hbase hfew hline rfl (Ao (ho pins s σ H _ I h) λv s1 ⟨x,H1,I1,r1,ty,q1⟩=>?_)
 obtain ⟨h1,h2⟩:=RS I1 r1 ty
 refine ⟨T,id,pa,slot,hty,h1,h2,?_⟩
 have hA:=ha cpos pins s1 σ H1 _ I1 q1
 rw [hs] at hA ⊢
 refine Calls.callWith_builtin (by show (false||(backTo cpos (starEach es X.env)).any (·.1))=false; rw [hplain] <;> rfl) (Calls.evalArgs_plain ?_)
 exact Ao hA λus s2 ⟨vs,H2,I2,r2,q2⟩=>hm pins s2 σ H2 x vs v us Q I2 r1 r2 q2
end
end L2
namespace L2
open PySem PySem.Spec PyProof.Rows
def MtM (X:Cx) (id:String) (r:V->List V->Hp->VK->Prop):Prop:=
 ∀ (pins:List (Addr×Obj)) (s:Shared) (σ:St) (H:Hp) (x:V) (xs:List V) (v:Value) (us:List Value) (Q:VK),Inv X pins σ H s->Aw x v->Aq xs us->r x xs H Q->
  wpAny (model X.prog X.w) X.A (call (.builtin id) (v::us)) (EP X pins σ Q) X.xe s
theorem Aq.one:∀ {x:V} {us:List Value},Aq [x] us->∃ u,us=[u]/\Aw x u
 | _,_,.cons r .nil=>⟨_,rfl,r⟩
theorem Aq.eraseIdx:∀ {xs:List V} {us:List Value} (i:Nat),Aq xs us->Aq (xs.eraseIdx i) (us.eraseIdx i)
 | _,_,_,.nil=>.nil
 | _,_,0,.cons _ t=>t
 | _,_,i+1,.cons r t=>.cons r (Aq.eraseIdx i t)
theorem Aq.reverse {xs:List V} {us:List Value} (h:Aq xs us):Aq xs.reverse us.reverse:=by
 induction h with
 | nil=>exact .nil
 | cons r t ih=>rw [List.reverse_cons,List.reverse_cons]; exact Aq.append ih (.cons r .nil)
section
variable {X:Cx} {pins:List (Addr×Obj)} {σ:St} {H:Hp} {s:Shared} {l b:Addr} {xs ys zs:List V}
theorem Inv.lset {its its':List Value} {n:Nat} {f:Array Value->Array Value} {t':Nat} (I:Inv X pins σ H s) (hH:H l=some (.lst xs))
  (e:s.heap.get? l=some { cls:=.type "list",data:=.seq its.toArray n }) (hf:f its.toArray=its'.toArray) (hv:Aq ys its') (hz:ys.length<=sizeLine) :
  Inv X pins σ (An H l (.lst ys)) { s with heap:=s.heap.update l (Obj.mapSeq f),toks:=t' }:=by
 have q:=PySem.IsL.update e f
 rw [hf] at q
 refine I.write (x:=l) (e:=l) (by rw [hH]; exact trivial) (.inl rfl) (λb' u hb hu=>(Heap.get?_update_other s.heap (Obj.mapSeq f) (Ne.symm hb)).trans hu) ⟨_,q⟩ ?_
 exact ⟨hz,its',_,hv,q⟩
theorem Inv.lnew {its:List Value} {t':Nat} (I:Inv X pins σ H s) (hv:Aq ys its) (hz:ys.length<=sizeLine) :
  Inv X pins σ (An H s.heap.objs.size (.lst ys)) { s with heap:=s.heap.push { cls:=.type "list",data:=.seq its.toArray },toks:=t' }:=
 I.laid (λ_ _ q=>Heap.get?_push_of_some _ q) (Nat.le_refl _) ⟨hz,its,0,hv,Heap.get?_push_size _ rfl⟩
theorem Inv.fresh (I:Inv X pins σ H s):H s.heap.objs.size=none:=I.hok.fresh (Nat.le_refl _)
theorem Inv.lstM (I:Inv X pins σ H s) (hH:H l=some (.lst xs)):xs.length<=sizeLine/\∃ (its:List Value) (n:Nat),Aq xs its/\xs.length=its.length/\s.heap.get? l=some { cls:=.type "list",data:=.seq its.toArray n }:=by
 obtain ⟨z,its,n,r,e⟩:=I.hok l _ hH
 exact ⟨z,its,n,r,r.length,e⟩
end
section
variable {X:Cx}
def Up:V->List V->Hp->VK->Prop:=λx vs H Q=>∃ l xs y,x=.ref l/\vs=[y]/\H l=some (.lst xs)/\xs.length<sizeLine/\Q .non (An H l (.lst (xs++[y])))
theorem Pd:MtM X "list.append" Up:=by
 intro pins s σ H x vs v us Q I rx rv h
 obtain ⟨l,xs,y,rfl,rfl,hH,hz,q⟩:=h
 cases rx
 obtain ⟨u,rfl,ru⟩:=rv.one
 obtain ⟨z,its,n,r,hl,e⟩:=I.lstM hH
 refine call_meets F.slot_list_append ⟨_,e,rfl⟩ F.entry_list_append (F.args_list_append_2 _ _) (PySem.list_append l its.toArray n u (by rw [List.size_toArray]; omega)) ⟨e,?_⟩
 refine ⟨.non,_,I.lset (its':=its++[u]) hH e (by simp) (r.append (.cons ru .nil)) ?_,rfl,q⟩
 rw [List.length_append,List.length_singleton]
 omega
def Uo:R2:=λx y H Q=>∃ l b xs zs,x=.ref l/\y=.ref b/\H l=some (.lst xs)/\H b=some (.lst zs)/\xs.length+zs.length<=sizeLine/\∀ p,H p=none->Q (.ref p) (An H p (.lst (xs++zs)))
theorem OU:BL X (binaryOp .Add) Uo:=by
 intro pins s σ H x y v u Q I rx ry h
 obtain ⟨l,b,xs,zs,rfl,rfl,hH,hB,hz,q⟩:=h
 cases rx
 cases ry
 obtain ⟨z,its,n,r,hl,e⟩:=I.lstM hH
 obtain ⟨z2,its2,n2,r2,hl2,e2⟩:=I.lstM hB
 refine PySem.P.add_list e e2 ?_ (by rw [List.size_toArray,List.size_toArray]; omega)
 have ea:its.toArray++its2.toArray=(its++its2).toArray:=by simp
 rw [ea]
 exact ⟨.ref _,_,I.lnew (t':=s.toks) (r.append r2) (by rw [List.length_append]; omega),rfl,q _ I.fresh⟩
end
section
variable {prog:Program} {w:World} {A:Around} {E:Value->Shared->Prop} {s:Shared}
end
section
variable {X:Cx}
end
end L2
namespace Att
open PySem PySem.W PySem.Calls PyProof.Rows
theorem Xh {P:Params} {h:Heap}:∀ (ns:List Int) (vs:List Value),WellAll P h vs (ns.map WData.int)->IntsAre vs ns:=by
 intro ns
 induction ns with
 | nil=>
  intro vs w
  rw [List.map_nil] at w
  cases w
  exact .nil
 | cons n ns ih=>
  intro vs w
  rw [List.map_cons] at w
  cases w with
  | cons a b=>
   cases a
   exact .cons _ _ (ih _ b)
theorem Tm {l:OpenLaw} {n:Nat} (hn:l.most=some n) {P:Params} {h:Heap} {args:List WData} {vals:List Value}
  (hpre:l.row.toRowW.claim.pre args=true) (hwl:WellAll P h vals args) :
  ∃ a vs ns,vals=[Value.ref a]/\args=[WData.list (ns.map WData.int)]/\h.get? a=some { cls:=.type "list",data:=.seq vs.toArray }/\IntsAre vs ns/\ns.length<=n:=by
 have hsh:WShape.hasAll [] args [.list .int]=true:=(pre_splitW hpre).1
 have hc:l.pre.holds [] { args:=args }=true:=(pre_splitW hpre).2
 obtain ⟨d,r,rfl,h1,h2⟩:=hasAllW_cons hsh
 obtain rfl:=hasAllW_nil h2
 obtain ⟨xs,rfl,h3⟩:=hasW_list h1
 obtain ⟨ns,rfl⟩:=items_int h3
 have hlen:ns.length<=n:=by
  unfold OpenLaw.pre at hc
  have h4:(WTm.not (.lt (.lit (.int (n:Int))) (.len (.arg 0)))).holds [] { args:=[.list (ns.map .int)] }=true:=by
   have h4:=(holds_andW hc).1
   rw [hn] at h4
   exact h4
  have h5:=condW_of h4 (w_not (w_lt w_lit (w_len_list (w_arg rfl))))
  rw [List.length_map] at h5
  refine Nat.le_of_not_lt λq=>?_
  have q':(n:Int)<((ns.length:Nat):Int):=by omega
  first
   | (rw [decide_eq_true q'] at h5; exact absurd h5 wE)
   | (simp at h5; omega)
 cases hwl with
 | cons w1 w2=>
  cases w2
  cases w1 with
  | list ho hall=>exact ⟨_,_,ns,rfl,rfl,ho,Xh ns _ hall,hlen⟩
theorem Uz (l:OpenLaw) (args:List WData):l.row.toRowW.claim.post args (.bool true) args=true:=
 postW_of (r:=l.row.toRowW) (X:=(true==true))
  (show WShape.has [] (.bool true) .bool=true by first | rfl | decide | simp [WShape.has,WShape.arms,WShape.armsAll])
  (show (WTm.eq .res (.lit (.bool true))).value [] { args:=args,res:=some (.bool true),after:=args }=some (.bool (true==true)) from w_eq_bool (w_res rfl) w_lit) rfl
theorem attach_call {l:OpenLaw} {n:Nat} {q:Program} {loose:List Str} {XP:(Str->Option Value)->Heap->Prop} {YP:World->Heap->Prop} {d:DefRec}
  (hn:l.most=some n) (hdf:d.params.defaults=[])
  (call:∀ (w:World) (s₀ s₁:Shared) (mg mb:Str->Option Value) (fa:Addr) (o:Obj) (pm cd doc:Value) (a:Addr) (vs:List Value) (ns:List Int),
   Ground q loose [] XP w s₀ mg mb s₁.heap->YP w s₁.heap->
   s₁.heap.get? fa=some o->o.data=.func (docDef d.name d.params d.body d.scope pm cd doc)->s₁.heap.CodeRec cd d.name->mg d.name=some (.ref fa)->
   s₁.heap.get? a=some { cls:=.type "list",data:=.seq vs.toArray }->IntsAre vs ns->ns.length<=n->s₁.gens=#[]->
   codeAny (model l.prog w) callerA (.call (.ref fa) ⟨[.ref a],[]⟩) (λr s'=>r=.ok (.ret (.bool true))/\OldK s₁.heap s'.heap/\s'.os=s₁.os/\AllBare s'.gens) s₁) :
  WalkO q loose XP YP l.row.toRowW d [] (λf vs=>PySem.call f vs):=by
 intro w s₀ s₁ mg mb G Y fa o pm cd doc dV kV ho hd hcd hD hmg hg args vals as hpre hlay hrd hwl hlo
 obtain rfl:dV=.none:=Dflts.none hD hdf
 obtain rfl:kV=.none:=Dflts.noKw hD
 obtain ⟨a,vs,ns,rfl,rfl,hobj,hints,hlen⟩:=Tm hn hpre hwl
 refine enter_call (codeAny_mono (call w s₀ s₁ mg mb fa o pm cd doc a vs ns G Y ho (fd_plain hd) hcd hmg hobj hints hlen hg) λr s' hq=>?_)
 obtain ⟨rfl,h2,h3,h4⟩:=hq
 exact ⟨.inl ⟨.bool true,.bool true,[],rfl,λ_=>rfl,.bool true,Uz l _,λ_=>⟨List.Pairwise.nil,λ_ hm=>(nomatch hm)⟩⟩,h2,h3,h4⟩
section
variable {prog:Program} {w:World} {A:Around} {E:Value->Shared->Prop} {s:Shared} {K:Frag}
end
end Att
namespace L2
open PySem PySem.Spec PyProof.Rows
theorem Nu:∀ {vs:List Value} {ns:List Int},IntsAre vs ns->Aq (ns.map V.int) vs
 | _,_,.nil=>.nil
 | _,_,.cons n t h=>.cons ⟨t,rfl⟩ (Nu h)
def M6 (H:Hp):Prop:=∀ b,H b=none\/∃ o xs,H b=some (.frz o (.lst xs))
theorem WK {P:Program} {w:World} {K:PySem.W.Frag} {mg mb:Str->Option Value} {CX:CS} {k:Nat} {fa a:Addr} {fd:FuncData} {x:Str} {sp:Sp} {s₁:Shared} {vs:List Value} {ns:List Int}
  (KX:K.In s₁.heap) (hns:s₁.heap.Ns mainGlobals mg) (hb:s₁.heap.Ns builtinsNs mb) (hbb:∀ x:Str,x ≠ "__name__" -> mb x=bootBuiltins x) (hlim:s₁.heap.NoLimit) (hg:s₁.gens=#[])
  (ha:s₁.heap.get? a=some { cls:=.type "list",data:=.seq vs.toArray }) (hi:IntsAre vs ns) (hl:ns.length<=sizeLine) (hr:AR k callerA)
  (F:∀ base:Heap,K.In base->base.Ns mainGlobals mg->AI P w K mg base CX k fa fd [x] sp) (hbind:∀ (s:Shared) (u:Value),BindsTo s fd ⟨[u],[]⟩ [(x,u)])
  (hsp:∀ H:Hp,M6 H->A0 K H a (ns.map V.int)->sp [.ref a] H (λv _=>v=.bl true) λ_ _ _=>False)
  (hCX:∀ H e s',CX [] H s₁ (λ_ _ _=>False) e s'->False) :
  codeAny (model P w) callerA (.call (.ref fa) ⟨[.ref a],[]⟩) (λr s'=>r=.ok (.ret (.bool true))/\OldK s₁.heap s'.heap/\s'.os=s₁.os/\AllBare s'.gens) s₁:=by
 have rv:=Nu hi
 have lenV:=hi.length
 -- from an abstract heap in which nothing but the script may be tracked
 have core:∀ H:Hp,M6 H->A0 K H a (ns.map V.int)->A3 P w H s₁.heap->(∀ b,H b≠none->b=a)->(H a≠none->K.lookup a=none)->
   codeAny (model P w) callerA (.call (.ref fa) ⟨[.ref a],[]⟩) (λr s'=>r=.ok (.ret (.bool true))/\OldK s₁.heap s'.heap/\s'.os=s₁.os/\AllBare s'.gens) s₁:=by
  intro H hO hS hok hA hK
  have base_of:∀ {b:Addr} {o:Obj},s₁.heap.get? b=some o->H b=none->(Ef s₁.heap H).get? b=some o:=λe n=>Xs e n
  have noA:∀ {b:Addr} {o:Obj} {es:Array DictEntry} {ep:Nat},s₁.heap.get? b=some o->o.data=.dict es ep->H b=none:=λ{b o es ep} e d=>by
   cases q:H b with
   | none=>rfl
   | some u=>
    have e':b=a:=hA b (by rw [q]; simp)
    subst e'
    rw [ha] at e; cases e
    have d':Data.seq vs.toArray _=Data.dict es ep:=d
    cases d'
  have nsK:∀ {b:Addr} {m:Str->Option Value},s₁.heap.Ns b m->(Ef s₁.heap H).Ns b m:=λ{b m} ⟨o,es,ep,e,d,r⟩=>⟨o,es,ep,base_of e (noA e d),d,r⟩
  have hKb:K.In (Ef s₁.heap H):=λb o e=>base_of (KX b o e) (by
   cases q:H b with
   | none=>rfl
   | some u=>
    have e':b=a:=hA b (by rw [q]; simp)
    subst e'
    rw [hK (by rw [q]; simp)] at e; cases e)
  have hM:Mod K mg (Ef s₁.heap H):=⟨hKb,nsK hns,⟨mb,nsK hb,hbb⟩,let ⟨mc,h1,h2⟩:=hlim; ⟨mc,nsK h1,h2⟩⟩
  have e0:FB P w K mg (Ef s₁.heap H) callerA [] s₁ H:=⟨rfl,hM,λb o e=>V5 e,Nat.le_of_eq (Xr _ _),trivial,λb hb=>absurd (show b∈([]:List Addr) from hb) (by simp),hok,.of_eq hg⟩
  refine codeAny_mono ((F _ hKb (nsK hns)).run callerA [] s₁ H ⟨[.ref a],[]⟩ [.ref a] [.ref a] _ _ hr e0 (hbind s₁ (.ref a)) (.cons rfl .nil) (hsp H hO hS)) λr s' h=>?_
  cases r with
  | error e=>exact (hCX H e s' h).elim
  | ok fl=>
   cases fl with
   | next=>exact False.elim h
   | brk=>exact False.elim h
   | cont=>exact False.elim h
   | ret u=>
    obtain ⟨v,H',os,bare,un,hok',r',q⟩:=h
    have q':v=.bl true:=q
    subst q'
    obtain rfl:u=Value.bool true:=r'
    refine ⟨rfl,OldK.of_keep λb o e=>?_,os,bare⟩
    cases q:H b with
    | none=>exact un.keep b o e q (by intro z; exact absurd (show b∈([]:List Addr) from z) (by simp)) (by simp)
    | some u=>
     rcases hO b with z | ⟨ob,xs,z⟩
     ·rw [q] at z; cases z
     ·have z2:=un.frzs b ob _ z
      obtain ⟨e1,_⟩:=hok b _ z
      obtain ⟨e2,_⟩:=hok' b _ z2
      rw [e] at e1; cases e1
      exact e2
 cases hk:K.lookup a with
 | some o=>
  -- the script is one of the module's own objects
  have e:=KX a o hk
  rw [ha] at e
  cases e
  refine core (λ_=>none) (λ_=>.inl rfl) (.inr ⟨_,vs.toArray,_,hk,rfl,rfl,rfl,by rw [List.size_toArray,lenV]; exact hl,by simpa using rv⟩) (λb u z=>by have z':(none:Option HO)=some u:=z; cases z') (λb z=>absurd rfl z) λz=>absurd rfl z
 | none=>
  refine core (λb=>if b=a then some (.frz { cls:=.type "list",data:=.seq vs.toArray } (.lst (ns.map V.int))) else none) (λb=>?_) (.inl (.inr ⟨{ cls:=.type "list",data:=.seq vs.toArray },if_pos rfl⟩)) (λb u z=>?_) (λb z=>?_) λ_=>hk
  ·by_cases hb:b=a
   ·exact .inr ⟨_,_,if_pos hb⟩
   ·exact .inl (if_neg hb)
  ·by_cases hb:b=a
   ·have z':=(if_pos hb).symm.trans z
    cases z'
    subst hb
    exact ⟨ha,by rw [List.length_map]; exact hl,vs,_,rv,ha⟩
   ·have z':=(if_neg hb).symm.trans z
    cases z'
  ·by_cases hb:b=a
   ·exact hb
   ·exact absurd (if_neg hb) z
end L2
namespace L2
open PySem PySem.Spec PyProof.Rows
theorem walk_of {l:PySem.W.OpenLaw} {n k:Nat} {q:Program} {loose:List Str} {XP:(Str->Option Value)->Heap->Prop} {YP:World->Heap->Prop} {d:DefRec} {K:Params->PySem.W.Frag} {CX:World->CS} {sp:World->Sp} {x:Str}
  (hn:l.most=some n) (hn2:n<=sizeLine) (hdf:d.params.defaults=[]) (hr:AR k callerA)
  (hY:∀ (w:World) (h:Heap),YP w h->(K w.params).In h)
  (F:∀ (w:World) (mg:Str->Option Value) (fa:Addr) (h:Heap),(K w.params).In h->h.Ns mainGlobals mg->mg d.name=some (.ref fa)->
   ∃ fd:FuncData,(∀ (s:Shared) (u:Value),BindsTo s fd ⟨[u],[]⟩ [(x,u)]) /\
    ∀ base:Heap,(K w.params).In base->base.Ns mainGlobals mg->AI l.prog w (K w.params) mg base (CX w) k fa fd [x] (sp w))
  (hsp:∀ (w:World) (H:Hp) (a:Addr) (ns:List Int),ns.length<=n->M6 H->A0 (K w.params) H a (ns.map V.int)->sp w [.ref a] H (λv _=>v=.bl true) λ_ _ _=>False)
  (hCX:∀ (w:World) (H:Hp) (s:Shared) (e:Value) (s':Shared),CX w [] H s (λ_ _ _=>False) e s'->False) :
  PySem.W.WalkO q loose XP YP l.row.toRowW d [] (λf vs=>PySem.call f vs):=by
 refine Att.attach_call hn hdf λw s₀ s₁ mg mb fa o pm cd doc a vs ns G Y ho hd hcd hmg hobj hints hlen hg=>?_
 have KX:=hY w _ Y
 obtain ⟨fd,hb,hF⟩:=F w mg fa _ KX G.T.g hmg
 exact WK KX G.T.g G.T.b G.T.builtins G.T.nolimit hg hobj hints (Nat.le_trans hlen hn2) hr hF hb (λH hO hS=>hsp w H a ns hlen hO hS) λH e s'=>hCX w H s₁ e s'
end L2
namespace L2
open PySem PySem.Spec PyProof.Rows
def CK (s:Stmt) (j:Nat):Stmt:=match s with
 | .ClassDef _ _ _ body _ _ _ _ _ _ _=>body.getD j (.Pass ⟨0,0,0,0⟩)
 | _=>.Pass ⟨0,0,0,0⟩
def D1 (s:Stmt):Arguments:=match s with
 | .FunctionDef _ a _ _ _ _ _ _ _ _=>a
 | _=>{ posonlyargs:=[],args:=[],vararg:=none,kwonlyargs:=[],kw_defaults:=[],kwarg:=none,defaults:=[] }
def CN (s:Stmt):List Stmt:=match s with
 | .FunctionDef _ _ b _ _ _ _ _ _ _=>b
 | _=>[]
def Av (s:Stmt):Scope:=match s with
 | .FunctionDef _ _ _ _ _ _ sc _ _ _=>sc
 | _=>{ kind:=.function,names:=[],isGenerator:=false,isCoroutine:=false }
abbrev BM:CS:=λ_ _ _ _ _ _=>False
abbrev E0:XK:=λ_ _ _=>False
theorem HZ {X:Cx}:EK BM X E0:=λ_ _ _ _ _ _ _ h=>h.elim
structure AB (K:PySem.W.Frag) (x qual:Str) (st:Stmt) (f:Addr) (fd:FuncData):Prop where
 ex:∃ (oc:Value) (od:Option Addr) (kV doc pm:Value) (an:Option Addr) (cdv ct:Value) (osl:Array (Option Value)),
  fd=PySem.W.fnOf x qual (D1 st) (CN st) (Av st) .none kV doc pm an cdv ct/\K.lookup f=some ⟨oc,od,.func fd,osl⟩/\PySem.W.codeIn K cdv qual=true
 kp:PySem.W.keepIn K (.ref f)=true
section
variable {P:Program} {w:World} {K:PySem.W.Frag} {mg:Str->Option Value} {base:Heap}
theorem AB.ok {x qual:Str} {st:Stmt} {f:Addr} {fd:FuncData} {N ps:List Str} {k:Nat} {sp:Sp} (F:AB K x qual st f fd) (S:AD N ps (Av st)) (len:∀ vs H Q E,sp vs H Q E->vs.length=ps.length)
  (hbody:∀ (cdv:Value) (A:Around) (outer:List Env) (s:Shared) (H:Hp) (vs:List V) (Q:VK) (E:XK),AR k (A.deeper (envOfC qual (Av st) s.heap.objs.size f cdv))->sp vs H Q E->
   ∃ t,PSs (Dj BM P w K mg base N qual (Av st) f cdv A outer s H E).nox (CN st) t/\t { nx:=λ_ H'=>Q .non H',rt:=Q } (start N vs) H):AI P w K mg base BM (k+1) f fd ps sp:=by
 obtain ⟨oc,od,kV,doc,pm,an,cdv,ct,osl,rfl,lk,hcd⟩:=F.ex
 refine PR lk hcd S len λA outer s H vs Q E hr hsp=>?_
 obtain ⟨t,h,q⟩:=hbody cdv A outer s H vs Q E hr hsp
 exact ⟨t,h.nox,q⟩
theorem AB.binds {x qual:Str} {st:Stmt} {f:Addr} {fd:FuncData} {ps:List Str} (F:AB K x qual st f fd)
  (h:∀ (kV doc pm:Value) (an:Option Addr) (cdv ct:Value) (us:List Value),us.length=ps.length->bindArgs (PySem.W.fnOf x qual (D1 st) (CN st) (Av st) .none kV doc pm an cdv ct) ⟨us,[]⟩=pure (ps.zip us)):Binds K fd ps []:=by
 obtain ⟨oc,od,kV,doc,pm,an,cdv,ct,osl,rfl,lk,hcd⟩:=F.ex
 exact .all (h kV doc pm an cdv ct)
theorem IE {x qual:Str} {st:Stmt} {f:Addr} {oc:Value} {od an:Option Addr} {osl:Array (Option Value)} {kV doc pm cdv ct:Value} (l:K.lookup f=some ⟨oc,od,.func (PySem.W.fnOf x qual (D1 st) (CN st) (Av st) .none kV doc pm an cdv ct),osl⟩)
  (c:PySem.W.codeIn K cdv qual=true) (k:PySem.W.keepIn K (.ref f)=true):AB K x qual st f (PySem.W.fnOf x qual (D1 st) (CN st) (Av st) .none kV doc pm an cdv ct):=⟨⟨oc,od,kV,doc,pm,an,cdv,ct,osl,rfl,l,c⟩,k⟩
end
theorem S5 {n:Nat} (h:n<=1000):n<sizeLine:=Nat.lt_of_le_of_lt h wE
section
variable {X:Cx}
end
theorem Mo {A B:Prop} (h:B):if false=true then A else B:=by
 rw [if_neg Bool.false_ne_true]
 exact h
theorem Mn {A B:Prop} (h:A):if true=true then A else B:=by
 rw [if_pos rfl]
 exact h
def Bj (H H':Hp):Prop:=∀ b o,H b=some o->H' b=some o
theorem Bj.refl (H:Hp):Bj H H:=λ_ _ h=>h
theorem Bj.trans {H H1 H2:Hp} (a:Bj H H1) (b:Bj H1 H2):Bj H H2:=λc o h=>b c o (a c o h)
theorem Bj.free {H H':Hp} (e:Bj H H') {l:Addr} (h:H' l=Option.none):H l=Option.none:=by
 cases q:H l with
 | none=>rfl
 | some o=>
  rw [e l o q] at h
  cases h
theorem Bj.seq {K:PySem.W.Frag} {H H':Hp} {a:Addr} {xs:List V} (e:Bj H H') (h:A0 K H a xs):A0 K H' a xs:=by
 rcases h with (h | ⟨o,h⟩) | h
 ·exact .inl (.inl (e _ _ h))
 ·exact .inl (.inr ⟨o,e _ _ h⟩)
 ·exact .inr h
end L2
namespace L2
open PySem PySem.Spec PyProof.Rows
section
variable {κ:Type} [DecidableEq κ]
def B4 (kvs:List (κ×V)) (k:κ):Option V:=(kvs.find? λkv=>decide (kv.1=k)).map (·.2)
def CY (kvs:List (κ×V)) (k:κ) (v:V):List (κ×V):=
 if (kvs.any λkv=>decide (kv.1=k))=true then kvs.map (λkv=>if kv.1=k then (kv.1,v) else kv) else kvs++[(k,v)]
def Fl (kvs:List (κ×V)) (k:κ):List (κ×V):=kvs.filter λkv=>decide (kv.1≠k)
theorem JC {p:κ×V} {r:List (κ×V)} {k:κ} (e:p.1=k):B4 (p::r) k=some p.2:=by simp [B4,List.find?_cons,e]
theorem JD {p:κ×V} {r:List (κ×V)} {k:κ} (e:¬ p.1=k):B4 (p::r) k=B4 r k:=by simp [B4,List.find?_cons,e]
theorem Nv (k:κ):∀ kvs:List (κ×V),(kvs.any λkv=>decide (kv.1=k))=(B4 kvs k).isSome
 | []=>rfl
 | p::r=>by
  rw [List.any_cons]
  by_cases e:p.1=k
  ·simp only [JC e,decide_eq_true e,Bool.true_or,Option.isSome_some]
  ·rw [JD e,decide_eq_false e,Bool.false_or]; exact Nv k r
theorem Pm (kvs:List (κ×V)) (k:κ) (v:V):(CY kvs k v).length<=kvs.length+1:=by
 unfold CY
 split
 ·rw [List.length_map]; omega
 ·rw [List.length_append,List.length_cons,List.length_nil]; omega
theorem BX.isSome_eq {o:Option V} {u:Option Value} (r:BX o u):o.isSome=u.isSome:=by
 cases o with
 | none=>cases u with
  | none=>rfl
  | some _=>exact (show False from r).elim
 | some _=>cases u with
  | none=>exact (show False from r).elim
  | some _=>rfl
theorem BX.getD {o:Option V} {u:Option Value} {d:V} {d':Value} (r:BX o u) (rd:Aw d d'):Aw (o.getD d) (u.getD d'):=by
 cases o with
 | none=>cases u with
  | none=>exact rd
  | some _=>exact (show False from r).elim
 | some _=>cases u with
  | none=>exact (show False from r).elim
  | some _=>exact r
theorem KV.val {kvs:List (κ×V)} {vs:List (κ×Value)} (r:KV kvs vs) (k:κ):BX (B4 kvs k) (valueAt vs k):=by
 unfold KV at r
 induction r with
 | nil=>exact True.intro
 | @cons p q ps qs h t ih=>
  obtain ⟨h1,h2⟩:=h
  by_cases e:p.1=k
  ·have e':q.1=k:=h1.symm.trans e
   have b:valueAt (q::qs) k=some q.2:=by simp [valueAt,List.find?_cons,e']
   rw [JC e,b]; exact h2
  ·have e':¬ q.1=k:=λz=>e (h1.trans z)
   have b:valueAt (q::qs) k=valueAt qs k:=by simp [valueAt,List.find?_cons,e']
   rw [JD e,b]; exact ih
theorem KV.any {kvs:List (κ×V)} {vs:List (κ×Value)} (r:KV kvs vs) (k:κ):(kvs.any λkv=>decide (kv.1=k))=vs.any λkv=>decide (kv.1=k):=by
 unfold KV at r
 induction r with
 | nil=>rfl
 | cons h t ih=>rw [List.any_cons,List.any_cons,ih,h.1]
theorem KV.repl {kvs:List (κ×V)} {vs:List (κ×Value)} (r:KV kvs vs) (k:κ) {y:V} {u:Value} (ry:Aw y u) :
  KV (kvs.map λkv=>if kv.1=k then (kv.1,y) else kv) (vs.map λkv=>if kv.1=k then (kv.1,u) else kv):=by
 unfold KV at r ⊢
 induction r with
 | nil=>exact .nil
 | @cons p q ps qs h t ih=>
  rw [List.map_cons,List.map_cons]
  refine .cons ?_ ih
  obtain ⟨h1,h2⟩:=h
  by_cases e:p.1=k
  ·rw [if_pos e,if_pos (h1.symm.trans e)]; exact ⟨h1,ry⟩
  ·rw [if_neg e,if_neg (λz=>e (h1.trans z))]; exact ⟨h1,h2⟩
theorem KV.put {kvs:List (κ×V)} {vs:List (κ×Value)} (r:KV kvs vs) (k:κ) {y:V} {u:Value} (ry:Aw y u):KV (CY kvs k y) (stored vs k u):=by
 unfold CY stored
 rw [r.any k]
 by_cases e:(vs.any λkv=>decide (kv.1=k))=true
 ·rw [if_pos e,if_pos e]; exact r.repl k ry
 ·rw [if_neg e,if_neg e]; exact Paired.snoc r ⟨rfl,ry⟩
theorem KV.drop {kvs:List (κ×V)} {vs:List (κ×Value)} (r:KV kvs vs) (k:κ):KV (Fl kvs k) (without vs k):=by
 unfold KV at r ⊢
 unfold Fl without
 induction r with
 | nil=>exact .nil
 | @cons p q ps qs h t ih=>
  obtain ⟨h1,h2⟩:=h
  rw [List.filter_cons,List.filter_cons]
  by_cases e:p.1=k
  ·have a:¬ decide (p.1≠k)=true:=by simp [e]
   have b:¬ decide (q.1≠k)=true:=by simp [h1.symm.trans e]
   rw [if_neg a,if_neg b]; exact ih
  ·have e':¬ q.1=k:=λz=>e (h1.trans z)
   have a:decide (p.1≠k)=true:=by simp [e]
   have b:decide (q.1≠k)=true:=by simp [e']
   rw [if_pos a,if_pos b]; exact .cons ⟨h1,h2⟩ ih
theorem KV.length {kvs:List (κ×V)} {vs:List (κ×Value)} (r:KV kvs vs):kvs.length=vs.length:=Paired.length r
theorem YF (kvs:List (κ×V)) (k:κ):(Fl kvs k).length<=kvs.length:=List.length_filter_le _ _
end
theorem Ff {P:Program} {w:World} {k:Ak} {u:Value} (r:Aw (kV k) u):(Ba P w).is k u=true:=by
 cases k with
 | inl i=>obtain ⟨t,e⟩:=(show ∃ t,u=Value.int i t from r); subst e; exact Wv P w i t
 | inr x=>obtain ⟨t,e⟩:=(show ∃ t,u=Value.str x t from r); subst e; exact Wu P w x t
theorem Pt {P:Program} {w:World}:∀ {ks:List Ak} {us:List Value},Aq (ks.map kV) us->ItemsAre (Ba P w) ks us
 | [],_,r=>by rw [List.map_nil] at r; cases r; exact .nil
 | k::ks,_,r=>by
  rw [List.map_cons] at r
  cases r with
  | cons h t=>exact .cons (Ff h) (Pt t)
abbrev KT (H:Hp):List (List Ak×V)->List (List Ak×Addr×Value)->Prop:=Paired λp q=>p.1=q.1/\H q.2.1=some (.tup (p.1.map kV))/\Aw p.2 q.2.2
theorem KT.val {H:Hp} {kvs:List (List Ak×V)} {xs:List (List Ak×Addr×Value)} (r:KT H kvs xs) (k:List Ak):BX (B4 kvs k) ((atKey xs k).map (·.2)):=by
 induction r with
 | nil=>exact True.intro
 | @cons p q ps qs h t ih=>
  obtain ⟨h1,_,h2⟩:=h
  by_cases e:p.1=k
  ·have e':q.1=k:=h1.symm.trans e
   have b:atKey (q::qs) k=some q.2:=by simp [atKey,List.find?_cons,e']
   rw [JC e,b]; exact h2
  ·have e':¬ q.1=k:=λz=>e (h1.trans z)
   have b:atKey (q::qs) k=atKey qs k:=by simp [atKey,List.find?_cons,e']
   rw [JD e,b]; exact ih
theorem KT.repl {H:Hp} {kvs:List (List Ak×V)} {xs:List (List Ak×Addr×Value)} (r:KT H kvs xs) (k:List Ak) {y:V} {u:Value} (ry:Aw y u) :
  KT H (kvs.map λkv=>if kv.1=k then (kv.1,y) else kv) (xs.map (putAt k u)):=by
 induction r with
 | nil=>exact .nil
 | @cons p q ps qs h t ih=>
  rw [List.map_cons,List.map_cons]
  refine .cons ?_ ih
  obtain ⟨h1,h2,h3⟩:=h
  unfold putAt
  by_cases e:p.1=k
  ·rw [if_pos e,if_pos (h1.symm.trans e)]; exact ⟨h1,h2,ry⟩
  ·rw [if_neg e,if_neg (λz=>e (h1.trans z))]; exact ⟨h1,h2,h3⟩
theorem KT.put {H:Hp} {kvs:List (List Ak×V)} {xs:List (List Ak×Addr×Value)} (r:KT H kvs xs) (k:List Ak) {b:Addr} {y:V} {u:Value} (hb:H b=some (.tup (k.map kV))) (ry:Aw y u) :
  KT H (CY kvs k y) (storedH xs k b u):=by
 have e:(kvs.any λkv=>decide (kv.1=k))=(atKey xs k).isSome:=by
  rw [Nv,(r.val k).isSome_eq,Option.isSome_map]
 unfold CY storedH
 rw [e]
 by_cases q:(atKey xs k).isSome=true
 ·rw [if_pos q,if_pos q]; exact r.repl k ry
 ·rw [if_neg q,if_neg q]; exact Paired.snoc r ⟨rfl,hb,ry⟩
theorem KT.keeps {H H':Hp} {kvs:List (List Ak×V)} {xs:List (List Ak×Addr×Value)} (r:KT H kvs xs) (ht:∀ b ys,H b=some (.tup ys)->H' b=some (.tup ys)):KT H' kvs xs:=
 Paired.mapP r λ_ _ z=>⟨z.1,ht _ _ z.2.1,z.2.2⟩
section
variable {P:Program} {w:World} {H:Hp} {h:Heap} {a:Addr}
theorem GO {u:HO} (ok:A3 P w H h) (e:Rd H a u):Bn P w H h a u:=e.ok ok
theorem C1 {kvs:List (Ak×V)} (ok:A3 P w H h) (e:Rd H a (.dK kvs)):kvs.length<=sizeLine/\(a==sysModules)=false/\∃ vs,KV kvs vs/\h.DictOf (Ba P w) a vs:=
 show Bn P w H h a (.dK kvs) from GO ok e
theorem Qs {kvs:List (Ak×V)} (ok:A3 P w H h) (e:H a=some (.dK kvs)):kvs.length<=sizeLine/\(a==sysModules)=false/\∃ vs,KV kvs vs/\h.DictOf (Ba P w) a vs:=C1 ok (.inl e)
theorem FZ {ks:List Ak} (ok:A3 P w H h) (e:H a=some (.tup (ks.map kV))):(tupleKind (Ba P w)).is h ks a:=by
 obtain ⟨_,its,r,o,h1,_,h2,n,h3⟩:=(show Bn P w H h a (.tup (ks.map kV)) from ok a _ e)
 exact ⟨o,its.toArray,n,h1,h2,h3,by simpa using Pt r⟩
theorem Fk {kvs:List (List Ak×V)} (ok:A3 P w H h) (e:Rd H a (.dT kvs)):kvs.length<=sizeLine/\(a==sysModules)=false /\
  ∃ xs,KT H kvs xs/\h.DictOfH (tupleKind (Ba P w)) a xs:=by
 obtain ⟨z,y,xs,r,o,es,ep,h1,h2,h3,h4,h5⟩:=(show Bn P w H h a (.dT kvs) from GO ok e)
 refine ⟨z,y,xs,r,o,es,ep,h1,h2,h3,h4,λx hx=>?_,h5⟩
 have all:∀ {l:List (List Ak×V)} {m:List (List Ak×Addr×Value)},KT H l m->∀ x∈m,(tupleKind (Ba P w)).is h x.1 x.2.1:=by
  intro l m q
  induction q with
  | nil=>intro x hx; exact nomatch hx
  | @cons p q ps qs hq t ih=>
   intro x hx
   rcases List.mem_cons.mp hx with e | hx
   ·subst e
    exact FZ ok (by rw [<- hq.1]; exact hq.2.1)
   ·exact ih x hx
 exact all r x hx
theorem YE {kvs:List (List Ak×V)} (ok:A3 P w H h) (e:H a=some (.dT kvs)):kvs.length<=sizeLine/\(a==sysModules)=false /\
  ∃ xs,KT H kvs xs/\h.DictOfH (tupleKind (Ba P w)) a xs:=Fk ok (.inl e)
end
def FC (H:Hp) (a:Addr) (y:V) (r:Option V):Prop:=
 (∃ kvs k,Rd H a (.dK kvs)/\y=kV k/\r=B4 kvs k)\/∃ kvs k b,Rd H a (.dT kvs)/\y=.ref b/\H b=some (.tup (k.map kV))/\r=B4 kvs k
def Jt (H:Hp) (a:Addr) (y v:V) (H':Hp):Prop:=
 (∃ kvs k,H a=some (.dK kvs)/\y=kV k/\kvs.length<sizeLine/\H'=An H a (.dK (CY kvs k v))) \/
 ∃ kvs k b,H a=some (.dT kvs)/\y=.ref b/\H b=some (.tup (k.map kV))/\kvs.length<sizeLine/\H'=An H a (.dT (CY kvs k v))
theorem Jt.k {H:Hp} {a:Addr} {kvs:List (Ak×V)} {k:Ak} {v:V} (e:H a=some (.dK kvs)) (hl:kvs.length<sizeLine):Jt H a (kV k) v (An H a (.dK (CY kvs k v))):=.inl ⟨kvs,k,e,rfl,hl,rfl⟩
section
variable {X:Cx} {pins:List (Addr×Obj)} {σ:St} {H:Hp} {s:Shared} {a:Addr} {y v:V} {u r:Value} {o:Option V} {A:Around} {E:Value->Shared->Prop}
theorem Inv.big (I:Inv X pins σ H s):sysModules<s.heap.objs.size:=by
 have h:mainGlobals<s.heap.objs.size:=(I.mod.glob.keeps I.bk).lt
 exact Nat.lt_trans wE h
theorem YR {Q:Value->Shared->Prop} (hu:A.units+1<cLine) (I:Inv X pins σ H s) (g:FC H a y (some v)) (ry:Aw y u) (h:∀ w' s',Inv X pins σ H s'->Aw v w'->Q w' s') :
  wpAny (model X.prog X.w) A (getItem (.ref a) u) Q E s:=by
 rcases g with ⟨kvs,k,e,ey,l⟩ | ⟨kvs,k,b,e,ey,eb,l⟩
 ·subst ey
  obtain ⟨z,hd,vs,rel,dd⟩:=C1 I.hok e
  obtain ⟨w',hw,rw'⟩:=BX.some_of (v:=v) (o:=valueAt vs k) (by rw [l]; exact rel.val k)
  exact wpAny_getItem_of (Ff ry) dd.mapOf hw (h w' _ (I.tok _) rw')
 ·subst ey
  cases (show u=Value.ref b from ry)
  obtain ⟨z,hd,xs,rel,dd⟩:=Fk I.hok e
  obtain ⟨w',hw,rw'⟩:=BX.some_of (v:=v) (o:=(atKey xs k).map (·.2)) (by rw [l]; exact rel.val k)
  obtain ⟨p,hp,hp2⟩:=Option.map_eq_some_iff.mp hw
  refine wpAny_getItem_heap (tupleKind_room_in1 hu) (FZ I.hok eb) dd hp ?_
  rw [hp2]
  exact h w' _ (I.tok _) rw'
theorem YQ {Q:Value->Shared->Prop} (hu:A.units+1<cLine) (I:Inv X pins σ H s) (g:FC H a y o) (ry:Aw y u) (h:∀ s',Inv X pins σ H s'->Q (.bool o.isSome) s') :
  wpAny (model X.prog X.w) A (compareOp .In u (.ref a)) Q E s:=by
 rcases g with ⟨kvs,k,e,ey,l⟩ | ⟨kvs,k,b,e,ey,eb,l⟩
 ·subst ey
  obtain ⟨z,hd,vs,rel,dd⟩:=C1 I.hok e
  refine wpAny_in_of (Ff ry) hd dd.mapOf ?_
  rw [<- (rel.val k).isSome_eq,<- l]
  exact h _ (I.tok _)
 ·subst ey
  cases (show u=Value.ref b from ry)
  obtain ⟨z,hd,xs,rel,dd⟩:=Fk I.hok e
  refine wpAny_in_heap (tupleKind_room_in1 hu) (FZ I.hok eb) hd dd ?_
  have q:=(rel.val k).isSome_eq
  rw [Option.isSome_map] at q
  rw [<- q,<- l]
  exact h _ (I.tok _)
theorem YO {Q:Value->Shared->Prop} (hu:A.units+1<cLine) (I:Inv X pins σ H s) (g:FC H a y o) (ry:Aw y u) (h:∀ s',Inv X pins σ H s'->Q (.bool (!o.isSome)) s') :
  wpAny (model X.prog X.w) A (compareOp .NotIn u (.ref a)) Q E s:=by
 rcases g with ⟨kvs,k,e,ey,l⟩ | ⟨kvs,k,b,e,ey,eb,l⟩
 ·subst ey
  obtain ⟨z,hd,vs,rel,dd⟩:=C1 I.hok e
  refine wpAny_notIn_of (Ff ry) hd dd.mapOf ?_
  rw [<- (rel.val k).isSome_eq,<- l]
  exact h _ (I.tok _)
 ·subst ey
  cases (show u=Value.ref b from ry)
  obtain ⟨z,hd,xs,rel,dd⟩:=Fk I.hok e
  refine wpAny_notIn_heap (tupleKind_room_in1 hu) (FZ I.hok eb) hd dd ?_
  have q:=(rel.val k).isSome_eq
  rw [Option.isSome_map] at q
  rw [<- q,<- l]
  exact h _ (I.tok _)
theorem Mz {h':Heap} {t':Nat} {ob:HO} (I:Inv X pins σ H s) (mu:Hn (H a)) (hs:Heap.SameBut a s.heap h') (he:∃ q,h'.get? a=some q) (new:Bn X.prog X.w (An H a ob) h' a ob) :
  Inv X pins σ (An H a ob) { s with heap:=h',toks:=t' }:=
 I.write (x:=a) (e:=a) mu (.inl rfl) (λb q hb z=>(hs.2 b hb).trans z) he new
theorem Mx {P:Program} {w:World} {H':Hp} {h':Heap} {kvs:List (Ak×V)} {vs:List (Ak×Value)} (z:kvs.length<=sizeLine) (hd:(a==sysModules)=false) (rel:KV kvs vs) (dd:h'.DictOf (Ba P w) a vs) :
  Bn P w H' h' a (.dK kvs):=⟨z,hd,vs,rel,dd⟩
theorem YM {H':Hp} {Q:Unit->Shared->Prop} (hu:A.units+1<cLine) (I:Inv X pins σ H s) (g:Jt H a y v H') (ry:Aw y u) (rv:Aw v r) (h:∀ s',Inv X pins σ H' s'->Q () s') :
  wpAny (model X.prog X.w) A (setItem (.ref a) u r) Q E s:=by
 rcases g with ⟨kvs,k,e,ey,l,eH⟩ | ⟨kvs,k,b,e,ey,eb,l,eH⟩
 ·subst ey eH
  obtain ⟨z,hd,vs,rel,dd⟩:=Qs I.hok e
  have hz:vs.length<=sizeLine:=by rw [<- rel.length]; exact z
  have hl:(CY kvs k v).length<=sizeLine:=by have:=Pm kvs k v; omega
  refine wpAny_setItem_pairs (hsz:=hz) (Ff ry) dd λh' dd' hs=>h _ ?_
  have he:∃ q,h'.get? a=some q:=let ⟨q,_,_,hq,_⟩:=dd'; ⟨q,hq⟩
  exact Mz I (by rw [e]; exact True.intro) hs he (Mx hl hd (rel.put k rv) dd')
 ·subst ey eH
  cases (show u=Value.ref b from ry)
  obtain ⟨z,hd,xs,rel,dd⟩:=YE I.hok e
  have hz:xs.length<=sizeLine:=by rw [<- Paired.length rel]; exact z
  have hl:(CY kvs k v).length<=sizeLine:=by have:=Pm kvs k v; omega
  refine wpAny_setItem_heap (hsz:=hz) (tupleKind_room_in1 hu) (FZ I.hok eb) dd λh' dd' hs=>h _ ?_
  obtain ⟨q,es,ep,hq,h2,h3,h4,_,h5⟩:=dd'
  refine Mz I (by rw [e]; exact True.intro) hs ⟨q,hq⟩ ⟨hl,hd,_,(rel.put k eb rv).keeps λc ys ec=>?_,q,es,ep,hq,h2,h3,h4,h5⟩
  rw [As (Wk ec e (λz=>nomatch z))]
  exact ec
end
section
variable {X:Cx} {pins:List (Addr×Obj)} {σ:St} {H:Hp} {s:Shared} {a:Addr} {kvs:List (Ak×V)} {k:Ak} {u:Value} {A:Around} {E:Value->Shared->Prop}
theorem YN {v:V} {more:List Value} {Q:Value->Shared->Prop} (I:Inv X pins σ H s) (e:H a=some (.dK kvs)) (ry:Aw (kV k) u) (l:B4 kvs k=some v) (hm:more=[]\/∃ x,more=[x])
  (h:∀ w' s',Inv X pins σ (An H a (.dK (Fl kvs k))) s'->Aw v w'->Q w' s'):wpAny (model X.prog X.w) A (call (.builtin "dict.pop") (.ref a::u::more)) Q E s:=by
 obtain ⟨z,hd,vs,rel,dd⟩:=Qs I.hok e
 obtain ⟨w',hw,rw'⟩:=BX.some_of (v:=v) (o:=valueAt vs k) (by rw [<- l]; exact rel.val k)
 have hp:(keyPart u).isSome=true:=by
  cases k with
  | inl i=>obtain ⟨t,q⟩:=(show ∃ t,u=Value.int i t from ry); subst q; rfl
  | inr x=>obtain ⟨t,q⟩:=(show ∃ t,u=Value.str x t from ry); subst q; rfl
 have ha:argsOk "dict.pop" ⟨.ref a::u::more,[]⟩:=by
  rcases hm with q | ⟨x,q⟩
  ·subst q; exact PySem.F.args_dict_pop_2 _ _
  ·subst q; exact PySem.F.args_dict_pop_3 _ _ _
 refine call_meetsIn PySem.F.slot_dict_pop dd.typeIs PySem.F.entry_dict_pop ha (meets_dict_pop_there (Ba X.prog X.w) a (Ff ry) more hm hp)
  ⟨vs,w',dd,by rw [<- rel.length]; exact z,hw,λh' dd' hs=>h w' _ ?_ rw'⟩
 have he:∃ q,h'.get? a=some q:=let ⟨q,_,_,hq,_⟩:=dd'; ⟨q,hq⟩
 exact Mz I (by rw [e]; exact True.intro) hs he (Mx (Nat.le_trans (YF kvs k) z) hd (rel.drop k) dd')
end
def M7 (i:Expr):Prop:=∀ ov iv,subscripted i false ov iv=operate [ov,iv] (getItem ov iv)
theorem SI {prog:Program} {w:World} {A:Around} {E:Value->Shared->Prop} {s:Shared} {env:Env} {value slice:Expr} {pos:Pos} {T id:String} {Q:Value->Shared->Prop}
  (hl:typeLookup (.type T) "__getitem__" = pure (some (.builtin id))) (hs:M7 slice)
  (h:wpAny (model prog w) A (eval value env) (λo s₁=>wpAny (model prog w) A (eval slice env) (λi s₂=>s₂.TypeIs o T/\wpAny (model prog w) A (getItem o i) Q E s₂) E s₁) E s) :
  wpAny (model prog w) A (eval (.Subscript value slice pos) env) Q E s:=by
 refine Subscript_ (wpAny_mono h (λo s₁ h₁=>wpAny_mono h₁ (λi s₂ h₂=>?_) λ_ _ x=>x) λ_ _ x=>x)
 obtain ⟨hT,h₂⟩:=h₂
 unfold subscriptTail
 refine wpAny_bind ?_
 rw [getitemInPython_of_ne hT.not_modules]
 refine wpAny_bind (wpAny_specialOf hT hl ?_)
 have fin:wpAny (model prog w) A (subscripted slice false o i) (λr s₃=>wpAny (model prog w) A (letTemporaryGo value o r >>= λ_=>pure r) Q E s₃) E s₂:=by
  rw [hs o i]
  exact wpAny_operating (wpAny_mono h₂ (λr s₃ h₃=>wpAny_bind (wpAny_letTemporaryGo (wpAny_pure h₃))) λ_ _ x=>x)
 first
  | exact wpAny_pure (wpAny_bind fin)
  | exact wpAny_bind (wpAny_pure (wpAny_bind fin))
  | exact wpAny_bind fin
theorem YJ {X:Cx} {pins:List (Addr×Obj)} {σ:St} {H:Hp} {s:Shared} {a:Addr} {y:V} {o:Option V} (I:Inv X pins σ H s) (g:FC H a y o):s.TypeIs (.ref a) "dict" := by
 rcases g with ⟨kvs,k,e,_,_⟩ | ⟨kvs,k,b,e,_,_,_⟩
 ·obtain ⟨_,_,vs,_,dd⟩:=C1 I.hok e
  exact dd.typeIs
 ·obtain ⟨_,_,xs,_,dd⟩:=Fk I.hok e
  exact dd.typeIs
def Sy (td ty:TE):TE:=λσ H Q=>td σ H λx H1=>ty σ H1 λy H2=>∃ a v,x=.ref a/\FC H2 a y (some v)/\Q v H2
def T4 (td ty tv:TE):TS:=λD σ H=>tv σ H λv H1=>td σ H1 λx H2=>ty σ H2 λy H3=>∃ a H4,x=.ref a/\Jt H3 a y v H4/\D.nx σ H4
section
variable {X:Cx} {o i e value:Expr} {pos pos' tpos:Pos} {td ty tv:TE}
theorem U0 (hu:X.A.units+1<cLine) (ho:PE X o td) (hi:PE X i ty) (hs:M7 i):PE X (.Subscript o i pos) (Sy td ty):=by
 intro pins s σ H Q I h
 refine SI PySem.F.slot_dict_getitem.lookup hs (Ao (ho pins s σ H _ I h) λu s1 ⟨x,H1,I1,rx,q1⟩=>Ao (hi pins s1 σ H1 _ I1 q1) λiv s2 ⟨y,H2,I2,ry,a,v,ex,g,q2⟩=>?_)
 subst ex
 obtain rfl:u=Value.ref a:=rx
 exact ⟨YJ I2 g,YR hu I2 g ry λw' s3 I3 rw'=>⟨v,H2,I3,rw',q2⟩⟩
theorem OE (hu:X.A.units+1<cLine) (ho:PE X o td) (hi:PE X i ty) (hv:PE X value tv) (hs:swapsWith value (some (.Subscript o i pos')) pos.line X.env=pure false) :
  PS X (.Assign [.Subscript o i pos'] value pos) (T4 td ty tv):=by
 intro pins s σ H D I h
 refine wpAny_Assign_Subscript (Ao (hv pins s σ H _ I h) λr s1 ⟨v,H1,I1,rv,q1⟩=>Ao (ho pins s1 σ H1 _ I1 q1) λu s2 ⟨x,H2,I2,rx,q2⟩=>Ao (hi pins s2 σ H2 _ I2 q2) λiv s3 ⟨y,H3,I3,ry,a,H4,ex,g,q3⟩=>?_) hs
 subst ex
 obtain rfl:u=Value.ref a:=rx
 exact YM hu I3 g ry rv λs4 I4=>⟨σ,H4,I4,q3⟩
end
theorem YI {P:Program} {w:World} {H:Hp} (h:Heap) (hb:sysModules<h.objs.size):Bn P w H (h.push { cls:=.type "dict",data:=.dict #[] }) h.objs.size (.dK []):=
 ⟨Nat.zero_le _,beq_eq_false_iff_ne.mpr (Ne.symm (Nat.ne_of_lt hb)),[],.nil,Heap.DictOf.new h⟩
def Sw:TE:=λ_ H Q=>∀ p,H p=none->Q (.ref p) (An H p (.dK []))
section
variable {X:Cx} {pos:Pos}
theorem UY:PE X (.Dict [] [] pos) Sw:=λpins s σ H Q I h=>
 wpAny_Dict_empty ⟨.ref s.heap.objs.size,_,I.laid (a:=s.heap.objs.size) (o:=.dK []) (t':=s.toks) (λ_ _ q=>Heap.get?_push_of_some _ q) (Nat.le_refl _) (YI s.heap I.big),rfl,h _ (I.hok.fresh (Nat.le_refl _))⟩
end
def Se:List (TE×TE)->St->Hp->(List (V×V)->Hp->Prop)->Prop
 | [],_,H,Q=>Q [] H
 | (tk,tv)::r,σ,H,Q=>tk σ H λx H1=>tv σ H1 λy H2=>Se r σ H2 λps H3=>Q ((x,y)::ps) H3
structure M1 (X:Cx) (o:Expr) (m:Str) (apos:Pos) (e:Expr) (cpos:Pos):Prop where
 base:attributeBase o m X.env (eval o X.env)=eval o X.env
 few:((backTo cpos (starEach [e] X.env)).all (λx=>!x.1)&&(backToKw cpos (keywordEach [] X.env)).all (λx=>x.1.isSome)
  && decide (([e]:List Expr).length+([]:List Keyword).length+(if ([]:List Keyword).isEmpty then 0 else 1)<30))=true
 line:(apos.endLine==cpos.line)=true
 trees:backTo cpos (starEach [e] X.env)=[(false,eval e X.env)]
def Nh (H:Hp) (a:Addr):Prop:=(∃ kvs,Rd H a (.dK kvs))\/∃ kvs,Rd H a (.dT kvs)
theorem Py {X:Cx} {pins:List (Addr×Obj)} {σ:St} {H:Hp} {s:Shared} {a:Addr} (I:Inv X pins σ H s) (d:Nh H a) :
  s.TypeIs (.ref a) "dict" /\ (∀ b,Value.ref a=.ref b->∃ ob,s.heap.get? b=some ob/\ob.dict=none)/\(a==sysModules)=false:=by
 rcases d with ⟨kvs,e⟩ | ⟨kvs,e⟩
 ·obtain ⟨_,hd,vs,_,dd⟩:=C1 I.hok e
  refine ⟨dd.typeIs,λb q=>?_,hd⟩
  cases q
  obtain ⟨ob,_,_,h1,h2,_⟩:=dd
  exact ⟨ob,h1,h2.2.1⟩
 ·obtain ⟨_,hd,xs,_,dd⟩:=Fk I.hok e
  refine ⟨dd.typeIs,λb q=>?_,hd⟩
  cases q
  obtain ⟨ob,_,_,h1,h2,_⟩:=dd
  exact ⟨ob,h1,h2.2.1⟩
section
variable {X:Cx} {pins:List (Addr×Obj)} {σ:St} {H:Hp} {s:Shared} {a:Addr} {y d:V} {u r:Value} {o:Option V} {A:Around} {E:Value->Shared->Prop}
theorem YS {Q:Value->Shared->Prop} (hu:A.units+1<cLine) (I:Inv X pins σ H s) (g:FC H a y o) (ry:Aw y u) (h:∀ w' s',Inv X pins σ H s'->Aw (o.getD .non) w'->Q w' s') :
  wpAny (model X.prog X.w) A (call (.builtin "dict.get") [.ref a,u]) Q E s:=by
 rcases g with ⟨kvs,k,e,ey,l⟩ | ⟨kvs,k,b,e,ey,eb,l⟩
 ·subst ey
  obtain ⟨z,hd,vs,rel,dd⟩:=C1 I.hok e
  refine call_meetsIn PySem.F.slot_dict_get dd.typeIs PySem.F.entry_dict_get (PySem.F.args_dict_get_2 _ _) (meets_dict_get (Ba X.prog X.w) a (Ff ry) hd) ⟨_,dd.mapOf,h _ _ (I.tok _) ?_⟩
  rw [l]
  exact (rel.val k).getD rfl
 ·subst ey
  cases (show u=Value.ref b from ry)
  obtain ⟨z,hd,xs,rel,dd⟩:=Fk I.hok e
  refine call_meetsIn PySem.F.slot_dict_get dd.typeIs PySem.F.entry_dict_get (PySem.F.args_dict_get_2 _ _) (meetsH_dict_get (tupleKind (Ba X.prog X.w)) a b hd) ⟨tupleKind_room_in1 hu,k,xs,FZ I.hok eb,dd,h _ _ (I.tok _) ?_⟩
  rw [l]
  exact (rel.val k).getD rfl
end
def Sx (td ty:TE):TE:=λσ H Q=>td σ H λx H1=>∃ a,x=.ref a/\Nh H1 a/\ty σ H1 λy H2=>∃ o,FC H2 a y o/\Q (o.getD .non) H2
def Sv (td ty:TE):TE:=λσ H Q=>td σ H λx H1=>∃ a,x=.ref a/\Nh H1 a/\ty σ H1 λy H2=>∃ kvs k v,H2 a=some (.dK kvs)/\y=kV k/\B4 kvs k=some v/\Q v (An H2 a (.dK (Fl kvs k)))
section
variable {X:Cx} {o e f:Expr} {apos cpos:Pos} {td ty tx:TE}
theorem UZ (hu:X.A.units+1<cLine) (ho:PE X o td) (he:PE X e ty) (m:M1 X o "get" apos e cpos):PE X (.Call (.Attribute o "get" apos) [e] [] cpos) (Sx td ty):=by
 intro pins s σ H Q I h
 refine wpAny_Call_method m.base m.few m.line PySem.F.plainAttrs_dict PySem.F.slot_dict_get PySem.F.type_dict_get (Ao (ho pins s σ H _ I h) λu s1 ⟨x,H1,I1,rx,a,ex,d,q1⟩=>?_)
 subst ex
 obtain rfl:u=Value.ref a:=rx
 obtain ⟨t1,t2,_⟩:=Py I1 d
 refine ⟨t1,t2,?_⟩
 rw [m.trees]
 refine Calls.callWith_builtin rfl (Calls.evalArgs_plain (Calls.spliced_cons (Ao (he pins s1 σ H1 _ I1 q1) λiv s2 ⟨y,H2,I2,ry,ov,g,q2⟩=>Calls.spliced_nil ?_)))
 exact YS hu I2 g ry λw' s3 I3 rw'=>⟨_,H2,I3,rw',q2⟩
theorem UX (ho:PE X o td) (he:PE X e ty) (m:M1 X o "pop" apos e cpos):PE X (.Call (.Attribute o "pop" apos) [e] [] cpos) (Sv td ty):=by
 intro pins s σ H Q I h
 refine wpAny_Call_method m.base m.few m.line PySem.F.plainAttrs_dict PySem.F.slot_dict_pop PySem.F.type_dict_pop (Ao (ho pins s σ H _ I h) λu s1 ⟨x,H1,I1,rx,a,ex,d,q1⟩=>?_)
 subst ex
 obtain rfl:u=Value.ref a:=rx
 obtain ⟨t1,t2,_⟩:=Py I1 d
 refine ⟨t1,t2,?_⟩
 rw [m.trees]
 refine Calls.callWith_builtin rfl (Calls.evalArgs_plain (Calls.spliced_cons (Ao (he pins s1 σ H1 _ I1 q1) λiv s2 ⟨y,H2,I2,ry,kvs,k,v,ea,ey,l,q2⟩=>Calls.spliced_nil ?_)))
 subst ey
 exact YN I2 ea ry l (.inl rfl) λw' s3 I3 rw'=>⟨v,_,I3,rw',q2⟩
end
section
variable {X:Cx} {pins:List (Addr×Obj)} {σ:St} {H:Hp} {s:Shared} {a:Addr} {kvs:List (Ak×V)} {A:Around} {E:Value->Shared->Prop}
theorem YT {Q:Value->Shared->Prop} (I:Inv X pins σ H s) (e:Rd H a (.dK kvs)) (h:∀ p s',H p=none->Inv X pins σ (An H p (.dK kvs)) s'->Q (.ref p) s'):wpAny (model X.prog X.w) A (call (.type "dict") [.ref a]) Q E s:=by
 obtain ⟨z,hd,vs,rel,dd⟩:=C1 I.hok e
 refine kt_call_dict hd dd (by rw [<- rel.length]; exact z) λh' dd' hs=>?_
 refine h _ _ (I.hok.fresh (Nat.le_refl _)) (I.laid (a:=s.heap.objs.size) (o:=.dK kvs) (t':=s.toks) (λb q hq=>?_) (Nat.le_refl _) (Mx z (beq_eq_false_iff_ne.mpr (Ne.symm (Nat.ne_of_lt I.big))) rel dd'))
 exact (hs.2 b (Nat.ne_of_lt (Heap.lt_size hq))).trans (Heap.get?_push_of_some _ hq)
end
section
variable {X:Cx} {pins:List (Addr×Obj)} {σ:St} {H:Hp} {s:Shared} {a:Addr} {y:V} {u:Value} {A:Around} {E:Value->Shared->Prop}
end
section
variable {X:Cx}
end
section
variable {κ:Type} [DecidableEq κ]
end
end L2
namespace DL
open PySem PySem.Spec PyProof.Rows L2
inductive D where
 | non | bl (b:Bool) | int (i:Int) | str (x:Str) | tup (xs:List D) | lst (xs:List D) | scr (xs:List D) | ptr (n:Nat) | ty (n:String) | fn (a:Addr) | dct (ks:List Ak) (xs:List D)
structure Wd where
 g:Hp
 l:List Addr
structure Ag (G G':Wd):Prop where
 g:Bj G.g G'.g
 l:∃ t,G'.l=G.l++t
theorem Ag.refl (G:Wd):Ag G G:=⟨Bj.refl _,[],(List.append_nil _).symm⟩
theorem Ag.trans {G G' G'':Wd} (a:Ag G G') (b:Ag G' G''):Ag G G'':=⟨a.g.trans b.g,by
 obtain ⟨t,e⟩:=a.l; obtain ⟨u,e'⟩:=b.l; exact ⟨t++u,by rw [e',e,List.append_assoc]⟩⟩
theorem Ag.at {G G':Wd} {n:Nat} {a:Addr} (e:Ag G G') (h:G.l[n]?=some a):G'.l[n]?=some a:=by
 obtain ⟨t,e⟩:=e.l
 rw [e,List.getElem?_append_left (List.getElem?_eq_some_iff.mp h).1,h]
mutual
inductive Is (K:PySem.W.Frag) (G:Wd):D->V->Prop
 | non:Is K G .non .non
 | bl (b:Bool):Is K G (.bl b) (.bl b)
 | int (i:Int):Is K G (.int i) (.int i)
 | str (x:Str):Is K G (.str x) (.str x)
 | tup {a:Addr} {ds:List D} {vs:List V} (h:Bm K G.g a vs) (r:Aj K G ds vs):Is K G (.tup ds) (.ref a)
 | lst {a:Addr} {ds:List D} {vs:List V} (h:G.g a=some (.lst vs)) (r:Aj K G ds vs):Is K G (.lst ds) (.ref a)
 | scr {a:Addr} {ds:List D} {vs:List V} (h:A0 K G.g a vs) (r:Aj K G ds vs):Is K G (.scr ds) (.ref a)
 | ptr {a:Addr} (n:Nat) (h:G.l[n]?=some a):Is K G (.ptr n) (.ref a)
 | ty (n:String):Is K G (.ty n) (.ty n)
 | fn (a:Addr):Is K G (.fn a) (.ref a)
 | dct {a:Addr} {ks:List Ak} {ds:List D} {vs:List V} {ob:Obj} (h:G.g a=some (.frz ob (.dK (ks.zip vs)))) (hl:ks.length=vs.length) (r:Aj K G ds vs):Is K G (.dct ks ds) (.ref a)
inductive Aj (K:PySem.W.Frag) (G:Wd):List D->List V->Prop
 | nil:Aj K G [] []
 | cons {d:D} {v:V} {ds:List D} {vs:List V} (h:Is K G d v) (r:Aj K G ds vs):Aj K G (d::ds) (v::vs)
end
theorem CW {K:PySem.W.Frag} {H H':Hp} {a:Addr} {xs:List V} (e:Bj H H') (h:Bm K H a xs):Bm K H' a xs:=by
 rcases h with (h | ⟨o,h⟩) | h
 ·exact .inl (.inl (e _ _ h))
 ·exact .inl (.inr ⟨o,e _ _ h⟩)
 ·exact .inr h
mutual
theorem Is.ext {K:PySem.W.Frag} {G G':Wd} (e:Ag G G'):∀ {d:D} {v:V},Is K G d v->Is K G' d v
 | _,_,.non=>.non
 | _,_,.bl b=>.bl b
 | _,_,.int i=>.int i
 | _,_,.str x=>.str x
 | _,_,.tup h r=>.tup (CW e.g h) (Aj.ext e r)
 | _,_,.lst h r=>.lst (e.g _ _ h) (Aj.ext e r)
 | _,_,.scr h r=>.scr (e.g.seq h) (Aj.ext e r)
 | _,_,.ptr n h=>.ptr n (e.at h)
 | _,_,.ty n=>.ty n
 | _,_,.fn n=>.fn n
 | _,_,.dct h hl r=>.dct (e.g _ _ h) hl (Aj.ext e r)
theorem Aj.ext {K:PySem.W.Frag} {G G':Wd} (e:Ag G G'):∀ {ds:List D} {vs:List V},Aj K G ds vs->Aj K G' ds vs
 | _,_,.nil=>.nil
 | _,_,.cons h r=>.cons (Is.ext e h) (Aj.ext e r)
end
section
variable {K:PySem.W.Frag} {G G':Wd}
theorem Aj.length:∀ {ds:List D} {vs:List V},Aj K G ds vs->ds.length=vs.length
 | _,_,.nil=>rfl
 | _,_,.cons _ r=>by rw [List.length_cons,List.length_cons,r.length]
theorem Aj.append:∀ {ds es:List D} {vs us:List V},Aj K G ds vs->Aj K G es us->Aj K G (ds++es) (vs++us)
 | _,_,_,_,.nil,q=>q
 | _,_,_,_,.cons h r,q=>.cons h (Aj.append r q)
theorem Aj.get:∀ {ds:List D} {vs:List V} {i:Nat} {d:D},Aj K G ds vs->ds[i]?=some d->∃ v,vs[i]?=some v/\Is K G d v
 | _,_,_,_,.nil,e=>by simp at e
 | _,_,0,_,.cons h r,e=>by simp at e; subst e; exact ⟨_,rfl,h⟩
 | _,_,i+1,d,.cons h r,e=>by
  obtain ⟨v,e1,h1⟩:=Aj.get (i:=i) (d:=d) r (by simpa using e)
  exact ⟨v,by simpa using e1,h1⟩
theorem Aj.getV:∀ {ds:List D} {vs:List V} {i:Nat} {v:V},Aj K G ds vs->vs[i]?=some v->∃ d,ds[i]?=some d/\Is K G d v
 | _,_,_,_,.nil,e=>by simp at e
 | _,_,0,_,.cons h r,e=>by simp at e; subst e; exact ⟨_,rfl,h⟩
 | _,_,i+1,d,.cons h r,e=>by
  obtain ⟨v,e1,h1⟩:=Aj.getV (i:=i) (v:=d) r (by simpa using e)
  exact ⟨v,by simpa using e1,h1⟩
theorem Aj.take:∀ {ds:List D} {vs:List V} (n:Nat),Aj K G ds vs->Aj K G (ds.take n) (vs.take n)
 | _,_,0,_=>.nil
 | _,_,_+1,.nil=>.nil
 | _,_,n+1,.cons h r=>.cons h (Aj.take n r)
theorem Aj.drop:∀ {ds:List D} {vs:List V} (n:Nat),Aj K G ds vs->Aj K G (ds.drop n) (vs.drop n)
 | _,_,0,h=>h
 | _,_,_+1,.nil=>.nil
 | _,_,n+1,.cons h r=>Aj.drop n r
theorem Aj.reverse {ds:List D} {vs:List V} (h:Aj K G ds vs):Aj K G ds.reverse vs.reverse:=by
 induction ds generalizing vs with
 | nil=>cases h; exact .nil
 | cons d ds ih=>
  cases h with
  | cons h r=>
   rw [List.reverse_cons,List.reverse_cons]
   exact (ih r).append (.cons h .nil)
theorem Aj.ints:∀ {ns:List Int},Aj K G (ns.map D.int) (ns.map V.int)
 | []=>.nil
 | n::ns=>.cons (.int n) (Aj.ints (ns:=ns))
theorem Aj.toInts:∀ {ns:List Int} {vs:List V},Aj K G (ns.map D.int) vs->vs=ns.map V.int
 | [],_,.nil=>rfl
 | n::ns,_,.cons h r=>by cases h; rw [Aj.toInts r]; rfl
end
def _root_.L2.ctxOf (o:Obj):Option Value:=match o.data with | .fields vs=>vs[2]? | _=>none
inductive MO where
 | lst (xs:List D)
 | ins (C:Addr) (fs:List (Str×D))
 | exc (C:Addr) (fs:List (Str×D)) (h:Option Addr:=none)
 | dct (ks:List Ak) (xs:List D)
 | pin (ob:Obj) (vs:List V) (ks:List Ak) (xs:List D)
abbrev Ad:=List (Option MO)
inductive A4 (K:PySem.W.Frag) (G:Wd):List (Str×D)->List (Str×V)->Prop
 | nil:A4 K G [] []
 | cons {f:Str} {d:D} {v:V} {fs:List (Str×D)} {vs:List (Str×V)} (h:Is K G d v) (r:A4 K G fs vs):A4 K G ((f,d)::fs) ((f,v)::vs)
theorem A4.ext {K:PySem.W.Frag} {G G':Wd} (e:Ag G G'):∀ {fs:List (Str×D)} {vs:List (Str×V)},A4 K G fs vs->A4 K G' fs vs
 | _,_,.nil=>.nil
 | _,_,.cons h r=>.cons (h.ext e) (A4.ext e r)
def D4 (K:PySem.W.Frag) (G:Wd) (H:Hp) (p:Addr):MO->Prop
 | .lst xs=>∃ vs,H p=some (.lst vs)/\Aj K G xs vs
 | .ins C fs=>∃ dx vs,H p=some (.ins C dx vs)/\A4 K G fs vs
 | .exc C fs h=>∃ ob,H p=some (.ext λh=>h.get? p=some ob)/\(ob.cls=.ref C/\∃ ws,ob.data=.fields ws)/\(fs=[]\/∃ dx vs,ob.dict=some dx/\G.g dx=some (.xd vs)/\A4 K G fs vs)/\∀ a,h=some a->p=a/\L2.ctxOf ob=some .none
 | .dct ks xs=>∃ vs,H p=some (.dK (ks.zip vs))/\ks.length=vs.length/\Aj K G xs vs
 | .pin ob vs ks xs=>H p=some (.frz ob (.dK (ks.zip vs)))/\ks.length=vs.length/\Aj K G xs vs
structure SA (K:PySem.W.Frag) (G:Wd) (H:Hp) (O:Ad):Prop where
 sub:Bj G.g H
 len:G.l.length=O.length
 nd:G.l.Nodup
 liv:∀ a∈G.l,∃ o,H a=some o
 mt:∀ (n:Nat) (m:MO),O[n]?=some (some m)->∃ a,G.l[n]?=some a/\G.g a=none/\D4 K G H a m
section
variable {K:PySem.W.Frag} {G G':Wd} {H H':Hp} {O:Ad}
theorem D4.ext {p:Addr} {m:MO} (e:Ag G G') (q:H' p=H p) (h:D4 K G H p m):D4 K G' H' p m:=by
 cases m with
 | lst xs=>obtain ⟨vs,h1,h2⟩:=h; exact ⟨vs,by rw [q]; exact h1,h2.ext e⟩
 | ins C fs=>obtain ⟨dx,vs,h1,h2⟩:=h; exact ⟨dx,vs,by rw [q]; exact h1,h2.ext e⟩
 | exc C fs ha=>
  obtain ⟨ob,h1,h2,h3,h4⟩:=h
  refine ⟨ob,by rw [q]; exact h1,h2,h3.imp id ?_,h4⟩
  rintro ⟨dx,vs,a1,a2,a3⟩
  exact ⟨dx,vs,a1,e.g _ _ a2,a3.ext e⟩
 | dct ks xs=>obtain ⟨vs,h1,hl,h2⟩:=h; exact ⟨vs,by rw [q]; exact h1,hl,h2.ext e⟩
 | pin ob vs ks xs=>obtain ⟨h1,hl,h2⟩:=h; exact ⟨by rw [q]; exact h1,hl,h2.ext e⟩
theorem D4.some {p:Addr} {m:MO} (h:D4 K G H p m):∃ o,H p=some o:=by
 cases m with
 | lst xs=>obtain ⟨vs,h1,h2⟩:=h; exact ⟨_,h1⟩
 | ins C fs=>obtain ⟨dx,vs,h1,h2⟩:=h; exact ⟨_,h1⟩
 | exc C fs ha=>obtain ⟨ob,h1,_⟩:=h; exact ⟨_,h1⟩
 | dct ks xs=>obtain ⟨vs,h1,_⟩:=h; exact ⟨_,h1⟩
 | pin ob vs ks xs=>exact ⟨_,h.1⟩
theorem SA.free {p:Addr} (s:SA K G H O) (h:H p=none):G.g p=none:=s.sub.free h
theorem SA.grow (s:SA K G H O) (e:Bj H H'):SA K G H' O:=
 ⟨s.sub.trans e,s.len,s.nd,λa ha=>let ⟨o,h⟩:=s.liv a ha; ⟨o,e _ _ h⟩,λn m h=>by
  obtain ⟨a,h1,h2,h3⟩:=s.mt n m h
  obtain ⟨o,h4⟩:=h3.some
  exact ⟨a,h1,h2,h3.ext (Ag.refl _) (by rw [h4,e _ _ h4])⟩⟩
theorem Fb {p:Addr} {o:HO} (h:H p=none):Bj H (An H p o):=λb u q=>by
 rw [As]; exact q
 rintro rfl; rw [h] at q; cases q
theorem SA.laid {p:Addr} {o:HO} (s:SA K G H O) (h:H p=none):Ag G ⟨An G.g p o,G.l⟩/\SA K ⟨An G.g p o,G.l⟩ (An H p o) O:=by
 have e:Ag G ⟨An G.g p o,G.l⟩:=⟨Fb (s.free h),[],(List.append_nil _).symm⟩
 refine ⟨e,⟨λb u q=>?_,s.len,s.nd,λa ha=>let ⟨o,q⟩:=s.liv a ha; ⟨o,Fb h _ _ q⟩,λn m hq=>?_⟩⟩
 ·by_cases hb:b=p
  ·subst hb
   have q:An G.g b o b=some u:=q
   rw [AJ] at q; rw [AJ]; exact q
  ·have q:An G.g p o b=some u:=q
   rw [As hb] at q ⊢; exact s.sub b u q
 ·obtain ⟨a,h1,h2,h3⟩:=s.mt n m hq
  have ne:a≠p:=by
   rintro rfl; obtain ⟨o,h4⟩:=h3.some; rw [h] at h4; cases h4
  exact ⟨a,h1,by show An G.g p o a=none; rw [As ne]; exact h2,h3.ext e (As ne)⟩
theorem SA.new {p:Addr} {o:HO} {m:MO} (s:SA K G H O) (h:H p=none) (r:D4 K ⟨G.g,G.l++[p]⟩ (An H p o) p m):Ag G ⟨G.g,G.l++[p]⟩/\SA K ⟨G.g,G.l++[p]⟩ (An H p o) (O++[some m]):=by
 have e:Ag G ⟨G.g,G.l++[p]⟩:=⟨Bj.refl _,[p],rfl⟩
 have hp:p∉G.l:=λz=>by obtain ⟨o,q⟩:=s.liv p z; rw [h] at q; cases q
 refine ⟨e,⟨s.sub.trans (Fb h),?_,?_,?_,?_⟩⟩
 ·simp [s.len]
 ·exact List.nodup_append.mpr ⟨s.nd,List.nodup_cons.mpr ⟨List.not_mem_nil,List.nodup_nil⟩,λa ha b hb=>by
   rw [List.mem_singleton] at hb; subst hb; rintro rfl; exact hp ha⟩
 ·intro a ha
  rcases List.mem_append.mp ha with ha | ha
  ·obtain ⟨u,q⟩:=s.liv a ha; exact ⟨u,Fb h _ _ q⟩
  ·rw [List.mem_singleton] at ha; subst ha; exact ⟨_,AJ⟩
 ·intro n m' hq
  by_cases hn:n<O.length
  ·rw [List.getElem?_append_left hn] at hq
   obtain ⟨a,h1,h2,h3⟩:=s.mt n m' hq
   have ne:a≠p:=by rintro rfl; exact hp (List.mem_of_getElem? h1)
   exact ⟨a,e.at h1,h2,h3.ext e (As ne)⟩
  ·have e1:n=O.length:=by
    have:=(List.getElem?_eq_some_iff.mp hq).1
    rw [List.length_append,List.length_singleton] at this
    omega
   subst e1
   rw [List.getElem?_append_right (Nat.le_refl _),Nat.sub_self] at hq
   cases hq
   exact ⟨p,by show (G.l++[p])[O.length]?=_; rw [<- s.len,List.getElem?_append_right (Nat.le_refl _),Nat.sub_self]; rfl,s.free h,r⟩
theorem SA.put {n:Nat} {p:Addr} {o:HO} {m m':MO} (s:SA K G H O) (h:O[n]?=some (some m)) (hp:G.l[n]?=some p) (r:D4 K G (An H p o) p m'):SA K G (An H p o) (O.set n (some m')):=by
 obtain ⟨a,h1,h2,h3⟩:=s.mt n m h
 obtain rfl:p=a:=Option.some.inj (hp.symm.trans h1)
 refine ⟨λb u q=>?_,by simp [s.len],s.nd,λb hb=>?_,λk m2 hk=>?_⟩
 ·rw [As]; exact s.sub b u q
  rintro rfl; rw [h2] at q; cases q
 ·by_cases hbp:b=p
  ·subst hbp; exact ⟨_,AJ⟩
  ·obtain ⟨u,q⟩:=s.liv b hb; exact ⟨u,by rw [As hbp]; exact q⟩
 ·by_cases hkn:n=k
  ·subst hkn
   rw [List.getElem?_set_self (List.getElem?_eq_some_iff.mp h).1] at hk
   cases hk
   exact ⟨p,hp,h2,r⟩
  ·rw [List.getElem?_set_ne hkn] at hk
   obtain ⟨b,g1,g2,g3⟩:=s.mt k m2 hk
   have ne:b≠p:=by
    rintro rfl
    exact hkn ((List.getElem?_inj (List.getElem?_eq_some_iff.mp hp).1 s.nd).mp (hp.trans g1.symm))
   exact ⟨b,g1,g2,g3.ext (Ag.refl _) (As ne)⟩
theorem SA.frozen {n:Nat} {xs:List D} (s:SA K G H O) (h:O[n]?=some (some (.lst xs))):∃ G' p,Ag G G'/\SA K G' H (O.set n none)/\G.l[n]?=some p/\Is K G' (.lst xs) (.ref p):=by
 obtain ⟨p,hp,g,vs,h1,r⟩:=s.mt n _ h
 have e:Ag G ⟨An G.g p (.lst vs),G.l⟩:=⟨Fb g,[],(List.append_nil _).symm⟩
 refine ⟨⟨An G.g p (.lst vs),G.l⟩,p,e,⟨λb u q=>?_,by simp [s.len],s.nd,s.liv,λk m hq=>?_⟩,hp,.lst AJ (r.ext e)⟩
 ·by_cases hb:b=p
  ·subst hb
   have q:An G.g b _ b=some u:=q
   rw [AJ] at q; cases q; exact h1
  ·have q:An G.g p _ b=some u:=q
   rw [As hb] at q; exact s.sub b u q
 ·by_cases hkn:n=k
  ·subst hkn
   rw [List.getElem?_set_self (List.getElem?_eq_some_iff.mp h).1] at hq
   cases hq
  ·rw [List.getElem?_set_ne hkn] at hq
   obtain ⟨b,g1,g2,g3⟩:=s.mt k m hq
   have ne:b≠p:=by
    rintro rfl
    exact hkn ((List.getElem?_inj (List.getElem?_eq_some_iff.mp hp).1 s.nd).mp (hp.trans g1.symm))
   exact ⟨b,g1,by show An G.g p _ b=none; rw [As ne]; exact g2,g3.ext e rfl⟩
end
abbrev Am:=List (Option D)
structure Ar (K:PySem.W.Frag) (G:Wd) (σ:L2.St) (ρ:Am):Prop where
 len:σ.length=ρ.length
 get:∀ (i:Nat) (d:D),ρ[i]?=some (some d)->∃ v,σ[i]?=some (some v)/\Is K G d v
theorem Ar.ext {K:PySem.W.Frag} {G G':Wd} {σ:L2.St} {ρ:Am} (e:Ag G G') (h:Ar K G σ ρ):Ar K G' σ ρ:=
 ⟨h.len,λi d q=>let ⟨v,h1,h2⟩:=h.get i d q; ⟨v,h1,h2.ext e⟩⟩
theorem Ar.set {K:PySem.W.Frag} {G:Wd} {σ:L2.St} {ρ:Am} {d:D} {v:V} (i:Nat) (h:Ar K G σ ρ) (q:Is K G d v):Ar K G (σ.set i (some v)) (ρ.set i (some d)):=by
 refine ⟨by simp [h.len],λj e hj=>?_⟩
 by_cases hij:i=j
 ·subst hij
  by_cases hl:i<ρ.length
  ·rw [List.getElem?_set_self hl] at hj
   cases hj
   exact ⟨v,List.getElem?_set_self (by rw [h.len]; exact hl),q⟩
  ·rw [List.getElem?_eq_none (by simp; omega)] at hj; cases hj
 ·rw [List.getElem?_set_ne hij] at hj ⊢
  exact h.get j e hj
def Ev (X:Cx) (ρ:Am) (O:Ad) (e:Expr) (R:D->Ad->Prop):Prop:=
 ∀ G,PE X e (λσ H Q=>SA X.K G H O/\Ar X.K G σ ρ/\∀ v d O' G' H',Ag G G'->SA X.K G' H' O'->Is X.K G' d v->R d O'->Q v H')
def Ac (X:Cx) (ρ:Am) (O:Ad) (e:Expr) (d:D):Prop:=
 ∀ G,PE X e (λσ H Q=>SA X.K G H O/\Ar X.K G σ ρ/\∀ v G' H',Ag G G'->SA X.K G' H' O->Is X.K G' d v->Q v H')
def Ax (X:Cx) (ρ:Am) (O:Ad) (e:Expr) (b:Bool):Prop:=
 ∀ G,PT X e (λσ H Q=>SA X.K G H O/\Ar X.K G σ ρ/\∀ G' H',Ag G G'->SA X.K G' H' O->Q b H')
def AO (X:Cx) (ρ:Am) (O:Ad) (e:Expr) (b:Bool):Prop:=
 ∀ G,PW X e (λσ H Q=>SA X.K G H O/\Ar X.K G σ ρ/\∀ G' H',Ag G G'->SA X.K G' H' O->Q b H')
def FA (X:Cx) (ρ:Am) (O:Ad) (es:List Expr) (R:List D->Ad->Prop):Prop:=
 ∀ G,PA X es (λσ H Q=>SA X.K G H O/\Ar X.K G σ ρ/\∀ vs ds O' G' H',Ag G G'->SA X.K G' H' O'->Aj X.K G' ds vs->R ds O'->Q vs H')
theorem _root_.L2.PE.imp {X:Cx} {e:Expr} {t u:TE} (h:PE X e t) (k:∀ σ H Q,u σ H Q->t σ H Q):PE X e u:=λpins s σ H Q I q=>h pins s σ H Q I (k _ _ _ q)
theorem _root_.L2.PT.imp {X:Cx} {e:Expr} {t u:TT} (h:PT X e t) (k:∀ σ H Q,u σ H Q->t σ H Q):PT X e u:=λpins s σ H Q I q=>h pins s σ H Q I (k _ _ _ q)
theorem _root_.L2.PA.imp {X:Cx} {es:List Expr} {t u:TA} (h:PA X es t) (k:∀ σ H Q,u σ H Q->t σ H Q):PA X es u:=λpos pins s σ H Q I q=>h pos pins s σ H Q I (k _ _ _ q)
theorem _root_.L2.PS.imp {X:Cx} {e:Stmt} {t u:TS} (h:PS X e t) (k:∀ D σ H,u D σ H->t D σ H):PS X e u:=λpins s σ H D I q=>h pins s σ H D I (k _ _ _ q)
theorem _root_.L2.PSs.imp {X:Cx} {e:List Stmt} {t u:TS} (h:PSs X e t) (k:∀ D σ H,u D σ H->t D σ H):PSs X e u:=λpins s σ H D I q=>h pins s σ H D I (k _ _ _ q)
section
variable {X:Cx} {ρ:Am} {O:Ad} {e a b c:Expr} {d da db:D} {R:D->Ad->Prop} {pos:Pos}
theorem Ac.ev (h:Ac X ρ O e d) (r:R d O):Ev X ρ O e R:=λG=>(h G).imp λσ H Q ⟨s,n,k⟩=>⟨s,n,λv G' H' e1 s' i=>k v d O G' H' e1 s' i r⟩
theorem Ev.evp (h:Ev X ρ O e λd' O'=>d'=d/\O'=O):Ac X ρ O e d:=λG=>(h G).imp λσ H Q ⟨s,n,k⟩=>⟨s,n,λv d' O' G' H' e1 s' i r=>by obtain ⟨rfl,rfl⟩:=r; exact k v G' H' e1 s' i⟩
theorem Ac.cast {d':D} (h:Ac X ρ O e d) (q:d=d'):Ac X ρ O e d':=q ▸ h
theorem AO.t (h:AO X ρ O e b'):Ax X ρ O e b':=λG=>(h G).pt
theorem Ax.cast {k k':Bool} (h:Ax X ρ O e k) (q:k=k'):Ax X ρ O e k':=q ▸ h
theorem Aa (i:Nat) {x:Str} {p:Pos} (hr:ρ[i]?=some (some d):=by rfl) (hN:X.N[i]?=some x:=by rfl) (hv:Dl X.env.scope x:=by first | exact Or.inl rfl | exact Or.inr (Or.inl rfl) | exact Or.inr (Or.inr rfl))
  (hd:(x==("__debug__" : Str))=false:=by decide) (hcd:(x==("__classdict__" : Str))=false:=by decide):Ac X ρ O (.Name x p) d:=λG=>
 PE.imp (K6 hN hv hd hcd) λσ H Q ⟨s,n,k⟩=>by
  obtain ⟨v,e1,i1⟩:=n.get i d hr
  exact ⟨v,e1,k v G H (Ag.refl _) s i1⟩
theorem Af {i:Int} {j:Nat}:Ac X ρ O (.Constant (.int i) j pos) (.int i):=λG=>PE.imp UV λσ H Q ⟨s,n,k⟩=>k _ G H (Ag.refl _) s (.int i)
theorem Cy {i:Bool} {j:Nat}:Ac X ρ O (.Constant (.bool i) j pos) (.bl i):=λG=>PE.imp U3 λσ H Q ⟨s,n,k⟩=>k _ G H (Ag.refl _) s (.bl i)
theorem Hb {j:Nat}:Ac X ρ O (.Constant .none j pos) .non:=λG=>PE.imp UQ λσ H Q ⟨s,n,k⟩=>k _ G H (Ag.refl _) s .non
theorem Al {x:Str} {j:Nat}:Ac X ρ O (.Constant (.str x) j pos) (.str x):=λG=>PE.imp UM λσ H Q ⟨s,n,k⟩=>k _ G H (Ag.refl _) s (.str x)
def AX (X:Cx) (O:Ad) (f:Value->Value->Sem Value) (da db d:D):Prop:=
 ∀ G,BL X f (λv u H Q=>SA X.K G H O/\Is X.K G da v/\Is X.K G db u/\∀ w G' H',Ag G G'->SA X.K G' H' O->Is X.K G' d w->Q w H')
theorem AX.of {f:Value->Value->Sem Value} {r:R2} (ho:BL X f r)
  (k:∀ G v u H Q,SA X.K G H O->Is X.K G da v->Is X.K G db u->(∀ w G' H',Ag G G'->SA X.K G' H' O->Is X.K G' d w->Q w H')->r v u H Q):AX X O f da db d:=
 λG pins s σ H x y v u Q I rx ry ⟨h1,h2,h3,h4⟩=>ho pins s σ H x y v u Q I rx ry (k G _ _ _ _ h1 h2 h3 h4)
theorem Ai {op:Operator} (ha:Ac X ρ O a da) (hb:Ac X ρ O b db) (ho:AX X O (binaryOp op) da db d):Ac X ρ O (.BinOp a op b pos) d:=λG pins s σ H Q I ⟨h1,h2,h3⟩=>
 wpAny_BinOp (Ge (ta:=λσ H Q=>SA X.K G H O/\Ar X.K G σ ρ/\∀ v G' H',Ag G G'->SA X.K G' H' O->Is X.K G' da v->Q v H') (ha G)
  (tb:=λσ H Q=>∃ G1 v0,SA X.K G1 H O/\Ar X.K G1 σ ρ/\∀ v G' H',Ag G1 G'->SA X.K G' H' O->Is X.K G' db v->Q v H') (λpins s σ H Q I ⟨G1,_,q⟩=>hb G1 pins s σ H Q I q) I
  (R:=λx y H2=>∃ G2,Ag G G2/\SA X.K G2 H2 O/\Is X.K G2 da x/\Is X.K G2 db y)
  ⟨h1,h2,λv G1 H1 e1 s1 i1=>⟨G1,(0:Nat),s1,h2.ext e1,λu G2 H2 e2 s2 i2=>⟨G2,e1.trans e2,s2,i1.ext e2,i2⟩⟩⟩
  λv u s2 x y H2 I2 rx ry ⟨G2,e2,s2',i1,i2⟩=>ho G2 pins s2 σ H2 x y v u Q I2 rx ry ⟨s2',i1,i2,λw G3 H3 e3 s3 i3=>h3 w G3 H3 (e2.trans e3) s3 i3⟩)
theorem O0 {f:Value->Value->Sem Value} {g:Int->Int->Int} {i j:Int} (ho:BL X f (DM λi j=>.int (g i j))):AX X O f (.int i) (.int j) (.int (g i j)):=
 .of ho λG v u H Q s h1 h2 k=>by cases h1; cases h2; exact ⟨i,j,rfl,rfl,k _ G H (Ag.refl _) s (.int _)⟩
theorem Lc {f:Value->Value->Sem Value} {C:Int->Int->Prop} {g:Int->Int->Int} {i j:Int} (ho:BL X f (rI C λi j=>.int (g i j))) (hc:C i j):AX X O f (.int i) (.int j) (.int (g i j)):=
 .of ho λG v u H Q s h1 h2 k=>by cases h1; cases h2; exact ⟨i,j,rfl,rfl,hc,k _ G H (Ag.refl _) s (.int _)⟩
theorem Ih {f:Value->Value->Sem Value} {g:Int->Int->Bool} {i j:Int} (ho:BL X f (DM λi j=>.bl (g i j))):AX X O f (.int i) (.int j) (.bl (g i j)):=
 .of ho λG v u H Q s h1 h2 k=>by cases h1; cases h2; exact ⟨i,j,rfl,rfl,k _ G H (Ag.refl _) s (.bl _)⟩
theorem BU {i j:Int}:AX X O (binaryOp .Add) (.int i) (.int j) (.int (i+j)):=O0 Vh
theorem Ig {i j:Int}:AX X O (binaryOp .Sub) (.int i) (.int j) (.int (i-j)):=O0 U5
theorem U7:BL X (binaryOp .Mult) (rI IntMulOk λi j=>.int (i*j)):=Lb λ_ _ _ _ _ _ _ hc q=>mul_int q hc
theorem CU {i j:Int} (h:IntMulOk i j):AX X O (binaryOp .Mult) (.int i) (.int j) (.int (i*j)):=Lc U7 h
theorem Ed {i j:Int} (h:Rr i j):AX X O (binaryOp .FloorDiv) (.int i) (.int j) (.int (i/j)):=Lc Vf h
theorem BF {i j:Int} (h:0<j):AX X O (binaryOp .Mod) (.int i) (.int j) (.int (i%j)):=Lc (C:=λ_ j=>0<j) U8 h
theorem MD {i j:Int}:AX X O (compareOp .Lt) (.int i) (.int j) (.bl (decide (i<j))):=Ih U9
theorem Gc {i j:Int}:AX X O (compareOp .LtE) (.int i) (.int j) (.bl (decide (i<=j))):=Ih Va
theorem Fq {i j:Int}:AX X O (compareOp .Gt) (.int i) (.int j) (.bl (decide (j<i))):=Ih Vd
theorem Za {i j:Int}:AX X O (compareOp .GtE) (.int i) (.int j) (.bl (decide (j<=i))):=Ih Ve
theorem Qy {i j:Int}:decide (V.int i=V.int j)=decide (i=j):=by
 by_cases h:i=j
 ·subst h; rw [decide_eq_true rfl,decide_eq_true rfl]
 ·rw [decide_eq_false h,decide_eq_false]; intro z; injection z with z; exact h z
theorem BE {i j:Int}:AX X O (compareOp .Eq) (.int i) (.int j) (.bl (decide (i=j))):=
 .of OT λG v u H Q s h1 h2 k=>by cases h1; cases h2; exact ⟨rfl,by rw [Qy]; exact k _ G H (Ag.refl _) s (.bl _)⟩
theorem Fp {i j:Int}:AX X O (compareOp .NotEq) (.int i) (.int j) (.bl (!decide (i=j))):=
 .of OS λG v u H Q s h1 h2 k=>by cases h1; cases h2; exact ⟨rfl,by rw [Qy]; exact k _ G H (Ag.refl _) s (.bl _)⟩
def isN:D->Bool
 | .non=>true
 | _=>false
theorem Xd {K:PySem.W.Frag} {G:Wd} {v:V} (h:Is K G d v):decide (v=V.non)=isN d:=by
 cases h <;> first | rfl | exact decide_eq_false (λz=>by cases z)
theorem IU:AX X O (compareOp .Is) da .non (.bl (isN da)):=
 .of Vb λG v u H Q s h1 h2 k=>by cases h2; exact ⟨rfl,by rw [Xd h1]; exact k _ G H (Ag.refl _) s (.bl _)⟩
theorem Ei {op:CmpOp} (ha:Ac X ρ O a da) (hb:Ac X ρ O b db) (ho:AX X O (compareOp op) da db d) (hm:behindInMarks op b=false:=by first | exact Lg _ | (with_unfolding_all rfl)):Ac X ρ O (.Compare a [op] [b] pos) d:=λG pins s σ H Q I ⟨h1,h2,h3⟩=>
 wpAny_Compare1 (Ge (ta:=λσ H Q=>SA X.K G H O/\Ar X.K G σ ρ/\∀ v G' H',Ag G G'->SA X.K G' H' O->Is X.K G' da v->Q v H') (ha G)
  (tb:=λσ H Q=>∃ G1 v0,SA X.K G1 H O/\Ar X.K G1 σ ρ/\∀ v G' H',Ag G1 G'->SA X.K G' H' O->Is X.K G' db v->Q v H') (λpins s σ H Q I ⟨G1,_,q⟩=>hb G1 pins s σ H Q I q) I
  (R:=λx y H2=>∃ G2,Ag G G2/\SA X.K G2 H2 O/\Is X.K G2 da x/\Is X.K G2 db y)
  ⟨h1,h2,λv G1 H1 e1 s1 i1=>⟨G1,(0:Nat),s1,h2.ext e1,λu G2 H2 e2 s2 i2=>⟨G2,e1.trans e2,s2,i1.ext e2,i2⟩⟩⟩
  λv u s2 x y H2 I2 rx ry ⟨G2,e2,s2',i1,i2⟩=>ho G2 pins s2 σ H2 x y v u Q I2 rx ry ⟨s2',i1,i2,λw G3 H3 e3 s3 i3=>h3 w G3 H3 (e2.trans e3) s3 i3⟩) hm
theorem Au {op:CmpOp} {k:Bool} (ha:Ac X ρ O a da) (hb:Ac X ρ O b db) (ho:AX X O (compareOp op) da db (.bl k)) (hm:behindInMarks op b=false:=by first | exact Lg _ | (with_unfolding_all rfl)):Ax X ρ O (.Compare a [op] [b] pos) k:=λG pins s σ H Q I ⟨h1,h2,h3⟩=>by
 refine wpAny_isTrue_Compare1 (Ao (ha G pins s σ H _ I ⟨h1,h2,λv G1 H1 e1 s1 i1=>(⟨G1,e1,s1,i1⟩:∃ G1,Ag G G1/\SA X.K G1 H1 O/\Is X.K G1 da v)⟩) λv s1 ⟨x,H1,I1,r1,G1,e1,sa1,i1⟩=>
  Ao (hb G1 pins s1 σ H1 _ I1 ⟨sa1,h2.ext e1,λu G2 H2 e2 s2 i2=>(⟨G2,e2,s2,i2⟩:∃ G2,Ag G1 G2/\SA X.K G2 H2 O/\Is X.K G2 db u)⟩) λu s2 ⟨y,H2,I2,r2,G2,e2,sa2,i2⟩=>
  Ao (ho G2 pins s2 σ H2 x y v u _ I2 r1 r2 ⟨sa2,i1.ext e2,i2,λw G3 H3 e3 s3 i3=>(⟨G3,e3,s3,i3⟩:∃ G3,Ag G2 G3/\SA X.K G3 H3 O/\Is X.K G3 (.bl k) w)⟩) λc s3 ⟨z,H3,I3,r3,G3,e3,sa3,i3⟩=>?_) hm
 cases i3
 cases r3
 exact wpAny_truthy_bool ⟨H3,I3,h3 G3 H3 ((e1.trans e2).trans e3) sa3⟩
theorem BR {k:Bool} (ha:Ac X ρ O a (.bl k)) (he:∀ whole,isTrue a X.env whole=(do let v <- whole; standAt a.pos; holding [v] (truthy v)):=by intro _; rfl):Ax X ρ O a k:=λG=>
 (Oz (ha G) he).imp λσ H Q ⟨h1,h2,h3⟩=>⟨h1,h2,λv G' H' e1 s1 i1=>by cases i1; exact ⟨k,rfl,h3 G' H' e1 s1⟩⟩
theorem CL {k:Bool} (ha:Ax X ρ O a k):Ax X ρ O (.UnaryOp .Not a pos) (!k):=λG=>
 (OA (ha G)).imp λσ H Q ⟨h1,h2,h3⟩=>⟨h1,h2,λG' H' e1 s1=>h3 G' H' e1 s1⟩
theorem B6 {k:Bool} (ha:Ax X ρ O a k):AO X ρ O (.BoolOp .And [a] pos) k:=λG=>Ur (ha G)
theorem Dh {k:Bool} (ha:Ax X ρ O a k):AO X ρ O (.BoolOp .Or [a] pos) k:=λG=>Uq (ha G)
theorem BP {k l:Bool} {AK:List Expr} (ha:Ax X ρ O a k) (hb:k=true->AO X ρ O (.BoolOp .And (b::AK) pos) l):AO X ρ O (.BoolOp .And (a::b::AK) pos) (k&&l):=λG wh pins s σ H Q I ⟨h1,h2,h3⟩=>by
 refine isTrue_and (Ao (ha G pins s σ H (λc H1=>c=k/\∃ G1,Ag G G1/\SA X.K G1 H1 O) I ⟨h1,h2,λG1 H1 e1 s1=>⟨rfl,G1,e1,s1⟩⟩) ?_)
 rintro c s1 ⟨H1,I1,rfl,G1,e1,sa1⟩
 cases c with
 | false=>exact ⟨H1,I1,h3 G1 H1 e1 sa1⟩
 | true=>exact hb rfl G1 wh pins s1 σ H1 Q I1 ⟨sa1,h2.ext e1,λG2 H2 e2 s2=>h3 G2 H2 (e1.trans e2) s2⟩
theorem Ce {k l:Bool} {AK:List Expr} (ha:Ax X ρ O a k) (hb:k=false->AO X ρ O (.BoolOp .Or (b::AK) pos) l):AO X ρ O (.BoolOp .Or (a::b::AK) pos) (k||l):=λG wh pins s σ H Q I ⟨h1,h2,h3⟩=>by
 refine isTrue_or (Ao (ha G pins s σ H (λc H1=>c=k/\∃ G1,Ag G G1/\SA X.K G1 H1 O) I ⟨h1,h2,λG1 H1 e1 s1=>⟨rfl,G1,e1,s1⟩⟩) ?_)
 rintro c s1 ⟨H1,I1,rfl,G1,e1,sa1⟩
 cases c with
 | true=>exact ⟨H1,I1,h3 G1 H1 e1 sa1⟩
 | false=>exact hb rfl G1 wh pins s1 σ H1 Q I1 ⟨sa1,h2.ext e1,λG2 H2 e2 s2=>h3 G2 H2 (e1.trans e2) s2⟩
theorem IH {op:BoolOp} (ha:Ac X ρ O a d):Ac X ρ O (.BoolOp op [a] pos) d:=λG=>UO (ha G)
theorem IP {k l:Bool} {AK:List Expr} (ha:Ac X ρ O a (.bl k)) (hb:k=true->Ac X ρ O (.BoolOp .And (b::AK) pos) (.bl l)):Ac X ρ O (.BoolOp .And (a::b::AK) pos) (.bl (k&&l)):=λG pins s σ H Q I ⟨h1,h2,h3⟩=>by
 refine BoolOp_and (Ao (ha G pins s σ H (λv H1=>∃ G1,Ag G G1/\SA X.K G1 H1 O/\Is X.K G1 (.bl k) v) I ⟨h1,h2,λv G1 H1 e1 s1 i1=>⟨G1,e1,s1,i1⟩⟩) ?_)
 rintro v s1 ⟨x,H1,I1,r1,G1,e1,sa1,i1⟩
 cases i1
 cases r1
 refine wpAny_truthy_bool ?_
 cases k with
 | false=>exact ⟨.bl false,H1,I1,rfl,h3 _ G1 H1 e1 sa1 (.bl _)⟩
 | true=>exact hb rfl G1 pins s1 σ H1 Q I1 ⟨sa1,h2.ext e1,λw G2 H2 e2 s2 i2=>h3 w G2 H2 (e1.trans e2) s2 i2⟩
theorem Ye {k l:Bool} {AK:List Expr} (ha:Ac X ρ O a (.bl k)) (hb:k=false->Ac X ρ O (.BoolOp .Or (b::AK) pos) (.bl l)):Ac X ρ O (.BoolOp .Or (a::b::AK) pos) (.bl (k||l)):=λG pins s σ H Q I ⟨h1,h2,h3⟩=>by
 refine BoolOp_or (Ao (ha G pins s σ H (λv H1=>∃ G1,Ag G G1/\SA X.K G1 H1 O/\Is X.K G1 (.bl k) v) I ⟨h1,h2,λv G1 H1 e1 s1 i1=>⟨G1,e1,s1,i1⟩⟩) ?_)
 rintro v s1 ⟨x,H1,I1,r1,G1,e1,sa1,i1⟩
 cases i1
 cases r1
 refine wpAny_truthy_bool ?_
 cases k with
 | true=>exact ⟨.bl true,H1,I1,rfl,h3 _ G1 H1 e1 sa1 (.bl _)⟩
 | false=>exact hb rfl G1 pins s1 σ H1 Q I1 ⟨sa1,h2.ext e1,λw G2 H2 e2 s2 i2=>h3 w G2 H2 (e1.trans e2) s2 i2⟩
theorem Qc {k:Bool} (ha:Ac X ρ O a (.bl k)):Ac X ρ O (.UnaryOp .Not a pos) (.bl (!k)):=λG=>(UP (ha G)).imp λσ H Q ⟨h1,h2,h3⟩=>⟨h1,h2,λv G1 H1 e1 s1 i1=>by
 cases i1
 exact ⟨k,rfl,h3 _ G1 H1 e1 s1 (.bl _)⟩⟩
theorem Yo {op op':CmpOp} {k l:Bool} {dc:D} (ha:Ac X ρ O a da) (hb:Ac X ρ O b db) (hc:Ac X ρ O c dc) (ho:AX X O (compareOp op) da db (.bl k)) (ho':k=true->AX X O (compareOp op') db dc (.bl l))
  (hm:lastMarks [op,op'] [b,c]=false:=by with_unfolding_all rfl):Ac X ρ O (.Compare a [op,op'] [b,c] pos) (.bl (k&&l)):=λG pins s σ H Q I ⟨h1,h2,h3⟩=>by
 refine Compare_chain (Ao (ha G pins s σ H (λv H1=>∃ G1,Ag G G1/\SA X.K G1 H1 O/\Is X.K G1 da v) I ⟨h1,h2,λv G1 H1 e1 s1 i1=>⟨G1,e1,s1,i1⟩⟩) ?_) hm
 rintro v s1 ⟨x,H1,I1,r1,G1,e1,sa1,i1⟩
 refine chain_link (Ao (hb G1 pins s1 σ H1 (λv H2=>∃ G2,Ag G1 G2/\SA X.K G2 H2 O/\Is X.K G2 db v) I1 ⟨sa1,h2.ext e1,λv G2 H2 e2 s2 i2=>⟨G2,e2,s2,i2⟩⟩) ?_)
 rintro u s2 ⟨y,H2,I2,r2,G2,e2,sa2,i2⟩
 refine Ao (ho G2 pins s2 σ H2 x y v u (λw H3=>∃ G3,Ag G2 G3/\SA X.K G3 H3 O/\Is X.K G3 (.bl k) w) I2 r1 r2 ⟨sa2,i1.ext e2,i2,λw G3 H3 e3 s3 i3=>⟨G3,e3,s3,i3⟩⟩) ?_
 rintro w s3 ⟨z,H3,I3,r3,G3,e3,sa3,i3⟩
 cases i3
 cases r3
 refine wpAny_truthy_bool ?_
 cases k with
 | false=>exact ite_ff ⟨.bl false,H3,I3,rfl,h3 _ G3 H3 ((e1.trans e2).trans e3) sa3 (.bl _)⟩
 | true=>
  refine ite_tt (chain_last (Ao (hc G3 pins s3 σ H3 (λv H4=>∃ G4,Ag G3 G4/\SA X.K G4 H4 O/\Is X.K G4 dc v) I3 ⟨sa3,h2.ext ((e1.trans e2).trans e3),λv G4 H4 e4 s4 i4=>⟨G4,e4,s4,i4⟩⟩) ?_))
  rintro q s4 ⟨z',H4,I4,r4,G4,e4,sa4,i4⟩
  exact ho' rfl G4 pins s4 σ H4 y z' u q Q I4 r2 r4 ⟨sa4,i2.ext (e3.trans e4),i4,λw G5 H5 e5 s5 i5=>h3 w G5 H5 ((((e1.trans e2).trans e3).trans e4).trans e5) s5 i5⟩
theorem Qk {op op':CmpOp} {k l:Bool} {dc:D} (ha:Ac X ρ O a da) (hb:Ac X ρ O b db) (hc:Ac X ρ O c dc) (ho:AX X O (compareOp op) da db (.bl k)) (ho':k=true->AX X O (compareOp op') db dc (.bl l))
  (hm:lastMarks [op,op'] [b,c]=false:=by with_unfolding_all rfl):Ax X ρ O (.Compare a [op,op'] [b,c] pos) (k&&l):=λG pins s σ H Q I ⟨h1,h2,h3⟩=>by
 refine isTrue_chain (Ao (ha G pins s σ H (λv H1=>∃ G1,Ag G G1/\SA X.K G1 H1 O/\Is X.K G1 da v) I ⟨h1,h2,λv G1 H1 e1 s1 i1=>⟨G1,e1,s1,i1⟩⟩) ?_) hm
 rintro v s1 ⟨x,H1,I1,r1,G1,e1,sa1,i1⟩
 refine test_link (Ao (hb G1 pins s1 σ H1 (λv H2=>∃ G2,Ag G1 G2/\SA X.K G2 H2 O/\Is X.K G2 db v) I1 ⟨sa1,h2.ext e1,λv G2 H2 e2 s2 i2=>⟨G2,e2,s2,i2⟩⟩) ?_)
 rintro u s2 ⟨y,H2,I2,r2,G2,e2,sa2,i2⟩
 refine Ao (ho G2 pins s2 σ H2 x y v u (λw H3=>∃ G3,Ag G2 G3/\SA X.K G3 H3 O/\Is X.K G3 (.bl k) w) I2 r1 r2 ⟨sa2,i1.ext e2,i2,λw G3 H3 e3 s3 i3=>⟨G3,e3,s3,i3⟩⟩) ?_
 rintro w s3 ⟨z,H3,I3,r3,G3,e3,sa3,i3⟩
 cases i3
 cases r3
 refine wpAny_truthy_bool ?_
 cases k with
 | false=>exact ite_ff ⟨H3,I3,h3 G3 H3 ((e1.trans e2).trans e3) sa3⟩
 | true=>
  refine ite_tt (test_last (Ao (hc G3 pins s3 σ H3 (λv H4=>∃ G4,Ag G3 G4/\SA X.K G4 H4 O/\Is X.K G4 dc v) I3 ⟨sa3,h2.ext ((e1.trans e2).trans e3),λv G4 H4 e4 s4 i4=>⟨G4,e4,s4,i4⟩⟩) ?_))
  rintro q s4 ⟨z',H4,I4,r4,G4,e4,sa4,i4⟩
  refine Ao (ho' rfl G4 pins s4 σ H4 y z' u q (λw H5=>∃ G5,Ag G4 G5/\SA X.K G5 H5 O/\Is X.K G5 (.bl l) w) I4 r2 r4 ⟨sa4,i2.ext (e3.trans e4),i4,λw G5 H5 e5 s5 i5=>⟨G5,e5,s5,i5⟩⟩) ?_
  rintro q' s5 ⟨z2,H5,I5,r5,G5,e5,sa5,i5⟩
  cases i5
  cases r5
  exact wpAny_truthy_bool ⟨H5,I5,h3 G5 H5 ((((e1.trans e2).trans e3).trans e4).trans e5) sa5⟩
end
def LV (O:Ad) (d:D) (xs:List D):Prop:=d=.lst xs\/d=.scr xs\/∃ n,d=.ptr n/\O[n]?=some (some (.lst xs))
def LT (O:Ad) (d:D) (xs:List D):Prop:=LV O d xs\/d=.tup xs
theorem LV.sq {K:PySem.W.Frag} {G:Wd} {H:Hp} {O:Ad} {d:D} {xs:List D} {v:V} (h:LV O d xs) (s:SA K G H O) (i:Is K G d v):∃ a vs,v=.ref a/\A0 K H a vs/\Aj K G xs vs:=by
 rcases h with rfl | rfl | ⟨p,rfl,h⟩
 ·cases i with | lst h r=>exact ⟨_,_,rfl,A0.of (s.sub _ _ h),r⟩
 ·cases i with | scr h r=>exact ⟨_,_,rfl,s.sub.seq h,r⟩
 ·cases i with
  | ptr _ q=>
   obtain ⟨a,e,_,vs,h1,h2⟩:=s.mt p _ h
   obtain rfl:=Option.some.inj (q.symm.trans e)
   exact ⟨_,vs,rfl,A0.of h1,h2⟩
theorem Go {K:PySem.W.Frag} {G:Wd} {H:Hp} {O:Ad} {xs:List D} {v:V} (s:SA K G H O) (i:Is K G (.tup xs) v):∃ a vs,v=.ref a/\Bm K H a vs/\Aj K G xs vs:=by
 cases i with | tup h r=>exact ⟨_,_,rfl,CW s.sub h,r⟩
def BB (X:Cx) (ρ:Am) (O:Ad) (es:List Expr) (ds:List D):Prop:=
 ∀ G,PA X es (λσ H Q=>SA X.K G H O/\Ar X.K G σ ρ/\∀ vs G' H',Ag G G'->SA X.K G' H' O->Aj X.K G' ds vs->Q vs H')
section
variable {X:Cx} {ρ:Am} {O:Ad} {e a b c:Expr} {es:List Expr} {d da db:D} {ds:List D} {R:D->Ad->Prop} {pos p:Pos} {x:Str}
theorem Ae:BB X ρ O [] []:=λG=>PA.imp Ez λσ H Q ⟨h1,h2,h3⟩=>h3 _ G H (Ag.refl _) h1 .nil
theorem Ab (he:Ac X ρ O e d) (hs:BB X ρ O es ds) (hst:starEach (e::es) X.env=(false,eval e X.env)::starEach es X.env:=by rfl):BB X ρ O (e::es) (d::ds):=λG=>
 PA.imp (Dx (he G) (t:=λσ H Q=>∃ G1,SA X.K G1 H O/\Ar X.K G1 σ ρ/\∀ vs G' H',Ag G1 G'->SA X.K G' H' O->Aj X.K G' ds vs->Q vs H') (λpos pins s σ H Q I ⟨G1,q⟩=>hs G1 pos pins s σ H Q I q) hst)
  λσ H Q ⟨h1,h2,h3⟩=>⟨h1,h2,λv G1 H1 e1 s1 i1=>⟨G1,s1,h2.ext e1,λvs G2 H2 e2 s2 i2=>h3 _ G2 H2 (e1.trans e2) s2 (.cons (i1.ext e2) i2)⟩⟩
theorem He {R:List D->Ad->Prop} (he:Ev X ρ O e λd O1=>FA X ρ O1 es λds O2=>R (d::ds) O2) (hst:starEach (e::es) X.env=(false,eval e X.env)::starEach es X.env:=by rfl):FA X ρ O (e::es) R:=λG=>
 PA.imp (Dx (he G) (t:=λσ H Q=>∃ G1 d O1,SA X.K G1 H O1/\Ar X.K G1 σ ρ/\(FA X ρ O1 es λds O2=>R (d::ds) O2)/\∀ vs ds O2 G' H',Ag G1 G'->SA X.K G' H' O2->Aj X.K G' ds vs->R (d::ds) O2->Q vs H') (λpos pins s σ H Q I ⟨G1,d,O1,q1,q2,q3,q4⟩=>q3 G1 pos pins s σ H Q I ⟨q1,q2,q4⟩) hst)
  λσ H Q ⟨h1,h2,h3⟩=>⟨h1,h2,λv d O1 G1 H1 e1 s1 i1 r1=>⟨G1,d,O1,s1,h2.ext e1,r1,λvs ds O2 G2 H2 e2 s2 i2 r2=>h3 _ (d::ds) O2 G2 H2 (e1.trans e2) s2 (.cons (i1.ext e2) i2) r2⟩⟩
theorem BB.as {R:List D->Ad->Prop} (h:BB X ρ O es ds) (r:R ds O):FA X ρ O es R:=λG=>PA.imp (h G) λσ H Q ⟨h1,h2,h3⟩=>⟨h1,h2,λvs G' H' e1 s1 i1=>h3 vs ds O G' H' e1 s1 i1 r⟩
theorem Ha {x1:Nat} (h:BB X ρ O es ds) (hz:ds.length<=sizeLine:=by exact Nat.le_of_ble_eq_true rfl):Ac X ρ O (.Tuple es x1 pos) (.tup ds):=λG=>
 PE.imp (OO (h G)) λσ H Q ⟨h1,h2,h3⟩=>⟨h1,h2,λvs G1 H1 e1 s1 i1=>⟨by rw [<- i1.length]; exact hz,λp hp=>by
  obtain ⟨e2,s2⟩:=s1.laid (o:=.tup vs) hp
  exact h3 _ _ _ (e1.trans e2) s2 (.tup (Bm.of AJ) (i1.ext e2))⟩⟩
theorem BQ (h:BB X ρ O es ds) (hz:ds.length<=sizeLine:=by exact Nat.le_of_ble_eq_true rfl):Ac X ρ O (.List es pos) (.lst ds):=λG=>
 PE.imp (K7 (h G)) λσ H Q ⟨h1,h2,h3⟩=>⟨h1,h2,λvs G1 H1 e1 s1 i1=>⟨by rw [<- i1.length]; exact hz,λp hp=>by
  obtain ⟨e2,s2⟩:=s1.laid (o:=.lst vs) hp
  exact h3 _ _ _ (e1.trans e2) s2 (.lst AJ (i1.ext e2))⟩⟩
theorem Hc (h:BB X ρ O es ds) (k:R (.ptr O.length) (O++[some (.lst ds)])) (hz:ds.length<=sizeLine:=by exact Nat.le_of_ble_eq_true rfl):Ev X ρ O (.List es pos) R:=λG=>
 PE.imp (K7 (h G)) λσ H Q ⟨h1,h2,h3⟩=>⟨h1,h2,λvs G1 H1 e1 s1 i1=>⟨by rw [<- i1.length]; exact hz,λp hp=>by
  have e:Ag G1 ⟨G1.g,G1.l++[p]⟩:=⟨Bj.refl _,[p],rfl⟩
  obtain ⟨e2,s2⟩:=s1.new (m:=.lst ds) hp ⟨vs,AJ,i1.ext e⟩
  refine h3 _ _ _ _ _ (e1.trans e2) s2 (.ptr _ ?_) k
  rw [<- s1.len,List.getElem?_append_right (Nat.le_refl _),Nat.sub_self]; rfl⟩⟩
theorem Mm {xs:List D} {vs:List V} {K:PySem.W.Frag} {G:Wd} {i:Int} (r:Aj K G xs vs) (h:Bg xs i=some d):∃ v,Bg vs i=some v/\Is K G d v:=by
 unfold Bg at h ⊢
 rw [<- r.length]
 cases q:Fh xs.length i with
 | none=>rw [q] at h; cases h
 | some j=>
  rw [q] at h
  exact r.get h
theorem Az {xs:List D} {i:Int} (ha:Ac X ρ O a da) (hl:LV O da xs) (hb:Ac X ρ O b (.int i)) (hi:Bg xs i=some d) (hs:M5 b:=by intro _ _; rfl):Ac X ρ O (.Subscript a b pos) d:=λG pins s σ H Q I ⟨h1,h2,h3⟩=>
 Subscript_ (Ge (ta:=λσ H Q=>SA X.K G H O/\Ar X.K G σ ρ/\∀ v G' H',Ag G G'->SA X.K G' H' O->Is X.K G' da v->Q v H') (ha G)
  (tb:=λσ H Q=>∃ G1,SA X.K G1 H O/\Ar X.K G1 σ ρ/\∀ v G' H',Ag G1 G'->SA X.K G' H' O->Is X.K G' (.int i) v->Q v H') (λpins s σ H Q I ⟨G1,q⟩=>hb G1 pins s σ H Q I q) I
  (R:=λx y H2=>∃ G2,Ag G G2/\SA X.K G2 H2 O/\Is X.K G2 da x/\Is X.K G2 (.int i) y)
  ⟨h1,h2,λv G1 H1 e1 s1 i1=>⟨G1,s1,h2.ext e1,λu G2 H2 e2 s2 i2=>⟨G2,e1.trans e2,s2,i1.ext e2,i2⟩⟩⟩
  λv u s2 x y H2 I2 rx ry ⟨G2,e2,s2',i1,i2⟩=>by
   obtain ⟨p,vs,rfl,q,r⟩:=hl.sq s2' i1
   cases i2
   obtain ⟨w,hw,iw⟩:=Mm r hi
   exact Pq a b pins s2 σ H2 _ _ v u Q I2 rx ry ⟨p,vs,i,w,rfl,rfl,q,hw,h3 w G2 H2 e2 s2' iw⟩ (hs _ _))
theorem Cw {xs:List D} {i:Int} (ha:Ac X ρ O a (.tup xs)) (hb:Ac X ρ O b (.int i)) (hi:Bg xs i=some d) (hs:M5 b:=by intro _ _; rfl):Ac X ρ O (.Subscript a b pos) d:=λG pins s σ H Q I ⟨h1,h2,h3⟩=>
 Subscript_ (Ge (ta:=λσ H Q=>SA X.K G H O/\Ar X.K G σ ρ/\∀ v G' H',Ag G G'->SA X.K G' H' O->Is X.K G' (.tup xs) v->Q v H') (ha G)
  (tb:=λσ H Q=>∃ G1,SA X.K G1 H O/\Ar X.K G1 σ ρ/\∀ v G' H',Ag G1 G'->SA X.K G' H' O->Is X.K G' (.int i) v->Q v H') (λpins s σ H Q I ⟨G1,q⟩=>hb G1 pins s σ H Q I q) I
  (R:=λx y H2=>∃ G2,Ag G G2/\SA X.K G2 H2 O/\Is X.K G2 (.tup xs) x/\Is X.K G2 (.int i) y)
  ⟨h1,h2,λv G1 H1 e1 s1 i1=>⟨G1,s1,h2.ext e1,λu G2 H2 e2 s2 i2=>⟨G2,e1.trans e2,s2,i1.ext e2,i2⟩⟩⟩
  λv u s2 x y H2 I2 rx ry ⟨G2,e2,s2',i1,i2⟩=>by
   obtain ⟨p,vs,rfl,q,r⟩:=Go s2' i1
   cases i2
   obtain ⟨w,hw,iw⟩:=Mm r hi
   exact WV a b pins s2 σ H2 _ _ v u Q I2 rx ry ⟨p,vs,i,w,rfl,rfl,q,hw,h3 w G2 H2 e2 s2' iw⟩ (hs _ _))
def GC (xs:List D) (lo hi:Option Int):List D:=(xs.drop (HT.sIx xs.length 0 lo)).take (HT.sIx xs.length xs.length hi-HT.sIx xs.length 0 lo)
theorem YV {xs:List D} {vs:List V} {K:PySem.W.Frag} {G:Wd} {lo hi:Option Int} (r:Aj K G xs vs):Aj K G (GC xs lo hi) (Fm vs lo hi):=by
 unfold GC Fm
 rw [<- r.length]
 exact (r.drop _).take _
def Dp (X:Cx) (ρ:Am) (O:Ad) (e:Option Expr) (i:Option Int):Prop:=
 ∀ G,PO X e (λσ H Q=>SA X.K G H O/\Ar X.K G σ ρ/\∀ G' H',Ag G G'->SA X.K G' H' O->Q i H')
theorem _root_.L2.PO.imp {X:Cx} {e:Option Expr} {t u:TO} (h:PO X e t) (k:∀ σ H Q,u σ H Q->t σ H Q):PO X e u:=λpins s σ H Q I q=>h pins s σ H Q I (k _ _ _ q)
theorem Ek:Dp X ρ O none none:=λG=>PO.imp UB λσ H Q ⟨h1,h2,h3⟩=>h3 G H (Ag.refl _) h1
theorem Cz {i:Int} (h:Ac X ρ O e (.int i)):Dp X ρ O (some e) (some i):=λG=>PO.imp (UA (h G)) λσ H Q ⟨h1,h2,h3⟩=>⟨h1,h2,λv G1 H1 e1 s1 i1=>by cases i1; exact ⟨i,rfl,h3 G1 H1 e1 s1⟩⟩
theorem Yb {xs:List D} {lo hi:Option Expr} {l u:Option Int} {p2:Pos} (ha:Ac X ρ O a da) (hx:LV O da xs) (hl:Dp X ρ O lo l) (hh:Dp X ρ O hi u):Ac X ρ O (.Subscript a (.Slice lo hi none p2) pos) (.lst (GC xs l u)):=λG=>
 PE.imp (UN Td (ha G) (tl:=λσ H Q=>∃ G1,SA X.K G1 H O/\Ar X.K G1 σ ρ/\∀ G' H',Ag G1 G'->SA X.K G' H' O->Q l H') (λpins s σ H Q I ⟨G1,q⟩=>hl G1 pins s σ H Q I q)
  (th:=λσ H Q=>∃ G1,SA X.K G1 H O/\Ar X.K G1 σ ρ/\∀ G' H',Ag G1 G'->SA X.K G' H' O->Q u H') (λpins s σ H Q I ⟨G1,q⟩=>hh G1 pins s σ H Q I q)) λσ H Q ⟨h1,h2,h3⟩=>
  ⟨h1,h2,λv G1 H1 e1 s1 i1=>⟨G1,s1,h2.ext e1,λG2 H2 e2 s2=>⟨G2,s2,(h2.ext e1).ext e2,λG3 H3 e3 s3=>by
   obtain ⟨q,vs,rfl,q1,r⟩:=hx.sq s3 (i1.ext (e2.trans e3))
   refine ⟨q,vs,rfl,q1,λz hz=>?_⟩
   obtain ⟨e4,s4⟩:=s3.laid (o:=.lst (Fm vs l u)) hz
   exact h3 _ _ _ (((e1.trans e2).trans e3).trans e4) s4 (.lst AJ ((YV r).ext e4))⟩⟩⟩
theorem Dz {xs ys:List D} (hz:xs.length+ys.length<=sizeLine):AX X O (binaryOp .Add) (.lst xs) (.lst ys) (.lst (xs++ys)):=
 .of OU λG v u H Q s h1 h2 k=>by
  cases h1 with
  | lst g1 r1=>
   cases h2 with
   | lst g2 r2=>
    refine ⟨_,_,_,_,rfl,rfl,s.sub _ _ g1,s.sub _ _ g2,by rw [<- r1.length,<- r2.length]; exact hz,λp hp=>?_⟩
    obtain ⟨e4,s4⟩:=s.laid (o:=.lst _) hp
    exact k _ _ _ e4 s4 (.lst AJ ((r1.append r2).ext e4))
def BY (X:Cx) (O:Ad) (f:Value) (ds:List D) (d:D):Prop:=
 ∀ G,D7 X f (λvs H Q=>SA X.K G H O/\Aj X.K G ds vs/\∀ w G' H',Ag G G'->SA X.K G' H' O->Is X.K G' d w->Q w H')
theorem BY.of {f:Value} {r:List V->Hp->VK->Prop} (ho:D7 X f r)
  (k:∀ G vs H Q,SA X.K G H O->Aj X.K G ds vs->(∀ w G' H',Ag G G'->SA X.K G' H' O->Is X.K G' d w->Q w H')->r vs H Q):BY X O f ds d:=
 λG pins s σ H xs us Q I r ⟨h1,h2,h3⟩=>ho pins s σ H xs us Q I r (k G _ _ _ h1 h2 h3)
theorem AQ {id:String} (hm:X.mg x=none) (ha:BB X ρ O (e::es) ds) (hc:BY X O (.builtin id) ds d) (hg:Gl X x:=by rfl) (hv:bootBuiltins x=some (.builtin id):=by first | rfl | decide +kernel) (hn:x ≠ "__name__" := by decide) (hdb:(x==("__debug__" : Str))=false:=by decide)
  (he:starEach (e::es) X.env=(false,eval e X.env)::starEach es X.env:=by rfl) (hpl:(backTo pos (starEach es X.env)).any (·.1)=false:=by rfl):Ac X ρ O (.Call (.Name x p) (e::es) [] pos) d:=λG=>
 PE.imp (OP (r:=λvs H Q=>∃ G1,SA X.K G1 H O/\Aj X.K G1 ds vs/\∀ w G' H',Ag G1 G'->SA X.K G' H' O->Is X.K G' d w->Q w H') (λpins s σ H xs us Q I r ⟨G1,q⟩=>hc G1 pins s σ H xs us Q I r q) hg hm hv (ha G) hn hdb he hpl)
  λσ H Q ⟨h1,h2,h3⟩=>⟨h1,h2,λvs G1 H1 e1 s1 i1=>⟨G1,s1,i1,λw G2 H2 e2 s2 i2=>h3 w G2 H2 (e1.trans e2) s2 i2⟩⟩
theorem Cf {T:String} (hm:X.mg x=none) (ha:BB X ρ O (e::es) ds) (hc:BY X O (.type T) ds d) (hg:Gl X x:=by rfl) (hv:bootBuiltins x=some (.type T):=by first | rfl | decide +kernel) (hn:x ≠ "__name__" := by decide) (hdb:(x==("__debug__" : Str))=false:=by decide)
  (he:starEach (e::es) X.env=(false,eval e X.env)::starEach es X.env:=by rfl) (hpl:(backTo pos (starEach es X.env)).any (·.1)=false:=by rfl):Ac X ρ O (.Call (.Name x p) (e::es) [] pos) d:=λG=>
 PE.imp (K9 (r:=λvs H Q=>∃ G1,SA X.K G1 H O/\Aj X.K G1 ds vs/\∀ w G' H',Ag G1 G'->SA X.K G' H' O->Is X.K G' d w->Q w H') (λpins s σ H xs us Q I r ⟨G1,q⟩=>hc G1 pins s σ H xs us Q I r q) hg hm hv (ha G) hn hdb he hpl)
  λσ H Q ⟨h1,h2,h3⟩=>⟨h1,h2,λvs G1 H1 e1 s1 i1=>⟨G1,s1,i1,λw G2 H2 e2 s2 i2=>h3 w G2 H2 (e1.trans e2) s2 i2⟩⟩
theorem BH {xs:List D} (h:LT O d xs):BY X O (.builtin "len") [d] (.int xs.length):=.of Zn λG vs H Q s i k=>by
 cases i with
 | cons i r=>
  cases r
  rcases h with h | rfl
  ·obtain ⟨p,vs,rfl,q,r⟩:=h.sq s i
   exact ⟨p,vs,rfl,.inl q,by rw [<- r.length]; exact k _ G H (Ag.refl _) s (.int _)⟩
  ·obtain ⟨p,vs,rfl,q,r⟩:=Go s i
   exact ⟨p,vs,rfl,.inr q,by rw [<- r.length]; exact k _ G H (Ag.refl _) s (.int _)⟩
theorem QG {xs:List D} (h:LT O d xs):BY X O (.type "tuple") [d] (.tup xs):=.of Zi λG vs H Q s i k=>by
 cases i with
 | cons i r=>
  cases r
  rcases h with h | rfl
  ·obtain ⟨p,vs,rfl,q,r⟩:=h.sq s i
   refine ⟨p,vs,rfl,.inl ⟨q,λl hl=>?_⟩⟩
   obtain ⟨e4,s4⟩:=s.laid (o:=.tup vs) hl
   exact k _ _ _ e4 s4 (.tup (Bm.of AJ) (r.ext e4))
  ·obtain ⟨p,vs,rfl,q,r⟩:=Go s i
   exact ⟨p,vs,rfl,.inr ⟨q,k _ G H (Ag.refl _) s i⟩⟩
theorem Zr {xs:List D} (h:LT O d xs):BY X O (.type "list") [d] (.lst xs):=.of Zl λG vs H Q s i k=>by
 cases i with
 | cons i r=>
  cases r
  rcases h with h | rfl
  ·obtain ⟨p,vs,rfl,q,r⟩:=h.sq s i
   refine ⟨p,vs,rfl,.inl q,λl hl=>?_⟩
   obtain ⟨e4,s4⟩:=s.laid (o:=.lst vs) hl
   exact k _ _ _ e4 s4 (.lst AJ (r.ext e4))
  ·obtain ⟨p,vs,rfl,q,r⟩:=Go s i
   refine ⟨p,vs,rfl,.inr q,λl hl=>?_⟩
   obtain ⟨e4,s4⟩:=s.laid (o:=.lst vs) hl
   exact k _ _ _ e4 s4 (.lst AJ (r.ext e4))
theorem QI {i:Int}:BY X O (.builtin "abs") [.int i] (.int (if i<0 then -i else i)):=.of Zq λG vs H Q s h k=>by
 cases h with | cons h r=>cases r; cases h; exact ⟨i,rfl,k _ G H (Ag.refl _) s (.int _)⟩
theorem MN {b:Bool}:BY X O (.type "int") [.bl b] (.int (if b then 1 else 0)):=.of Zo λG vs H Q s h k=>by
 cases h with | cons h r=>cases r; cases h; exact .inr ⟨b,rfl,k _ G H (Ag.refl _) s (.int _)⟩
abbrev A7:=List D->Ad->(D->Ad->Prop)->Prop
def Cc (K:PySem.W.Frag) (sp:A7):Sp:=λvs H Q _=>∃ G O ds R,SA K G H O/\Aj K G ds vs/\sp ds O R/\∀ v d O' G' H',Ag G G'->SA K G' H' O'->Is K G' d v->R d O'->Q v H'
structure AE (P:Program) (w:World) (K:PySem.W.Frag) (mg:Str->Option Value) (base:Heap) (k:Nat) (x:Str) (sp:A7):Prop where
 ex:∃ f fd ps,AI P w K mg base BM k f fd ps (Cc K sp)/\mg x=some (.ref f)/\PySem.W.keepIn K (.ref f)=true/\Binds K fd ps []
theorem Yp {k:Nat} {sp:A7} (F:AE X.prog X.w X.K X.mg X.base k x sp) (hr:AR k X.A) (ha:FA X ρ O (e::es) λds O1=>sp ds O1 R) (hg:Gl X x:=by rfl) (hdb:(x==("__debug__" : Str))=false:=by decide)
  (he:starEach (e::es) X.env=(false,eval e X.env)::starEach es X.env:=by rfl) (hpl:(backTo pos (starEach es X.env)).any (·.1)=false:=by rfl):Ev X ρ O (.Call (.Name x p) (e::es) [] pos) R:=λG=>by
 obtain ⟨f,fd,ps,h1,h2,h3,h4⟩:=F.ex
 refine PE.imp (U1 h1 hr hg h2 h3 h4 .nil HZ (ha G) hdb he hpl) λσ H Q ⟨q1,q2,q3⟩=>⟨q1,q2,λvs ds O1 G1 H1 e1 s1 i1 r1=>?_⟩
 show Cc X.K sp (vs++[]) H1 Q E0
 rw [List.append_nil]
 exact ⟨G1,O1,ds,R,s1,i1,r1,λv d O' G' H' e2 s2 i2 r2=>q3 v d O' G' H' (e1.trans e2) s2 i2 r2⟩
theorem Cq {k:Nat} {sp:A7} (F:AE X.prog X.w X.K X.mg X.base k x sp) (hr:AR k X.A) (ha:BB X ρ O (e::es) ds) (hs:sp ds O R) (hg:Gl X x:=by rfl) (hdb:(x==("__debug__" : Str))=false:=by decide)
  (he:starEach (e::es) X.env=(false,eval e X.env)::starEach es X.env:=by rfl) (hpl:(backTo pos (starEach es X.env)).any (·.1)=false:=by rfl):Ev X ρ O (.Call (.Name x p) (e::es) [] pos) R:=
 Yp F hr (ha.as hs) hg hdb he hpl
def Bq (f:List D->D->Prop):A7:=λds O R=>∃ d,f ds d/\R d O
theorem Bc {k:Nat} {f:List D->D->Prop} (F:AE X.prog X.w X.K X.mg X.base k x (Bq f)) (hr:AR k X.A) (ha:BB X ρ O (e::es) ds) (hs:f ds d) (hg:Gl X x:=by rfl) (hdb:(x==("__debug__" : Str))=false:=by decide)
  (he:starEach (e::es) X.env=(false,eval e X.env)::starEach es X.env:=by rfl) (hpl:(backTo pos (starEach es X.env)).any (·.1)=false:=by rfl):Ac X ρ O (.Call (.Name x p) (e::es) [] pos) d:=
 (Cq F hr ha ⟨d,hs,rfl,rfl⟩ hg hdb he hpl).evp
end
structure A2 where
 nx:Am->Ad->Prop
 rt:D->Ad->Prop
 bk:Am->Ad->Prop:=λ_ _=>False
 ct:Am->Ad->Prop:=λ_ _=>False
def Gj (K:PySem.W.Frag) (G:Wd) (N:Am->Ad->Prop) (n:L2.St->Hp->Prop):Prop:=∀ σ ρ O G' H,Ag G G'->SA K G' H O->Ar K G' σ ρ->N ρ O->n σ H
structure Cs (K:PySem.W.Frag) (G:Wd) (P:A2) (E:EO):Prop where
 nx:Gj K G P.nx E.nx
 rt:∀ v d O G' H,Ag G G'->SA K G' H O->Is K G' d v->P.rt d O->E.rt v H
 bk:Gj K G P.bk E.bk
 ct:Gj K G P.ct E.ct
theorem Gj.ext {K:PySem.W.Frag} {G G':Wd} {N:Am->Ad->Prop} {n:L2.St->Hp->Prop} (h:Gj K G N n) (e:Ag G G'):Gj K G' N n:=λσ ρ O G2 H e2=>h σ ρ O G2 H (e.trans e2)
theorem Cs.ext {K:PySem.W.Frag} {G G':Wd} {P:A2} {E:EO} (h:Cs K G P E) (e:Ag G G'):Cs K G' P E:=⟨h.nx.ext e,λv d O G2 H e2=>h.rt v d O G2 H (e.trans e2),h.bk.ext e,h.ct.ext e⟩
def Ex (X:Cx) (ρ:Am) (O:Ad) (st:Stmt) (P:A2):Prop:=∀ G,PS X st (λE σ H=>SA X.K G H O/\Ar X.K G σ ρ/\Cs X.K G P E)
def Exs (X:Cx) (ρ:Am) (O:Ad) (st:List Stmt) (P:A2):Prop:=∀ G,PSs X st (λE σ H=>SA X.K G H O/\Ar X.K G σ ρ/\Cs X.K G P E)
section
variable {X:Cx} {ρ:Am} {O:Ad} {e a b c:Expr} {es:List Expr} {d da db:D} {ds:List D} {R:D->Ad->Prop} {pos p:Pos} {x:Str} {st:Stmt} {AK body orelse:List Stmt} {P:A2}
theorem Ay (h:P.nx ρ O):Exs X ρ O [] P:=λG=>PSs.imp KZ λE σ H ⟨h1,h2,h3⟩=>h3.nx σ ρ O G H (Ag.refl _) h1 h2 h
theorem Ah (h:Ex X ρ O st { P with nx:=λρ' O'=>Exs X ρ' O' AK P }):Exs X ρ O (st::AK) P:=λG=>
 PSs.imp (K0 (h G) (u:=λE σ H=>∃ G1 ρ1 O1,SA X.K G1 H O1/\Ar X.K G1 σ ρ1/\Exs X ρ1 O1 AK P/\Cs X.K G1 P E) (λpins s σ H E I ⟨G1,ρ1,O1,q1,q2,q3,q4⟩=>q3 G1 pins s σ H E I ⟨q1,q2,q4⟩)) λE σ H ⟨h1,h2,h3⟩=>
  ⟨h1,h2,⟨λσ1 ρ1 O1 G1 H1 e1 s1 n1 q1=>⟨G1,ρ1,O1,s1,n1,q1,h3.ext e1⟩,h3.rt,h3.bk,h3.ct⟩⟩
theorem Jw (M:Am->Ad->Prop) (h:Ex X ρ O st { P with nx:=M }) (k:∀ ρ' O',M ρ' O'->Exs X ρ' O' AK P):Exs X ρ O (st::AK) P:=Ah λG=>
 PS.imp (h G) λE σ H ⟨h1,h2,h3⟩=>⟨h1,h2,⟨λσ1 ρ1 O1 G1 H1 e1 s1 n1 q1=>h3.nx σ1 ρ1 O1 G1 H1 e1 s1 n1 (k _ _ q1),h3.rt,h3.bk,h3.ct⟩⟩
theorem AF (h:Ev X ρ O e P.rt):Ex X ρ O (.Return (some e) pos) P:=λG=>PS.imp (OC (h G)) λE σ H ⟨h1,h2,h3⟩=>⟨h1,h2,λv d O' G' H' e1 s1 i1 r1=>h3.rt v d O' G' H' e1 s1 i1 r1⟩
theorem Jx (h:Ev X ρ O e λ_ O'=>P.nx ρ O') (hs:swapsWith e none pos.line X.env=pure false:=by rfl):Ex X ρ O (.Expr e pos) P:=λG=>PS.imp (FT (h G) hs) λE σ H ⟨h1,h2,h3⟩=>
 ⟨h1,h2,λv d O' G' H' e1 s1 i1 r1=>h3.nx σ ρ O' G' H' e1 s1 (h2.ext e1) r1⟩
theorem AZ {k:Bool} (hc:Ax X ρ O c k) (h1:k=true->Exs X ρ O body P) (h2:k=false->Exs X ρ O orelse P):Ex X ρ O (.If c body orelse pos) P:=λG=>
 PS.imp (K1 (hc G) (t:=λE σ H=>∃ G1,k=true/\SA X.K G1 H O/\Ar X.K G1 σ ρ/\Cs X.K G1 P E) (λpins s σ H E I ⟨G1,z,q⟩=>h1 z G1 pins s σ H E I q)
  (u:=λE σ H=>∃ G1,k=false/\SA X.K G1 H O/\Ar X.K G1 σ ρ/\Cs X.K G1 P E) (λpins s σ H E I ⟨G1,z,q⟩=>h2 z G1 pins s σ H E I q)) λE σ H ⟨q1,q2,q3⟩=>
  ⟨q1,q2,λG' H' e1 s1=>by
   cases k with
   | true=>exact Mn ⟨G',rfl,s1,q2.ext e1,q3.ext e1⟩
   | false=>exact Mo ⟨G',rfl,s1,q2.ext e1,q3.ext e1⟩⟩
def Tg (X:Cx) (tg:Expr) (d:D) (ρ ρ':Am):Prop:=∀ G,PG X tg (λv σ H Q=>Is X.K G d v/\Bj G.g H/\Ar X.K G σ ρ/\∀ σ',Ar X.K G σ' ρ'->Q σ' H)
def Jf (X:Cx) (tg:List Expr) (ds:List D) (ρ ρ':Am):Prop:=∀ G,Hm X tg (λvs σ H Q=>Aj X.K G ds vs/\Bj G.g H/\Ar X.K G σ ρ/\∀ σ',Ar X.K G σ' ρ'->Q σ' H)
theorem Bv (i:Nat) (hN:X.N.Nodup) (hi:X.N[i]?=some x:=by rfl) (hx:Fz X.env.scope x:=by first | exact Or.inl rfl | exact Or.inr rfl) (hf:X.fn x=true\/X.env.scope.names.lookup x=some .local:=by first | exact .inl rfl | exact .inr rfl | assumption):Tg X (.Name x pos) d ρ (ρ.set i (some d)):=λG pins s σ H v u Q I r ⟨h1,h2,h3,h4⟩=>
 UK hN hi hx hf pins s σ H v u Q I r (h4 _ (h3.set i h1))
theorem Gp:Jf X [] [] ρ ρ:=λG pins s σ H vs us Q I r ⟨h1,h2,h3,h4⟩=>UH pins s σ H vs us Q I r ⟨by cases h1; rfl,h4 _ h3⟩
theorem Dt {ρ1 ρ2:Am} (h:Tg X e d ρ ρ1) (k:Jf X es ds ρ1 ρ2) (hs:(assignEach (e::es) X.env).map (·.2)=assign e X.env::(assignEach es X.env).map (·.2):=by rfl):Jf X (e::es) (d::ds) ρ ρ2:=λG pins s σ H vs us Q I r ⟨h1,h2,h3,h4⟩=>by
 cases h1 with
 | cons i1 i2=>
  exact UI (h G) (k G) hs pins s σ H _ us Q I r ⟨_,_,rfl,i1,h2,h3,λσ' n'=>⟨i2,h2,n',h4⟩⟩
theorem Gq {ρ1:Am} {k:Nat} (h:Jf X es ds ρ ρ1) (hc:X.calm=true:=by rfl) (hn:(assignEach es X.env).length=ds.length:=by rfl) (hst:(assignEach es X.env).findIdx? (·.1)=none:=by rfl):Tg X (.Tuple es k pos) (.tup ds) ρ ρ1:=λG pins s σ H v u Q I r ⟨h1,h2,h3,h4⟩=>by
 cases h1 with
 | tup q1 q2=>
  exact UJ hc (h G) hn hst pins s σ H _ u Q I r ⟨_,_,rfl,CW h2 q1,by rw [<- q2.length],q2,h2,h3,h4⟩
theorem AA (i:Nat) (he:Ev X ρ O e λd O'=>P.nx (ρ.set i (some d)) O') (hN:X.N.Nodup) (hi:X.N[i]?=some x:=by rfl) (hx:Fz X.env.scope x:=by first | exact Or.inl rfl | exact Or.inr rfl) {p:Pos}
  (hs:swapsWith e (some (.Name x p)) pos.line X.env=pure false:=by rfl) (hf:X.fn x=true\/X.env.scope.names.lookup x=some .local:=by first | exact .inl rfl | exact .inr rfl | assumption):Ex X ρ O (.Assign [.Name x p] e pos) P:=λG=>
 PS.imp (OB hN hi hx (he G) hs hf) λE σ H ⟨h1,h2,h3⟩=>⟨h1,h2,λv d O' G' H' e1 s1 i1 r1=>h3.nx _ _ O' G' H' e1 s1 ((h2.ext e1).set i i1) r1⟩
theorem FG {q:Nat} {xs:List D} {apos cpos:Pos} (ho:Ac X ρ O a (.ptr q)) (hq:O[q]?=some (some (.lst xs))) (he:Ac X ρ O e d) (hz:xs.length<sizeLine) (h:P.nx ρ (O.set q (some (.lst (xs++[d])))))
  (hbase:attributeBase a ("append" : Str) X.env (eval a X.env)=eval a X.env:=by rfl) (hline:(apos.endLine==cpos.line)=true:=by rfl) (hst:starEach [e] X.env=[(false,eval e X.env)]:=by rfl)
  (hsw:swapsWith (.Call (.Attribute a ("append" : Str) apos) [e] [] cpos) none pos.line X.env=pure false:=by rfl):Ex X ρ O (.Expr (.Call (.Attribute a ("append" : Str) apos) [e] [] cpos) pos) P:=λG=>
 PS.imp (FT (FV PySem.F.plainAttrs_list PySem.F.slot_list_append PySem.F.type_list_append Pd (ho G)
  (Dx (te:=λσ H Q=>∃ G1,SA X.K G1 H O/\Ar X.K G1 σ ρ/\∀ v G' H',Ag G1 G'->SA X.K G' H' O->Is X.K G' d v->Q v H') (λpins s σ H Q I ⟨G1,q⟩=>he G1 pins s σ H Q I q) Ez hst) hbase
  (by rw [hst]; rfl) hline hst (by rfl)) hsw) λE σ H ⟨q1,q2,q3⟩=>⟨q1,q2,λv G1 H1 e1 s1 i1=>by
   cases i1 with
   | ptr _ ha=>
   obtain ⟨a1,g0,g1,vs,g2,g3⟩:=s1.mt q _ hq
   obtain rfl:=Option.some.inj (ha.symm.trans g0)
   refine ⟨.inl ⟨rfl,vs,A0.of g2⟩,G1,s1,q2.ext e1,λw G2 H2 e2 s2 i2=>?_⟩
   obtain ⟨a2,g7,g4,us,g5,g6⟩:=s2.mt q _ hq
   obtain rfl:=Option.some.inj ((e2.at g0).symm.trans g7)
   refine ⟨_,us,w,rfl,rfl,g5,by rw [<- g6.length]; exact hz,?_⟩
   exact q3.nx σ ρ _ G2 _ (e1.trans e2) (s2.put (m':=.lst (xs++[d])) hq g7 ⟨_,AJ,g6.append (.cons i2 .nil)⟩) (q2.ext (e1.trans e2)) h⟩
structure C6 (K:PySem.W.Frag) (G:Wd) (J:It) (xs:List D):Prop where
 go:∀ i H,Bj G.g H->i<xs.length->J.go i H
 stop:∀ i H,Bj G.g H->xs.length<=i->J.stop i H
 yld:∀ i v H H' G2 O2,Ag G G2->SA K G2 H O2->J.yld i H v H'->i<xs.length->∃ x G3,xs[i]?=some x/\Ag G2 G3/\SA K G3 H' O2/\Is K G3 x v
def Cn (X:Cx) (ρ:Am) (O:Ad) (tg iter:Expr) (xs:List D):Prop:=
 ∀ G,PI X tg iter (λσ H R=>SA X.K G H O/\Ar X.K G σ ρ/\∀ J G' H',Ag G G'->SA X.K G' H' O->C6 X.K G' J xs->R J H')
theorem _root_.L2.PI.imp {X:Cx} {tg iter:Expr} {t u:TI} (h:PI X tg iter t) (k:∀ σ H R,u σ H R->t σ H R):PI X tg iter u:=λpins s σ H R I q=>h pins s σ H R I (k _ _ _ q)
theorem Pr {K:PySem.W.Frag} {G:Wd} {q:Addr} {vs:List V} {xs:List D} (h1:A0 K G.g q vs) (r:Aj K G xs vs):C6 K G (Ng K q) xs where
 go:=λi H e hi=>by
  obtain ⟨v,hv,_⟩:=r.get (i:=i) (d:=xs[i]) (by simp [hi])
  exact ⟨vs,v,e.seq h1,hv⟩
 stop:=λi H e hi=>⟨vs,e.seq h1,by rw [<- r.length]; exact hi⟩
 yld:=λi v H H' G2 O2 e s y hi=>by
  obtain ⟨rfl,y⟩:=y
  obtain ⟨x,hx,ix⟩:=r.getV (y vs ((e.g.trans s.sub).seq h1))
  exact ⟨x,G2,hx,Ag.refl _,s,ix.ext e⟩
theorem WY {K:PySem.W.Frag} {G:Wd} {q:Addr} {vs:List V} {xs:List D} (h1:Bm K G.g q vs) (r:Aj K G xs vs):C6 K G (Nd K q) xs where
 go:=λi H e hi=>by
  obtain ⟨v,hv,_⟩:=r.get (i:=i) (d:=xs[i]) (by simp [hi])
  exact ⟨vs,v,CW e h1,hv⟩
 stop:=λi H e hi=>⟨vs,CW e h1,by rw [<- r.length]; exact hi⟩
 yld:=λi v H H' G2 O2 e s y hi=>by
  obtain ⟨rfl,y⟩:=y
  obtain ⟨x,hx,ix⟩:=r.getV (y vs (CW (e.g.trans s.sub) h1))
  exact ⟨x,G2,hx,Ag.refl _,s,ix.ext e⟩
theorem Yz {tg:Expr} {xs:List D} (h:Ac X ρ O e (.lst xs)):Cn X ρ O tg e xs:=λG=>PI.imp (ON (h G)) λσ H R ⟨h1,h2,h3⟩=>⟨h1,h2,λv G1 H1 e1 s1 i1=>by
 cases i1 with
 | lst q r=>exact ⟨_,rfl,⟨_,A0.of (s1.sub _ _ q)⟩,h3 _ G1 H1 e1 s1 (Pr (A0.of q) r)⟩⟩
theorem Yy {tg:Expr} {xs:List D} (h:Ac X ρ O e (.scr xs)):Cn X ρ O tg e xs:=λG=>PI.imp (ON (h G)) λσ H R ⟨h1,h2,h3⟩=>⟨h1,h2,λv G1 H1 e1 s1 i1=>by
 cases i1 with
 | scr q r=>exact ⟨_,rfl,⟨_,s1.sub.seq q⟩,h3 _ G1 H1 e1 s1 (Pr q r)⟩⟩
theorem Yx {tg:Expr} {xs:List D} (h:Ac X ρ O e (.tup xs)):Cn X ρ O tg e xs:=λG=>PI.imp (UF (h G)) λσ H R ⟨h1,h2,h3⟩=>⟨h1,h2,λv G1 H1 e1 s1 i1=>by
 cases i1 with
 | tup q r=>exact ⟨_,rfl,⟨_,CW s1.sub q⟩,h3 _ G1 H1 e1 s1 (WY q r)⟩⟩
def Eb (lo:Int) (n:Nat):List D:=(List.range n).map λi=>.int (lo+(i:Nat))
theorem Ea {lo:Int} {n:Nat}:(Eb lo n).length=n:=by simp [Eb]
theorem Oy {lo:Int} {n i:Nat} (h:i<n):(Eb lo n)[i]?=some (.int (lo+(i:Nat))):=by simp [Eb,h]
theorem GP {lo:Int} {n i:Nat} {x:D} (h:(Eb lo n)[i]?=some x):i<n/\x=.int (lo+(i:Nat)):=by
 have hi:i<n:=by
  have:=(List.getElem?_eq_some_iff.mp h).1
  rw [Ea] at this
  exact this
 rw [Oy hi] at h
 exact ⟨hi,(Option.some.inj h).symm⟩
theorem W0 {K:PySem.W.Frag} {G:Wd} {lo:Int} {n:Nat}:C6 K G (Jo lo n) (Eb lo n) where
 go:=λi H _ hi=>by rw [Ea] at hi; exact hi
 stop:=λi H _ hi=>by rw [Ea] at hi; exact hi
 yld:=λi v H H' G2 O2 e s y hi=>by
  obtain ⟨rfl,rfl⟩:=y
  rw [Ea] at hi
  exact ⟨_,G2,Oy hi,Ag.refl _,s,.int _⟩
theorem F8 {tg:Expr} {n:Int} (h:Ac X ρ O e (.int n)) (hm:X.mg "range" = none) (h1:-(2 ^ 62)<=n) (h2:n<2 ^ 62) (hg:Gl X "range" := by rfl) (hs:starEach [e] X.env=[(false,eval e X.env)]:=by rfl):Cn X ρ O tg (.Call (.Name "range" p) [e] [] pos) (Eb 0 n.toNat):=λG=>
 PI.imp (UG hg hm (Ab h Ae hs G) hs) λσ H R ⟨q1,q2,q3⟩=>⟨q1,q2,λvs G1 H1 e1 s1 i1=>by
  cases i1 with | cons i r=>cases r; cases i; exact ⟨n,rfl,h1,h2,q3 _ G1 H1 e1 s1 W0⟩⟩
theorem DH {tg iter:Expr} {body:List Stmt} {xs:List D} (hi:Cn X ρ O tg iter xs) (inv:Nat->Am->Ad->Prop) (h0:inv 0 ρ O)
  (hs:∀ i x ρ' O',xs[i]?=some x->inv i ρ' O'->∃ ρ1,Tg X tg x ρ' ρ1/\Exs X ρ1 O' body { P with nx:=inv (i+1),ct:=inv (i+1),bk:=P.nx }) (hd:∀ ρ' O',inv xs.length ρ' O'->P.nx ρ' O')
  (hp:PassesOwn (model X.prog X.w) X.A X.env X.xe:=by exact PassesOwn.never) (hc:X.calm=true:=by rfl) (hf:∀ x,foldedSetIterable iter X.env x=pure x:=by intro _; rfl):Ex X ρ O (.For tg iter body [] pos) P:=λG=>
 PS.imp (OD hp hc (hi G) (g:=λv σ H Q=>∃ G1 ρ1 ρ2 x,Tg X tg x ρ1 ρ2/\Is X.K G1 x v/\Bj G1.g H/\Ar X.K G1 σ ρ1/\∀ σ',Ar X.K G1 σ' ρ2->Q σ' H) (λpins s σ H v u Q I r ⟨G1,ρ1,ρ2,x,q,q'⟩=>q G1 pins s σ H v u Q I r q')
  (tb:=λE σ H=>∃ G1 ρ1 O1 P1,SA X.K G1 H O1/\Ar X.K G1 σ ρ1/\Exs X ρ1 O1 body P1/\Cs X.K G1 P1 E) (λpins s σ H E I ⟨G1,ρ1,O1,P1,q1,q2,q3,q4⟩=>q3 G1 pins s σ H E I ⟨q1,q2,q4⟩) hf) λE σ H ⟨q1,q2,q3⟩=>by
  refine ⟨q1,q2,λJ G1 H1 e1 s1 Y=>?_⟩
  refine ⟨λi m σ H=>∃ G2 ρ2 O2,Ag G1 G2/\SA X.K G2 H O2/\Ar X.K G2 σ ρ2/\inv i ρ2 O2/\i<=xs.length/\m=xs.length-i,⟨_,G1,ρ,O,Ag.refl _,s1,q2.ext e1,h0,Nat.zero_le _,rfl⟩,?_⟩
  rintro i m σ2 H2 ⟨G2,ρ2,O2,e2,s2,n2,v2,l2,rfl⟩
  by_cases hlt:i<xs.length
  ·refine .inr ⟨Y.go i H2 (e2.g.trans s2.sub) hlt,λσ' H'=>∃ G3 ρ3 O3,Ag G1 G3/\SA X.K G3 H' O3/\Ar X.K G3 σ' ρ3/\inv (i+1) ρ3 O3,λσ' H' ⟨G3,ρ3,O3,e3,s3,n3,v3⟩=>⟨xs.length-(i+1),by omega,G3,ρ3,O3,e3,s3,n3,v3,hlt,rfl⟩,λv H3 y=>?_⟩
   obtain ⟨x,G3,hx,e3,s3,i3⟩:=Y.yld i v H2 H3 G2 O2 e2 s2 y hlt
   obtain ⟨ρ3,t3,b3⟩:=hs i x ρ2 O2 hx v2
   have e13:Ag G1 G3:=e2.trans e3
   refine ⟨G3,ρ2,ρ3,x,t3,i3,s3.sub,n2.ext e3,λσ' n'=>⟨G3,ρ3,O2,_,s3,n',b3,⟨λσ4 ρ4 O4 G4 H4 e4 s4 n4 q=>⟨G4,ρ4,O4,e13.trans e4,s4,n4,q⟩,λv d O4 G4 H4 e4 s4 i4 r=>q3.rt v d O4 G4 H4 (e1.trans (e13.trans e4)) s4 i4 r,
    λσ4 ρ4 O4 G4 H4 e4 s4 n4 q=>q3.nx σ4 ρ4 O4 G4 H4 (e1.trans (e13.trans e4)) s4 n4 q,λσ4 ρ4 O4 G4 H4 e4 s4 n4 q=>⟨G4,ρ4,O4,e13.trans e4,s4,n4,q⟩⟩⟩⟩
  ·have ei:i=xs.length:=by omega
   subst ei
   exact .inl ⟨Y.stop _ H2 (e2.g.trans s2.sub) (Nat.le_refl _),q3.nx σ2 ρ2 O2 G2 H2 (e1.trans e2) s2 n2 (hd _ _ v2)⟩
theorem Qh {q:Nat} {xs:List D} (h:Ac X ρ O e (.ptr q)) (h2:O[q]?=some (some (.lst xs))) (r:R (.lst xs) (O.set q none)):Ev X ρ O e R:=λG=>PE.imp (h G) λσ H Q ⟨q1,q2,q3⟩=>⟨q1,q2,λv G1 H1 e1 s1 i1=>by
 obtain ⟨G',p,e,s',hp,i'⟩:=s1.frozen h2
 cases i1 with
 | ptr _ ha=>
 obtain rfl:=Option.some.inj (ha.symm.trans hp)
 exact q3 _ _ _ G' H1 (e1.trans e) s' i' r⟩
end
def FJ (N:List Str) (ds:List D):Am:=ds.map some++List.replicate (N.length-ds.length) none
section
variable {P:Program} {w:World} {K:PySem.W.Frag} {mg:Str->Option Value} {base:Heap}
theorem NO {G:Wd} {N:List Str} {ds:List D} {vs:List V} (r:Aj K G ds vs):Ar K G (L2.start N vs) (FJ N ds):=by
 refine ⟨by unfold L2.start FJ; simp [r.length],λi d h=>?_⟩
 unfold FJ at h
 by_cases hi:i<ds.length
 ·rw [List.getElem?_append_left (by simpa using hi),List.getElem?_map] at h
  cases q:ds[i]? with
  | none=>rw [q] at h; cases h
  | some d'=>
   rw [q] at h; cases h
   obtain ⟨v,hv,iv⟩:=r.get q
   refine ⟨v,?_,iv⟩
   unfold L2.start
   rw [List.getElem?_append_left (by rw [List.length_map,<- r.length]; exact hi),List.getElem?_map,hv]
   rfl
 ·rw [List.getElem?_append_right (by simpa using hi),List.getElem?_replicate] at h
  split at h <;> cases h
theorem GU {x qual:Str} {st:Stmt} {f:Addr} {fd:FuncData} {N ps:List Str} {k:Nat} {sp:A7} (F:AB K x qual st f fd) (S:AD N ps (Av st))
  (len:∀ ds O R,sp ds O R->ds.length=ps.length)
  (hbody:∀ (cdv:Value) (A:Around) (outer:List Env) (s:Shared) (H:Hp) (E:XK) (ds:List D) (O:Ad) (R:D->Ad->Prop),AR k (A.deeper (envOfC qual (Av st) s.heap.objs.size f cdv))->sp ds O R->
   Exs (Dj BM P w K mg base N qual (Av st) f cdv A outer s H E).nox (FJ N ds) O (CN st) { nx:=λ_ O'=>R .non O',rt:=R }):AI P w K mg base BM (k+1) f fd ps (Cc K sp):=by
 refine F.ok S (λvs H Q E h=>?_) (λcdv A outer s H vs Q E hr h=>?_)
 ·obtain ⟨G,O,ds,R,h1,h2,h3,h4⟩:=h
  rw [<- h2.length]
  exact len _ _ _ h3
 ·obtain ⟨G,O,ds,R,h1,h2,h3,h4⟩:=h
  refine ⟨_,hbody cdv A outer s H E ds O R hr h3 G,h1,NO h2,⟨λσ ρ O' G' H' e1 s1 n1 q=>h4 _ _ O' G' H' e1 s1 .non q,λv d O' G' H' e1 s1 i1 q=>h4 v d O' G' H' e1 s1 i1 q,λσ ρ O' G' H' e1 s1 n1 q=>q.elim,λσ ρ O' G' H' e1 s1 n1 q=>q.elim⟩⟩
theorem BT {x qual:Str} {st:Stmt} {f:Addr} {fd:FuncData} {N ps:List Str} {k:Nat} {sp:A7} (F:AB K x qual st f fd) (S:AD N ps (Av st)) (hm:mg x=some (.ref f)) (hb:Binds K fd ps [])
  (len:∀ ds O R,sp ds O R->ds.length=ps.length)
  (hbody:∀ (cdv:Value) (A:Around) (outer:List Env) (s:Shared) (H:Hp) (E:XK) (ds:List D) (O:Ad) (R:D->Ad->Prop),AR k (A.deeper (envOfC qual (Av st) s.heap.objs.size f cdv))->sp ds O R->
   Exs (Dj BM P w K mg base N qual (Av st) f cdv A outer s H E).nox (FJ N ds) O (CN st) { nx:=λ_ O'=>R .non O',rt:=R }):AE P w K mg base (k+1) x sp:=
 ⟨f,fd,ps,GU F S len hbody,hm,F.kp,hb⟩
end
def Gw:A7:=λds O R=>∃ ns:List Int,ds=[.scr (ns.map D.int)]/\ns.length<=63/\R (.bl true) O
theorem WJ {K:PySem.W.Frag} {H:Hp} {a:Addr} {ns:List Int} (hl:ns.length<=63) (hS:A0 K H a (ns.map V.int)):Cc K Gw [.ref a] H (λv _=>v=.bl true) λ_ _ _=>False:=
 ⟨⟨H,[]⟩,[],[.scr (ns.map D.int)],λd _=>d=.bl true,⟨Bj.refl _,rfl,List.nodup_nil,λa h=>absurd h List.not_mem_nil,λn m h=>by cases h⟩,.cons (.scr hS Aj.ints) .nil,⟨ns,rfl,hl,rfl⟩,λv d O' G' H' _ _ i r=>by subst r; cases i; rfl⟩
section
variable {X:Cx} {ρ:Am} {O:Ad} {e a b c:Expr} {es:List Expr} {d da db:D} {ds:List D} {R:D->Ad->Prop} {pos p:Pos} {x:Str}
theorem Di {U:String} (hm:X.mg x=none) (hg:Gl X x:=by rfl) (hv:bootBuiltins x=some (.type U):=by first | rfl | decide +kernel) (hn:x ≠ "__name__" := by decide) (hd:(x==("__debug__" : Str))=false:=by decide):Ac X ρ O (.Name x p) (.ty U):=λG=>
 PE.imp (U2 (v:=.ty U) hg hm hv rfl hn hd) λσ H Q ⟨h1,h2,h3⟩=>h3 _ G H (Ag.refl _) h1 (.ty U)
def tyD:D->Option String
 | .non=>some "NoneType" | .bl _=>some "bool" | .int _=>some "int" | .str _=>some "str" | .tup _=>some "tuple" | .lst _=>some "list" | .scr _=>some "list" | .ptr _=>none | .ty _=>none | .fn _=>none | .dct _ _=>some "dict"
theorem Zt {T U:String} {k:Bool} (ht:tyD d=some T) (hk:∀ K,PySem.W.kitOne K (.type T) (.type U)=some k):BY X O (.builtin "isinstance") [d,.ty U] (.bl k):=λG pins s σ H xs us Q I r ⟨h1,h2,h3⟩=>by
 cases h2 with
 | cons i r2=>
  cases r2 with
  | cons i' r3=>
   cases r3
   cases i'
   obtain ⟨u,u',rfl,r1,r2⟩:=Hz r
   cases r2
   have fin:∀ tk,EP X pins σ Q (.bool k) { s with toks:=tk }:=λtk=>⟨.bl k,H,I.tok tk,rfl,h3 _ G H (Ag.refl _) h1 (.bl k)⟩
   cases i with
   | non=>cases ht; cases r1; exact PySem.W.kia_one PySem.W.kitx_none I.kIn True.intro (hk _) (λz=>nomatch z) fin
   | bl y=>cases ht; cases r1; exact PySem.W.kia_one PySem.W.kitx_bool I.kIn True.intro (hk _) (λz=>nomatch z) fin
   | int i=>cases ht; obtain ⟨t,rfl⟩:=r1; exact PySem.W.kia_one PySem.W.kitx_int I.kIn True.intro (hk _) (λz=>nomatch z) fin
   | str y=>cases ht; obtain ⟨t,rfl⟩:=r1; exact PySem.W.kia_one PySem.W.kitx_str I.kIn True.intro (hk _) (λz=>nomatch z) fin
   | tup q1 q2=>
    cases ht; cases r1
    obtain ⟨its,_,⟨o,g1,g2,_⟩,_⟩:=I.tuple (CW h1.sub q1)
    exact PySem.W.kia_one PySem.W.kitx_tuple I.kIn ⟨o,g1,g2⟩ (hk _) (λz=>nomatch z) fin
   | lst q1 q2=>
    cases ht; cases r1
    obtain ⟨its,_,⟨o,n,g1,g2,_⟩,_⟩:=I.list (A0.of (h1.sub _ _ q1))
    exact PySem.W.kia_one PySem.W.kitx_list I.kIn ⟨o,g1,g2⟩ (hk _) (λz=>nomatch z) fin
   | scr q1 q2=>
    cases ht; cases r1
    obtain ⟨its,_,⟨o,n,g1,g2,_⟩,_⟩:=I.list (h1.sub.seq q1)
    exact PySem.W.kia_one PySem.W.kitx_list I.kIn ⟨o,g1,g2⟩ (hk _) (λz=>nomatch z) fin
   | ptr _ _=>cases ht
   | ty _=>cases ht
   | fn _=>cases ht
   | dct q1 _ q2=>
    cases ht; cases r1
    obtain ⟨_,_,_,_,o,_,_,g1,g2,_⟩:=Rd.ok (.inr ⟨_,h1.sub _ _ q1⟩) I.hok
    exact PySem.W.kia_one PySem.W.kitx_dict I.kIn ⟨o,g1,g2.1⟩ (hk _) (λz=>nomatch z) fin
def NJ (T U:String):Bool:=T==U||(T == "bool" && U == "int")
theorem WN:∀ T∈["NoneType","bool","int","str","tuple","list","dict"],∀ U∈["int","bool","tuple","str","dict","list"],∀ K,PySem.W.kitOne K (.type T) (.type U)=some (NJ T U):=by
 intro T hT U hU K
 simp only [List.mem_cons,List.not_mem_nil,or_false] at hT hU
 rcases hT with rfl | rfl | rfl | rfl | rfl | rfl | rfl <;> rcases hU with rfl | rfl | rfl | rfl | rfl | rfl <;> kernel_rfl
def GT:D->Bool
 | .ptr _=>false | .ty _=>false | .fn _=>false | _=>true
def F3 (d:D) (U:String):Bool:=match tyD d with
 | some T=>NJ T U
 | none=>false
theorem MM {U:String} (h:GT d=true) (hU:U∈["int","bool","tuple","str","dict","list"]):BY X O (.builtin "isinstance") [d,.ty U] (.bl (F3 d U)):=by
 cases d with
 | ptr _=>cases h
 | ty _=>cases h
 | fn _=>cases h
 | _=>exact Zt (T:=_) rfl (WN _ wE U hU)
theorem Zs (h:GT d=true):BY X O (.builtin "isinstance") [d,.ty "int"] (.bl (F3 d "int")):=MM h wE
theorem ML (h:GT d=true):BY X O (.builtin "isinstance") [d,.ty "bool"] (.bl (F3 d "bool")):=MM h wE
theorem EJ (h:GT d=true):BY X O (.builtin "isinstance") [d,.ty "str"] (.bl (F3 d "str")):=MM h wE
theorem Yf {i:Int} (ha:Ac X ρ O a (.int i)):Ac X ρ O (.UnaryOp .USub a pos) (.int (-i)):=λG=>PE.imp (UL RQ (ha G)) λσ H Q ⟨h1,h2,h3⟩=>⟨h1,h2,λv G1 H1 e1 s1 i1=>by
 cases i1; exact ⟨i,rfl,h3 _ G1 H1 e1 s1 (.int _)⟩⟩
end
def CP (env:Env):List (Str×NameKind)->List (Str×Addr)->List (Str×Addr)
 | [],cs=>cs
 | (n,k)::r,cs=>if k==.free then CP env r ((n,(env.cells.lookup n).getD 0)::cs) else CP env r cs
theorem ME {env:Env} (f:Str×NameKind->List (Str×Addr)->Sem (ForInStep (List (Str×Addr))))
  (hf:∀ n k cs,f (n,k) cs=if (k==NameKind.free)=true then (do let a <- cellOf env n; pure (.yield ((n,a)::cs))) else pure (.yield cs)) :
  ∀ (names:List (Str×NameKind)) (cs:List (Str×Addr)),(∀ y∈names,y.2=.free->∃ a,env.cells.lookup y.1=some a)->forIn names cs f=pure (CP env names cs)
 | [],cs,_=>by rw [List.forIn_nil]; rfl
 | (n,k)::r,cs,h=>by
  rw [List.forIn_cons,hf]
  have hr:∀ y∈r,y.2=.free->∃ a,env.cells.lookup y.1=some a:=λy hy=>h y (List.mem_cons_of_mem _ hy)
  unfold CP
  by_cases hk:(k==NameKind.free)=true
  ·rw [if_pos hk,if_pos hk]
   obtain ⟨a,e⟩:=h (n,k) List.mem_cons_self (by simpa using hk)
   have e':cellOf env n=pure a:=by unfold cellOf; rw [e]
   rw [e',e]
   simp only [pure_bind,Option.getD_some]
   exact ME f hf r _ hr
  ·rw [if_neg hk,if_neg hk]
   simp only [pure_bind]
   exact ME f hf r _ hr
theorem Zd {env:Env} {scope:Scope} (h:∀ y∈scope.names,y.2=.free->∃ a,env.cells.lookup y.1=some a):closureFor scope env=pure (CP env scope.names []):=by
 have e:=ME (env:=env) (λ(x:Str×NameKind) (cs:List (Str×Addr))=>if (x.2==NameKind.free)=true then (do let a <- cellOf env x.1; pure (.yield ((x.1,a)::cs))) else pure (.yield cs)) (λn k cs=>rfl) scope.names [] h
 unfold closureFor
 exact (congrArg (λz=>z >>= λq=>pure q) e).trans (by simp)
theorem MF {env:Env} {x:Str} {c:Addr}:∀ (names:List (Str×NameKind)) (cs:List (Str×Addr)),(∀ y∈names,y.2=.free->∃ a,env.cells.lookup y.1=some a)->
  (CP env names cs).lookup x=some c->cs.lookup x=some c\/env.cells.lookup x=some c
 | [],cs,_,h=>.inl h
 | (n,k)::r,cs,hh,h=>by
  have hr:∀ y∈r,y.2=.free->∃ a,env.cells.lookup y.1=some a:=λy hy=>hh y (List.mem_cons_of_mem _ hy)
  unfold CP at h
  by_cases hk:(k==NameKind.free)=true
  ·rw [if_pos hk] at h
   obtain ⟨a,e⟩:=hh (n,k) List.mem_cons_self (by simpa using hk)
   rcases MF r _ hr h with q | q
   ·rw [e,Option.getD_some,List.lookup_cons] at q
    cases hx:x==n with
    | true=>
     rw [hx] at q
     have:x=n:=by simpa using hx
     subst this
     exact .inr (by cases q; exact e)
    | false=>rw [hx] at q; exact .inl q
   ·exact .inr q
  ·rw [if_neg hk] at h
   exact MF r cs hr h
theorem Hi {env:Env} {x:Str}:∀ (names:List (Str×NameKind)) (cs:List (Str×Addr)),names.lookup x=some .free\/(cs.lookup x).isSome=true->((CP env names cs).lookup x).isSome=true
 | [],cs,h=>h.elim (λe=>by cases e) id
 | (n,k)::r,cs,h=>by
  unfold CP
  by_cases hk:(k==NameKind.free)=true
  ·rw [if_pos hk]
   refine Hi r _ ?_
   cases hx:x==n with
   | true=>right; rw [List.lookup_cons,hx]; rfl
   | false=>
    rw [List.lookup_cons,hx] at h
    rw [List.lookup_cons,hx]
    exact h
  ·rw [if_neg hk]
   refine Hi r _ ?_
   cases hx:x==n with
   | true=>
    rw [List.lookup_cons,hx] at h
    rcases h with h | h
    ·cases h; exact absurd rfl hk
    ·exact .inr h
   | false=>rw [List.lookup_cons,hx] at h; exact h
theorem MG {x:Str}:∀ (names:List (Str×NameKind)) (n:Nat) (acc:List (Str×Addr)),(∀ y∈names,y.1=x->y.2≠.cell)->(cellsFrom n names acc).lookup x=acc.lookup x
 | [],_,_,_=>rfl
 | (y,k)::r,n,acc,h=>by
  have hr:∀ z∈r,z.1=x->z.2≠.cell:=λz hz=>h z (List.mem_cons_of_mem _ hz)
  unfold cellsFrom
  by_cases hk:(k==NameKind.cell)=true
  ·rw [if_pos hk,MG r _ _ hr,List.lookup_cons]
   have:y≠x:=λe=>h (y,k) List.mem_cons_self e (by simpa using hk)
   rw [show (x==y)=false from by simpa using Ne.symm this]
  ·rw [if_neg hk]
   exact MG r _ _ hr
theorem MI {x:Str} {c:Addr}:∀ (names:List (Str×NameKind)) (h:Heap) (acc:List (Str×Addr)),(∀ y b,acc.lookup y=some b->∃ v,h.IsCell b v)->(cellsFrom h.objs.size names acc).lookup x=some c->
  (∃ v,(pushCells h names).IsCell c v)/\(acc.lookup x=some c\/h.objs.size<=c)
 | [],h,acc,hc,e=>⟨hc _ _ e,.inl e⟩
 | (y,k)::r,h,acc,hc,e=>by
  unfold cellsFrom at e
  unfold pushCells
  by_cases hk:(k==NameKind.cell)=true
  ·rw [if_pos hk] at e ⊢
   have hz:(h.push { cls:=.type "cell",data:=.cell none }).objs.size=h.objs.size+1:=Heap.size_push ..
   rw [<- hz] at e
   obtain ⟨q1,q2⟩:=MI r (h.push { cls:=.type "cell",data:=.cell none }) ((y,h.objs.size)::acc) (λz b q=>by
    rw [List.lookup_cons] at q
    cases hx:z==y with
    | true=>rw [hx] at q; cases q; exact ⟨none,_,Heap.get?_push_size _ rfl,rfl⟩
    | false=>
     rw [hx] at q
     obtain ⟨v,o,q1,q2⟩:=hc z b q
     exact ⟨v,o,Heap.get?_push_of_some _ q1,q2⟩) e
   refine ⟨q1,?_⟩
   rcases q2 with q2 | q2
   ·rw [List.lookup_cons] at q2
    cases hx:x==y with
    | true=>rw [hx] at q2; cases q2; exact .inr (Nat.le_refl _)
    | false=>rw [hx] at q2; exact .inl q2
   ·exact .inr (by rw [hz] at q2; omega)
  ·rw [if_neg hk] at e ⊢
   exact MI r h acc hc e
theorem MH:∀ (names:List (Str×NameKind)) (n:Nat) (acc:List (Str×Addr)),(∀ x y c,acc.lookup x=some c->acc.lookup y=some c->x=y)->(∀ x c,acc.lookup x=some c->c<n)->
  ∀ x y c,(cellsFrom n names acc).lookup x=some c->(cellsFrom n names acc).lookup y=some c->x=y
 | [],_,_,hi,_=>hi
 | (z,k)::r,n,acc,hi,hl=>by
  unfold cellsFrom
  by_cases hk:(k==NameKind.cell)=true
  ·rw [if_pos hk]
   refine MH r (n+1) ((z,n)::acc) (λx y c e1 e2=>?_) (λx c e=>?_)
   ·rw [List.lookup_cons] at e1 e2
    cases hx:x==z <;> cases hy:y==z <;> rw [hx] at e1 <;> rw [hy] at e2
    ·exact hi x y c e1 e2
    ·cases e2; exact absurd (hl _ _ e1) (Nat.lt_irrefl _)
    ·cases e1; exact absurd (hl _ _ e2) (Nat.lt_irrefl _)
    ·rw [show x=z by simpa using hx,show y=z by simpa using hy]
   ·rw [List.lookup_cons] at e
    cases hx:x==z <;> rw [hx] at e
    ·exact Nat.lt_succ_of_lt (hl _ _ e)
    ·cases e; exact Nat.lt_succ_self _
  ·rw [if_neg hk]
   exact MH r n acc hi hl
theorem HV {env:Env} {x:Str} {k:NameKind}:∀ (names:List (Str×NameKind)),(names.map λ(n,k)=>if (k==NameKind.free&&env.scope.kind==.function&&env.kindOf n==some .cell) then (n,NameKind.cell) else (n,k)).lookup x=some k->
  names.lookup x=some k\/(k=.cell/\names.lookup x=some .free)
 | [],h=>by cases h
 | (n,k')::r,h=>by
  rw [List.map_cons] at h
  by_cases hc:(k'==NameKind.free&&env.scope.kind==.function&&env.kindOf n==some .cell)=true
  ·simp only [hc,if_true] at h
   rw [List.lookup_cons] at h ⊢
   cases hx:x==n with
   | true=>
    rw [hx] at h; cases h
    have:k'=.free:=by
     simp only [Bool.and_eq_true,beq_iff_eq] at hc
     exact hc.1.1
    subst this
    exact .inr ⟨rfl,rfl⟩
   | false=>rw [hx] at h; exact HV r h
  ·simp only [hc,Bool.false_eq_true,if_false] at h
   rw [List.lookup_cons] at h ⊢
   cases hx:x==n with
   | true=>rw [hx] at h; exact .inl h
   | false=>rw [hx] at h; exact HV r h
theorem KR {env:Env} {x:Str}:∀ (names:List (Str×NameKind)),names.lookup x=some .free->
  (names.map λ(n,k)=>if (k==NameKind.free&&env.scope.kind==.function&&env.kindOf n==some .cell) then (n,NameKind.cell) else (n,k)).lookup x=some .cell \/
  (names.map λ(n,k)=>if (k==NameKind.free&&env.scope.kind==.function&&env.kindOf n==some .cell) then (n,NameKind.cell) else (n,k)).lookup x=some .free
 | [],h=>by cases h
 | (n,k')::r,h=>by
  rw [List.map_cons]
  rw [List.lookup_cons] at h
  by_cases hc:(k'==NameKind.free&&env.scope.kind==.function&&env.kindOf n==some .cell)=true
  ·simp only [hc,if_true]
   rw [List.lookup_cons]
   cases hx:x==n with
   | true=>left; rfl
   | false=>rw [hx] at h; exact KR r h
  ·simp only [hc]
   cases hx:x==n with
   | true=>rw [hx] at h; right; exact (by simp [List.lookup_cons,hx]; exact Option.some.inj h)
   | false=>
    rw [hx] at h
    simpa [List.lookup_cons,hx] using KR r h
def Em (X:Cx) (N:List Str) (scope:Scope) (s:Shared) (H:Hp) (fp:List Addr):Cx:=
 { X with
  N:=N
  s₀:=s
  H₀:=H
  env:=compEnvC scope (cellsFrom (s.heap.objs.size+2) scope.names (CP X.env scope.names [])) (s.heap.objs.size+1) X.env
  outer:=X.stack
  ex:=fp
  fn:=λx=>scope.names.lookup x==some .cell
  pn:=[]
  xe:=λ_ _=>False }
section
variable {X:Cx} {pins:List (Addr×Obj)} {σ:L2.St} {H:Hp} {s:Shared}
def Jp (X:Cx) (scope:Scope):Prop:=∀ y∈scope.names,y.2=.free->X.env.kindOf y.1=some .cell\/X.env.kindOf y.1=some .free
theorem Xg {N:List Str} {scope:Scope} {fp:List Addr} {σ0:L2.St} (I:L2.Inv X pins σ H s) (hf:∀ b∈fp,B9 X pins H b) (ho:∀ b∈fp,∃ o,s.heap.get? b=some o) (hk:scope.kind=.function) (hfr:Jp X scope)
  (hl:σ0.length=N.length) (hσ:∀ (i:Nat) (v:V),σ0[i]?=some (some v)->∃ (x:Str) (j:Nat),N[i]?=some x/\scope.names.lookup x=some .free/\(∀ y∈scope.names,y.1=x->y.2≠.cell)/\X.N[j]?=some x/\σ[j]?=some (some v)/\Dl X.env.scope x) (t:Nat) (oD:Obj) :
  L2.Inv (Em X N scope s H fp) [] σ0 H { s with heap:=pushCells ((s.heap.push oD).push { cls:=.type "dict",data:=.dict #[] }) scope.names,toks:=t }:=by
 have hz1:(s.heap.push oD).objs.size=s.heap.objs.size+1:=Heap.size_push ..
 have hz:((s.heap.push oD).push { cls:=.type "dict",data:=.dict #[] }).objs.size=s.heap.objs.size+2:=by rw [Heap.size_push,hz1]
 have up:∀ b o,s.heap.get? b=some o->(pushCells ((s.heap.push oD).push { cls:=.type "dict",data:=.dict #[] }) scope.names).get? b=some o:=λb o e=>pushCells_keeps _ _ b o (Heap.get?_push_of_some _ (Heap.get?_push_of_some _ e))
 have hcl:∀ y∈scope.names,y.2=.free->∃ a,X.env.cells.lookup y.1=some a:=λy hy e=>I.ok.has _ (hfr y hy e)
 have cl1:∀ y b,(CP X.env scope.names []).lookup y=some b->X.env.cells.lookup y=some b:=λy b e=>by
  rcases MF _ _ hcl e with q | q
  ·cases q
  ·exact q
 have cl2:∀ y b,(CP X.env scope.names []).lookup y=some b->b<s.heap.objs.size:=λy b e=>by
  obtain ⟨v,q⟩:=I.cell y b (cl1 y b e); exact q.lt
 have cc:∀ y b,(cellsFrom (s.heap.objs.size+2) scope.names (CP X.env scope.names [])).lookup y=some b->
   (∃ v,(pushCells ((s.heap.push oD).push { cls:=.type "dict",data:=.dict #[] }) scope.names).IsCell b v)/\(X.env.cells.lookup y=some b/\b<s.heap.objs.size\/s.heap.objs.size+2<=b):=λy b e=>by
  rw [<- hz] at e
  obtain ⟨q1,q2⟩:=MI scope.names ((s.heap.push oD).push { cls:=.type "dict",data:=.dict #[] }) _ (λz c q=>by
   obtain ⟨v,o,q1,q2⟩:=I.cell z c (cl1 z c q)
   exact ⟨v,o,Heap.get?_push_of_some _ (Heap.get?_push_of_some _ q1),q2⟩) e
  refine ⟨q1,?_⟩
  rcases q2 with q2 | q2
  ·exact .inl ⟨cl1 _ _ q2,cl2 _ _ q2⟩
  ·rw [hz] at q2; exact .inr q2
 have hlt:=I.lt
 refine ⟨⟨I.ok.mod,hk,I.ok.glob,I.ok.blt,Nat.le_succ _,?_,?_,?_,I.ok.hd,I.ok.frames,.inl rfl,?_,I.bs,Nat.le_trans I.ok.bsz I.sz,?_,?_,I.stack,I.stkFree⟩,rfl,I.bare,Un.kept up,?_,?_,?_,?_,?_,I.hok.kept up,hl⟩
 ·exact MH _ _ _ (λx y c e1 e2=>I.ok.inj x y c (cl1 _ _ e1) (cl1 _ _ e2)) (λx c e=>Nat.lt_of_lt_of_le (cl2 x c e) (Nat.le_add_right _ 2))
 ·intro x hx
  have hx:(relabel scope X.env).names.lookup x=some .cell\/(relabel scope X.env).names.lookup x=some .free:=hx
  have:((cellsFrom (s.heap.objs.size+2) scope.names (CP X.env scope.names [])).lookup x).isSome=true:=by
   refine PySem.W.cellsFrom_some _ _ _ ?_
   rcases hx with hx | hx
   ·rcases HV _ hx with q | ⟨_,q⟩
    ·exact .inl q
    ·exact .inr (Hi _ _ (.inl q))
   ·rcases HV _ hx with q | ⟨q,_⟩
    ·exact .inr (Hi _ _ (.inl q))
    ·cases q
  exact Option.isSome_iff_exists.mp this
 ·intro x c hfn e
  rcases (cc x c e).2 with ⟨q,q'⟩ | q
  ·exfalso
   have hfn:scope.names.lookup x=some .cell:=by simpa [Em] using hfn
   -- own names' cells are new
   have:∀ (names:List (Str×NameKind)) (n:Nat) (acc:List (Str×Addr)),names.lookup x=some .cell\/(∃ b,acc.lookup x=some b/\s.heap.objs.size<=b)->s.heap.objs.size<=n->∀ b,(cellsFrom n names acc).lookup x=some b->s.heap.objs.size<=b:=by
    intro names
    induction names with
    | nil=>
     intro n acc h hn b eb
     rcases h with h | ⟨b',h,hb⟩
     ·cases h
     ·have eb:acc.lookup x=some b:=eb
      rw [h] at eb; cases eb; exact hb
    | cons p r ih=>
     obtain ⟨y,k⟩:=p
     intro n acc h hn b eb
     unfold cellsFrom at eb
     by_cases hkc:(k==NameKind.cell)=true
     ·rw [if_pos hkc] at eb
      refine ih (n+1) _ ?_ (Nat.le_succ_of_le hn) b eb
      cases hxy:x==y with
      | true=>right; exact ⟨n,by rw [List.lookup_cons,hxy],hn⟩
      | false=>
       rw [List.lookup_cons,hxy] at h
       rw [List.lookup_cons,hxy]
       exact h
     ·rw [if_neg hkc] at eb
      refine ih n _ ?_ hn b eb
      cases hxy:x==y with
      | true=>
       rw [List.lookup_cons,hxy] at h
       rcases h with h | h
       ·cases h; exact absurd rfl hkc
       ·exact .inr h
      | false=>rw [List.lookup_cons,hxy] at h; exact h
   exact absurd q' (Nat.not_lt.mpr (this scope.names _ _ (.inl hfn) (Nat.le_add_right _ 2) c e))
  ·exact Nat.le_trans (Nat.le_add_right _ 2) q
 ·intro b hb
  have hbl:b<s.heap.objs.size:=let ⟨o,e⟩:=ho b hb; Heap.lt_size e
  refine ⟨Nat.ne_of_lt (Nat.lt_succ_of_lt hbl),λx c e=>?_⟩
  obtain ⟨f0,f1,f2,f3,f4,f5⟩:=hf b hb
  rcases (cc x c e).2 with ⟨q,_⟩ | q
  ·exact f4 x c q
  ·exact Nat.ne_of_gt (Nat.lt_of_lt_of_le (Nat.lt_of_lt_of_le hbl (Nat.le_add_right _ 2)) q)
 ·intro b o e hb
  obtain ⟨f0,f1,f2,f3,f4,f5⟩:=hf b hb
  rcases f3 with q | q
  ·exact I.ok.noex b o e q
  ·exact absurd (Nat.lt_of_lt_of_le (Heap.lt_size e) (Nat.le_trans I.ok.bsz q)) (Nat.lt_irrefl _)
 ·intro b hb z
  obtain ⟨f0,f1,f2,f3,f4,f5⟩:=hf b hb
  rcases List.mem_cons.mp (I.stkSub b z) with q | q
  ·exact f1 q
  ·exact f2 q
 ·refine ⟨λ_=>none,?_,λi x v e1 e2 e3=>?_⟩
  ·show Heap.Ns _ (s.heap.objs.size+1) _
   rw [<- hz1]
   exact (Heap.Ns.new (s.heap.push oD) (.type "dict")).keeps (pushCells_keeps _ _)
  ·obtain ⟨x',j,q1,q2,q3,q4,q5,q6⟩:=hσ i v e2
   have:x'=x:=Option.some.inj (q1.symm.trans e1)
   subst this
   obtain ⟨m,hn,hlk⟩:=I.loc
   obtain ⟨u,ru,lk⟩:=hlk j x' v q4 q5 q6
   refine ⟨u,ru,.inr ⟨?_,?_⟩⟩
   ·exact KR _ q2
   ·have hks:=hfr (x',.free) (PySem.mem_of_lookup q2) rfl
    rcases lk with ⟨k,_⟩ | ⟨k,c,e,z⟩
    ·rcases hks with z | z
     ·rw [k] at z; cases z
     ·rw [k] at z; cases z
    ·refine ⟨c,?_,z.keeps up⟩
     show (cellsFrom _ _ _).lookup x'=some c
     rw [MG _ _ _ q3]
     obtain ⟨b,eb⟩:=Option.isSome_iff_exists.mp (Hi (env:=X.env) scope.names [] (.inl q2))
     rw [eb,<- cl1 _ _ eb,e]
 ·exact λx c e=>(cc x c e).1
 ·exact I.hok.fresh (Nat.le_succ _)
 ·intro x c e
  rcases (cc x c e).2 with ⟨q,_⟩ | q
  ·exact I.freeC x c q
  ·exact I.hok.fresh (Nat.le_trans (Nat.le_add_right _ 2) q)
 ·intro p hp
  exact absurd (show p∈([]:List (Addr×Obj)) from hp) (by simp)
end
theorem Wj {M:Model} {A:Around} {E:Value->Shared->Prop} {s:Shared} {scope:Scope} {g:Addr} {cl:List (Str×Addr)} {q:Str} {env:Env} {Q:Env->Shared->Prop}
  (h:∀ b,b=env.builtins->Q { scope:=scope,locals:=s.heap.objs.size,globals:=g,cells:=cellsFrom (s.heap.objs.size+1) scope.names cl,qual:=q,func:=none,code:=env.code,frame:=env.frame,builtins:=b }
   { s with heap:=pushCells (s.heap.push { cls:=.type "dict",data:=.dict #[] }) scope.names }):wpAny M A (newFunctionEnv scope g cl [] q none .none (some env)) Q E s:=by
 simp only [newFunctionEnv,Option.isSome_some,if_true]
 refine wpAny_bind (wpAny_alloc ?_)
 refine wpAny_bind (wpAny_layCells _ (λn k cells=>by cases hkc:k==NameKind.cell <;> simp [hkc]) _ _ _ _ ?_)
 rw [show ({ s with heap:=s.heap.push { cls:=.type "dict",data:=.dict #[] } }:Shared).heap.objs.size=s.heap.objs.size+1 from Heap.size_push ..]
 rw [List.forIn_nil]
 exact wpAny_bind (wpAny_pure (wpAny_pure (h _ rfl)))
theorem ZL {fs ex:List Addr} {H H':Hp} {h h':Heap} {D:Addr} {o:HO} (u:Un fs ex H H' h h') (hn:H D=none) (hh:h.get? D=none):Un fs ex H (An H' D o) h h' where
 keep:=u.keep
 slot:=u.slot
 free:=λb ob q n hx=>by
  rw [As (λz=>by rw [z,hh] at q; cases q)]; exact u.free b ob q n hx
 there:=u.there
 tups:=λb xs q=>by rw [As (BO q hn)]; exact u.tups b xs q
 frzs:=λb ob xs q=>by rw [As (BO q hn)]; exact u.frzs b ob xs q
 tbls:=λb ps q=>by rw [As (BO q hn)]; exact u.tbls b ps q
theorem Rm {P:Program} {w:World} {H:Hp} {h:Heap} {D:Addr} {o:HO} (x:A3 P w H h) (hn:H D=none) (new:Bn P w (An H D o) h D o):A3 P w (An H D o) h:=λb u e=>by
 by_cases hb:b=D
 ·subst hb
  rw [AJ] at e
  cases e
  exact new
 ·rw [As hb] at e
  refine (x b u e).stay (λc v _ q=>q) (λc q=>?_) λc xs q=>?_
  ·rw [As (BO q hn)]; exact q
  ·rw [As (BO q hn)]; exact q
theorem Y3 {prog:Program} {w:World} {A:Around} {R:Result->Shared->Prop} {elt tg iter:Expr} {ifs:List Expr} {scope:Scope} {pos:Pos} {it acc:Value} {env:Env} (V:Nat->Shared->Prop)
  (turn:∀ (n:Nat) (s:Shared) (F:Value->Shared->Prop),V n s->wpAny (model prog w) A (pyNext it) (λr s1=>match r with
   | none=>R (.ok .next) s1
   | some v=>wpAny (model prog w) A (letOwnedTupleGo tg it v) (λ_ s2=>wpAny (model prog w) A (assign tg env v) (λ_ s3=>
     wpAny (model prog w) A (compTests ifs env) (λok s4=>if ok=true then wpAny (model prog w) A (eval elt env) (λx s5=>wpAny (model prog w) A (call (.builtin "list.append") [acc,x]) (λ_ s6=>∃ m,m<n/\V m s6) F s5) F s4
      else ∃ m,m<n/\V m s4) F s3) F s2) F s1) F s) :
  ∀ (n:Nat) (s:Shared),V n s->codeAny (model prog w) A (.compLoop (.ListComp elt [⟨tg,iter,ifs,0⟩] scope pos) 0 it acc env) R s:=λn s h=>by
 refine codeAny_loop rfl V (λn s hV=>?_) n h
 refine wpAny_noted ?_
 rw [compTurn_list]
 refine wpAny_bind (wpAny_standAt (wpAny_bind (Ao (turn n s _ hV) λr s1 h1=>?_)))
 cases r with
 | none=>exact wpAny_pure h1
 | some v=>
  refine wpAny_bind (Ao h1 λ_ s2 h2=>wpAny_bind (Ao h2 λ_ s3 h3=>?_))
  have h3:wpAny (model prog w) A (compTests ifs env) _ _ s3:=h3
  unfold compTests at h3
  rw [show ∀ x:Sem Bool,(x >>= λq=>pure q)=x from λx=>bind_pure x] at h3
  refine wpAny_bind (Ao h3 λok s4 h4=>?_)
  cases ok with
  | false=>exact wpAny_pure ⟨rfl,h4⟩
  | true=>exact wpAny_bind (wpAny_bind (Ao h4 λx s5 h5=>wpAny_bind (Ao h5 λ_ s6 h6=>wpAny_pure (wpAny_pure ⟨rfl,h6⟩))))
abbrev CZ (ys:List Value):Obj:={ cls:=.type "list",data:=.seq ys.toArray ys.length }
def Jn (X:Cx) (ρ:Am) (O:Ad) (elt:Expr):List Expr->Option D->Prop
 | [],z=>∃ y,z=some y/\Ac X ρ O elt y
 | [c],z=>∃ k,Ax X ρ O c k/\(k=true->∃ y,z=some y/\Ac X ρ O elt y)/\(k=false->z=none)
 | _,_=>False
def Rc (X:Cx) (ρ:Am) (O O':Ad) (elt:Expr):List Expr->Option D->Prop
 | [],z=>∃ y,z=some y/\Ev X ρ O elt (λd O2=>d=y/\O2=O')
 | [c],z=>∃ k,Ax X ρ O c k/\(k=true->∃ y,z=some y/\Ev X ρ O elt (λd O2=>d=y/\O2=O'))/\(k=false->z=none/\O'=O)
 | _::_::_,_=>False
theorem Jn.s {X:Cx} {ρ:Am} {O:Ad} {elt:Expr} {z:Option D}:∀ {ifs:List Expr},Jn X ρ O elt ifs z->Rc X ρ O O elt ifs z
 | [],h=>by obtain ⟨y,h1,h2⟩:=h; exact ⟨y,h1,h2.ev ⟨rfl,rfl⟩⟩
 | [c],h=>by
  obtain ⟨k,h1,h2,h3⟩:=h
  exact ⟨k,h1,λe=>by obtain ⟨y,g1,g2⟩:=h2 e; exact ⟨y,g1,g2.ev ⟨rfl,rfl⟩⟩,λe=>⟨h3 e,rfl⟩⟩
 | _::_::_,h=>h.elim
theorem Ar.weak {K:PySem.W.Frag} {G:Wd} {σ:L2.St} {ρ ρ':Am} (h:Ar K G σ ρ) (hl:ρ'.length=ρ.length) (hs:∀ (i:Nat) (d:D),ρ'[i]?=some (some d)->ρ[i]?=some (some d)):Ar K G σ ρ':=
 ⟨h.len.trans hl.symm,λi d e=>h.get i d (hs i d e)⟩
theorem P7 {α:Type} (P:Nat->α->Prop):∀ n:Nat,(∀ i,i<n->∃ a,P i a)->∃ l:List α,l.length=n/\∀ i a,l[i]?=some a->P i a
 | 0,_=>⟨[],rfl,λi a h=>by simp at h⟩
 | n+1,h=>by
  obtain ⟨l,h1,h2⟩:=P7 P n λi hi=>h i (Nat.lt_succ_of_lt hi)
  obtain ⟨a,ha⟩:=h n (Nat.lt_succ_self _)
  refine ⟨l++[a],by simp [h1],λi b hb=>?_⟩
  by_cases hi:i<n
  ·rw [List.getElem?_append_left wF] at hb; exact h2 i b hb
  ·have hin:i=n:=by
    have:=(List.getElem?_eq_some_iff.mp hb).1
    simp [h1] at this; omega
   subst hin
   rw [List.getElem?_append_right wF,h1,Nat.sub_self] at hb
   cases hb; exact ha
section
variable {X:Cx} {ρ:Am} {O:Ad} {elt tg iter:Expr} {ifs:List Expr} {scope:Scope} {pos:Pos} {xs:List D} {zs:List (Option D)}
theorem PU {α:Type}:∀ (zs:List (Option α)) (i:Nat) (z:Option α),zs[i]?=some z->(zs.take (i+1)).filterMap id=(zs.take i).filterMap id++z.toList:=by
 intro zs i z h
 rw [List.take_add_one,h,List.filterMap_append]
 cases z <;> rfl
theorem Y0 (S:Nat->Ad) (hS0:S 0=O) (N:List Str) (js:List Nat) (ρ0:Am) (hi:Cn X ρ O tg iter xs) (hc:X.calm=true) (hk:scope.kind=.function) (hfr:Jp X scope) (hnm:∀ x∈scope.names,x.2=.local->scope.names.lookup x.1=some .local)
    (hl0:ρ0.length=N.length)
    (h0:∀ (i:Nat) (d:D),ρ0[i]?=some (some d)->∃ (x:Str) (j:Nat),N[i]?=some x/\scope.names.lookup x=some .free/\(∀ y∈scope.names,y.1=x->y.2≠.cell)/\X.N[j]?=some x/\ρ[j]?=some (some d)/\Dl X.env.scope x)
    (hzl:zs.length=xs.length) (hsz:xs.length<=sizeLine)
    (turn:∀ (s:Shared) (H:Hp) (fp:List Addr) (i:Nat) (x:D) (z:Option D),xs[i]?=some x->zs[i]?=some z->∃ ρ1,Tg (Em X N scope s H fp) tg x ρ0 ρ1/\ρ1.length=ρ0.length/\(∀ (j:Nat) (d:D),ρ0[j]?=some (some d)->ρ1[j]?=some (some d))/\Rc (Em X N scope s H fp) ρ1 (S i) (S (i+1)) elt ifs z)
    {use:Option (Value->Sem Unit)} {pins:List (Addr×Obj)} {s:Shared} {σ:L2.St} {H:Hp} {G:Wd} {Q:Value->Shared->Prop} (I:L2.Inv X pins σ H s) (sa:SA X.K G H O) (en:Ar X.K G σ ρ)
    (fin:∀ (D C:Addr) (s':Shared) (H5:Hp) (G5:Wd) (vs:List V),L2.Inv X pins σ (An H5 D (.lst vs)) s'->Ag G G5->SA X.K G5 H5 (S xs.length)->H5 D=none->Aj X.K G5 (zs.filterMap id) vs->B9 X pins (An H5 D (.lst vs)) C->(∃ m,s'.heap.Ns C m)->compPost (model X.prog X.w) X.A X.xe use Q (.ref D) C (.ok .next) s')
    (hs:∀ x,foldedSetIterable iter X.env x=pure x:=by intro _; rfl) :
    wpAny (model X.prog X.w) X.A (comprehension (.ListComp elt [⟨tg,iter,ifs,0⟩] scope pos) scope X.env (firstIterPos [⟨tg,iter,ifs,0⟩] pos) (newList []) false (eval iter X.env) use) Q X.xe s:=by
  refine wpAny_comprehension_free rfl hs (Zd λy hy e=>I.ok.has _ (hfr y hy e)) hk hnm (Ao (hi G pins s σ H (λJ H1=>∃ G1,Ag G G1/\SA X.K G1 H1 O/\C6 X.K G1 J xs) I ⟨sa,en,λJ G1 H1 e1 s1 y1=>⟨G1,e1,s1,y1⟩⟩) λv s1 h1=>Ao h1 λitv s2 h2=>?_)
  obtain ⟨it,fp,tn,J,H2,e,I2,T,st2,f2,G2,e2,sa2,Yi⟩:=h2
  subst e
  have ho2:∀ b∈fp,∃ o,s2.heap.get? b=some o:=λb hb=>let ⟨o,q,_⟩:=T.obj 0 _ st2 b hb; ⟨o,q⟩
  have hlt:∀ b∈fp,b<s2.heap.objs.size:=λb hb=>let ⟨o,q⟩:=ho2 b hb; Heap.lt_size q
  unfold newList
  refine wpAny_newObj_type (Wj λbb hbb=>?_)
  have hbb':bb=X.env.builtins:=hbb
  subst hbb'
  have hz1:(s2.heap.push { cls:=.type "list",dict:=none,data:=.seq ([]:List Value).toArray }).objs.size=s2.heap.objs.size+1:=Heap.size_push ..
  dsimp only
  rw [hz1]
  generalize hD:s2.heap.objs.size=dd at hz1 ⊢
  -- the block's own context
  have en2:Ar X.K G2 σ ρ:=en.ext e2
  obtain ⟨σ0,hσl,hσ0⟩:=P7 (λi (o:Option V)=>(∀ d,ρ0[i]?=some (some d)->∃ v,o=some v/\Is X.K G2 d v)/\∀ v,o=some v->∃ (x:Str) (j:Nat),N[i]?=some x/\scope.names.lookup x=some .free/\(∀ y∈scope.names,y.1=x->y.2≠.cell)/\X.N[j]?=some x/\σ[j]?=some (some v)/\Dl X.env.scope x) N.length (λi hi=>by
    cases q:ρ0[i]? with
    | none=>exact ⟨none,And.intro (λd z=>nomatch z) (λv z=>nomatch z)⟩
    | some o=>
      cases o with
      | none=>exact ⟨none,And.intro (λd z=>nomatch z) (λv z=>nomatch z)⟩
      | some d=>
        obtain ⟨x,j,q1,q2,q3,q4,q5,q6⟩:=h0 i d q
        obtain ⟨v,q7,q8⟩:=en2.get j d q5
        exact ⟨some v,And.intro (λd' z=>by cases z; exact ⟨v,rfl,q8⟩) (λv' z=>by cases z; exact ⟨x,j,q1,q2,q3,q4,q7,q6⟩)⟩)
  have en0:Ar X.K G2 σ0 ρ0:=⟨hσl.trans hl0.symm,λi d e=>by
    have hi:i<σ0.length:=by rw [hσl,<- hl0]; exact (List.getElem?_eq_some_iff.mp e).1
    obtain ⟨v,e1,e2⟩:=(hσ0 i σ0[i] (List.getElem?_eq_getElem hi)).1 d e
    exact ⟨v,by rw [List.getElem?_eq_getElem hi,e1],e2⟩⟩
  have I3:=Xg (N:=N) (scope:=scope) (fp:=fp) (σ0:=σ0) I2 f2 ho2 hk hfr hσl (λi v e=>(hσ0 i _ e).2 v rfl) s2.toks { cls:=.type "list",dict:=none,data:=.seq ([]:List Value).toArray }
  generalize hY:Em X N scope s2 H2 fp=Y at I3
  have hD1:(pushCells ((s2.heap.push { cls:=.type "list",dict:=none,data:=.seq ([]:List Value).toArray }).push { cls:=.type "dict",data:=.dict #[] }) scope.names).get? dd=some (CZ []):=by
    refine pushCells_keeps _ _ _ _ (Heap.get?_push_of_some _ ?_)
    rw [<- hD]
    exact Heap.get?_push_size _ rfl
  have hHD:H2 dd=none:=I2.hok.fresh (by rw [hD]; exact Nat.le_refl _)
  have hsD:s2.heap.get? dd=none:=Heap.get?_none_of_le (by rw [hD]; exact Nat.le_refl _)
  have hDC:dd≠Y.env.locals:=by
    rw [<- hY]; show dd≠s2.heap.objs.size+1; rw [hD]; exact Nat.ne_of_lt (Nat.lt_succ_self _)
  have hfs:∀ b∈AV X.stack,b<s2.heap.objs.size:=λb hb=>by
    rcases List.mem_cons.mp (I2.stkSub b hb) with q | q
    · rw [q]; exact I2.lt
    · exact Nat.lt_of_not_le λz=>I2.nofs z q
  have hYfs:Y.fs=AV X.stack:=by rw [<- hY]; rfl
  have hDfs:dd∉Y.fs:=λz=>by rw [hYfs] at z; have:=hfs dd z; rw [hD] at this; exact Nat.lt_irrefl _ this
  have hYex:Y.ex=fp:=by rw [<- hY]; rfl
  have hYpn:Y.pn=[]:=by rw [<- hY]; rfl
  have hYxe:Y.xe=λ_ _=>False:=by rw [<- hY]; rfl
  have hYs:Y.s₀.heap.objs.size=dd:=by rw [<- hY]; exact hD
  have hYc:∀ x c,Y.env.cells.lookup x=some c->c≠dd/\∀ b∈fp,c≠b:=λx c e=>by
    refine ⟨?_,λb hb=>?_⟩
    ·
      intro z
      subst z
      obtain ⟨v,o,q1,q2⟩:=I3.cell x c e
      rw [hD1] at q1; cases q1; cases q2
    ·
      have:=I3.ok.exf b (by rw [hYex]; exact hb)
      exact this.2 x c e
  have fpY:∀ {H':Hp} {pl:List (Addr×Obj)},(∀ b∈fp,H' b=none)->(∀ p∈pl,p.1=dd)->∀ b∈fp,B9 Y pl H' b:=λhn hp b hb=>⟨hn b hb,(I3.ok.exf b (by rw [hYex]; exact hb)).1,I3.ok.exfs b (by rw [hYex]; exact hb),.inl (by rw [hYex]; exact hb),λx c e=>(hYc x c e).2 b hb,λp hq=>by
    rw [hYpn,List.nil_append] at hq
    rw [hp p hq]
    exact Nat.ne_of_gt (by rw [<- hD]; exact hlt b hb)⟩
  have I4:L2.Inv Y [(dd,CZ [])] σ0 H2 { s2 with heap:=pushCells ((s2.heap.push { cls:=.type "list",dict:=none,data:=.seq ([]:List Value).toArray }).push { cls:=.type "dict",data:=.dict #[] }) scope.names,toks:=s2.toks }:=I3.pins_of λp hp=>by
    rw [List.mem_singleton.mp hp]
    exact ⟨hD1,hHD,hDC,hDfs,λv z=>by cases z⟩
  have st4:tn 0 (pushCells ((s2.heap.push { cls:=.type "list",dict:=none,data:=.seq ([]:List Value).toArray }).push { cls:=.type "dict",data:=.dict #[] }) scope.names):=T.keep 0 _ _ st2 λb hb o e=>pushCells_keeps _ _ b o (Heap.get?_push_of_some _ (Heap.get?_push_of_some _ e))
  have hYp:Y.prog=X.prog:=by rw [<- hY]; rfl
  have hYw:Y.w=X.w:=by rw [<- hY]; rfl
  have hYK:Y.K=X.K:=by rw [<- hY]; rfl
  have hYA:Y.A=X.A:=by rw [<- hY]; rfl
  have hYcm:Y.calm=true:=by rw [<- hY]; exact hc
  have loop:∀ s3:Shared,s3={ s2 with heap:=pushCells ((s2.heap.push { cls:=.type "list",dict:=none,data:=.seq ([]:List Value).toArray }).push { cls:=.type "dict",data:=.dict #[] }) scope.names }->
      codeAny (model X.prog X.w) X.A (.compLoop (.ListComp elt [⟨tg,iter,ifs,0⟩] scope pos) 0 (.ref it) (.ref dd) Y.env) (compPost (model X.prog X.w) X.A X.xe use Q (.ref dd) (dd+1)) s3:=by
    rintro s3 rfl
    refine Y3 (λn s'=>∃ (i:Nat) (G':Wd) (σ':L2.St) (H':Hp) (vs:List V) (its:List Value),n=xs.length-i/\i<=xs.length/\L2.Inv Y [(dd,CZ its)] σ' H' s'/\tn i s'.heap/\(∀ b∈fp,H' b=none)/\Ag G2 G'/\SA X.K G' H' (S i)/\Ar X.K G' σ' ρ0 /\
      Aj X.K G' ((zs.take i).filterMap id) vs/\Aq vs its/\its.length<=i) ?_ xs.length _ ⟨0,G2,σ0,H2,[],[],rfl,Nat.zero_le _,I4,st4,λb hb=>(f2 b hb).1,Ag.refl _,hS0 ▸ sa2,en0,.nil,.nil,Nat.le_refl _⟩
    rintro n s5 F ⟨i,G5,σ5,H5,vs,its,rfl,hil,I5,st5,fr5,e5,sa5,en5,is5,va5,hl5⟩
    by_cases hlt5:i<xs.length
    ·
      have hx:xs[i]?=some xs[i]:=List.getElem?_eq_getElem hlt5
      have hzi:i<zs.length:=by omega
      have hz:zs[i]?=some zs[i]:=List.getElem?_eq_getElem hzi
      generalize xs[i]=x at hx
      generalize zs[i]=z at hz
      have it5:=T.item Y hYp hYw hYK hYcm i [(dd,CZ its)] s5 σ5 H5 F I5 (fpY fr5 (λp hp=>by rw [List.mem_singleton.mp hp])) st5 (Yi.go i H5 (e5.g.trans sa5.sub) hlt5)
      rw [hYA] at it5
      refine Ao it5 λr s6 ⟨u,hr,h6⟩=>?_
      subst hr
      refine Ao h6 λ_ s7 ⟨xv,H7,I7,r7,y7,st7,fr7⟩=>?_
      obtain ⟨x',G7,hx',e7,sa7,ix⟩:=Yi.yld i xv H5 H7 G5 (S i) e5 sa5 y7 hlt5
      have:x'=x:=Option.some.inj (hx'.symm.trans hx)
      subst this
      have I7':=I7.pinned (fpY fr7 (λp hp=>by rw [List.mem_singleton.mp hp])) (T.obj _ _ st7)
      obtain ⟨ρ1,tg1,hl1,hs1,kp1⟩:=turn s2 H2 fp i x' z hx hz
      rw [hY] at tg1 kp1
      have xeF:∀ {α:Type} {t:Sem α} {P:α->Shared->Prop} {q:Shared},wpAny (model Y.prog Y.w) Y.A t P Y.xe q->wpAny (model X.prog X.w) X.A t P F q:=λh=>by
        rw [hYp,hYw,hYA,hYxe] at h
        exact wpAny_mono h (λ_ _ q=>q) λ_ _ q=>q.elim
      refine Ao (xeF (tg1 G7 _ s7 σ5 H7 xv u (λσ' H'=>Ar X.K G7 σ' ρ1/\H'=H7) I7' r7 (by
        rw [hYK]
        exact ⟨ix,sa7.sub,en5.ext e7,λσ' q=>⟨q,rfl⟩⟩))) λ_ s8 ⟨σ8,H8,I8,en8,hH8⟩=>?_
      subst hH8
      -- back to the invariant,with or without one more
      have again:∀ {s9:Shared} {H9:Hp} {G9:Wd} {its':List Value} {vs':List V},L2.Inv Y ((dd,CZ its')::Ec fp s7.heap) σ8 H9 s9->Ag G7 G9->SA X.K G9 H9 (S (i+1))->Aj X.K G9 ((zs.take (i+1)).filterMap id) vs'->Aq vs' its'->its'.length<=i+1->
          ∃ m,m<xs.length-i/\∃ (i:Nat) (G':Wd) (σ':L2.St) (H':Hp) (vs:List V) (its:List Value),m=xs.length-i/\i<=xs.length/\L2.Inv Y [(dd,CZ its)] σ' H' s9/\tn i s9.heap/\(∀ b∈fp,H' b=none)/\Ag G2 G'/\SA X.K G' H' (S i)/\Ar X.K G' σ' ρ0 /\
            Aj X.K G' ((zs.take i).filterMap id) vs/\Aq vs its/\its.length<=i:=λ{s9 H9 G9 its' vs'} I9 e9 sa9 is9 va9 hl9=>by
        refine ⟨xs.length-(i+1),by omega,i+1,G9,σ8,H9,vs',its',rfl,hlt5,I9.pins_of (λp hp=>I9.pin p (by rw [hYpn,List.nil_append]; rw [List.mem_singleton.mp hp]; exact List.mem_cons_self)),T.keep _ _ _ st7 λb hb o e=>(I9.pin (b,o) (by rw [hYpn,List.nil_append]; exact List.mem_cons_of_mem _ (Ip hb e))).1,λb hb=>?_,(e5.trans e7).trans e9,sa9,(en8.weak hl1.symm hs1).ext e9,is9,va9,hl9⟩
        obtain ⟨o,e,_⟩:=T.obj _ _ st7 b hb
        exact (I9.pin (b,o) (by rw [hYpn,List.nil_append]; exact List.mem_cons_of_mem _ (Ip hb e))).2.1
      have more:∀ {y:D} {s9:Shared} {G9:Wd} {H9:Hp},z=some y->L2.Inv Y ([(dd,CZ its)]++Ec fp s7.heap) σ8 H9 s9->Ag G7 G9->SA X.K G9 H9 (S i)->Ev Y ρ1 (S i) elt (λd O'=>d=y/\O'=S (i+1))->wpAny (model X.prog X.w) X.A (eval elt Y.env) (λx s5=>wpAny (model X.prog X.w) X.A (call (.builtin "list.append") [.ref dd,x]) (λ_ s6=>∃ m,m<xs.length-i/\∃ (i:Nat) (G':Wd) (σ':L2.St) (H':Hp) (vs:List V) (its:List Value),m=xs.length-i/\i<=xs.length/\L2.Inv Y [(dd,CZ its)] σ' H' s6/\tn i s6.heap/\(∀ b∈fp,H' b=none)/\Ag G2 G'/\SA X.K G' H' (S i)/\Ar X.K G' σ' ρ0 /\
            Aj X.K G' ((zs.take i).filterMap id) vs/\Aq vs its/\its.length<=i) F s5) F s9:=λ{y s9 G9 H9} hzy I9 e9 sa9 ev=>by
        refine Ao (xeF (ev G9 _ s9 σ8 H9 (λv H'=>∃ G',Ag G9 G'/\SA X.K G' H' (S (i+1))/\Is X.K G' y v) I9 (by
          rw [hYK]
          exact ⟨sa9,en8.ext e9,λv d O' G' H' q1 q2 q3 q4=>by obtain ⟨rfl,rfl⟩:=q4; exact ⟨G',q1,q2,q3⟩⟩))) λuy s10 ⟨vy,H10,I10,r10,G10,e10,sa10,iy⟩=>?_
        have p10:=I10.pin (dd,CZ its) (by rw [hYpn,List.nil_append]; exact List.mem_append_left _ List.mem_cons_self)
        refine append_at (hsz:=by show its.toArray.size<=sizeLine; rw [List.size_toArray]; omega) p10.1 λh' hs' hD'=>?_
        have Ia:L2.Inv Y (Ec fp s7.heap) σ8 H10 s10:=I10.pins_of λp hp=>I10.pin p (by rw [hYpn,List.nil_append]; exact List.mem_append_right _ hp)
        have Ib:L2.Inv Y (Ec fp s7.heap) σ8 H10 { s10 with heap:=h' }:=Ia.turned (t':=s10.toks) (λb o hb e=>(hs'.2 b hb).trans e) p10.2.1 hDC (.inr (by rw [hYs]; exact Nat.le_refl _)) (λx c e=>(hYc x c e).1) (λp hp=>by
          rw [hYpn,List.nil_append] at hp
          obtain ⟨hb,_⟩:=OZ hp
          exact Nat.ne_of_lt (by rw [<- hD]; exact hlt p.1 hb))
        have Ic:L2.Inv Y ((dd,CZ (its++[uy]))::Ec fp s7.heap) σ8 H10 { s10 with heap:=h' }:=Ib.pins_of λp hp=>by
          rcases List.mem_cons.mp hp with q | q
          ·
            rw [q]
            refine ⟨hD'.trans ?_,p10.2.1,hDC,hDfs,λv z=>by cases z⟩
            congr 1
            simp [CZ]
          · exact Ib.pin p (by rw [hYpn,List.nil_append]; exact q)
        refine again Ic (e9.trans e10) sa10 (vs':=vs++[vy]) ?_ (va5.append (.cons r10 .nil)) (by rw [List.length_append,List.length_singleton]; omega)
        rw [PU zs i z hz,hzy]
        exact (is5.ext ((e7.trans e9).trans e10)).append (.cons iy .nil)
      match ifs,kp1 with
      | [],kp1=>
        obtain ⟨y,hzy,ev⟩:=kp1
        unfold compTests
        refine wpAny_bind (wpAny_tests_nil (wpAny_pure ?_))
        simp only [if_true]
        exact more hzy I8 (Ag.refl _) sa7 ev
      | [c],kp1=>
        obtain ⟨k,tc,ht,hff⟩:=kp1
        unfold compTests
        refine wpAny_bind (wpAny_tests_one (Ao (xeF (tc G7 _ s8 σ8 H8 (λb H'=>b=k/\∃ G',Ag G7 G'/\SA X.K G' H' (S i)) I8 (by
          rw [hYK]
          exact ⟨sa7,en8,λG' H' q1 q2=>⟨rfl,G',q1,q2⟩⟩))) λb s9 ⟨H9,I9,hb,G9,e9,sa9⟩=>wpAny_pure ?_))
        subst hb
        cases b with
        | true=>
          obtain ⟨y,hzy,ev⟩:=ht rfl
          simp only [if_true]
          exact more hzy I9 e9 sa9 ev
        | false=>
          simp only [Bool.false_eq_true,if_false]
          refine again I9 e9 (by rw [(hff rfl).2]; exact sa9) (vs':=vs) ?_ va5 (Nat.le_succ_of_le hl5)
          rw [PU zs i z hz,(hff rfl).1]
          simpa using is5.ext (e7.trans e9)
      | _::_::_,kp1=>exact kp1.elim
    ·
      have hie:i=xs.length:=by omega
      subst hie
      have dn:=T.done Y hYp hYw hYK hYcm xs.length [(dd,CZ its)] s5 σ5 H5 F I5 (fpY fr5 (λp hp=>by rw [List.mem_singleton.mp hp])) st5 (Yi.stop _ H5 (e5.g.trans sa5.sub) (Nat.le_refl _))
      rw [hYA] at dn
      refine Ao dn λr s6 ⟨hr,I6⟩=>?_
      subst hr
      have p6:=I6.pin (dd,CZ its) (by rw [hYpn,List.nil_append]; exact List.mem_cons_self)
      rw [<- hzl,List.take_length] at is5
      have vl:vs.length<=sizeLine:=by rw [va5.length]; omega
      have Ix:L2.Inv X pins σ (An H5 dd (.lst vs)) s6:=by
        have un:=I6.base
        rw [hYfs,hYex,<- hY] at un
        have un:Un (AV X.stack) fp H2 H5 s2.heap s6.heap:=un
        refine I2.call' (ch:=fp) (I6.os.trans (by rw [<- hY]; rfl)) (ZL un hHD hsD) ?_ I6.bare λb hb=>?_
        ·
          have hk6:=I6.hok
          rw [hYp,hYw] at hk6
          exact Rm hk6 p6.2.1 ⟨vl,its,its.length,va5,p6.1⟩
        ·
          obtain ⟨_,f1,_,f3,f4,f5⟩:=f2 b hb
          exact ⟨f3,f1,f4,f5⟩
      refine fin dd (dd+1) s6 _ _ vs Ix (e2.trans e5) sa5 p6.2.1 is5 ?_ ?_
      ·
        have hC:dd+1=Y.env.locals:=by rw [<- hY]; show dd+1=s2.heap.objs.size+1; rw [hD]
        have ge:s2.heap.objs.size<=dd+1:=by rw [hD]; exact Nat.le_succ _
        have:=I2.fpOk (H':=An H5 dd (.lst vs)) ge (by
          have q:=I6.free
          rw [<- hC] at q
          rw [As (show dd+1≠dd from Nat.succ_ne_self _)]
          exact q)
        exact this
      ·
        obtain ⟨m,hn,_⟩:=I6.loc
        rw [<- hY] at hn
        have hn:s6.heap.Ns (s2.heap.objs.size+1) m:=hn
        rw [hD] at hn
        exact ⟨m,hn⟩
  have eY:Y.env={ scope:=relabel scope X.env,locals:=dd+1,globals:=X.env.globals,cells:=cellsFrom (dd+1+1) scope.names (CP X.env scope.names []),qual:=X.env.qual,func:=none,code:=X.env.code,frame:=X.env.frame,builtins:=X.env.builtins }:=by
    rw [<- hY]
    show compEnvC _ _ _ _=_
    rw [hD]
    rfl
  rw [<- eY]
  exact codeAny_compStart_list (loop _ rfl) (T.self X.A 0 _ _ _ st4 (loop _ rfl))
theorem Y1 (N:List Str) (js:List Nat) (ρ0:Am) (hi:Cn X ρ O tg iter xs) (hc:X.calm=true) (hk:scope.kind=.function) (hfr:Jp X scope) (hnm:∀ x∈scope.names,x.2=.local->scope.names.lookup x.1=some .local)
  (hl0:ρ0.length=N.length)
  (h0:∀ (i:Nat) (d:D),ρ0[i]?=some (some d)->∃ (x:Str) (j:Nat),N[i]?=some x/\scope.names.lookup x=some .free/\(∀ y∈scope.names,y.1=x->y.2≠.cell)/\X.N[j]?=some x/\ρ[j]?=some (some d)/\Dl X.env.scope x)
  (hzl:zs.length=xs.length) (hsz:xs.length<=sizeLine)
  (turn:∀ (s:Shared) (H:Hp) (fp:List Addr) (i:Nat) (x:D) (z:Option D),xs[i]?=some x->zs[i]?=some z->∃ ρ1,Tg (Em X N scope s H fp) tg x ρ0 ρ1/\ρ1.length=ρ0.length/\(∀ (j:Nat) (d:D),ρ0[j]?=some (some d)->ρ1[j]?=some (some d))/\Jn (Em X N scope s H fp) ρ1 O elt ifs z)
  {use:Option (Value->Sem Unit)} {pins:List (Addr×Obj)} {s:Shared} {σ:L2.St} {H:Hp} {G:Wd} {Q:Value->Shared->Prop} (I:L2.Inv X pins σ H s) (sa:SA X.K G H O) (en:Ar X.K G σ ρ)
  (fin:∀ (D C:Addr) (s':Shared) (H':Hp) (G':Wd),L2.Inv X pins σ H' s'->Ag G G'->SA X.K G' H' O->Is X.K G' (.lst (zs.filterMap id)) (.ref D)->B9 X pins H' C->(∃ m,s'.heap.Ns C m)->compPost (model X.prog X.w) X.A X.xe use Q (.ref D) C (.ok .next) s')
  (hs:∀ x,foldedSetIterable iter X.env x=pure x:=by intro _; rfl) :
  wpAny (model X.prog X.w) X.A (comprehension (.ListComp elt [⟨tg,iter,ifs,0⟩] scope pos) scope X.env (firstIterPos [⟨tg,iter,ifs,0⟩] pos) (newList []) false (eval iter X.env) use) Q X.xe s:=by
 refine Y0 (λ_=>O) rfl N js ρ0 hi hc hk hfr hnm hl0 h0 hzl hsz (λs H fp i x z q1 q2=>?_) I sa en (λD C s' H5 G5 vs I5 e5 sa5 hD is5 f5 n5=>?_) hs
 ·obtain ⟨ρ1,t1,t2,t3,t4⟩:=turn s H fp i x z q1 q2
  exact ⟨ρ1,t1,t2,t3,t4.s⟩
 ·obtain ⟨ed,sd⟩:=sa5.laid (p:=D) (o:=.lst vs) hD
  exact fin D C s' _ _ I5 (e5.trans ed) sd (.lst AJ (is5.ext ed)) f5 n5
def Eh (XN:List Str) (xs cs:List (Str×NameKind)) (F:List Str) (js:List Nat):Bool:=
 (js.map λj=>XN[j]?)==F.map some&&(F.all λx=>cs.lookup x==some .free&&(cs.all λy=>y.1 != x||y.2 != .cell)&&(xs.lookup x==some .cell||xs.lookup x==some .free)) &&
 (cs.all λy=>(y.2 != .free||xs.lookup y.1==some .cell||xs.lookup y.1==some .free)&&(y.2 != .local||cs.lookup y.1==some .local))
def EF (ρ:Am) (js:List Nat):Am:=js.map λj=>(ρ[j]?).getD none
theorem XE {F:List Str} {js:List Nat} (h:Eh X.N X.env.scope.names scope.names F js=true):Jp X scope:=λy hy e=>by
 unfold Eh at h
 simp only [Bool.and_eq_true,List.all_eq_true] at h
 have q:=(h.2 y hy).1
 rw [e] at q
 have q:(X.env.scope.names.lookup y.1==some .cell||X.env.scope.names.lookup y.1==some .free)=true:=by simpa using q
 rcases (Bool.or_eq_true _ _).mp q with q | q
 ·exact .inl (show X.env.scope.names.lookup y.1=_ by simpa using q)
 ·exact .inr (show X.env.scope.names.lookup y.1=_ by simpa using q)
theorem XD {F:List Str} {js:List Nat} (h:Eh X.N X.env.scope.names scope.names F js=true):∀ x∈scope.names,x.2=.local->scope.names.lookup x.1=some .local:=λy hy e=>by
 unfold Eh at h
 simp only [Bool.and_eq_true,List.all_eq_true] at h
 have q:=(h.2 y hy).2
 rw [e] at q
 simpa using q
theorem XF {T F:List Str} {js:List Nat} (h:Eh X.N X.env.scope.names scope.names F js=true) (i:Nat) (d:D) (e:(T.map (λ_=>(none:Option D))++EF ρ js)[i]?=some (some d)) :
  ∃ (x:Str) (j:Nat),(T++F)[i]?=some x/\scope.names.lookup x=some .free/\(∀ y∈scope.names,y.1=x->y.2≠.cell)/\X.N[j]?=some x/\ρ[j]?=some (some d)/\Dl X.env.scope x:=by
 unfold Eh at h
 simp only [Bool.and_eq_true,List.all_eq_true,beq_iff_eq] at h
 obtain ⟨⟨h1,h2⟩,h3⟩:=h
 by_cases hi:i<T.length
 ·rw [List.getElem?_append_left (by simpa using hi),List.getElem?_map] at e
  cases q:T[i]? with
  | none=>rw [q] at e; cases e
  | some _=>rw [q] at e; cases e
 ·rw [List.getElem?_append_right (by simpa using hi),List.length_map] at e
  unfold EF at e
  rw [List.getElem?_map] at e
  cases q:js[i-T.length]? with
  | none=>rw [q] at e; cases e
  | some j=>
   rw [q] at e
   have e:(ρ[j]?).getD none=some d:=Option.some.inj e
   have hρ:ρ[j]?=some (some d):=by
    cases q2:ρ[j]? with
    | none=>rw [q2] at e; cases e
    | some o=>rw [q2] at e; rw [show o=some d from e]
   have hF:=congrArg (λl=>l[i-T.length]?) h1
   simp only [List.getElem?_map,q,Option.map_some] at hF
   cases qF:F[i-T.length]? with
   | none=>rw [qF] at hF; cases hF
   | some x=>
    rw [qF] at hF
    have hF:X.N[j]?=some x:=Option.some.inj hF
    obtain ⟨⟨g1,g2⟩,g3⟩:=h2 x (List.mem_of_getElem? qF)
    refine ⟨x,j,by rw [List.getElem?_append_right wF]; exact qF,g1,λy hy ey=>?_,hF,hρ,?_⟩
    ·have:=g2 y hy
     rw [ey] at this
     simpa using this
    ·rcases (Bool.or_eq_true _ _).mp g3 with g | g
     ·exact .inr (.inl (by simpa using g))
     ·exact .inr (.inr (by simpa using g))
theorem SH {ts fr:Am} {T:List Str} (h:ts.length=T.length):(ts++fr).length=(T.map (λ_=>(none:Option D))++fr).length/\∀ (j:Nat) (d:D),(T.map (λ_=>(none:Option D))++fr)[j]?=some (some d)->(ts++fr)[j]?=some (some d):=by
 refine ⟨by simp [h],λj d e=>?_⟩
 by_cases hj:j<T.length
 ·rw [List.getElem?_append_left (by simpa using hj),List.getElem?_map] at e
  cases q:T[j]? with
  | none=>rw [q] at e; cases e
  | some _=>rw [q] at e; cases e
 ·rw [List.getElem?_append_right (by simpa using hj),List.length_map] at e
  rw [List.getElem?_append_right wF,h]
  exact e
def Nj (X:Cx) (T F:List Str) (js:List Nat) (ρ:Am) (O:Ad) (scope:Scope) (tg elt:Expr) (ifs:List Expr) (x:D) (z:Option D):Prop:=
 ∀ (s:Shared) (H:Hp) (fp:List Addr),∃ ts:Am,ts.length=T.length/\Tg (Em X (T++F) scope s H fp) tg x (T.map (λ_=>(none:Option D))++EF ρ js) (ts++EF ρ js)/\Jn (Em X (T++F) scope s H fp) (ts++EF ρ js) O elt ifs z
theorem Ym (T F:List Str) (js:List Nat) (hi:Cn X ρ O tg iter xs) (hzl:zs.length=xs.length) (hsz:xs.length<=sizeLine) (turn:∀ (i:Nat) (x:D) (z:Option D),xs[i]?=some x->zs[i]?=some z->Nj X T F js ρ O scope tg elt ifs x z)
  (hfl:F.length=js.length) (hB:Eh X.N X.env.scope.names scope.names F js=true) (hc:X.calm=true) (hk:scope.kind=.function) (hs:∀ x,foldedSetIterable iter X.env x=pure x) :
  Ac X ρ O (.ListComp elt [⟨tg,iter,ifs,0⟩] scope pos) (.lst (zs.filterMap id)):=λG pins s σ H Q I ⟨h1,h2,h3⟩=>by
 rw [eval_ListComp]
 refine Y1 (T++F) js (T.map (λ_=>(none:Option D))++EF ρ js) hi hc hk (XE hB) (XD hB) (by simp [EF,hfl]) (XF hB) hzl hsz (λs H fp i x z q1 q2=>?_) I h1 h2 (λdd C s' H' G' I' e' sa' is' fo ns=>?_) hs
 ·obtain ⟨ts,t1,t2,t3⟩:=turn i x z q1 q2 s H fp
  obtain ⟨u1,u2⟩:=SH (fr:=EF ρ js) t1
  exact ⟨_,t2,u1,u2,t3⟩
 ·obtain ⟨m,hn⟩:=ns
  refine ⟨m,hn,λh' hs'=>?_⟩
  obtain ⟨f0,f1,f2,f3,f4,f5⟩:=fo
  exact ⟨.ref dd,H',I'.turned (t':=s'.toks) (λb o hb e=>(hs'.2 b hb).trans e) f0 f1 f3 f4 f5,rfl,h3 _ G' H' e' sa' is'⟩
end
end DL
namespace DL
open PySem PySem.Spec PyProof.Rows L2 PySem.W
def A6 {α:Type} (lt:Nat->Nat->Bool):KasT α->α
 | .ret a=>a
 | .ask i j k=>A6 lt (k (lt i j))
theorem Fg {α β:Type} (lt:Nat->Nat->Bool) (f:α->KasT β):∀ t:KasT α,A6 lt (t.bind f)=A6 lt (f (A6 lt t))
 | .ret _=>rfl
 | .ask i j k=>Fg lt f (k (lt i j))
section
variable (key:Nat->Int)
abbrev BA (i j:Nat):Bool:=decide (key i<key j)
def KQ (p:Array Nat) (i:Nat):Int:=key (p.getD i 0)
theorem MZ (p:Array Nat):∀ (f n:Nat),∃ m,A6 (BA key) (kas_asc p f n)=m/\n<=m/\m<=n+f/\(∀ k,n<=k->k<m->KQ key p (k-1)<=KQ key p k)/\(m=n+f\/KQ key p m<KQ key p (m-1))
 | 0,n=>⟨n,rfl,Nat.le_refl _,Nat.le_refl _,λk h1 h2=>by omega,.inl rfl⟩
 | f+1,n=>by
  by_cases h:KQ key p n<KQ key p (n-1)
  ·refine ⟨n,?_,Nat.le_refl _,by omega,λk h1 h2=>by omega,.inr h⟩
   show A6 _ (if BA key _ _=true then _ else _)=_
   rw [if_pos (decide_eq_true (show key (p.getD n 0)<key (p.getD (n-1) 0) from h))]
   rfl
  ·obtain ⟨m,e,h1,h2,h3,h4⟩:=MZ p f (n+1)
   refine ⟨m,?_,by omega,by omega,λk g1 g2=>?_,by rcases h4 with h4 | h4; exact .inl wF; exact .inr h4⟩
   ·show A6 _ (if BA key _ _=true then _ else _)=_
    rw [if_neg (by simpa [BA] using (show ¬ key (p.getD n 0)<key (p.getD (n-1) 0) from h))]
    exact e
   ·by_cases hk:k=n
    ·subst hk; exact Int.not_lt.mp h
    ·exact h3 k wF g2
theorem Eg {p:Array Nat} {i:Nat}:p.getD i 0=(p[i]?).getD 0:=by
 by_cases h:i<p.size
 ·simp [Array.getD,h]
 ·simp [Array.getD,h]
theorem Nb {p:Array Nat} {i j:Nat} (hj:j<=p.size) (k:Nat):KQ key (kas_rev p i j) k=if i<=k/\k<j then KQ key p (i+j-1-k) else KQ key p k:=by
 unfold KQ kas_rev
 rw [Eg,getElem?_mirror_all hj k]
 split
 ·rw [Eg]
 ·rw [Eg]
theorem Na {p:Array Nat} {i j:Nat} (hj:j<=p.size) (h:∀ k,i<=k->k<j->KQ key p k=KQ key p (j-1)) (k:Nat):KQ key (kas_rev p i j) k=KQ key p k:=by
 rw [Nb key hj k]
 split
 ·next hk=>rw [h k hk.1 hk.2,h _ wF wF]
 ·rfl
theorem IQ:∀ (f:Nat) (p:Array Nat) (n q:Nat),q+1<=n->n+f<=p.size->(∀ i j,i<=j->j<n->KQ key p j<=KQ key p i)->(∀ k,n-(q+1)<=k->k<n->KQ key p k=KQ key p (n-1))->
  ∃ p' n' q',A6 (BA key) (kas_desc f p n q)=(p',n',q')/\n<=n'/\n'<=n+f/\q'+1<=n'/\p'.Perm p/\p'.size=p.size/\(∀ i j,i<=j->j<n'->KQ key p' j<=KQ key p' i)/\(∀ k,n'-(q'+1)<=k->k<n'->KQ key p' k=KQ key p' (n'-1))
 | 0,p,n,q,h1,h2,h3,h4=>⟨p,n,q,rfl,Nat.le_refl _,Nat.le_refl _,h1,Array.Perm.refl _,rfl,h3,h4⟩
 | f+1,p,n,q,h1,h2,h3,h4=>by
  by_cases h:KQ key p n<KQ key p (n-1)
  ·have step:∀ p2:Array Nat,p2.Perm p->p2.size=p.size->(∀ k,KQ key p2 k=KQ key p k)->(∀ i j,i<=j->j<n+1->KQ key p2 j<=KQ key p2 i):=λp2 _ _ e i j hij hj=>by
    rw [e,e]
    by_cases hjn:j=n
    ·subst hjn
     by_cases hin:i=j
     ·subst hin; exact Int.le_refl _
     ·have:=h3 i (j-1) wF wF; omega
    ·exact h3 i j hij wF
   by_cases hq:q>0
   ·have hE:∀ k,KQ key (kas_rev p (n-(q+1)) n) k=KQ key p k:=Na key wF h4
    obtain ⟨p',n',q',e,g⟩:=IQ f (kas_rev p (n-(q+1)) n) (n+1) 0 wF (by rw [kas_rev_size]; omega) (step _ (mirror_perm _ _ _ _) (kas_rev_size _ _) hE) (λk k1 k2=>by rw [show k=n+1-1 by omega])
    refine ⟨p',n',q',?_,by omega,by omega,g.2.2.1,g.2.2.2.1.trans (mirror_perm _ _ _ _),g.2.2.2.2.1.trans (kas_rev_size _ _),g.2.2.2.2.2⟩
    show A6 _ (if BA key _ _=true then _ else _)=_
    rw [if_pos (decide_eq_true (show key (p.getD n 0)<key (p.getD (n-1) 0) from h)),if_pos hq]
    exact e
   ·obtain ⟨p',n',q',e,g⟩:=IQ f p (n+1) 0 wF wF (step _ (Array.Perm.refl _) rfl λ_=>rfl) (λk k1 k2=>by rw [show k=n+1-1 by omega])
    refine ⟨p',n',q',?_,by omega,by omega,g.2.2⟩
    show A6 _ (if BA key _ _=true then _ else _)=_
    rw [if_pos (decide_eq_true (show key (p.getD n 0)<key (p.getD (n-1) 0) from h)),if_neg hq]
    exact e
  ·by_cases h':KQ key p (n-1)<KQ key p n
   ·refine ⟨p,n,q,?_,Nat.le_refl _,by omega,h1,Array.Perm.refl _,rfl,h3,h4⟩
    show A6 _ (if BA key _ _=true then _ else _)=_
    rw [if_neg (by simpa [BA] using (show ¬ key (p.getD n 0)<key (p.getD (n-1) 0) from h))]
    show A6 _ (if BA key _ _=true then _ else _)=_
    rw [if_pos (decide_eq_true (show key (p.getD (n-1) 0)<key (p.getD n 0) from h'))]
    rfl
   ·have he:KQ key p n=KQ key p (n-1):=by omega
    obtain ⟨p',n',q',e,g⟩:=IQ f p (n+1) (q+1) wF wF (λi j hij hj=>by
     by_cases hjn:j=n
     ·subst hjn
      by_cases hin:i=j
      ·subst hin; exact Int.le_refl _
      ·have:=h3 i (j-1) wF wF; omega
     ·exact h3 i j hij wF) (λk k1 k2=>by
     show _=KQ key p n
     by_cases hkn:k=n
     ·subst hkn; rfl
     ·rw [h4 k wF wF,he])
    refine ⟨p',n',q',?_,by omega,by omega,g.2.2⟩
    show A6 _ (if BA key _ _=true then _ else _)=_
    rw [if_neg (by simpa [BA] using (show ¬ key (p.getD n 0)<key (p.getD (n-1) 0) from h))]
    show A6 _ (if BA key _ _=true then _ else _)=_
    rw [if_neg (by simpa [BA] using (show ¬ key (p.getD (n-1) 0)<key (p.getD n 0) from h'))]
    exact e
def CV (p:Array Nat) (m:Nat):Prop:=∀ i j,i<=j->j<m->KQ key p i<=KQ key p j
theorem NS {p:Array Nat} {m:Nat} (h:∀ k,1<=k->k<m->KQ key p (k-1)<=KQ key p k):CV key p m:=by
  intro i j hij hj
  induction j with
  | zero=>
            have:i=0:=by omega
            subst this; exact Int.le_refl _
  | succ j ih=>
    by_cases e:i=j+1
    · subst e; exact Int.le_refl _
    · exact Int.le_trans (ih wF wF) (h (j+1) wF hj)
theorem NA {n nrem:Nat} {p:Array Nat} (h1:1<=n) (hn:n<=nrem) (hz:nrem<=p.size) (h3:∀ i j,i<=j->j<n->KQ key p j<=KQ key p i):∃ m p',A6 (BA key) (kas_tail3 n nrem p)=(m,p')/\1<=m/\m<=nrem/\p'.Perm p/\p'.size=p.size/\CV key p' m:=by
 obtain ⟨m,e,g1,g2,g3,g4⟩:=MZ key (kas_rev p 0 n) (nrem-n) n
 refine ⟨m,kas_rev p 0 n,?_,by omega,by omega,mirror_perm _ _ _ _,kas_rev_size _ _,NS key λk k1 k2=>?_⟩
 ·unfold kas_tail3
  rw [Fg,e]
  rfl
 ·by_cases hk:n<=k
  ·exact g3 k hk k2
  ·rw [Nb key wF,Nb key wF,if_pos wF,if_pos wF]
   exact h3 _ _ wF wF
theorem Qt {n nrem:Nat} {p:Array Nat} (h1:1<=n) (hn:n+1<=nrem) (hz:nrem<=p.size) (h3:∀ i j,i<=j->j<n+1->KQ key p j<=KQ key p i):∃ m p',A6 (BA key) (kas_descPart n nrem p)=(m,p')/\1<=m/\m<=nrem/\p'.Perm p/\p'.size=p.size/\CV key p' m:=by
 obtain ⟨p1,n1,q1,e,g1,g2,g3,g4,g5,g6,g7⟩:=IQ key (nrem-(n+1)) p (n+1) 0 wF wF h3 (λk k1 k2=>by rw [show k=n+1-1 by omega])
 unfold kas_descPart
 rw [Fg,e]
 by_cases hq:q1>0
 ·have hE:∀ k,KQ key (kas_rev p1 (n1-(q1+1)) n1) k=KQ key p1 k:=Na key wF g7
  obtain ⟨m,p',e',k1,k2,k3,k4,k5⟩:=NA key (n:=n1) (nrem:=nrem) (p:=kas_rev p1 (n1-(q1+1)) n1) wF wF (by rw [kas_rev_size]; omega) (λi j hij hj=>by rw [hE,hE]; exact g6 i j hij hj)
  refine ⟨m,p',?_,k1,k2,k3.trans ((mirror_perm _ _ _ _).trans g4),k4.trans ((kas_rev_size _ _).trans g5),k5⟩
  show A6 _ (if q1>0 then _ else _)=_
  rw [if_pos hq]
  exact e'
 ·obtain ⟨m,p',e',k1,k2,k3,k4,k5⟩:=NA key (n:=n1) (nrem:=nrem) (p:=p1) wF wF wF g6
  refine ⟨m,p',?_,k1,k2,k3.trans g4,k4.trans g5,k5⟩
  show A6 _ (if q1>0 then _ else _)=_
  rw [if_neg hq]
  exact e'
theorem YY {nrem:Nat} {p:Array Nat} (h1:1<=nrem) (hz:nrem<=p.size):∃ m p',A6 (BA key) (kas_count nrem p)=(m,p')/\1<=m/\m<=nrem/\p'.Perm p/\p'.size=p.size/\CV key p' m:=by
 obtain ⟨n,e,g1,g2,g3,g4⟩:=MZ key p (nrem-1) 1
 have hs:CV key p n:=NS key λk k1 k2=>g3 k k1 k2
 unfold kas_count
 rw [Fg,e]
 by_cases hn:n=nrem
 ·refine ⟨n,p,?_,g1,by omega,Array.Perm.refl _,rfl,hs⟩
  rw [if_pos (by simpa using hn)]
  rfl
 ·rw [if_neg (by simpa using hn)]
  have hlt:KQ key p n<KQ key p (n-1):=by
   rcases g4 with g4 | g4
   ·omega
   ·exact g4
  by_cases hn1:n>1
  ·rw [if_pos hn1]
   by_cases hr:KQ key p 0<KQ key p (n-1)
   ·refine ⟨n,p,?_,g1,by omega,Array.Perm.refl _,rfl,hs⟩
    show A6 _ (if BA key _ _=true then _ else _)=_
    rw [if_pos (decide_eq_true (show key (p.getD 0 0)<key (p.getD (n-1) 0) from hr))]
    rfl
   ·have heq:∀ k,0<=k->k<n->KQ key p k=KQ key p (n-1):=λk _ hk=>by
     have a:=hs 0 k wF hk
     have b:=hs k (n-1) wF wF
     omega
    have hE:=Na key (p:=p) (i:=0) (j:=n) wF heq
    obtain ⟨m,p',e',k1,k2,k3,k4,k5⟩:=Qt key (n:=n) (nrem:=nrem) (p:=kas_rev p 0 n) wF wF (by rw [kas_rev_size]; exact hz) (λi j hij hj=>by
     rw [hE,hE]
     by_cases hjn:j=n
     ·subst hjn
      by_cases hin:i=j
      ·subst hin; exact Int.le_refl _
      ·rw [heq i wF wF]; omega
     ·rw [heq i wF wF,heq j wF wF]
      exact Int.le_refl _)
    refine ⟨m,p',?_,k1,k2,k3.trans (mirror_perm _ _ _ _),k4.trans (kas_rev_size _ _),k5⟩
    show A6 _ (if BA key _ _=true then _ else _)=_
    rw [if_neg (by simpa [BA] using (show ¬ key (p.getD 0 0)<key (p.getD (n-1) 0) from hr))]
    exact e'
  ·rw [if_neg hn1]
   obtain rfl:n=1:=by omega
   exact Qt key wF wF hz (λi j hij hj=>by
    by_cases hj1:j=1
    ·subst hj1
     by_cases hi1:i=1
     ·subst hi1; exact Int.le_refl _
     ·obtain rfl:i=0:=by omega
      exact Int.le_of_lt hlt
    ·obtain rfl:j=0:=by omega
     obtain rfl:i=0:=by omega
     exact Int.le_refl _)
theorem K3 (p:Array Nat) (k:Nat) (hs:CV key p k):∀ (f l r:Nat),l<=r->r<=k->r-l<=f->(∀ i,i<l->KQ key p i<=KQ key p k)->(∀ i,r<=i->i<k->KQ key p k<KQ key p i)->
  ∃ m,A6 (BA key) (kas_place p k f l r)=m/\m<=k/\(∀ i,i<m->KQ key p i<=KQ key p k)/\(∀ i,m<=i->i<k->KQ key p k<KQ key p i)
 | 0,l,r,h1,h2,h3,h4,h5=>⟨l,rfl,by omega,h4,λi g1 g2=>h5 i wF g2⟩
 | f+1,l,r,h1,h2,h3,h4,h5=>by
  by_cases hlr:l>=r
  ·refine ⟨l,?_,by omega,h4,λi g1 g2=>h5 i wF g2⟩
   show A6 _ (if l>=r then _ else _)=_
   rw [if_pos hlr]; rfl
  ·by_cases hc:KQ key p k<KQ key p ((l+r)/2)
   ·obtain ⟨m,e,g1,g2,g3⟩:=K3 p k hs f l ((l+r)/2) wF wF wF h4 (λi i1 i2=>by
     have:=hs ((l+r)/2) i i1 i2; omega)
    refine ⟨m,?_,g1,g2,g3⟩
    show A6 _ (if l>=r then _ else _)=_
    rw [if_neg hlr]
    show A6 _ (if BA key _ _=true then _ else _)=_
    rw [if_pos (decide_eq_true (show key (p.getD k 0)<key (p.getD ((l+r)/2) 0) from hc))]
    exact e
   ·obtain ⟨m,e,g1,g2,g3⟩:=K3 p k hs f ((l+r)/2+1) r wF h2 wF (λi i1=>by
     have:=hs i ((l+r)/2) wF wF; omega) h5
    refine ⟨m,?_,g1,g2,g3⟩
    show A6 _ (if l>=r then _ else _)=_
    rw [if_neg hlr]
    show A6 _ (if BA key _ _=true then _ else _)=_
    rw [if_neg (by simpa [BA] using (show ¬ key (p.getD k 0)<key (p.getD ((l+r)/2) 0) from hc))]
    exact e
end
end DL
set_option maxHeartbeats 2000000
namespace DL
open PySem PySem.Spec PyProof.Rows L2 PySem.W
def C7 (k:Bool) (h:Heap) (it l:Addr) (i:Nat):Prop:=if k then h.IsListIter it l i else h.IsTupleIter it l i
def BW (k:Bool) (h:Heap) (l:Addr) (xs:Array Value):Prop:=if k then h.IsList l xs else h.IsTuple l xs
section
variable {k:Bool} {h h':Heap} {it l b:Addr} {i:Nat} {xs:Array Value}
theorem C7.at (q:C7 k h it l i) (e:∀ o,h.get? it=some o->h'.get? it=some o):C7 k h' it l i:=by
 cases k with
 | true=>obtain ⟨o,g,r⟩:=(q:h.IsListIter it l i); exact ⟨o,e o g,r⟩
 | false=>obtain ⟨o,g,r⟩:=(q:h.IsTupleIter it l i); exact ⟨o,e o g,r⟩
theorem BW.at (q:BW k h l xs) (e:∀ o,h.get? l=some o->h'.get? l=some o):BW k h' l xs:=by
 cases k with
 | true=>obtain ⟨o,g,r⟩:=(q:h.IsList l xs); exact ⟨o,e o g,r⟩
 | false=>obtain ⟨o,g,r⟩:=(q:h.IsTuple l xs); exact ⟨o,e o g,r⟩
theorem C7.obj (q:C7 k h it l i):∃ o,h.get? it=some o/\∀ v,o.data≠.cell v:=by
 cases k with
 | true=>obtain ⟨o,g,c,d⟩:=(q:h.IsListIter it l i); exact ⟨o,g,λv z=>by rw [d] at z; cases z⟩
 | false=>obtain ⟨o,g,c,d⟩:=(q:h.IsTupleIter it l i); exact ⟨o,g,λv z=>by rw [d] at z; cases z⟩
end
theorem Qq {prog:Program} {w:World} {A:Around} {E:Value->Shared->Prop} {s:Shared} {T id:String} {b:Builtin} {v:Value} {Q:Value->Shared->Prop} (hT:s.TypeIs v T) (sl:Slot T (Str.ofString "__next__") id) (en:entryFor table id=some b) (ok:argsOk id ⟨[v],[]⟩)
  (h:wpAny (model prog w) A.in1 (b ⟨[v],[]⟩) (λfin s'=>∃ x,fin=.done (.ret x)/\Q x s') E s):wpAny (model prog w) A (Builtin.SmallTypes.nextOf v) Q E s:=
 wpAny_bind (wpAny_callSpecial?_slot hT sl (wpAny_call_entry sl hT en (wpAny_mono h (λfin s' ⟨x,e,q⟩=>⟨x,e,wpAny_pure q⟩) λ_ _ e=>e) ok))
section
variable {prog:Program} {w:World} {A:Around} {E:Value->Shared->Prop} {s:Shared} {it l:Addr} {i:Nat} {xs:Array Value} {Q:Value->Shared->Prop}
theorem R4 {x:Value} (q:s.heap.IsTupleIter it l i) (t:s.heap.IsTuple l xs) (hx:xs[i]?=some x) (hQ:∀ h',h'.IsTupleIter it l (i+1)->Heap.SameBut it s.heap h'->Q x { s with heap:=h' }):wpAny (model prog w) A (Builtin.SmallTypes.nextOf (.ref it)) Q E s:=by
 refine Qq q.typeIs F.slot_tuple_iterator_next F.entry_tuple_iterator_next (F.args_tuple_iterator_next_1 _) ?_
 obtain ⟨h,g,d,tk,os⟩:=s
 obtain ⟨⟨c,dc,da,sl⟩,gi,rfl,rfl⟩:=q
 obtain ⟨⟨c,dc,da,sl⟩,gt,rfl,n,rfl⟩:=t
 dsimp only at gi gt hQ
 wp_walk
 rw [Int.toNat_natCast,hx]
 wp_walk
 exact ⟨x,rfl,hQ _ ⟨_,Heap.get?_update_self _ gi rfl,rfl,by simp [Obj.mapFields,rawInt]⟩ (Heap.SameBut.update ..)⟩
theorem R5 (hh:A.handled=none) (q:s.heap.IsTupleIter it l i) (t:s.heap.IsTuple l xs) (hx:xs[i]?=none) (hE:∀ h' e,Heap.ExtBut it s.heap h'->(∃ o,h'.get? e=some o/\o.cls=.type "StopIteration")->E (.ref e) { s with heap:=h' }):wpAny (model prog w) A (Builtin.SmallTypes.nextOf (.ref it)) Q E s:=by
 refine Qq q.typeIs F.slot_tuple_iterator_next F.entry_tuple_iterator_next (F.args_tuple_iterator_next_1 _) ?_
 obtain ⟨h,g,d,tk,os⟩:=s
 obtain ⟨⟨c,dc,da,sl⟩,gi,rfl,rfl⟩:=q
 obtain ⟨⟨c,dc,da,sl⟩,gt,rfl,n,rfl⟩:=t
 dsimp only at gi gt hE
 have hh1:A.in1.handled=none:=hh
 wp_walk
 rw [Int.toNat_natCast,hx]
 wp_walk
 unfold raiseNew
 wp_walk
 exact hE _ _ (λb u hb e=>Heap.get?_push_of_some _ (Heap.get?_push_of_some _ ((Heap.get?_update_ne _ _ _ _ hb).trans e))) ⟨_,Heap.get?_push_size _ rfl,rfl⟩
theorem NT {k:Bool} {x:Value} (q:C7 k s.heap it l i) (t:BW k s.heap l xs) (hx:xs[i]?=some x) (hQ:∀ h',C7 k h' it l (i+1)->Heap.SameBut it s.heap h'->Q x { s with heap:=h' }):wpAny (model prog w) A (Builtin.SmallTypes.nextOf (.ref it)) Q E s:=
 match k with
 | true=>wpAny_nextOf_list_item q t hx hQ
 | false=>R4 q t hx hQ
theorem NU {k:Bool} (hh:A.handled=none) (q:C7 k s.heap it l i) (t:BW k s.heap l xs) (hx:xs[i]?=none) (hE:∀ h' e,Heap.ExtBut it s.heap h'->(∃ o,h'.get? e=some o/\o.cls=.type "StopIteration")->E (.ref e) { s with heap:=h' }):wpAny (model prog w) A (Builtin.SmallTypes.nextOf (.ref it)) Q E s:=
 match k with
 | true=>wpAny_nextOf_list_end hh q t hx hE
 | false=>R5 hh q t hx hE
end
def Hv (n:Nat) (f0 f1:Value):Obj:={ cls:=.type "zip",dict:=none,data:=.fields #[f0,f1,.bool false,.ref (n+2),.ref (n+3)],slots:=#[] }
structure ZW (n:Nat) (k1 k2:Bool) (l1 l2 i1 i2:Nat) (xs ys:Array Value) (f0 f1 a b:Value) (h:Heap):Prop where
 z:h.get? (n+4)=some { cls:=.type "zip",dict:=none,data:=.fields #[f0,f1,.bool false,.ref (n+2),.ref (n+3)],slots:=#[] }
 ti:h.get? (n+2)=some { cls:=.type "tuple",data:=.seq #[.ref n,.ref (n+1)] }
 to:h.get? (n+3)=some { cls:=.type "tuple",data:=.seq #[a,b] }
 w1:C7 k1 h n l1 i1
 w2:C7 k2 h (n+1) l2 i2
 s1:BW k1 h l1 xs
 s2:BW k2 h l2 ys
 b1:l1<n
 b2:l2<n
theorem ap {x y:Nat} (h:x≠y):@Ne Addr x y:=h
def Bt (n:Nat) (h h':Heap):Prop:=∀ c o,c≠n+4->c≠n+3->c≠n->c≠n+1->h.get? c=some o->h'.get? c=some o
theorem Bt.refl (n:Nat) (h:Heap):Bt n h h:=λ_ _ _ _ _ _ e=>e
theorem Bt.on {n:Nat} {h h1 h2:Heap} (p:Bt n h h1) (q:Bt n h1 h2):Bt n h h2:=λc o c1 c2 c3 c4 e=>q c o c1 c2 c3 c4 (p c o c1 c2 c3 c4 e)
theorem Bt.of {n c:Nat} {h h':Heap} (e:Heap.SameBut c h h') (m:c=n+4\/c=n+3\/c=n\/c=n+1):Bt n h h':=
 λd o d1 d2 d3 d4 q=>e.extBut _ _ (by rcases m with rfl | rfl | rfl | rfl <;> assumption) q
section
variable {prog:Program} {w:World} {A:Around} {E:Value->Shared->Prop} {s:Shared} {n l1 l2 i1 i2:Nat} {k1 k2:Bool} {xs ys:Array Value} {f0 f1 a b v:Value}
theorem ZW.mark0 {Q:Unit->Shared->Prop} (W:ZW n k1 k2 l1 l2 i1 i2 xs ys f0 f1 a b s.heap) (hQ:∀ h',ZW n k1 k2 l1 l2 i1 i2 xs ys v f1 a b h'->Bt n s.heap h'->h'.objs.size=s.heap.objs.size->Q () { s with heap:=h' }):wpAny (model prog w) A (setField (.ref (n+4)) 0 v) Q E s:=
 wpAny_setField_rec W.z (by simp) λh' g e=>hQ h' ⟨g,e.extBut _ _ (ap wF) W.ti,e.extBut _ _ (ap wF) W.to,W.w1.at λo=>e.extBut _ _ (ap wF),W.w2.at λo=>e.extBut _ _ (ap wF),W.s1.at λo=>e.extBut _ _ (ap (by have:=W.b1; omega)),W.s2.at λo=>e.extBut _ _ (ap (by have:=W.b2; omega)),W.b1,W.b2⟩ (.of e (.inl rfl)) e.1
theorem ZW.mark1 {Q:Unit->Shared->Prop} (W:ZW n k1 k2 l1 l2 i1 i2 xs ys f0 f1 a b s.heap) (hQ:∀ h',ZW n k1 k2 l1 l2 i1 i2 xs ys f0 v a b h'->Bt n s.heap h'->h'.objs.size=s.heap.objs.size->Q () { s with heap:=h' }):wpAny (model prog w) A (setField (.ref (n+4)) 1 v) Q E s:=
 wpAny_setField_rec W.z (by simp) λh' g e=>hQ h' ⟨g,e.extBut _ _ (ap wF) W.ti,e.extBut _ _ (ap wF) W.to,W.w1.at λo=>e.extBut _ _ (ap wF),W.w2.at λo=>e.extBut _ _ (ap wF),W.s1.at λo=>e.extBut _ _ (ap (by have:=W.b1; omega)),W.s2.at λo=>e.extBut _ _ (ap (by have:=W.b2; omega)),W.b1,W.b2⟩ (.of e (.inl rfl)) e.1
theorem ZW.put {j:Nat} {Q:Unit->Shared->Prop} (W:ZW n k1 k2 l1 l2 i1 i2 xs ys f0 f1 a b s.heap) (hQ:∀ h',ZW n k1 k2 l1 l2 i1 i2 xs ys f0 f1 (if j=0 then v else a) (if j=1 then v else b) h'->Bt n s.heap h'->h'.objs.size=s.heap.objs.size->Q () { s with heap:=h' }):wpAny (model prog w) A (updateSeq (n+3) (·.setIfInBounds j v)) Q E s:=
 wpAny_updateSeq_pair W.to λh' g e=>hQ h' ⟨e.extBut _ _ (ap wF) W.z,e.extBut _ _ (ap wF) W.ti,by rw [g]; match j with | 0=>rfl | 1=>rfl | _+2=>rfl,W.w1.at λo=>e.extBut _ _ (ap wF),W.w2.at λo=>e.extBut _ _ (ap wF),W.s1.at λo=>e.extBut _ _ (ap (by have:=W.b1; omega)),W.s2.at λo=>e.extBut _ _ (ap (by have:=W.b2; omega)),W.b1,W.b2⟩ (.of e (.inr (.inl rfl))) e.1
theorem ZW.draw1 {x:Value} {Q:Value->Shared->Prop} (W:ZW n k1 k2 l1 l2 i1 i2 xs ys f0 f1 a b s.heap) (hx:xs[i1]?=some x) (hQ:∀ h',ZW n k1 k2 l1 l2 (i1+1) i2 xs ys f0 f1 a b h'->Bt n s.heap h'->h'.objs.size=s.heap.objs.size->Q x { s with heap:=h' }):wpAny (model prog w) A (Builtin.SmallTypes.nextOf (.ref n)) Q E s:=
 NT W.w1 W.s1 hx λh' g e=>hQ h' ⟨e.extBut _ _ (ap wF) W.z,e.extBut _ _ (ap wF) W.ti,e.extBut _ _ (ap wF) W.to,g,W.w2.at λo=>e.extBut _ _ (ap wF),W.s1.at λo=>e.extBut _ _ (ap (by have:=W.b1; omega)),W.s2.at λo=>e.extBut _ _ (ap (by have:=W.b2; omega)),W.b1,W.b2⟩ (.of e (.inr (.inr (.inl rfl)))) e.1
theorem ZW.draw2 {y:Value} {Q:Value->Shared->Prop} (W:ZW n k1 k2 l1 l2 i1 i2 xs ys f0 f1 a b s.heap) (hy:ys[i2]?=some y) (hQ:∀ h',ZW n k1 k2 l1 l2 i1 (i2+1) xs ys f0 f1 a b h'->Bt n s.heap h'->h'.objs.size=s.heap.objs.size->Q y { s with heap:=h' }):wpAny (model prog w) A (Builtin.SmallTypes.nextOf (.ref (n+1))) Q E s:=
 NT W.w2 W.s2 hy λh' g e=>hQ h' ⟨e.extBut _ _ (ap wF) W.z,e.extBut _ _ (ap wF) W.ti,e.extBut _ _ (ap wF) W.to,W.w1.at λo=>e.extBut _ _ (ap wF),g,W.s1.at λo=>e.extBut _ _ (ap (by have:=W.b1; omega)),W.s2.at λo=>e.extBut _ _ (ap (by have:=W.b2; omega)),W.b1,W.b2⟩ (.of e (.inr (.inr (.inr rfl)))) e.1
def ZF (f0:Value):Prop:=f0=.none\/∃ c:Nat,f0=rawInt (c:Int)
theorem ZH {M:Model} {c:Addr} {Q:Option Obj->Shared->Prop} (h:Q (s.heap.get? c) s):wpAny M A (loadIfAlive c) Q E s:=λ_ _ _=>h
theorem ZW.free {Q:Bool->Shared->Prop} (W:ZW n k1 k2 l1 l2 i1 i2 xs ys f0 f1 a b s.heap) (hf:ZF f0) (y:Q true s) (z:∀ h' f,ZW n k1 k2 l1 l2 i1 i2 xs ys f0 f a b h'->Bt n s.heap h'->h'.objs.size=s.heap.objs.size->Q false { s with heap:=h' }):wpAny (model prog w) A (Builtin.SmallTypes.ownedTupleIsFree (.ref (n+4))) Q E s:=by
 obtain ⟨h,g,d,tk,os⟩:=s
 have hz:=W.z
 dsimp only at hz
 rcases hf with rfl | ⟨c,rfl⟩
 ·wp_walk
  exact y
 ·wp_walk using ZH
  cases h.get? (Int.toNat (c:Int)) with
  | none=>wp_walk; exact y
  | some o=>
   by_cases m:f1=.bool true
   ·subst m
    wp_walk
    exact z _ _ W (Bt.refl _ _) rfl
   ·wp_walk using W.mark1
    exact λh' V o1 o2=>wpAny_pure (z h' _ V o1 o2)
theorem Mr {M:Model} {β:Type} {x y:Value} {b:β} {f:Value->β->Sem (ForInStep β)} {Q:β->Shared->Prop} (h:wpAny M A (forIn [x,y] b f) Q E s):wpAny M A (forIn #[x,y] b f) Q E s:=by
 rw [<- Array.forIn_toList]; exact h
theorem ZW.more {h:Heap} {o:Obj} (W:ZW n k1 k2 l1 l2 i1 i2 xs ys f0 f1 a b h):ZW n k1 k2 l1 l2 i1 i2 xs ys f0 f1 a b (h.push o):=
 have e:∀ c u,h.get? c=some u->(h.push o).get? c=some u:=λc u q=>Heap.get?_push_of_some _ q
 ⟨e _ _ W.z,e _ _ W.ti,e _ _ W.to,W.w1.at (e _),W.w2.at (e _),W.s1.at (e _),W.s2.at (e _),W.b1,W.b2⟩
theorem Bt.more {h h':Heap} {o:Obj} (p:Bt n h h'):Bt n h (h'.push o):=p.on λc u _ _ _ _ q=>Heap.get?_push_of_some _ q
theorem Ry {i:Nat} {x y:Value} {Q:Value->Shared->Prop} (W:ZW n k1 k2 l1 l2 i i xs ys f0 f1 a b s.heap) (hf:ZF f0) (hx:xs[i]?=some x) (hy:ys[i]?=some y)
  (hQ:∀ h' f0' f1' a' b',ZW n k1 k2 l1 l2 (i+1) (i+1) xs ys f0' f1' a' b' h'->ZF f0'->IsPair h' s.heap.objs.size x y->Bt n s.heap h'->Q (.ref s.heap.objs.size) { s with heap:=h' }) :
  wpAny (model prog w) A (Builtin.«zip.__next__» ⟨[.ref (n+4)],[]⟩) (λfin s'=>∃ v,fin=.done (.ret v)/\Q v s') E s:=by
 obtain ⟨h,g,d,tk,os⟩:=s
 dsimp only at W hQ
 have z:=W.z
 have t:=W.ti
 have ok:∀ h4:Heap,h4.objs.size=h.objs.size->∀ v,(h4.push v).objs.size=h.objs.size+1:=λh4 e v=>by rw [Heap.size_push,e]
 have lt:n+4<h.objs.size:=Heap.lt_size z
 wp_walk using W.free hf,W.mark0
 ·-- the pair is used again
  intro h1 W1 o1 z1
  have t1:=W1.to
  wp_walk using wpAny_onRaise,W1.draw1 hx
  intro h2 W2 o2 z2
  have t2:=W2.to
  wp_walk using W2.put
  intro h3 W3 o3 z3
  wp_walk using wpAny_onRaise,W3.draw2 hy
  intro h4 W4 o4 z4
  have t4:=W4.to
  wp_walk using W4.put
  intro h5 W5 o5 z5
  have t5:=W5.to
  wp_walk using W5.more.mark0
  intro h6 W6 o6 z6
  wp_walk using W6.mark1
  intro h7 W7 o7 z7
  wp_walk
  have ol:Bt n h h5:=o1.on (o2.on (o3.on (o4.on o5)))
  have zl:h5.objs.size=h.objs.size:=z5.trans (z4.trans (z3.trans (z2.trans z1)))
  have pr:IsPair (h5.push { cls:=.type "tuple",data:=.seq #[x,y] }) h5.objs.size x y:=Heap.get?_push_size _ rfl
  have fin:=hQ h7 _ _ _ _ W7 (.inr ⟨_,rfl⟩)
  rw [<- zl] at fin
  have far:∀ j,j<=4->h5.objs.size≠n+j:=λj hj=>by omega
  exact ⟨_,rfl,fin (o7 _ _ (far 4 wE) (far 3 wE) (far 0 wE) (far 1 wE) (o6 _ _ (far 4 wE) (far 3 wE) (far 0 wE) (far 1 wE) pr)) (ol.more.on (o6.on o7))⟩
 ·intro h1 f W1 o1 z1
  wp_walk using Mr,W1.draw1 hx
  intro h2 W2 o2 z2
  wp_walk using W2.draw2 hy
  intro h3 W3 o3 z3
  wp_walk
  have zl:h3.objs.size=h.objs.size:=z3.trans (z2.trans z1)
  have fin:=hQ (h3.push { cls:=.type "tuple",data:=.seq #[x,y] }) _ _ _ _ W3.more hf
  rw [<- zl] at fin
  exact ⟨_,rfl,fin (Heap.get?_push_size _ rfl) (o1.on (o2.on o3)).more⟩
def ZE (n:Nat) (h:Heap) (f0 f1:Value) (h':Heap) (e:Addr):Prop:=h'.get? (n+4)=some (Hv n f0 f1)/\Bt n h h'/\∃ o,h'.get? e=some o/\o.cls=.type "StopIteration"
theorem ZW.end1 {Q:Value->Shared->Prop} (hh:A.handled=none) (W:ZW n k1 k2 l1 l2 i1 i2 xs ys f0 f1 a b s.heap) (hx:xs[i1]?=none) (hE:∀ h' e,ZE n s.heap f0 f1 h' e->E (.ref e) { s with heap:=h' }):wpAny (model prog w) A (Builtin.SmallTypes.nextOf (.ref n)) Q E s:=
 NU hh W.w1 W.s1 hx λh' e x y=>hE h' e ⟨x _ _ (ap wF) W.z,λc o _ _ c3 _ q=>x c o c3 q,y⟩
theorem ZW.end2 {Q:Value->Shared->Prop} (hh:A.handled=none) (W:ZW n k1 k2 l1 l2 i1 i2 xs ys f0 f1 a b s.heap) (hy:ys[i2]?=none) (hE:∀ h' e,ZE n s.heap f0 f1 h' e->E (.ref e) { s with heap:=h' }):wpAny (model prog w) A (Builtin.SmallTypes.nextOf (.ref (n+1))) Q E s:=
 NU hh W.w2 W.s2 hy λh' e x y=>hE h' e ⟨x _ _ (ap wF) W.z,λc o _ _ _ c4 q=>x c o c4 q,y⟩
theorem Rz {i:Nat} {Q:PySem.Fin->Shared->Prop} (hh:A.handled=none) (W:ZW n k1 k2 l1 l2 i i xs ys f0 f1 a b s.heap) (hf:ZF f0) (he:xs[i]?=none\/ys[i]?=none)
  (hE:∀ h' e,Bt n s.heap h'->(∃ o,h'.get? e=some o/\o.cls=.type "StopIteration")->E (.ref e) { s with heap:=h' }) :
  wpAny (model prog w) A (Builtin.«zip.__next__» ⟨[.ref (n+4)],[]⟩) Q E s:=by
 obtain ⟨h,g,d,tk,os⟩:=s
 dsimp only at W hE
 have z:=W.z
 have t:=W.ti
 have hb:∀ h1 h2 e f,Bt n h h1->ZE n h1 f f1 h2 e->wpAny (model prog w) A (setField (.ref (n+4)) 0 .none) (λ_ s'=>E (.ref e) s') E ⟨h2,g,d,tk,os⟩:=λh1 h2 e f p ⟨g2,p2,o,q,c⟩=>
  wpAny_setField_rec g2 (by simp [Hv]) λh3 g3 e3=>hE h3 e (p.on (p2.on (.of e3 (.inl rfl)))) ⟨o,e3.extBut _ _ (λx=>by subst x; rw [g2] at q; cases q; simp [Hv] at c) q,c⟩
 wp_walk using W.free hf,W.mark0
 ·intro h1 W1 o1 z1
  have t1:=W1.to
  cases hx:xs[i]? with
  | none=>
   wp_walk using wpAny_onRaise,W1.end1 hh hx
   exact λh2 e q=>hb h1 h2 e _ o1 q
  | some x=>
   have hy:ys[i]?=none:=he.resolve_left (by rw [hx]; simp)
   wp_walk using wpAny_onRaise,W1.draw1 hx
   intro h2 W2 o2 z2
   have t2:=W2.to
   wp_walk using W2.put
   intro h3 W3 o3 z3
   wp_walk using wpAny_onRaise,W3.end2 hh hy
   exact λh4 e q=>hb h3 h4 e _ (o1.on (o2.on o3)) q
 ·intro h1 f W1 o1 z1
  cases hx:xs[i]? with
  | none=>
   wp_walk using Mr,W1.end1 hh hx
   exact λh2 e q=>hE h2 e (o1.on q.2.1) q.2.2
  | some x=>
   have hy:ys[i]?=none:=he.resolve_left (by rw [hx]; simp)
   wp_walk using Mr,W1.draw1 hx
   intro h2 W2 o2 z2
   wp_walk using W2.end2 hh hy
   exact λh3 e q=>hE h3 e (o1.on (o2.on q.2.1)) q.2.2
end
section
variable {prog:Program} {w:World} {A:Around} {E:Value->Shared->Prop} {s:Shared} {n l1 l2 i1 i2 i:Nat} {k1 k2:Bool} {xs ys:Array Value} {f0 f1 a b v:Value}
theorem Pa {T id:String} {bi:Builtin} {Q:Option Value->Shared->Prop} (hT:s.TypeIs v T) (sl:Slot T (Str.ofString "__next__") id) (en:entryFor table id=some bi) (ok:argsOk id ⟨[v],[]⟩)
  (h:wpAny (model prog w) A.in1 (bi ⟨[v],[]⟩) (λfin s'=>∃ x,fin=.done (.ret x)/\Q (some x) s') (λe s'=>s'.TypeIs e "StopIteration" /\ Q none s') s):wpAny (model prog w) A (pyNext v) Q E s:=
 wpAny_bind (wpAny_attempt (wpAny_callSpecial?_slot hT sl (wpAny_call_entry sl hT en (wpAny_mono h (λfin s' ⟨x,e,q⟩=>⟨x,e,wpAny_pure q⟩) λe s' ⟨t,q⟩=>wpAny_bind (wpAny_isInstance (T := "StopIteration") (b:=true) t isSubtype_stop (wpAny_pure q))) ok)))
def ES (k1 k2:Bool) (n l1 l2 i:Nat) (h:Heap):Prop:=∃ f0 f1 a b,ZF f0/\h.get? (n+4)=some (Hv n f0 f1)/\IsPair h (n+2) (.ref n) (.ref (n+1))/\IsPair h (n+3) a b/\C7 k1 h n l1 i/\C7 k2 h (n+1) l2 i
theorem ZW.tn {h:Heap} (W:ZW n k1 k2 l1 l2 i i xs ys f0 f1 a b h) (hf:ZF f0):ES k1 k2 n l1 l2 i h:=⟨f0,f1,a,b,hf,W.z,W.ti,W.to,W.w1,W.w2⟩
theorem Wg {x y:Value} {Q:Option Value->Shared->Prop} (W:ZW n k1 k2 l1 l2 i i xs ys f0 f1 a b s.heap) (hf:ZF f0) (hx:xs[i]?=some x) (hy:ys[i]?=some y)
  (hQ:∀ h' f0' f1' a' b',ZW n k1 k2 l1 l2 (i+1) (i+1) xs ys f0' f1' a' b' h'->ZF f0'->IsPair h' s.heap.objs.size x y->Bt n s.heap h'->Q (some (.ref s.heap.objs.size)) { s with heap:=h' }):wpAny (model prog w) A (pyNext (.ref (n+4))) Q E s:=
 Pa ⟨_,W.z,rfl⟩ F.slot_zip_next F.entry_zip_next (F.args_zip_next_1 _) (Ry (Q:=λv s'=>Q (some v) s') W hf hx hy hQ)
theorem Wf {Q:Option Value->Shared->Prop} (hh:A.handled=none) (W:ZW n k1 k2 l1 l2 i i xs ys f0 f1 a b s.heap) (hf:ZF f0) (he:xs[i]?=none\/ys[i]?=none) (hQ:∀ h',Bt n s.heap h'->Q none { s with heap:=h' }):wpAny (model prog w) A (pyNext (.ref (n+4))) Q E s:=
 Pa ⟨_,W.z,rfl⟩ F.slot_zip_next F.entry_zip_next (F.args_zip_next_1 _) (Rz hh W hf he λh' e p q=>⟨q,hQ h' p⟩)
theorem Xu {tg:Expr} {u:Value} {Q:Unit->Shared->Prop} (W:ZW n k1 k2 l1 l2 i1 i2 xs ys f0 f1 a b s.heap) (hf:ZF f0) (hQ:∀ h' f,ZW n k1 k2 l1 l2 i1 i2 xs ys f f1 a b h'->ZF f->Bt n s.heap h'->Q () { s with heap:=h' }):wpAny (model prog w) A (letOwnedTupleGo tg (.ref (n+4)) u) Q E s:=by
 have same:Q () s:=hQ s.heap _ W hf (Bt.refl _ _)
 obtain ⟨h,g,d,tk,os⟩:=s
 have z:=W.z
 dsimp only at z
 unfold letOwnedTupleGo
 cases tg <;> try exact wpAny_pure same
 all_goals cases u <;> try exact wpAny_pure same
 all_goals
  wp_walk
  split
  ·exact wpAny_bind (wpAny_rule (W.mark0 (s:=⟨h,g,d,tk,os⟩) (v:=.none) λh' V o z=>hQ h' _ V (.inl rfl) o))
  ·exact wpAny_pure same
theorem OQ {T id nid:String} {bi:Builtin} {Q:Value->Shared->Prop} (hT:s.TypeIs v T) (sl:Slot T (Str.ofString "__iter__") id) (en:entryFor table id=some bi) (ok:argsOk id ⟨[v],[]⟩) (nx:Slot T (Str.ofString "__next__") nid)
  (h:wpAny (model prog w) A.in1 (bi ⟨[v],[]⟩) (λfin s'=>fin=.done (.ret v)/\s'=s) E s) (q:Q v s):wpAny (model prog w) A (pyIter v) Q E s:=
 wpAny_pyIter_slot hT sl (wpAny_call_entry sl hT en (wpAny_mono h (λfin s' ⟨e1,e2⟩=>⟨v,e1,T,_,by rw [e2]; exact hT,nx.lookup,by rw [e2]; exact q⟩) λ_ _ e=>e) ok)
theorem Ps {k:Bool} {l:Addr} {Q:Value->Shared->Prop} (t:BW k s.heap l xs) (hQ:∀ o,o.isFreed=false->(∀ h:Heap,∀ c,h.get? c=some o->C7 k h c l 0)->Q (.ref s.heap.objs.size) { s with heap:=s.heap.push o }):wpAny (model prog w) A (pyIter (.ref l)) Q E s:=
 match k with
 | true=>wpAny_pyIter_list t (hQ _ rfl λh c e=>⟨_,e,rfl,rfl⟩)
 | false=>wpAny_pyIter_tuple t (hQ _ rfl λh c e=>⟨_,e,rfl,rfl⟩)
end
theorem WL (h:Heap) (a b c d e:Obj) (fa:a.isFreed=false) (fb:b.isFreed=false) (fc:c.isFreed=false) (fd:d.isFreed=false) (fe:e.isFreed=false) :
  let m:=((((h.push a).push b).push c).push d).push e
  m.get? h.objs.size=some a/\m.get? (h.objs.size+1)=some b/\m.get? (h.objs.size+2)=some c/\m.get? (h.objs.size+3)=some d/\m.get? (h.objs.size+4)=some e/\∀ x o,h.get? x=some o->m.get? x=some o:=by
 have up:∀ (k:Heap) (o:Obj) x u,k.get? x=some u->(k.push o).get? x=some u:=λk o x u q=>Heap.get?_push_of_some _ q
 have at_:∀ (k:Heap) (o:Obj) x,o.isFreed=false->x=k.objs.size->(k.push o).get? x=some o:=λk o x f q=>by rw [q]; exact Heap.get?_push_size _ f
 exact ⟨up _ _ _ _ (up _ _ _ _ (up _ _ _ _ (up _ _ _ _ (at_ _ _ _ fa rfl)))),up _ _ _ _ (up _ _ _ _ (up _ _ _ _ (at_ _ _ _ fb (by simp [Heap.size_push])))),up _ _ _ _ (up _ _ _ _ (at_ _ _ _ fc (by simp [Heap.size_push]))),up _ _ _ _ (at_ _ _ _ fd (by simp [Heap.size_push])),at_ _ _ _ fe (by simp [Heap.size_push]),λx o q=>up _ _ _ _ (up _ _ _ _ (up _ _ _ _ (up _ _ _ _ (up _ _ _ _ q))))⟩
theorem Rx (k1 k2:Bool) (l1 l2:Addr) (xs ys:Array Value) :
  Meets (Builtin.«zip.__new__» ⟨[.type "zip",.ref l1,.ref l2],[]⟩) (λ_ R s=>BW k1 s.heap l1 xs/\BW k2 s.heap l2 ys /\
   ∀ h',ZW s.heap.objs.size k1 k2 l1 l2 0 0 xs ys .none (.bool false) .none .none h'->(∀ c o,s.heap.get? c=some o->h'.get? c=some o)->R (.ok (.ret (.ref (s.heap.objs.size+4)))) { s with heap:=h' }):=
 .of_wp λprog w A R s q=>by
  obtain ⟨h,g,d,tk,os⟩:=s
  obtain ⟨t1,t2,q⟩:=q
  have hsub:=sub_zip
  have lt:∀ {k:Bool} {l:Addr} {zs:Array Value},BW k h l zs->l<h.objs.size:=λ{k l zs} q=>by
   cases k with
   | true=>obtain ⟨o,g,_⟩:=(q:h.IsList l zs); exact Heap.lt_size g
   | false=>obtain ⟨o,g,_⟩:=(q:h.IsTuple l zs); exact Heap.lt_size g
  have p1:=lt t1
  have p2:=lt t2
  wp_walk using Ps t1
  intro a1 f1 i1
  wp_walk using Ps (s:=⟨h.push a1,g,d,tk,os⟩) (t2.at λo e=>Heap.get?_push_of_some _ e)
  intro a2 f2 i2
  wp_walk
  simp only [Heap.size_push,Nat.add_assoc,Nat.reduceAdd]
  obtain ⟨e0,e1,e2,e3,e4,up⟩:=WL h a1 a2 { cls:=.type "tuple",data:=.seq #[.ref h.objs.size,.ref (h.objs.size+1)] } { cls:=.type "tuple",data:=.seq #[.none,.none] } { cls:=.type "zip",data:=.fields #[.none,.bool false,.bool false,.ref (h.objs.size+2),.ref (h.objs.size+3)] } f1 f2 rfl rfl rfl
  exact ⟨_,rfl,q _ ⟨e4,e2,e3,i1 _ _ e0,i2 _ _ e1,t1.at (up _),t2.at (up _),p1,p2⟩ up⟩
theorem Zh {prog:Program} {w:World} {A:Around} {E:Value->Shared->Prop} {s:Shared} {k1 k2:Bool} {l1 l2:Addr} {xs ys:Array Value} {Q:Value->Shared->Prop} (t1:BW k1 s.heap l1 xs) (t2:BW k2 s.heap l2 ys)
  (hQ:∀ h',ES k1 k2 s.heap.objs.size l1 l2 0 h'->(∀ c o,s.heap.get? c=some o->h'.get? c=some o)->Q (.ref (s.heap.objs.size+4)) { s with heap:=h' }) :
  wpAny (model prog w) A (call (.type "zip") [.ref l1,.ref l2]) Q E s:=
 callType_new F.called_zip wE (F.typeCall_zip_2 _ _) (F.newCall_zip_2 _ _) (λobj=>F.args_object_init_3 obj _ _) F.entry_zip_new (Rx k1 k2 l1 l2 xs ys) ⟨t1,t2,λh' W up=>⟨⟨_,W.z,rfl⟩,hQ h' (W.tn (.inl rfl)) up⟩⟩
def Sq (k:Bool) (K:PySem.W.Frag) (H:Hp) (a:Addr) (xs:List V):Prop:=if k then A0 K H a xs else Bm K H a xs
def Nc (k1 k2:Bool) (K:PySem.W.Frag) (l1 l2:Addr):It:=
  ⟨λi H=>∃ as bs a b,Sq k1 K H l1 as/\Sq k2 K H l2 bs/\as[i]?=some a/\bs[i]?=some b,
   λi H x H'=>∃ T a b,H T=none/\H'=An H T (.tup [a,b])/\x=.ref T/\(∀ as,Sq k1 K H l1 as->as[i]?=some a)/\∀ bs,Sq k2 K H l2 bs->bs[i]?=some b,
   λi H=>∃ as bs,Sq k1 K H l1 as/\Sq k2 K H l2 bs/\(as.length<=i\/bs.length<=i)⟩
section
variable {X:Cx} {pins:List (Addr×Obj)} {σ:L2.St} {H:Hp} {s:Shared} {k:Bool} {a:Addr} {xs ys:List V}
theorem EL (I:L2.Inv X pins σ H s) (h:Sq k X.K H a xs):∃ its:List Value,Aq xs its/\BW k s.heap a its.toArray/\xs.length<=sizeLine:=by
 cases k with
 | true=>obtain ⟨its,v,p,z⟩:=I.list h; exact ⟨its,v,p.isList,z⟩
 | false=>obtain ⟨its,v,p,z⟩:=I.tuple h; exact ⟨its,v,(p:IsTup _ _ _),z⟩
theorem Rj (I:L2.Inv X pins σ H s) (h:Sq k X.K H a xs) (h':Sq k X.K H a ys):xs=ys:=by
 cases k with
 | true=>exact I.list_inj h h'
 | false=>exact I.tuple_inj h h'
end
theorem Eo {X:Cx} {pins:List (Addr×Obj)} {σ:L2.St} {H:Hp} {s:Shared} {h':Heap} {t':Nat} {fp:List Addr} (I:L2.Inv X pins σ H s) (hf:∀ b∈fp,B9 X pins H b) (k:∀ b o,b∉fp->s.heap.get? b=some o->h'.get? b=some o):L2.Inv X pins σ H { s with heap:=h',toks:=t' }:=by
 have nit:∀ b u,H b=some u->b∉fp:=λb u e z=>by rw [(hf b z).1] at e; cases e
 refine I.step (g':=s.gens) (d':=s.drawn) (ch:=fp) (λb hb=>?_) (λb o _ _ hc e _=>k b o hc e) (λb o _ _ hc e _=>⟨o.slots,k b o hc e⟩) (λ_ _ _ _ n=>n) (λb o hc e=>⟨o,k b o hc e⟩) (λ_ _ e=>e) (λ_ _ _ e=>e) (λb ps e=>⟨#[],by rw [e]; simp⟩) (λm hm=>?_) (λb u e=>?_) I.bare
 ·obtain ⟨f0,f1,f2,f3,f4,f5⟩:=hf b hb
  exact ⟨f3,f1,f4,f5⟩
 ·obtain ⟨o,es,ep,ho,r⟩:=hm
  exact ⟨o,es,ep,k _ o (λz=>(hf _ z).2.1 rfl) ho,r⟩
 ·refine (I.hok b u e).stay (λc v hc q=>k c v ?_ q) (λ_ q=>q) λ_ _ q=>q
  rcases hc with z | z
  ·rw [z]; exact nit b u e
  ·exact nit c _ z
theorem Ri {X:Cx} {pins:List (Addr×Obj)} {σ:L2.St} {H:Hp} {s:Shared} {T:Addr} {o:HO} (I:L2.Inv X pins σ H s) (hT:B9 X pins H T) (hs:X.s₀.heap.objs.size<=T) (new:Bn X.prog X.w (An H T o) s.heap T o):L2.Inv X pins σ (An H T o) s:=by
 obtain ⟨f0,f1,f2,f3,f4,f5⟩:=hT
 have ne:∀ b u,H b=some u->b≠T:=λb u e z=>by rw [z,f0] at e; cases e
 have sn:∀ b o,X.s₀.heap.get? b=some o->b≠T:=λb o e=>Nat.ne_of_lt (Nat.lt_of_lt_of_le (Heap.lt_size e) hs)
 exact ⟨I.ok,I.os,I.bare,⟨I.base.keep,I.base.slot,λb ob q n hx=>by rw [As (sn b ob q)]; exact I.base.free b ob q n hx,I.base.there,λb xs q=>by have e:=I.base.tups b xs q; rw [As (ne b _ e)]; exact e,λb ob u q=>by have e:=I.base.frzs b ob u q; rw [As (ne b _ e)]; exact e,λb ps q=>by obtain ⟨m,e⟩:=I.base.tbls b ps q; exact ⟨m,by rw [As (ne b _ e)]; exact e⟩⟩,
  I.loc,I.cell,by rw [As (Ne.symm f1)]; exact I.free,λx c e=>by rw [As (f4 x c e)]; exact I.freeC x c e,λp hp=>by obtain ⟨a,b,c⟩:=I.pin p hp; exact ⟨a,by rw [As (f5 p hp)]; exact b,c⟩,Rm I.hok f0 new,I.len⟩
def B3 (n:Nat):List Addr:=[n,n+1,n+2,n+3,n+4]
theorem Rt {k1 k2:Bool} {n l1 l2 i:Nat} {h h':Heap} (st:ES k1 k2 n l1 l2 i h) (k:∀ b∈B3 n,∀ o,h.get? b=some o->h'.get? b=some o):ES k1 k2 n l1 l2 i h':=by
 obtain ⟨f0,f1,a,b,hf,z,ti,to,w1,w2⟩:=st
 exact ⟨f0,f1,a,b,hf,k _ (by simp [B3]) _ z,k _ (by simp [B3]) _ ti,k _ (by simp [B3]) _ to,w1.at (k _ (by simp [B3])),w2.at (k _ (by simp [B3]))⟩
theorem Nk {k1 k2:Bool} {n l1 l2 i:Nat} {h:Heap} (st:ES k1 k2 n l1 l2 i h):∀ b∈B3 n,∃ o,h.get? b=some o/\∀ v,o.data≠.cell v:=by
 obtain ⟨f0,f1,a,b,hf,z,ti,to,w1,w2⟩:=st
 have all:∀ P:Addr->Prop,P n->P (n+1)->P (n+2)->P (n+3)->P (n+4)->∀ b∈B3 n,P b:=λP p0 p1 p2 p3 p4 b hb=>by
  simp only [B3,List.mem_cons,List.not_mem_nil,or_false] at hb
  rcases hb with rfl | rfl | rfl | rfl | rfl <;> assumption
 exact all _ w1.obj w2.obj ⟨_,ti,λv e=>by cases e⟩ ⟨_,to,λv e=>by cases e⟩ ⟨_,z,λv e=>by cases e⟩
theorem Hu {n:Nat} {c:Addr} (h:c∉B3 n):c≠n+4/\c≠n+3/\c≠n/\c≠n+1:=
 ⟨λe=>h (by simp [B3,e]),λe=>h (by simp [B3,e]),λe=>h (by simp [B3,e]),λe=>h (by simp [B3,e])⟩
theorem Bt.fp {n:Nat} {h h':Heap} (p:Bt n h h'):∀ c o,c∉B3 n->h.get? c=some o->h'.get? c=some o:=λc o hc=>p c o (Hu hc).1 (Hu hc).2.1 (Hu hc).2.2.1 (Hu hc).2.2.2
theorem RU {P:Program} {w:World} {K:PySem.W.Frag} {tg:Expr} (k1 k2:Bool) (n l1 l2:Nat) (hl1:l1<n) (hl2:l2<n):D3 P w K tg (Nc k1 k2 K l1 l2) (B3 n) (n+4) (ES k1 k2 n l1 l2) where
 mem:=by simp [B3]
 obj:=λi h st=>Nk st
 keep:=λi h h' st k=>Rt st k
 item:=by
  intro X hP hw hK hc i pins s σ H E I hf st hg
  subst hP hw hK
  obtain ⟨as,bs,a,b,q1,q2,ga,gb⟩:=hg
  obtain ⟨ia,va,sa,_⟩:=EL I q1
  obtain ⟨ib,vb,sb,_⟩:=EL I q2
  obtain ⟨ua,hua,rua⟩:=va.get ga
  obtain ⟨ub,hub,rub⟩:=vb.get gb
  have hTn:s.heap.objs.size∉B3 n:=λm=>let ⟨o,e,_⟩:=Nk st _ m; Nat.lt_irrefl _ (Heap.lt_size e)
  obtain ⟨f0,f1,a0,b0,zf,z,ti,to,w1,w2⟩:=st
  refine Wg (x:=ua) (y:=ub) ⟨z,ti,to,w1,w2,sa,sb,hl1,hl2⟩ zf (by simpa using hua) (by simpa using hub) λh1 f0' f1' a' b' W1 zf1 pr o1=>⟨_,rfl,Xu (s:={ s with heap:=h1 }) W1 zf1 λh2 f W2 zf2 o2=>?_⟩
  have Iz:L2.Inv X pins σ H { s with heap:=h2,toks:=s.toks }:=Eo I hf (o1.on o2).fp
  have fr:H s.heap.objs.size=none:=I.hok.fresh (Nat.le_refl _)
  refine ⟨.ref s.heap.objs.size,An H s.heap.objs.size (.tup [a,b]),?_,rfl,⟨_,a,b,fr,rfl,rfl,λcs q=>?_,λcs q=>?_⟩,W2.tn zf2,λc hb=>?_⟩
  ·refine Ri Iz (I.fpOk (Nat.le_refl _) fr) I.sz ⟨show 2<=sizeLine by decide,[ua,ub],.cons rua (.cons rub .nil),?_⟩
   exact ⟨_,o2.fp _ _ hTn pr,rfl,rfl,_,rfl⟩
  ·rw [Rj I q q1]; exact ga
  ·rw [Rj I q q2]; exact gb
  ·rw [As (λe=>hTn (by rw [<- e]; exact hb))]; exact (hf c hb).1
 done:=by
  intro X hP hw hK hc i pins s σ H E I hf st hg
  subst hP hw hK
  obtain ⟨as,bs,q1,q2,hend⟩:=hg
  obtain ⟨ia,va,sa,_⟩:=EL I q1
  obtain ⟨ib,vb,sb,_⟩:=EL I q2
  obtain ⟨f0,f1,a0,b0,zf,z,ti,to,w1,w2⟩:=st
  have e1:=va.length
  have e2:=vb.length
  exact Wf (I.ok.hd hc) ⟨z,ti,to,w1,w2,sa,sb,hl1,hl2⟩ zf (hend.imp (λe=>by simp; omega) λe=>by simp; omega) λh' p=>⟨rfl,Eo (t':=s.toks) I hf p.fp⟩
 self:=λA i s Q E st h=>by
  obtain ⟨f0,f1,a0,b0,zf,z,_⟩:=st
  exact OQ ⟨_,z,rfl⟩ F.slot_zip_iter F.entry_zip_iter (F.args_zip_iter_1 _) F.slot_zip_next (wpAny_pure ⟨rfl,rfl⟩) h
end DL
set_option maxHeartbeats 1000000
namespace DL
open PySem PySem.Spec PyProof.Rows L2 PySem.W
def LF (d:D) (xs:List D):Prop:=d=.lst xs\/d=.scr xs\/d=.tup xs
theorem Sq.same {k:Bool} {K:PySem.W.Frag} {H H':Hp} {a:Addr} {xs:List V} (e:Bj H H') (h:Sq k K H a xs):Sq k K H' a xs:=by
 cases k with
 | true=>exact e.seq h
 | false=>exact CW e h
theorem LF.sq {K:PySem.W.Frag} {G:Wd} {d:D} {xs:List D} {v:V} (h:LF d xs) (i:Is K G d v):∃ k a vs,v=.ref a/\Sq k K G.g a vs/\Aj K G xs vs:=by
 rcases h with rfl | rfl | rfl
 ·cases i with | lst h r=>exact ⟨true,_,_,rfl,A0.of h,r⟩
 ·cases i with | scr h r=>exact ⟨true,_,_,rfl,h,r⟩
 ·cases i with | tup h r=>exact ⟨false,_,_,rfl,h,r⟩
def Jq (X:Cx) (ρ:Am) (O:Ad) (e:Expr) (xs:List D) (T:String):Prop:=
 ∀ (G:Wd) (tg:Expr) (pins:List (Addr×Obj)) (s:Shared) (σ:L2.St) (H:Hp) (R:It->Hp->Prop),L2.Inv X pins σ H s->SA X.K G H O->Ar X.K G σ ρ->(∀ J G' H',Ag G G'->SA X.K G' H' O->C6 X.K G' J xs->R J H')->
  wpAny (model X.prog X.w) X.A (eval e X.env) (λv s1=>Ji X pins σ tg R v s1/\s1.TypeIs v T) X.xe s
def ET (xs ys:List D):List D:=List.zipWith (λa b=>.tup [a,b]) xs ys
theorem WX {K:PySem.W.Frag} {G:Wd} {k1 k2:Bool} {l1 l2:Addr} {vs us:List V} {xs ys:List D} (h1:Sq k1 K G.g l1 vs) (h2:Sq k2 K G.g l2 us) (r1:Aj K G xs vs) (r2:Aj K G ys us):C6 K G (Nc k1 k2 K l1 l2) (ET xs ys) where
 go:=λi H e hi=>by
  have hi:i<min xs.length ys.length:=by simpa [ET] using hi
  obtain ⟨a,ha,_⟩:=r1.get (i:=i) (d:=xs[i]'wF) (by simp)
  obtain ⟨b,hb,_⟩:=r2.get (i:=i) (d:=ys[i]'wF) (by simp)
  exact ⟨vs,us,a,b,h1.same e,h2.same e,ha,hb⟩
 stop:=λi H e hi=>by
  have hi:min xs.length ys.length<=i:=by simpa [ET] using hi
  have e1:=r1.length
  have e2:=r2.length
  exact ⟨vs,us,h1.same e,h2.same e,by omega⟩
 yld:=λi v H H' G2 O2 e s y hi=>by
  obtain ⟨T,a,b,hT,rfl,rfl,y1,y2⟩:=y
  obtain ⟨x,hx,ix⟩:=r1.getV (y1 vs (h1.same (e.g.trans s.sub)))
  obtain ⟨y,hy,iy⟩:=r2.getV (y2 us (h2.same (e.g.trans s.sub)))
  obtain ⟨e3,s3⟩:=s.laid (o:=.tup [a,b]) hT
  refine ⟨.tup [x,y],_,?_,e3,s3,.tup (Bm.of AJ) (.cons (ix.ext (e.trans e3)) (.cons (iy.ext (e.trans e3)) .nil))⟩
  unfold ET
  rw [List.getElem?_zipWith,hx,hy]
section
variable {X:Cx} {ρ:Am} {O:Ad} {e a b c:Expr} {es:List Expr} {d da db:D} {ds:List D} {R:D->Ad->Prop} {pos p:Pos} {x:Str} {xs ys:List D}
theorem XQ (ha:Ac X ρ O a da) (hb:Ac X ρ O b db) (fa:LF da xs) (fb:LF db ys) (hm:X.mg "zip" = none) (hg:Gl X "zip" := by rfl) (hs:starEach [a,b] X.env=[(false,eval a X.env),(false,eval b X.env)]:=by rfl) (hs2:starEach [b] X.env=[(false,eval b X.env)]:=by rfl) :
  Jq X ρ O (.Call (.Name "zip" p) [a,b] [] pos) (ET xs ys) "zip" := λG tg pins s σ H R I sa en k=>by
 refine Call_ (DA I hg hm boot_zip (PyProof.Rows.callWith_type1 (Ao (Ab ha (Ab hb Ae hs2) (by rw [hs,hs2]) G pos pins s σ H (λvs H'=>∃ G',Ag G G'/\SA X.K G' H' O/\Aj X.K G' [da,db] vs) I ⟨sa,en,λvs G' H' e1 s1 i1=>⟨G',e1,s1,i1⟩⟩) λus s1 ⟨vs,H1,I1,r1,G1,e1,sa1,is1⟩=>?_) (by rw [hs,hs2]) (by rw [hs2]; rfl)))
 cases is1 with | cons i1 is1=>cases is1 with | cons i2 is1=>
 cases is1
 obtain ⟨k1,l1,v1,rfl,q1,j1⟩:=fa.sq i1
 obtain ⟨k2,l2,v2,rfl,q2,j2⟩:=fb.sq i2
 obtain ⟨u,u',rfl,ru,ru'⟩:=Hz r1
 cases ru
 cases ru'
 obtain ⟨t1,w1,g1,z1⟩:=EL I1 (q1.same sa1.sub)
 obtain ⟨t2,w2,g2,z2⟩:=EL I1 (q2.same sa1.sub)
 have lt:∀ {k:Bool} {l:Addr} {ys:Array Value},BW k s1.heap l ys->l<s1.heap.objs.size:=λ{k l ys} q=>by
  cases k with
  | true=>obtain ⟨o,g,_⟩:=(q:s1.heap.IsList l ys); exact Heap.lt_size g
  | false=>obtain ⟨o,g,_⟩:=(q:s1.heap.IsTuple l ys); exact Heap.lt_size g
 refine Zh g1 g2 λh' Z kp=>?_
 have Ik:L2.Inv X pins σ H1 { s1 with heap:=h',toks:=s1.toks }:=I1.kept kp
 refine ⟨⟨s1.heap.objs.size+4,B3 s1.heap.objs.size,ES k1 k2 s1.heap.objs.size l1 l2,Nc k1 k2 X.K l1 l2,H1,rfl,Ik,RU k1 k2 _ l1 l2 (lt g1) (lt g2),Z,λb hb=>?_,k _ G1 H1 e1 sa1 (WX q1 q2 j1 j2)⟩,?_⟩
 ·have hb':s1.heap.objs.size<=b:=by
   simp only [B3,List.mem_cons,List.not_mem_nil,or_false] at hb
   rcases hb with rfl | rfl | rfl | rfl | rfl
   ·exact Nat.le_refl _
   ·exact Nat.le_add_right _ 1
   ·exact Nat.le_add_right _ 2
   ·exact Nat.le_add_right _ 3
   ·exact Nat.le_add_right _ 4
  exact I1.fpOk hb' (I1.hok.fresh hb')
 ·obtain ⟨f0,f1,a0,b0,_,hz,_⟩:=Z
  exact ⟨_,hz,rfl⟩
theorem YC {tg:Expr} {T:String} (h:Jq X ρ O e xs T):Cn X ρ O tg e xs:=λG pins s σ H R I ⟨h1,h2,h3⟩=>
 Ao (h G tg pins s σ H R I h1 h2 h3) λv s1 ⟨q,_⟩=>by
  obtain ⟨it,fp,tn,J,H',rfl,I',T,st,f,r⟩:=id q
  exact T.self X.A 0 s1 _ _ st q
end
def Cx.wA (X:Cx) (A:Around):Cx:={ X with A:=A }
theorem Q0E {X:Cx} {pins:List (Addr×Obj)} {σ:L2.St} {H:Hp} {s:Shared} {A:Around} (I:L2.Inv X pins σ H s) (h1:A.frames=X.A.frames) (h2:A.handled=X.A.handled):L2.Inv (Cx.wA X A) pins σ H s:=
 ⟨⟨I.ok.mod,I.ok.kind,I.ok.glob,I.ok.blt,I.ok.above,I.ok.inj,I.ok.has,I.ok.cab,λhc=>h2.trans (I.ok.hd hc),h1.trans I.ok.frames,I.ok.stk,I.ok.exf,I.ok.bs,I.ok.bsz,I.ok.noex,I.ok.exfs,I.ok.funs,I.ok.frf⟩,I.os,I.bare,I.base,I.loc,I.cell,I.free,I.freeC,I.pin,I.hok,I.len⟩
theorem Q0C {X:Cx} {pins:List (Addr×Obj)} {σ:L2.St} {H:Hp} {s:Shared} {A:Around} (I:L2.Inv (Cx.wA X A) pins σ H s) (ok:X.Ok):L2.Inv X pins σ H s:=⟨ok,I.os,I.bare,I.base,I.loc,I.cell,I.free,I.freeC,I.pin,I.hok,I.len⟩
def Ck {α:Type} (n:Nat) (P:α->Prop):KasT α->Prop
 | .ret a=>P a
 | .ask i j k=>i<n/\j<n/\∀ b,Ck n P (k b)
theorem F2 {α β:Type} {n:Nat} {f:α->KasT β} {P:α->Prop} {Q:β->Prop} (hf:∀ a,P a->Ck n Q (f a)):∀ (t:KasT α),Ck n P t->Ck n Q (t.bind f)
 | .ret a,h=>hf a h
 | .ask i j k,h=>⟨h.1,h.2.1,λb=>F2 hf (k b) (h.2.2 b)⟩
theorem Pp {α:Type} {n:Nat} {P:α->Prop} {cmp:Nat->Nat->(Bool->Shared->Prop)->Shared->Prop} {lt:Nat->Nat->Bool} {s:Shared} {Q:α->Shared->Prop} (hc:∀ i j C,i<n->j<n->C (lt i j) s->cmp i j C s):∀ (t:KasT α),Ck n P t->(P (A6 lt t)->Q (A6 lt t) s)->t.kasWp cmp Q s
 | .ret a,h,q=>q h
 | .ask i j k,h,q=>hc i j _ h.1 h.2.1 (Pp hc (k (lt i j)) (h.2.2 _) q)
def In (n:Nat) (p:Array Nat):Prop:=∀ k,p.getD k 0<n
theorem Rl {n:Nat} {p q:Array Nat} (h:In n p) (e:q.Perm p) (hn:0<n):In n q:=λk=>by
 rw [Eg]
 cases hk:q[k]? with
 | none=>exact hn
 | some v=>
  have hv:v∈p:=e.mem_iff.mp (Array.mem_of_getElem? hk)
  obtain ⟨i,hi,ei⟩:=Array.mem_iff_getElem.mp hv
  have:=h i
  rw [Eg,Array.getElem?_eq_getElem hi,ei] at this
  exact this
theorem M0 {n:Nat} {p:Array Nat} (h:In n p):∀ (f m:Nat),Ck n (λ_=>True) (kas_asc p f m)
 | 0,m=>trivial
 | f+1,m=>⟨h _,h _,λb=>by cases b; exact M0 h f (m+1); exact trivial⟩
theorem GK {n:Nat} {p:Array Nat} (h:In n p) (hn:0<n) (i j:Nat):In n (kas_rev p i j):=Rl h (mirror_perm _ _ _ _) hn
theorem IR {n:Nat} (hn:0<n):∀ (f:Nat) (p:Array Nat) (m q:Nat),In n p->Ck n (λr:Array Nat×Nat×Nat=>In n r.1) (kas_desc f p m q)
 | 0,p,m,q,h=>h
 | f+1,p,m,q,h=>⟨h _,h _,λb=>by
   cases b
   ·exact ⟨h _,h _,λc=>by
     cases c
     ·exact IR hn f p _ _ h
     ·exact h⟩
   ·show Ck n _ (if true=true then _ else _)
    rw [if_pos rfl]
    split
    ·exact IR hn f _ _ _ (GK h hn _ _)
    ·exact IR hn f p _ _ h⟩
theorem NB {n:Nat} (hn:0<n) {p:Array Nat} (h:In n p) (m r:Nat):Ck n (λr:Nat×Array Nat=>In n r.2) (kas_tail3 m r p):=by
 unfold kas_tail3
 refine F2 (P:=λ_=>True) (λa _=>?_) _ (M0 (GK h hn 0 m) _ _)
 exact GK h hn 0 m
theorem Qu {n:Nat} (hn:0<n) {p:Array Nat} (h:In n p) (m r:Nat):Ck n (λr:Nat×Array Nat=>In n r.2) (kas_descPart m r p):=
 F2 (λa ha=>by
  show Ck n _ (if _>0 then _ else _)
  split
  ·exact NB hn (GK ha hn _ _) _ _
  ·exact NB hn ha _ _) _ (IR hn _ _ _ _ h)
theorem YZ {n:Nat} (hn:0<n) {p:Array Nat} (h:In n p) (r:Nat):Ck n (λr:Nat×Array Nat=>In n r.2) (kas_count r p):=
 F2 (P:=λ_=>True) (λa _=>by
  show Ck n _ (if (_==_)=true then _ else _)
  split
  ·exact h
  ·split
   ·exact ⟨h _,h _,λb=>by
     cases b
     ·exact Qu hn (GK h hn _ _) _ _
     ·exact h⟩
   ·exact Qu hn h _ _) _ (M0 h _ _)
theorem K4 {n:Nat} {p:Array Nat} (h:In n p) (k:Nat):∀ (f l r:Nat),Ck n (λ_=>True) (kas_place p k f l r)
 | 0,l,r=>trivial
 | f+1,l,r=>by
  show Ck n _ (if l>=r then _ else _)
  split
  ·exact trivial
  ·exact ⟨h _,h _,λb=>by cases b; exact K4 h k f _ _; exact K4 h k f _ _⟩
theorem QS {n:Nat} (hn:0<n):∀ (f:Nat) (p:Array Nat) (k:Nat),In n p->Ck n (λ_=>True) (kas_bin f p k)
 | 0,p,k,h=>trivial
 | f+1,p,k,h=>F2 (P:=λ_=>True) (λa _=>QS hn f _ _ (Rl h (bubble_perm _ _ _) hn)) _ (K4 h k _ _ _)
theorem S2 {n:Nat} (hn:0<n):Ck n (λ_=>True) (kas_sort n):=
 F2 (λa ha=>by
  show Ck n _ (if _<n then _ else _)
  split
  ·exact QS hn _ _ _ ha
  ·exact trivial) _ (YZ hn (λk=>by
   rw [Eg]
   by_cases hk:k<n
   ·simp [hk]
   ·simp [hk,hn]) n)
section
variable (key:Nat->Int)
theorem QR:∀ (f:Nat) (p:Array Nat) (k:Nat),k+f<=p.size->CV key p k->∃ p',A6 (BA key) (kas_bin f p k)=p'/\p'.Perm p/\p'.size=p.size/\CV key p' (k+f)
 | 0,p,k,h,hs=>⟨p,rfl,Array.Perm.refl _,rfl,hs⟩
 | f+1,p,k,h,hs=>by
  obtain ⟨m,e,h1,h2,h3⟩:=K3 key p k hs k 0 k (Nat.zero_le _) (Nat.le_refl _) wF (λi hi=>by omega) (λi i1 i2=>by omega)
  have hK:∀ i,KQ key (bubble p k (k-m)) i=if i=m then KQ key p k else if m<i/\i<=k then KQ key p (i-1) else KQ key p i:=λi=>by
   unfold KQ
   rw [Eg,getElem?_bubble wF (k-m) wF i]
   rw [show k-(k-m)=m by omega]
   repeat' split
   all_goals rw [Eg]
  obtain ⟨p',e',g1,g2,g3⟩:=QR f (bubble p k (k-m)) (k+1) (by rw [bubble_size]; omega) (λi j hij hj=>by
   rw [hK,hK]
   by_cases im:i=m
   ·rw [if_pos im]
    by_cases jm:j=m
    ·rw [if_pos jm]; exact Int.le_refl _
    ·rw [if_neg jm,if_pos wF]
     exact Int.le_of_lt (h3 (j-1) wF wF)
   ·rw [if_neg im]
    by_cases jm:j=m
    ·rw [if_pos jm,if_neg wF]
     exact h2 i wF
    ·rw [if_neg jm]
     by_cases hi:m<i/\i<=k
     ·rw [if_pos hi,if_pos wF]
      exact hs _ _ wF wF
     ·rw [if_neg hi]
      by_cases hj':m<j/\j<=k
      ·rw [if_pos hj']
       exact hs _ _ wF wF
      ·rw [if_neg hj']
       exact hs _ _ hij wF)
  refine ⟨p',?_,g1.trans (bubble_perm _ _ _),g2.trans (bubble_size _ _ _),?_⟩
  ·show A6 _ (KasT.bind _ _)=_
   rw [Fg,e]
   exact e'
  ·rw [show k+(f+1)=k+1+f by omega]; exact g3
theorem S1 {n:Nat} (hn:0<n):∃ p,A6 (BA key) (kas_sort n)=p/\p.Perm (List.toArray (List.range n))/\p.size=n/\CV key p n:=by
 obtain ⟨m,p,e,h1,h2,h3,h4,h5⟩:=YY key (nrem:=n) (p:=List.toArray (List.range n)) hn (by simp)
 have hz:p.size=n:=by rw [h4]; simp
 by_cases hm:m<n
 ·obtain ⟨p',e',g1,g2,g3⟩:=QR key (n-max m 1) p (max m 1) wF (by rw [show max m 1=m by omega]; exact h5)
  refine ⟨p',?_,g1.trans h3,g2.trans hz,by rw [show max m 1+(n-max m 1)=n by omega] at g3; exact g3⟩
  unfold kas_sort
  rw [Fg,e]
  show A6 _ (if m<n then _ else _)=_
  rw [if_pos hm]
  exact e'
 ·refine ⟨p,?_,h3,hz,by rw [show n=m by omega]; exact h5⟩
  unfold kas_sort
  rw [Fg,e]
  show A6 _ (if m<n then _ else _)=_
  rw [if_neg hm]
  rfl
end
def D9 {α:Type} (lt:α->α->Bool) (l:List α) (x:α):Int:=((l.filter λz=>lt z x).length:Nat)
theorem Ox {α:Type} {lt:α->α->Bool} {l:List α} {x y:α} (irr:∀ a,lt a a=false) (tr:∀ a b c,lt a b=true->lt b c=true->lt a c=true) (hx:x∈l) (h:lt x y=true):D9 lt l x<D9 lt l y:=by
 have key:∀ l:List α,(l.filter λz=>lt z x).length<=(l.filter λz=>lt z y).length:=λl=>by
  induction l with
  | nil=>simp
  | cons a l ih=>
   simp only [List.filter_cons]
   by_cases ha:lt a x=true
   ·rw [if_pos ha,if_pos (tr _ _ _ ha h)]; simp; exact ih
   ·rw [if_neg ha]; split
    ·simp; omega
    ·exact ih
 have strict:∀ l:List α,x∈l->(l.filter λz=>lt z x).length<(l.filter λz=>lt z y).length:=λl=>by
  induction l with
  | nil=>intro h; cases h
  | cons a l ih=>
   intro hm
   have base:=key l
   simp only [List.filter_cons]
   rcases List.mem_cons.mp hm with rfl | hm
   ·rw [if_neg (by rw [irr]; simp),if_pos h]; simp; omega
   ·have:=ih hm
    by_cases ha:lt a x=true
    ·rw [if_pos ha,if_pos (tr _ _ _ ha h)]; simp; exact this
    ·rw [if_neg ha]; split
     ·simp; omega
     ·exact this
 unfold D9
 have:=strict l hx
 omega
theorem KW {α:Type} {lt:α->α->Bool} {l:List α} {x y:α} (irr:∀ a,lt a a=false) (tr:∀ a b c,lt a b=true->lt b c=true->lt a c=true) (tot:∀ a b,lt a b=false->lt b a=false->a=b) (hx:x∈l) (hy:y∈l):decide (D9 lt l x<D9 lt l y)=lt x y:=by
 cases h:lt x y with
 | true=>exact decide_eq_true (Ox irr tr hx h)
 | false=>
  refine decide_eq_false λz=>?_
  cases h':lt y x with
  | true=>have:=Ox irr tr hy h'; omega
  | false=>rw [tot _ _ h h'] at z; omega
abbrev F4 (h:Heap) (a:Addr) (vs:List Value):Heap:=((h.update a (Obj.mapSeq λ_=>(#[]:Array Value))).push (seqObj "tuple" vs.toArray 0)).push (seqObj "list" #[] 0)
theorem Xj {h:Heap} {a b:Addr} {vs:List Value} {o:Obj} (hb:b≠a) (e:h.get? b=some o):(F4 h a vs).get? b=some o:=
 Heap.get?_push_of_some _ (Heap.get?_push_of_some _ ((Heap.get?_update_ne _ _ _ _ hb).trans e))
theorem Xi {h:Heap} {a:Addr} {vs:List Value} {n:Nat} (e:h.get? a=some (seqObj "list" vs.toArray n)):∃ m,(h.update a (Obj.mapSeq λ_=>(#[]:Array Value))).get? a=some (seqObj "list" #[] m)/\(F4 h a vs).get? a=some (seqObj "list" #[] m):=
 ⟨_,get?_update_seq e _,Heap.get?_push_of_some _ (Heap.get?_push_of_some _ (get?_update_seq e _))⟩
section
variable {prog:Program} {w:World} {A:Around} {E:Value->Shared->Prop} {s:Shared}
def Dy (p:Array Nat) (vs:List Value):List Value:=p.toList.map λi=>vs.getD i Value.none
def M4 (prog:Program) (w:World) (A:Around) (vs:List Value) (s:Shared) (G:SortSt->Prop):Prop:=
 ∀ E:Value->Shared->Prop,wpAny (model prog w) A (if vs.toArray.size<2 then pure general' else keyKind' vs.toArray)
  (λκ s1=>wpAny (model prog w) A ((if vs.toArray.size<2 then pure () else sortRuns').run (SortSt.mk' κ (vs.toArray.zip vs.toArray) #[] 7 none)) (λr s2=>s2=s/\failedOf r.2=none/\G r.2) E s1) E s
theorem Xk {α β:Type} {M:Model} {c:Prop} [Decidable c] {x y:Sem α} {f:α->Sem β} {Q:β->Shared->Prop} (h:wpAny M A ((if c then x else y) >>= f) Q E s):wpAny M A (if c then x >>= f else y >>= f) Q E s:=by
 by_cases hc:c
 ·rw [if_pos hc] at h ⊢; exact h
 ·rw [if_neg hc] at h ⊢; exact h
theorem S0 {a:Addr} {vs:List Value} {n:Nat} {G:SortSt->Prop} {P:PySem.Fin->Shared->Prop} (ho:s.heap.get? a=some (seqObj "list" vs.toArray n)) (lim:vs.length<=sizeLine) (hr:M4 prog w A vs { s with heap:=F4 s.heap a vs } G)
  (h:∀ st,G st->((arrOf st).map (·.2)).size<=sizeLine+1/\P (.done (.ret .none)) { s with heap:=sortedHeap s.heap a vs ((arrOf st).map (·.2)) }):wpAny (model prog w) A (Builtin.«list.sort» ⟨[.ref a],[]⟩) P E s:=by
 obtain ⟨m,g1,g2⟩:=Xi ho
 rw [list_sort_plain]
 refine wpAny_bind (listItems_at ho rfl (wpAny_bind (listUpdate_at ho rfl ?_ (by simpa using lim) (Nat.zero_le _))))
 refine wpAny_bind (seqEpoch_at g1 rfl (wpAny_bind (wpAny_newTuple (wpAny_bind (wpAny_newList (wpAny_holding ?_) (Nat.zero_le _))) lim)))
 refine Xk (wpAny_bind (wpAny_mono (hr E) (λκ s1 q1=>wpAny_bind (wpAny_mono q1 (λr s2 q2=>?_) λ_ _ e=>e)) λ_ _ e=>e))
 obtain ⟨⟨⟩,st⟩:=r
 obtain ⟨rfl,f0,gs⟩:=q2
 obtain ⟨z,q⟩:=h st gs
 refine wpAny_bind (seqEpoch_at g2 rfl (wpAny_bind (listUpdate_at g2 rfl ?_ (Nat.zero_le _) z)))
 dsimp only at f0
 rw [f0,bne_self_eq_false]
 exact wpAny_pure q
def Ht (prog:Program) (w:World) (A:Around) (vs:List Value) (key:Nat->Int) (s:Shared):Prop:=
 ∃ κ,(∀ (E:Value->Shared->Prop) (Q:SortKind->Shared->Prop),Q κ s->wpAny (model prog w) A (keyKind' vs.toArray) Q E s)/\∀ i j (C:Bool->Shared->Prop),i<vs.length->j<vs.length->C (decide (key i<key j)) s->wpAny (model prog w) A (keyLt' κ (vs.getD i Value.none) (vs.getD j Value.none)) C (λ_ _=>False) s
def Jg (vs:List Value) (key:Nat->Int) (st:SortSt):Prop:=∃ p:Array Nat,p.Perm (List.toArray (List.range vs.length))/\p.size=vs.length/\CV key p vs.length/\(arrOf st).map (·.2)=List.toArray (Dy p vs)
theorem T6 {vs:List Value} {key:Nat->Int} (h:vs.length<2):M4 prog w A vs s (Jg vs key):=λE=>by
 have c:vs.toArray.size<2:=by simpa using h
 simp only [if_pos c]
 refine wpAny_pure (wpAny_pure ⟨rfl,rfl,List.toArray (List.range vs.length),Array.Perm.refl _,by simp,λi j hij hj=>?_,?_⟩)
 ·rw [show i=j by omega]
  exact Int.le_refl _
 ·show (vs.toArray.zip vs.toArray).map (·.2)=_
  match vs,h with
  | [],_=>simp [Dy]
  | [v],_=>simp [Dy]
theorem T5 {vs:List Value} {key:Nat->Int} (h:2<=vs.length) (h64:vs.length<64) (cm:Ht prog w A vs key s):M4 prog w A vs s (Jg vs key):=λE=>by
 have c:¬ vs.toArray.size<2:=by simpa using h
 simp only [if_neg c]
 obtain ⟨κ,kd,cm⟩:=cm
 obtain ⟨p,ep,g1,g2,g3⟩:=S1 key (n:=vs.length) wF
 refine kd _ _ (kat_run (ks:=vs) (Q:=λst s2=>s2=s/\failedOf st=none/\Jg vs key st) (G:=λq s2=>s2=s/\q=p) rfl h h64 (λq st s2 _ a2 a3 a4=>⟨a4.1,a3,p,g1,g2,g3,?_⟩) (Pp (n:=vs.length) (lt:=BA key) cm _ (S2 wF) λ_=>⟨rfl,ep⟩))
 rw [a4.2] at a2
 exact kat_snds (ks:=vs) (vs:=vs) rfl a2
theorem S3 {a:Addr} {vs:List Value} {n:Nat} {key:Nat->Int} {P:PySem.Fin->Shared->Prop} (ho:s.heap.get? a=some (seqObj "list" vs.toArray n)) (h64:vs.length<64)
  (hk:2<=vs.length->Ht prog w A vs key { s with heap:=F4 s.heap a vs })
  (h:∀ p:Array Nat,p.Perm (List.toArray (List.range vs.length))->p.size=vs.length->CV key p vs.length->P (.done (.ret .none)) { s with heap:=sortedHeap s.heap a vs (List.toArray (Dy p vs)) }):wpAny (model prog w) A (Builtin.«list.sort» ⟨[.ref a],[]⟩) P E s:=by
 have lim:vs.length<=sizeLine:=by rw [sizeLine_eq]; omega
 refine S0 (G:=Jg vs key) ho lim ?_ λst ⟨p,p1,p2,p3,e⟩=>?_
 ·by_cases c:vs.length<2
  ·exact T6 c
  ·exact T5 wF h64 (hk wF)
 ·rw [e]
  exact ⟨by simp [Dy]; omega,h p p1 p2 p3⟩
theorem MK {x:Value} {Q:Value->Shared->Prop}
  (hc:wpAny (model prog w) A.in1 (collect x) (λvs s1=>∃ key,vs.length<64/\(2<=vs.length->Ht prog w A.in1.in1 vs key { s1 with heap:=F4 (s1.heap.push (seqObj "list" vs.toArray 0)) s1.heap.objs.size vs }) /\
   ∀ p:Array Nat,p.Perm (List.toArray (List.range vs.length))->p.size=vs.length->CV key p vs.length->Q (.ref s1.heap.objs.size) { s1 with heap:=sortedHeap (s1.heap.push (seqObj "list" vs.toArray 0)) s1.heap.objs.size vs (List.toArray (Dy p vs)) }) E s):wpAny (model prog w) A (call (.builtin "sorted") [x]) Q E s:=by
 have body:wpAny (model prog w) A.in1 (Builtin.«sorted» ⟨[x],[]⟩) (λfin s'=>∃ v,fin=.done (.ret v)/\Q v s') E s:=by
  refine wpAny_bind (m:=checkCount "sorted" 1 1 _) (wpAny_pure (wpAny_bind (Ao hc λvs s1 ⟨key,h64,hk,hq⟩=>wpAny_bind (wpAny_newList (wpAny_bind (wpAny_holding ?_)) (by rw [sizeLine_eq]; omega)))))
  have own:(s1.heap.push (seqObj "list" vs.toArray 0)).get? s1.heap.objs.size=some (seqObj "list" vs.toArray 0):=Heap.get?_push_size _ rfl
  exact wpAny_call_entry slot_list_sort ⟨_,own,rfl⟩ entry_list_sort (S3 (s:={ s1 with heap:=s1.heap.push (seqObj "list" vs.toArray 0) }) own h64 hk λp p1 p2 p3=>⟨_,rfl,wpAny_pure ⟨_,rfl,hq p p1 p2 p3⟩⟩) (args_list_sort _)
 exact Calls.call_function_entry kind_sorted plain_sorted entry_sorted (args_sorted1 _) body
end
theorem Fo {prog:Program} {w:World} {A:Around} {s:Shared} {id:String} {b:Builtin} {args:Args} {R:Result->Shared->Prop} (pl:plainId id=true) (en:entryFor table id=some b)
  (h:wpAny (model prog w) A.in1 (b args) (λfin s'=>match fin with | .done f=>R (.ok f) s' | .again c=>c.quiet=true/\codeAny (model prog w) A c R s') (λe s'=>R (.error e) s') s):codeAny (model prog w) A (.builtin id args) R s:=
 codeAny_builtin en (by rw [Around.under_plainId pl]; exact h)
abbrev DR (its:List Value) (c:Nat):Obj:={ cls:=.type "list",dict:=none,data:=.seq its.toArray c,slots:=#[] }
theorem ZI {M:Model} {A:Around} {E:Value->Shared->Prop} {s:Shared} {α:Type} {t:Sem α} {Q:α->Shared->Prop} {F:Shared->Prop} {u:Sem Unit} (hu:u=pure ()) (h:wpAny M A u (λ_ s2=>F s2) E s) (k:∀ s2,F s2->wpAny M A t Q E s2):wpAny M A t Q E s:=by
 subst hu
 have:=wpAny_bind (f:=λ_=>t) (wpAny_mono h (λ_ s2 q=>k s2 q) λ_ _ e=>e)
 simpa using this
theorem PN {X:Cx} {pins:List (Addr×Obj)} {H:Hp} {b S:Addr} {o:Obj} (h:B9 X pins H b) (hb:S≠b):B9 X ((S,o)::pins) H b:=by
 obtain ⟨f0,f1,f2,f3,f4,f5⟩:=h
 refine ⟨f0,f1,f2,f3,f4,λp hp=>?_⟩
 simp only [List.mem_append,List.mem_cons] at hp
 rcases hp with q | rfl | q
 ·exact f5 p (List.mem_append_left _ q)
 ·exact hb
 ·exact f5 p (List.mem_append_right _ q)
theorem Rh {X:Cx} {pins:List (Addr×Obj)} {σ:L2.St} {H:Hp} {s:Shared} {q:Addr×Obj} (I:L2.Inv X (q::pins) σ H s):L2.Inv X pins σ H s:=I.pins_of λp hp=>I.pin p (List.mem_append_right _ (List.mem_cons_of_mem _ hp))
structure Hq (X:Cx) (pins:List (Addr×Obj)) (σ:L2.St) (O:Ad) (G1:Wd) (xs:List D) (S:Addr) (i:Nat) (s:Shared) (H:Hp) (G:Wd) (vs:List V) (its:List Value) (c:Nat):Prop where
 inv:L2.Inv X ((S,DR its c)::pins) σ H s
 ext:Ag G1 G
 sa:SA X.K G H O
 iss:Aj X.K G (xs.take i) vs
 vals:Aq vs its
section
variable {X:Cx} {A:Around} {tg:Expr} {J:It} {fp:List Addr} {it:Addr} {tn:Nat->Heap->Prop} {pins:List (Addr×Obj)} {σ:L2.St} {O:Ad} {G1:Wd} {xs:List D} {S:Addr} {res:Value} {R:Result->Shared->Prop}
theorem Hq.more {i:Nat} {s s2:Shared} {H H2:Hp} {G G2:Wd} {vs:List V} {its:List Value} {c:Nat} {x:D} {xv:V} {u:Value} (g:Hq X pins σ O G1 xs S i s H G vs its c) (I2:L2.Inv X ((S,DR its c)::pins) σ H2 s2) (hSs:X.s₀.heap.objs.size<=S) (hSC:∀ x c,X.env.cells.lookup x=some c->c≠S) (hSp:∀ p∈X.pn++pins,p.1≠S) (hx:xs[i]?=some x) (e2:Ag G G2) (sa2:SA X.K G2 H2 O) (ix:Is X.K G2 x xv) (r:Aw xv u) :
  Hq X pins σ O G1 xs S (i+1) { s2 with heap:=s2.heap.update S (Obj.mapSeq (·.push u)) } H2 G2 (vs++[xv]) (its++[u]) (c+1):=by
 have p:=I2.pin (S,DR its c) (List.mem_append_right _ List.mem_cons_self)
 have Iq:L2.Inv X pins σ H2 { s2 with heap:=s2.heap.update S (Obj.mapSeq (·.push u)) }:=(Rh I2).turned (t':=s2.toks) (λb o hb q=>(Heap.get?_update_other _ _ (Ne.symm hb)).trans q) p.2.1 p.2.2.1 (.inr hSs) hSC hSp
 refine ⟨Iq.pins_of λq hq=>?_,g.ext.trans e2,sa2,?_,g.vals.append (.cons r .nil)⟩
 ·rcases List.mem_cons.mp hq with rfl | hq
  ·refine ⟨?_,p.2.1,p.2.2.1,p.2.2.2.1,λv z=>by cases z⟩
   rw [Heap.get?_update_self _ p.1 rfl]
   simp [Obj.mapSeq,DR]
  ·exact Iq.pin q (List.mem_append_right _ hq)
 ·rw [List.take_add_one,hx]
  exact (g.iss.ext e2).append (.cons ix .nil)
theorem PD (hA:X.A=A.in1) (hc:X.calm=true) (T:D3 X.prog X.w X.K tg J fp it tn) (hgo:∀ v,letOwnedTupleGo tg (.ref it) v=pure ()) (Yi:C6 X.K G1 J xs) (hsz:xs.length<=sizeLine) (hSs:X.s₀.heap.objs.size<=S) (hSC:∀ x c,X.env.cells.lookup x=some c->c≠S) (hSp:∀ p∈X.pn++pins,p.1≠S)
  (fpS:∀ (H:Hp),(∀ b∈fp,H b=none)->∀ b∈fp,B9 X pins H b) (hSf:S∉fp)
  (fin:∀ s H G vs its c,Hq X pins σ O G1 xs S xs.length s H G vs its c->R (.ok (.ret res)) s) :
  ∀ (k i:Nat) (s:Shared) (H:Hp) (G:Wd) (vs:List V) (its:List Value) (c:Nat),i+k=xs.length->Hq X pins σ O G1 xs S i s H G vs its c->tn i s.heap->(∀ b∈fp,H b=none)->
   codeAny (model X.prog X.w) A (.builtin "list.extend.loop" ⟨[.ref S,.ref it,res],[]⟩) R s
 | 0,i,s,H,G,vs,its,c,hk,g,st,fr=>by
  have hi:i=xs.length:=by omega
  subst hi
  have fps:∀ b∈fp,B9 X ((S,DR its c)::pins) H b:=λb hb=>PN (fpS H fr b hb) λz=>hSf (z ▸ hb)
  refine Fo F.plain_extend_loop F.entry_extend_loop (hA ▸ wpAny_bind (Ao (T.done X rfl rfl rfl hc xs.length _ s σ H _ g.inv fps st (Yi.stop _ H (g.ext.g.trans g.sa.sub) (Nat.le_refl _))) λr s' ⟨hr,I'⟩=>?_))
  subst hr
  exact wpAny_pure (fin s' H G vs its c ⟨I',g.ext,g.sa,g.iss,g.vals⟩)
 | k+1,i,s,H,G,vs,its,c,hk,g,st,fr=>by
  have hi:i<xs.length:=by omega
  have fps:∀ b∈fp,B9 X ((S,DR its c)::pins) H b:=λb hb=>PN (fpS H fr b hb) λz=>hSf (z ▸ hb)
  have hl:its.length=i:=by
   rw [<- g.vals.length,<- g.iss.length,List.length_take]; omega
  refine Fo F.plain_extend_loop F.entry_extend_loop (hA ▸ wpAny_bind (Ao (T.item X rfl rfl rfl hc i _ s σ H _ g.inv fps st (Yi.go i H (g.ext.g.trans g.sa.sub) hi)) λr s1 ⟨u,hr,h1⟩=>?_))
  subst hr
  refine ZI (hgo u) h1 λs2 ⟨xv,H2,I2,r2,y2,st2,fr2⟩=>?_
  obtain ⟨x,G2,hx,e2,sa2,ix⟩:=Yi.yld i xv H H2 G O g.ext g.sa y2 hi
  have p2:=I2.pin (S,DR its c) (List.mem_append_right _ List.mem_cons_self)
  refine wpAny_bind (listUpdate_at p2.1 rfl (wpAny_pure ⟨plainId_quiet F.plain_extend_loop _,PD hA hc T hgo Yi hsz hSs hSC hSp fpS hSf fin k (i+1) _ H2 G2 _ _ (c+1) wF (g.more I2 hSs hSC hSp hx e2 sa2 ix r2) ?_ fr2⟩) (by simp; omega) (by simp; omega))
  exact T.keep _ _ _ st2 λb hb o q=>(Heap.get?_update_other _ _ (λz=>hSf (by rw [z]; exact hb))).trans q
end
theorem Rv:typeLookup (.type "zip") "__len__" = pure none:=by rw [typeLookup_type,builtinLookup_eq_fast]; kernel_rfl
theorem Rw:typeLookup (.type "zip") "__length_hint__" = pure none:=by rw [typeLookup_type,builtinLookup_eq_fast]; kernel_rfl
structure Jj (T:String):Prop where
 len:typeLookup (.type T) "__len__" = pure none
 hint:typeLookup (.type T) "__length_hint__" = pure none
 nl:(Value.type T==Value.type "list")=false
 nt:(Value.type T==Value.type "tuple")=false
theorem Wb:Jj "zip" :=⟨Rv,Rw,by decide,by decide⟩
theorem Y5 {prog:Program} {w:World} {A:Around} {s:Shared} {E:Value->Shared->Prop} {it:Addr} {Ty:String} {Q:List Value->Shared->Prop} (hN:Jj Ty) (hT:s.TypeIs (.ref it) Ty)
  (hi:∀ (h:Heap) (F:Value->Shared->Prop) (E':Value->Shared->Prop),(∀ c o,s.heap.get? c=some o->h.get? c=some o)->F (.ref it) { s with heap:=h }->wpAny (model prog w) A.in1 (pyIter (.ref it)) F E' { s with heap:=h })
  (k:∀ (h:Heap) (c:Nat) (R:Result->Shared->Prop),(∀ b o,s.heap.get? b=some o->h.get? b=some o)->h.get? s.heap.objs.size=some (DR [] c)->(∀ s' its c',s'.heap.get? s.heap.objs.size=some (DR its c')->Q its s'->R (.ok (.ret (.ref s.heap.objs.size))) s')->
   codeAny (model prog w) A (.builtin "list.extend.loop" ⟨[.ref s.heap.objs.size,.ref it,.ref s.heap.objs.size],[]⟩) R { s with heap:=h }) :
  wpAny (model prog w) A (collect (.ref it)) Q E s:=by
 obtain ⟨h,g,d,tk,os⟩:=s
 obtain ⟨o,ho,hc⟩:=hT
 have lt:it<h.objs.size:=Heap.lt_size ho
 have ne:h.objs.size≠it:=Nat.ne_of_gt lt
 dsimp only at hi k
 wp_walk
 refine Fo F.plain_proto_collect F.entry_proto_collect ?_
 wp_walk
 have up:∀ b u,h.get? b=some u->(h.push { cls:=.type "list",data:=.seq #[] }).get? b=some u:=λb u e=>Heap.get?_push_of_some _ e
 have own:(h.push { cls:=.type "list",data:=.seq #[] }).get? h.objs.size=some { cls:=.type "list",data:=.seq #[] }:=Heap.get?_push_size _ rfl
 have ty:Shared.TypeIs ⟨h.push { cls:=.type "list",data:=.seq #[] },g,d,tk,os⟩ (.ref it) Ty:=⟨o,up _ _ ho,hc⟩
 have len:=hN.len
 have hint:=hN.hint
 have nl:=hN.nl
 have nt:=hN.nt
 refine ⟨plainId_quiet F.plain_list_iadd _,Fo F.plain_list_iadd F.entry_list_iadd ?_⟩
 have sr:Builtin.List.listSameRef (.ref h.objs.size) (.ref it)=false:=beq_eq_false_iff_ne.mpr ne
 wp_walk using hi _ _ _ up
 have g1:=Heap.get?_update_self (Obj.mapSeq λx=>x.push Value.none) own rfl
 refine ⟨plainId_quiet F.plain_extend_loop _,k _ _ _ (λb u e=>?_) (Heap.get?_update_self (Obj.mapSeq λx=>x.pop) g1 rfl) λs' its c' e q=>wpAny_bind (wpAny_load e (wpAny_pure q))⟩
 have nb:h.objs.size≠b:=λz=>Nat.lt_irrefl _ (z ▸ Heap.lt_size e)
 rw [Heap.get?_update_other _ _ nb,Heap.get?_update_other _ _ nb]
 exact up b u e
theorem Y4 {X:Cx} {A:Around} {tg:Expr} {J:It} {fp:List Addr} {it:Addr} {tn:Nat->Heap->Prop} {pins:List (Addr×Obj)} {σ:L2.St} {O:Ad} {G1:Wd} {xs:List D} {s:Shared} {H:Hp} {E:Value->Shared->Prop} {Ty:String} {Q:List Value->Shared->Prop}
  (hA:X.A=A.in1) (hc:X.calm=true) (T:D3 X.prog X.w X.K tg J fp it tn) (hgo:∀ v,letOwnedTupleGo tg (.ref it) v=pure ()) (Yi:C6 X.K G1 J xs) (hsz:xs.length<=sizeLine) (hN:Jj Ty) (hT:s.TypeIs (.ref it) Ty) (I:L2.Inv X pins σ H s) (st:tn 0 s.heap) (f:∀ b∈fp,B9 X pins H b) (sa:SA X.K G1 H O)
  (hQ:∀ (s':Shared) (H':Hp) (G':Wd) (vs:List V) (its:List Value),L2.Inv X pins σ H' s'->Ag G1 G'->SA X.K G' H' O->Aj X.K G' xs vs->Aq vs its->Q its s'):wpAny (model X.prog X.w) A (collect (.ref it)) Q E s:=by
 have out:s.heap.objs.size∉fp:=λm=>let ⟨o,e,_⟩:=T.obj 0 _ st _ m; Nat.lt_irrefl _ (Heap.lt_size e)
 obtain ⟨g0,g1,g2,g3,g4,g5⟩:B9 X pins H s.heap.objs.size:=I.fpOk (Nat.le_refl _) (I.hok.fresh (Nat.le_refl _))
 refine Y5 hN hT (λh F E' up q=>T.self A.in1 0 _ _ _ (T.keep 0 _ _ st λb _ o e=>up b o e) q) λh c R up own kr=>?_
 have I3:L2.Inv X pins σ H { s with heap:=h,toks:=s.toks }:=I.kept up
 refine PD hA hc T hgo Yi hsz I.sz g4 g5 (λH' fr b hb=>⟨fr b hb,(f b hb).2⟩) out (λs' H' G' vs its c' g=>?_) xs.length 0 _ H G1 [] [] c wF ⟨I3.pins_of λp hp=>?_,Ag.refl _,sa,.nil,.nil⟩ (T.keep 0 _ _ st λb _ o e=>up b o e) λb hb=>(f b hb).1
 ·exact kr s' its c' (g.inv.pin (_,DR its c') (List.mem_append_right _ List.mem_cons_self)).1 (hQ s' H' G' vs its (Rh g.inv) g.ext g.sa (by have:=g.iss; rwa [List.take_length] at this) g.vals)
 ·rcases List.mem_cons.mp hp with rfl | q
  ·exact ⟨own,g0,g1,g2,λv z=>by cases z⟩
  ·exact I3.pin p (List.mem_append_right _ q)
structure Dm {α:Type} (lt:α->α->Bool):Prop where
 irr:∀ a,lt a a=false
 tr:∀ a b c,lt a b=true->lt b c=true->lt a c=true
 tot:∀ a b,lt a b=false->lt b a=false->a=b
def Bh {α:Type} (lt:α->α->Bool) (l:List α):List α:=l.mergeSort λa b=>!lt b a
theorem Dv {α:Type} (lt:α->α->Bool) (l:List α):(Bh lt l).Perm l:=List.mergeSort_perm _ _
theorem Dm.trle {α:Type} {lt:α->α->Bool} (o:Dm lt):∀ a b c:α,(!lt b a)=true->(!lt c b)=true->(!lt c a)=true:=λa b c h1 h2=>by
 have h1:lt b a=false:=by simpa using h1
 have h2:lt c b=false:=by simpa using h2
 cases h:lt c a with
 | false=>rfl
 | true=>
  cases h3:lt a b with
  | true=>rw [o.tr _ _ _ h h3] at h2; cases h2
  | false=>rw [o.tot _ _ h3 h1] at h; rw [h] at h2; cases h2
theorem Dm.totle {α:Type} {lt:α->α->Bool} (o:Dm lt):∀ a b:α,((!lt b a)||(!lt a b))=true:=λa b=>by
 cases h:lt b a with
 | false=>rfl
 | true=>
  cases h2:lt a b with
  | false=>rfl
  | true=>have:=o.tr _ _ _ h h2; rw [o.irr] at this; cases this
theorem NR {α:Type} {lt:α->α->Bool} (o:Dm lt) (l:List α):(Bh lt l).Pairwise λa b=>(!lt b a)=true:=List.pairwise_mergeSort o.trle o.totle l
theorem SQ {α:Type} {lt:α->α->Bool} (o:Dm lt) {l q:List α} (h1:q.Perm l) (h2:q.Pairwise λa b=>(!lt b a)=true):q=Bh lt l:=
 List.Perm.eq_of_pairwise (λa b _ _ x y=>o.tot a b (by simpa using y) (by simpa using x)) h2 (NR o l) (h1.trans (Dv lt l).symm)
theorem Ux {p:Array Nat} {n:Nat} (g:p.Perm (List.toArray (List.range n))):∀ i∈p.toList,i<n:=λi hi=>by
 have:i∈List.toArray (List.range n):=g.mem_iff.mp (Array.mem_toList_iff.mp hi)
 simpa using this
theorem Uy {α:Type} [Inhabited α] {p:Array Nat} {ps:List α} (g:p.Perm (List.toArray (List.range ps.length))):(p.toList.map λi=>ps.getD i default).Perm ps:=by
 have e:(List.range ps.length).map (λi=>ps.getD i default)=ps:=by
  apply List.ext_getElem
  ·simp
  ·intro i h1 h2
   simp
   rw [List.getElem?_eq_getElem h2]
   rfl
 have q:p.toList.Perm (List.range ps.length):=by
  have:=Array.perm_iff_toList_perm.mp g
  simpa using this
 have:=q.map λi=>ps.getD i default
 rw [e] at this
 exact this
theorem SZ {α:Type} [Inhabited α] {lt:α->α->Bool} (o:Dm lt) {K:PySem.W.Frag} {G:Wd} {ps:List α} {f:α->D} {vs:List V} {its:List Value} {key:Nat->Int} (hkey:∀ i,i<ps.length->key i=D9 lt ps (ps.getD i default)) (is:Aj K G (ps.map f) vs) (va:Aq vs its)
  {p:Array Nat} (g1:p.Perm (List.toArray (List.range ps.length))) (g2:p.size=ps.length) (g3:CV key p ps.length):∃ us,Aq us (Dy p its)/\Aj K G ((Bh lt ps).map f) us/\us.length=ps.length:=by
 have hb:=Ux g1
 have e1:=is.length
 have e2:=va.length
 rw [List.length_map] at e1
 refine ⟨p.toList.map λi=>vs.getD i .non,?_,?_,by simp [g2]⟩
 ·unfold Dy
  have:∀ l:List Nat,(∀ i∈l,i<ps.length)->Aq (l.map λi=>vs.getD i .non) (l.map λi=>its.getD i Value.none):=λl=>by
   induction l with
   | nil=>intro _; exact .nil
   | cons a l ih=>
    intro h
    have ha:=h a List.mem_cons_self
    obtain ⟨u,hu,ru⟩:=va.get (i:=a) (x:=vs[a]'wF) (by simp)
    refine .cons ?_ (ih λi hi=>h i (List.mem_cons_of_mem _ hi))
    dsimp only
    rw [List.getD_eq_getElem?_getD,List.getD_eq_getElem?_getD,List.getElem?_eq_getElem (show a<vs.length by omega),hu]
    exact ru
  exact this _ hb
 ·rw [<- SQ o (Uy g1) ?_]
  ·have:∀ l:List Nat,(∀ i∈l,i<ps.length)->Aj K G ((l.map λi=>ps.getD i default).map f) (l.map λi=>vs.getD i .non):=λl=>by
    induction l with
    | nil=>intro _; exact .nil
    | cons a l ih=>
     intro h
     have ha:=h a List.mem_cons_self
     obtain ⟨v,hv,iv⟩:=is.get (i:=a) (d:=f ps[a]) (by simp [ha])
     refine .cons ?_ (ih λi hi=>h i (List.mem_cons_of_mem _ hi))
     dsimp only
     rw [List.getD_eq_getElem?_getD,List.getD_eq_getElem?_getD,List.getElem?_eq_getElem ha,hv]
     exact iv
   exact this _ hb
  ·rw [List.pairwise_iff_getElem]
   intro i j hi hj hij
   rw [List.length_map,Array.length_toList] at hi hj
   have kq:∀ i (h:i<p.size),KQ key p i=D9 lt ps (ps.getD p[i] default):=λi h=>by
    unfold KQ
    rw [Eg,Array.getElem?_eq_getElem h,Option.getD_some]
    exact hkey _ (hb _ (Array.mem_toList_iff.mpr (Array.getElem_mem h)))
   have k:=g3 i j (Nat.le_of_lt hij) wF
   rw [kq i hi,kq j hj] at k
   rw [List.getElem_map,List.getElem_map,Array.getElem_toList,Array.getElem_toList]
   have mem:∀ i (h:i<p.size),ps.getD p[i] default∈ps:=λi h=>by
    have:=hb _ (Array.mem_toList_iff.mpr (Array.getElem_mem h))
    rw [List.getD_eq_getElem?_getD,List.getElem?_eq_getElem this]
    exact List.getElem_mem _
   have:=KW o.irr o.tr o.tot (mem j hj) (mem i hi)
   rw [<- this]
   simp only [Bool.not_eq_true',decide_eq_false_iff_not]
   omega
def Br (a b:Int×Int):Bool:=decide (a.1<b.1\/(a.1=b.1/\a.2<b.2))
theorem GS:Dm Br:=⟨λa=>by simp [Br],λa b c h1 h2=>by simp [Br] at *; omega,λa b h1 h2=>by
 simp [Br] at *
 obtain ⟨a1,a2⟩:=a; obtain ⟨b1,b2⟩:=b
 simp at *
 omega⟩
abbrev pD (p:Int×Int):D:=.tup [.int p.1,.int p.2]
def Hs {α:Type} [Inhabited α] (X:Cx) (lt:α->α->Bool) (f:α->D):Prop:=
 ∀ (A:Around) (G:Wd) (H:Hp) (pins:List (Addr×Obj)) (σ:L2.St) (s:Shared) (s':Shared) (O:Ad) (ps:List α) (vs:List V) (its:List Value),L2.Inv X pins σ H s->SA X.K G H O->Aj X.K G (ps.map f) vs->Aq vs its->2<=ps.length->(∀ b o,s.heap.get? b=some o->s'.heap.get? b=some o)->
  Ht X.prog X.w A its (λi=>D9 lt ps (ps.getD i default)) s'
theorem ID {α:Type} {l:List α} {i:Nat} (h:i<l.length) (d:α):l.getD i d=l[i]:=by rw [List.getD_eq_getElem?_getD,List.getElem?_eq_getElem h]; rfl
theorem Ja {α:Type} {l:List α} {i:Nat} (h:i<l.length) (d:α):l.getD i d∈l:=by rw [ID h]; exact List.getElem_mem _
theorem Zc {X:Cx}:Hs X Br pD:=λA G H pins σ s s' O ps vs its I sa is va h2 up=>by
 have e1:=is.length
 have e2:=va.length
 rw [List.length_map] at e1
 have at':∀ i,i<ps.length->∃ a t u,its.getD i Value.none=.ref a/\∃ o n,s'.heap.get? a=some o/\o.cls=.type "tuple" /\ o.data=.seq #[.int (ps.getD i default).1 t,.int (ps.getD i default).2 u] n:=λi hi=>by
  obtain ⟨v,hv,iv⟩:=is.get (i:=i) (d:=pD ps[i]) (by simp [hi])
  obtain ⟨w,hw,rw'⟩:=va.get hv
  cases iv with
  | tup h r=>
  cases r with | cons j1 r=>cases r with | cons j2 r=>
  cases r
  cases j1
  cases j2
  cases rw'
  obtain ⟨its2,v2,⟨o,g1,g2,n,g3⟩,_⟩:=I.tuple (CW sa.sub h)
  obtain ⟨u1,u2,rfl,q1,q2⟩:=Hz v2
  obtain ⟨t,rfl⟩:=q1
  obtain ⟨t',rfl⟩:=q2
  refine ⟨_,t,t',by rw [List.getD_eq_getElem?_getD,hw]; rfl,o,n,up _ _ g1,g2,?_⟩
  rw [ID hi]
  exact g3
 refine ⟨tuples' (Value.type "int" != Value.type "tuple"),λE Q hq=>?_,λi j C hi hj hC=>?_⟩
 ·have tp:∀ (l:List Nat),(∀ i∈l,i<ps.length)->∃ fs,KatTups s'.heap (l.map λi=>its.getD i Value.none) fs/\fs.length=l.length/\∀ f∈fs,∃ k t,f=Value.int k t:=λl=>by
   induction l with
   | nil=>intro _; exact ⟨[],.nil,rfl,λf h=>by cases h⟩
   | cons a l ih=>
    intro h
    obtain ⟨fs,f1,f2,f3⟩:=ih λi hi=>h i (List.mem_cons_of_mem _ hi)
    obtain ⟨b,t,u,e,o,n,g1,g2,g3⟩:=at' a (h a List.mem_cons_self)
    refine ⟨.int (ps.getD a default).1 t::fs,?_,by simp [f2],λf hf=>?_⟩
    ·show KatTups s'.heap (its.getD a Value.none::_) _
     rw [e]
     exact .cons g1 g2 g3 rfl f1
    ·rcases List.mem_cons.mp hf with q | q
     ·exact ⟨_,_,q⟩
     ·exact f3 f q
  obtain ⟨fs,f1,f2,f3⟩:=tp (List.range ps.length) λi hi=>List.mem_range.mp hi
  have ei:((List.range ps.length).map λi=>its.getD i Value.none)=its:=by
   apply List.ext_getElem
   ·simp; omega
   ·intro i h1 h3
    simp
    rw [List.getElem?_eq_getElem h3]; rfl
  rw [ei] at f1
  refine kat_kind f1 (by rw [f2,List.length_range]; omega) (λf hf=>?_) wE hq
  obtain ⟨k,t,rfl⟩:=f3 f hf
  exact .now
 ·obtain ⟨a,t,u,ea,oa,na,a1,a2,a3⟩:=at' i wF
  obtain ⟨b,t',u',eb,ob,nb,b1,b2,b3⟩:=at' j wF
  have hr:=KW GS.irr GS.tr GS.tot (Ja (show i<ps.length by omega) default) (Ja (show j<ps.length by omega) default)
  rw [hr] at hC
  rw [ea,eb]
  generalize ps.getD i default=x at hC a3
  generalize ps.getD j default=y at hC b3
  refine kat_lt a1 a3 b1 b3 ?_
  show KatLex _ _ _ _ _ _ [(Value.int x.1 t,Value.int y.1 t'),(Value.int x.2 u,Value.int y.2 u')] 0 s'
  refine kat_cons (wpAny_eqBool_int ?_)
  by_cases h1:x.1=y.1
  ·rw [show (x.1==y.1)=true by simpa using h1]
   refine kat_yes (kat_cons (wpAny_eqBool_int ?_))
   by_cases h2:x.2=y.2
   ·rw [show (x.2==y.2)=true by simpa using h2]
    refine kat_yes (kat_nil ?_)
    have:Br x y=false:=by unfold Br; exact decide_eq_false wF
    rw [this] at hC
    exact hC
   ·rw [show (x.2==y.2)=false by simpa using h2]
    refine kat_no (kat_one _ _ (lt_int ?_))
    have:Br x y=decide (x.2<y.2):=by unfold Br; exact decide_eq_decide.mpr wF
    rw [this] at hC
    exact hC
  ·rw [show (x.1==y.1)=false by simpa using h1]
   refine kat_no ?_
   have e:((Value.type "int" != Value.type "tuple")&&(0:Nat)==0)=true:=by decide
   rw [e]
   refine oneLt_int ?_
   have:Br x y=decide (x.1<y.1):=by unfold Br; exact decide_eq_decide.mpr wF
   rw [this] at hC
   exact hC
section
variable {X:Cx} {ρ:Am} {O:Ad} {e a b c:Expr} {es:List Expr} {d da db:D} {ds:List D} {R:D->Ad->Prop} {pos p:Pos} {x:Str} {xs ys:List D} {α:Type} [Inhabited α] {lt:α->α->Bool} {f:α->D} {ps:List α}
theorem JQ (o:Dm lt) (cm:Hs X lt f) {pins:List (Addr×Obj)} {σ:L2.St} {s1:Shared} {H1:Hp} {G1:Wd} {vs:List V} {its:List Value} {Q:VK} (I:L2.Inv X pins σ H1 s1) (sa:SA X.K G1 H1 O) (is:Aj X.K G1 (ps.map f) vs) (va:Aq vs its) (h64:ps.length<64)
  (hq:∀ v G' H',Ag G1 G'->SA X.K G' H' O->Is X.K G' (.lst ((Bh lt ps).map f)) v->Q v H') :
  ∃ key,its.length<64/\(2<=its.length->Ht X.prog X.w X.A.in1.in1 its key { s1 with heap:=F4 (s1.heap.push (seqObj "list" its.toArray 0)) s1.heap.objs.size its }) /\
   ∀ p:Array Nat,p.Perm (List.toArray (List.range its.length))->p.size=its.length->CV key p its.length->EP X pins σ Q (.ref s1.heap.objs.size) { s1 with heap:=sortedHeap (s1.heap.push (seqObj "list" its.toArray 0)) s1.heap.objs.size its (List.toArray (Dy p its)) }:=by
 have e1:=is.length
 have e2:=va.length
 rw [List.length_map] at e1
 have el:its.length=ps.length:=by omega
 refine ⟨λi=>D9 lt ps (ps.getD i default),by omega,λh2=>?_,λp p1 p2 p3=>?_⟩
 ·refine cm _ G1 H1 pins σ s1 _ O ps vs its I sa is va wF λb ob q=>?_
  exact Xj (Nat.ne_of_lt (Heap.lt_size q)) (Heap.get?_push_of_some _ q)
 ·rw [el] at p1 p2 p3
  obtain ⟨us,u1,u2,u3⟩:=SZ o (λi _=>rfl) is va p1 p2 p3
  obtain ⟨ec,hD⟩:=sortedHeap_at (h:=s1.heap.push (seqObj "list" its.toArray 0)) (a:=s1.heap.objs.size) (vs:=its) (n:=0) (out:=List.toArray (Dy p its)) (Heap.get?_push_size _ rfl)
  have fr:H1 s1.heap.objs.size=none:=I.hok.fresh (Nat.le_refl _)
  obtain ⟨e3,s3⟩:=sa.laid (o:=.lst us) fr
  refine ⟨.ref s1.heap.objs.size,An H1 s1.heap.objs.size (.lst us),?_,rfl,hq _ _ _ e3 s3 (.lst AJ (u2.ext e3))⟩
  refine I.laid (t':=s1.toks) (λb u q=>?_) (Nat.le_refl _) ⟨by rw [u3,sizeLine_eq]; omega,Dy p its,ec,u1,hD⟩
  have hb:b<s1.heap.objs.size:=Heap.lt_size q
  rw [sortedHeap_old (Nat.ne_of_lt hb) (by rw [Heap.size_push]; exact Nat.lt_succ_of_lt hb)]
  exact Heap.get?_push_of_some _ q
theorem X9 (o:Dm lt) (cm:∀ Y,Hs Y lt f) {Ty:String} (hN:Jj Ty) (hz:Jq X ρ O e (ps.map f) Ty) (h64:ps.length<64) (hm:X.mg "sorted" = none) (hc:X.calm=true:=by rfl) (hg:Gl X "sorted" := by rfl) (hs:starEach [e] X.env=[(false,eval e X.env)]:=by rfl) :
  Ac X ρ O (.Call (.Name "sorted" p) [e] [] pos) (.lst ((Bh lt ps).map f)):=λG pins s σ H Q I ⟨h1,h2,h3⟩=>by
 refine wpAny_Call_Name_kw (DA I hg hm boot_sorted ?_)
 refine PyProof.Rows.callWith_builtin1 ?_ (by rw [hs]; rfl) rfl
 rw [hs]
 show wpAny _ _ (spliced ((false,eval e X.env)::backTo pos [])) _ _ s
 refine Calls.spliced_cons (Ao (hz G (.Name "" pos) pins s σ H (λJ H1=>∃ G1,Ag G G1/\SA X.K G1 H1 O/\C6 X.K G1 J (ps.map f)) I h1 h2 λJ G' H' q1 q2 q3=>⟨G',q1,q2,q3⟩) λv s1 ⟨⟨it,fp,tn,J,H1,hv,I1,T,st,fo,G1,e1,sa1,Yi⟩,hT⟩=>Calls.spliced_nil ?_)
 subst hv
 refine MK (Y4 (X:=Cx.wA X X.A.in1.in1) (A:=X.A.in1) rfl hc T (λv=>rfl) Yi (by rw [List.length_map,sizeLine_eq]; omega) hN hT (Q0E I1 rfl rfl) st fo sa1 λs' H' G' vs its I' e' sa' is' va'=>?_)
 exact JQ o (cm X) (Q0C I' I.ok) sa' is' va' h64 λv G'' H'' q1 q2 q3=>h3 v G'' H'' (e1.trans (e'.trans q1)) q2 q3
theorem Ya (o:Dm lt) (cm:∀ Y,Hs Y lt f) (ha:Ac X ρ O e da) (fa:LV O da (ps.map f)) (h64:ps.length<64) (hm:X.mg "sorted" = none) (hg:Gl X "sorted" := by rfl) (hs:starEach [e] X.env=[(false,eval e X.env)]:=by rfl) :
  Ac X ρ O (.Call (.Name "sorted" p) [e] [] pos) (.lst ((Bh lt ps).map f)):=λG pins s σ H Q I ⟨h1,h2,h3⟩=>by
 refine wpAny_Call_Name_kw (DA I hg hm boot_sorted ?_)
 refine PyProof.Rows.callWith_builtin1 ?_ (by rw [hs]; rfl) rfl
 rw [hs]
 show wpAny _ _ (spliced ((false,eval e X.env)::backTo pos [])) _ _ s
 refine Calls.spliced_cons (Ao (ha G pins s σ H (λv H1=>∃ G1,Ag G G1/\SA X.K G1 H1 O/\Is X.K G1 da v) I ⟨h1,h2,λv G' H' q1 q2 q3=>⟨G',q1,q2,q3⟩⟩) λu s1 ⟨v,H1,I1,r1,G1,e1,sa1,i1⟩=>Calls.spliced_nil ?_)
 obtain ⟨ad,vs,rfl,q,is⟩:=fa.sq sa1 i1
 cases r1
 obtain ⟨its,va,pl,_⟩:=I1.list q
 have e3:=is.length
 have e4:=va.length
 rw [List.length_map] at e3
 refine MK (collect_list pl.isList ?_ (by rw [sizeLine_eq]; omega))
 refine JQ o (cm X) (I1.kept (t':=s1.toks) λb ob e=>?_) sa1 is va h64 λv G'' H'' q1 q2 q3=>h3 v G'' H'' (e1.trans q1) q2 q3
 have hb:b<s1.heap.objs.size:=Heap.lt_size e
 rw [Heap.get?_update_ne _ _ _ _ (Nat.ne_of_lt hb)]
 exact Heap.get?_push_of_some _ e
end
mutual
def CH:D->PyData
 | .non=>.none | .bl b=>.bool b | .int i=>.int i | .str x=>.str x | .tup xs=>.tuple (CG xs) | .lst xs=>.list (CG xs) | .scr xs=>.list (CG xs) | .ptr _=>.none | .ty _=>.none | .fn _=>.none | .dct _ _=>.none
def CG:List D->List PyData
 | []=>[]
 | x::xs=>CH x::CG xs
end
mutual
def B0:D->Bool
 | .non=>true | .bl _=>true | .int _=>true | .str x=>PyData.strOk x | .tup xs=>Cu xs | .lst xs=>Cu xs | .scr xs=>Cu xs | .ptr _=>false | .ty _=>false | .fn _=>false | .dct _ _=>false
def Cu:List D->Bool
 | []=>true
 | x::xs=>B0 x&&Cu xs
end
mutual
def El:D->Nat
 | .tup xs=>D0 xs+1 | .lst xs=>D0 xs+1 | .scr xs=>D0 xs+1 | .non=>0 | .bl _=>0 | .int _=>0 | .str _=>0 | .ptr _=>0 | .ty _=>0 | .fn _=>0 | .dct _ _=>0
def D0:List D->Nat
 | []=>0
 | x::xs=>max (El x) (D0 xs)
end
def CM (a b:D):Bool:=PyData.eqv (CH a) (CH b)
def Qn (a b:List D):Bool:=PyData.eqvAll (CG a) (CG b)
mutual
theorem Hh:∀ d:D,(CH d).depth=El d
 | .non=>rfl | .bl _=>rfl | .int _=>rfl | .str _=>rfl | .ptr _=>rfl | .ty _=>rfl | .fn _=>rfl | .dct _ _=>rfl
 | .tup xs=>by simp only [CH,PyData.depth,El]; rw [Ga xs]
 | .lst xs=>by simp only [CH,PyData.depth,El]; rw [Ga xs]
 | .scr xs=>by simp only [CH,PyData.depth,El]; rw [Ga xs]
theorem Ga:∀ xs:List D,PyData.depthAll (CG xs)=D0 xs
 | []=>rfl
 | x::xs=>by simp only [CG,PyData.depthAll,D0]; rw [Hh x,Ga xs]
end
mutual
theorem GQ:∀ d:D,B0 d=true->(CH d).canLay0=true
 | .non,_=>rfl | .bl _,_=>rfl | .int _,_=>rfl | .str x,h=>by simp only [B0] at h; simp only [CH,PyData.canLay0]; exact h | .ptr _,h=>nomatch h | .ty _,h=>nomatch h | .fn _,h=>nomatch h | .dct _ _,h=>nomatch h
 | .tup xs,h=>FU xs h
 | .lst xs,h=>FU xs h
 | .scr xs,h=>FU xs h
theorem FU:∀ xs:List D,Cu xs=true->PyData.canLayAll0 (CG xs)=true
 | [],_=>rfl
 | x::xs,h=>by
  have h:(B0 x&&Cu xs)=true:=h
  rw [Bool.and_eq_true] at h
  show (PyData.canLay0 (CH x)&&PyData.canLayAll0 (CG xs))=true
  rw [GQ x h.1,FU xs h.2]; rfl
end
section
variable {X:Cx} {pins:List (Addr×Obj)} {σ:L2.St} {H:Hp} {s:Shared} {G:Wd}
mutual
theorem GO (I:L2.Inv X pins σ H s) (sub:Bj G.g H):∀ {d:D} {v:V} {u:Value},Is X.K G d v->Aw v u->B0 d=true->∃ as,Reads s.heap u (CH d) as
 | _,_,_,.non,r,_=>by cases r; exact ⟨[],.none⟩
 | _,_,_,.bl b,r,_=>by cases r; exact ⟨[],.bool b⟩
 | _,_,_,.int i,r,_=>by obtain ⟨t,rfl⟩:=r; exact ⟨[],.int i t⟩
 | _,_,_,.str x,r,_=>by obtain ⟨t,rfl⟩:=r; exact ⟨[],.str x t⟩
 | _,_,_,.tup h q,r,p=>by
  cases r
  obtain ⟨its,va,⟨o,g1,g2,n,g3⟩,_⟩:=I.tuple (CW sub h)
  obtain ⟨as,ra⟩:=GN I sub q va p
  exact ⟨as,.tuple g1 g2 g3 (by simpa using ra)⟩
 | _,_,_,.lst h q,r,p=>by
  cases r
  obtain ⟨its,va,pl,_⟩:=I.list (A0.of (sub _ _ h))
  obtain ⟨o,g1,g2,n,g3⟩:=pl.isList
  obtain ⟨as,ra⟩:=GN I sub q va p
  exact ⟨_,.list g1 g2 g3 (by simpa using ra)⟩
 | _,_,_,.scr h q,r,p=>by
  cases r
  obtain ⟨its,va,pl,_⟩:=I.list (sub.seq h)
  obtain ⟨o,g1,g2,n,g3⟩:=pl.isList
  obtain ⟨as,ra⟩:=GN I sub q va p
  exact ⟨_,.list g1 g2 g3 (by simpa using ra)⟩
 | _,_,_,.ptr _ _,_,p=>by simp [B0] at p
 | _,_,_,.ty _,_,p=>by simp [B0] at p
 | _,_,_,.fn _,_,p=>by simp [B0] at p
 | _,_,_,.dct _ _ _,_,p=>by simp [B0] at p
theorem GN (I:L2.Inv X pins σ H s) (sub:Bj G.g H):∀ {ds:List D} {vs:List V} {us:List Value},Aj X.K G ds vs->Aq vs us->Cu ds=true->∃ as,ReadsAll s.heap us (CG ds) as
 | _,_,_,.nil,.nil,_=>⟨[],.nil⟩
 | d::ds,_,_,.cons i is,.cons r rs,p=>by
  have p:(B0 d&&Cu ds)=true:=p
  rw [Bool.and_eq_true] at p
  obtain ⟨as,ra⟩:=GO I sub i r p.1
  obtain ⟨bs,rb⟩:=GN I sub is rs p.2
  exact ⟨_,.cons ra rb⟩
end
end
def RD (O:Ad) (d e:D):Prop:=e=d\/∃ n xs,d=.ptr n/\O[n]?=some (some (.lst xs))/\e=.lst xs
theorem RD.reads {X:Cx} {pins:List (Addr×Obj)} {σ:L2.St} {H:Hp} {s:Shared} {G:Wd} {O:Ad} {d e:D} {v:V} {u:Value} (h:RD O d e) (I:L2.Inv X pins σ H s) (sa:SA X.K G H O) (i:Is X.K G d v) (r:Aw v u) (p:B0 e=true):∃ as,Reads s.heap u (CH e) as:=by
 rcases h with rfl | ⟨n,xs,rfl,h,rfl⟩
 ·exact GO I sa.sub i r p
 ·cases i with | ptr _ ha=>
  cases r
  obtain ⟨a,g0,_,vs,g1,g2⟩:=sa.mt n _ h
  have:=Option.some.inj (ha.symm.trans g0)
  subst this
  obtain ⟨its,va,pl,_⟩:=I.list (A0.of g1)
  obtain ⟨o,q1,q2,k,q3⟩:=pl.isList
  obtain ⟨as,ra⟩:=GN I sa.sub g2 va p
  exact ⟨_,.list q1 q2 q3 (by simpa using ra)⟩
section
variable {X:Cx} {ρ:Am} {O:Ad} {e a b c:Expr} {es:List Expr} {d da db ea eb:D} {ds xs ys:List D} {R:D->Ad->Prop} {pos p:Pos} {x:Str} {k:Nat}
theorem Y9 (hr:AR k X.A) (ha:RD O da ea) (hb:RD O db eb) (pa:B0 ea=true) (pb:B0 eb=true) (hd:min (El ea) (El eb)<=60):AX X O (compareOp .NotEq) da db (.bl (!CM ea eb)):=λG pins s σ H x y v u Q I rx ry ⟨h1,h2,h3,h4⟩=>by
 obtain ⟨as,ra⟩:=ha.reads I h1 h2 rx pa
 obtain ⟨bs,rb⟩:=hb.reads I h1 h3 ry pb
 have hu:=hr.units
 exact PySem.SeqAt.compareNe_reads ra rb (GQ _ pa) (GQ _ pb) (by rw [Hh,Hh]; omega) ⟨.bl _,H,I,rfl,h4 _ G H (Ag.refl _) h1 (.bl _)⟩
end
theorem UC {l:List D} (h:∀ d∈l,B0 d=true):Cu l=true:=by
 induction l with
 | nil=>rfl
 | cons x xs ih=>
  show (B0 x&&Cu xs)=true
  rw [h x List.mem_cons_self,ih λd hd=>h d (List.mem_cons_of_mem _ hd)]; rfl
theorem OM {α:Type} {f:α->D} {l:List α} (h:∀ a∈l,B0 (f a)=true):Cu (l.map f)=true:=UC λd hd=>by obtain ⟨a,ha,rfl⟩:=List.mem_map.mp hd; exact h a ha
theorem Qm {α:Type} {f:α->D} [DecidableEq α] (h:∀ a b,CM (f a) (f b)=decide (a=b)):∀ l m:List α,Qn (l.map f) (m.map f)=decide (l=m)
 | [],[]=>rfl
 | [],_::_=>rfl
 | _::_,[]=>rfl
 | a::l,b::m=>by
  show (CM (f a) (f b)&&Qn (l.map f) (m.map f))=_
  rw [h a b,Qm h l m]
  by_cases h1:a=b
  ·by_cases h2:l=m
   ·simp [h1,h2]
   ·simp [h1,h2]
  ·simp [h1]
theorem PJ {α:Type} {l:List α} {i:Nat} (h:i<l.length) (d:α):l.getD i d=l[i]:=by simp [h]
section
variable {X:Cx} {ρ:Am} {O:Ad} {e a b c:Expr} {es:List Expr} {d da db ea eb:D} {ds xs ys:List D} {R:D->Ad->Prop} {pos p:Pos} {x:Str} {k:Nat}
theorem LT.sq {K:PySem.W.Frag} {G:Wd} {H:Hp} {O:Ad} {d:D} {xs:List D} {v:V} (h:LT O d xs) (s:SA K G H O) (i:Is K G d v):∃ k a vs,v=.ref a/\Sq k K H a vs/\Aj K G xs vs:=by
 rcases h with h | rfl
 ·obtain ⟨a,vs,rfl,q,r⟩:=h.sq s i; exact ⟨true,a,vs,rfl,q,r⟩
 ·obtain ⟨a,vs,rfl,q,r⟩:=Go s i; exact ⟨false,a,vs,rfl,q,r⟩
theorem Uv (ns:List Int):preSum (λi=>ns.getD i 0) ns.length=ns.sum:=by rw [preSum_getD,List.take_length]
theorem NP {k:Bool} {h:Heap} {l:Addr} {ys:Array Value} (q:BW k h l ys):l<h.objs.size:=by
 cases k with
 | true=>obtain ⟨o,g,_⟩:=(q:h.IsList l ys); exact Heap.lt_size g
 | false=>obtain ⟨o,g,_⟩:=(q:h.IsTuple l ys); exact Heap.lt_size g
theorem Zk {prog:Program} {w:World} {A:Around} {E:Value->Shared->Prop} {s:Shared} {k:Bool} {l:Addr} {its:List Value} {ns:List Int} {Q:Value->Shared->Prop} (hh:A.handled=none) (q:BW k s.heap l its.toArray) (hv:∀ (i:Nat) (v:Value),its[i]?=some v->∃ t,v=.int (ns.getD i 0) t) (hn:ns.length=its.length)
  (h:∀ h' tk t,(∀ b o,s.heap.get? b=some o->h'.get? b=some o)->Q (.int ns.sum t) { s with heap:=h',toks:=tk }):wpAny (model prog w) A (call (.builtin "sum") [.ref l]) Q E s:=by
 have hl:=NP q
 have fin:∀ (h2:Heap),(∀ b o,s.heap.get? b=some o->h2.get? b=some o)->∀ h' tk t',(∀ b o,b∉[s.heap.objs.size]->h2.get? b=some o->h'.get? b=some o)->Q (.int (preSum (λi=>ns.getD i 0) its.toArray.size) t') { s with heap:=h',toks:=tk }:=λh2 up h' tk t' kp=>by
  rw [show its.toArray.size=ns.length by simp [hn],Uv]
  exact h h' tk t' λb o e=>kp b o (by simpa using Nat.ne_of_lt (Heap.lt_size e)) (up b o e)
 cases k with
 | true=>
  refine call_sum_walkG (wpAny_pyIter_list q ⟨s.heap.objs.size,[s.heap.objs.size,l],[s.heap.objs.size],its.toArray.size,λi v=>its.toArray[i]?=some v,λi h=>h.IsListIter s.heap.objs.size l i/\h.IsList l its.toArray,λi=>ns.getD i 0,rfl,Walks.list (A:=A.in1) hh _ l (Nat.ne_of_lt hl) its.toArray,⟨⟨_,Heap.get?_push_size _ rfl,rfl,rfl⟩,Heap.IsList.push q _⟩,λb hb=>?_,λi v e=>hv i v (by simpa using e),fin _ λb o e=>Heap.get?_push_of_some _ e⟩)
  rw [Heap.size_push]
  rcases List.mem_cons.mp hb with rfl | hb
  ·exact Nat.lt_succ_self _
  ·rw [List.mem_singleton.mp hb]; exact Nat.lt_succ_of_lt hl
 | false=>
  refine call_sum_walkG (wpAny_pyIter_tuple q ⟨s.heap.objs.size,[s.heap.objs.size,l],[s.heap.objs.size],its.toArray.size,λi v=>its.toArray[i]?=some v,λi h=>h.IsTupleIter s.heap.objs.size l i/\h.IsTuple l its.toArray,λi=>ns.getD i 0,rfl,Walks.tuple (A:=A.in1) hh _ l (Nat.ne_of_lt hl) its.toArray,⟨⟨_,Heap.get?_push_size _ rfl,rfl,rfl⟩,(BW.at (k:=false) q λo e=>Heap.get?_push_of_some _ e:BW false _ l _)⟩,λb hb=>?_,λi v e=>hv i v (by simpa using e),fin _ λb o e=>Heap.get?_push_of_some _ e⟩)
  rw [Heap.size_push]
  rcases List.mem_cons.mp hb with rfl | hb
  ·exact Nat.lt_succ_self _
  ·rw [List.mem_singleton.mp hb]; exact Nat.lt_succ_of_lt hl
theorem QH {ns:List Int} (h:LT O d (ns.map D.int)) (hc:X.calm=true:=by rfl):BY X O (.builtin "sum") [d] (.int ns.sum):=λG pins s σ H vs us Q I r ⟨h1,h2,h3⟩=>by
 cases h2 with | cons i r2=>
 cases r2
 obtain ⟨kk,ad,ws,rfl,q,is⟩:=h.sq h1 i
 obtain ⟨u,rfl,ru⟩:=Ds r
 cases ru
 obtain ⟨its,va,sq,_⟩:=EL I q
 have e:=is.toInts
 subst e
 have el:=va.length
 rw [List.length_map] at el
 refine Zk (ns:=ns) (I.ok.hd hc) sq (λi v hv=>?_) el λh' tk t kp=>⟨.int ns.sum,H,I.kept kp,⟨t,rfl⟩,h3 _ G H (Ag.refl _) h1 (.int _)⟩
 have hi:i<ns.length:=by rw [el]; exact (List.getElem?_eq_some_iff.mp hv).1
 obtain ⟨w,hw,rw'⟩:=va.get (i:=i) (x:=.int ns[i]) (by simp [hi])
 rw [hv] at hw
 cases hw
 obtain ⟨t,e⟩:=rw'
 exact ⟨t,by rw [e,PJ hi]⟩
theorem Zp {prog:Program} {w:World} {A:Around} {E:Value->Shared->Prop} {s:Shared} {k:Bool} {l:Addr} {its:List Value} {bs:List Bool} {Q:Value->Shared->Prop} (hh:A.handled=none) (q:BW k s.heap l its.toArray) (hv:∀ (i:Nat) (v:Value),its[i]?=some v->v=.bool (bs.getD i true)) (hn:bs.length=its.length) (al:Bool)
  (h:∀ h' tk,(∀ b o,s.heap.get? b=some o->h'.get? b=some o)->Q (.bool (if al then bs.all id else bs.any id)) { s with heap:=h',toks:=tk }):wpAny (model prog w) A (call (.builtin (if al then "all" else "any")) [.ref l]) Q E s:=by
 have hl:=NP q
 have ea:(List.range its.toArray.size).all (λi=>bs.getD i true)=bs.all id:=by
  have:bs=(List.range bs.length).map λi=>bs.getD i true:=by
   apply List.ext_getElem
   ·simp
   ·intro i h1 h2; simp; rw [List.getElem?_eq_getElem h1]; rfl
  conv=>rhs; rw [this,List.all_map]
  rw [show its.toArray.size=bs.length by simp [hn]]
  rfl
 have eb:(List.range its.toArray.size).any (λi=>bs.getD i true)=bs.any id:=by
  have:bs=(List.range bs.length).map λi=>bs.getD i true:=by
   apply List.ext_getElem
   ·simp
   ·intro i h1 h2; simp; rw [List.getElem?_eq_getElem h1]; rfl
  conv=>rhs; rw [this,List.any_map]
  rw [show its.toArray.size=bs.length by simp [hn]]
  rfl
 have kp':∀ (h2:Heap),(∀ b o,s.heap.get? b=some o->h2.get? b=some o)->∀ h':Heap,(∀ b o,b∉[s.heap.objs.size]->h2.get? b=some o->h'.get? b=some o)->∀ b o,s.heap.get? b=some o->h'.get? b=some o:=λh2 up h' kp b o e=>kp b o (by simpa using Nat.ne_of_lt (Heap.lt_size e)) (up b o e)
 have tr:TruthOf prog w A.in1 (λi v=>its.toArray[i]?=some v) (λi=>bs.getD i true):=λi v s Q E hP hQ=>by
  rw [hv i v (by simpa using hP)]; exact wpAny_truthy_bool hQ
 cases k with
 | true=>
  have W:=Walks.list (prog:=prog) (w:=w) (A:=A.in1) hh s.heap.objs.size l (Nat.ne_of_lt hl) its.toArray
  have st:(s.heap.push { cls:=.type "list_iterator",data:=.fields #[.ref l,.int 0 0] }).IsListIter s.heap.objs.size l 0/\(s.heap.push { cls:=.type "list_iterator",data:=.fields #[.ref l,.int 0 0] }).IsList l its.toArray:=⟨⟨_,Heap.get?_push_size _ rfl,rfl,rfl⟩,Heap.IsList.push q _⟩
  cases al with
  | true=>exact call_all_walk (wpAny_pyIter_list q ⟨_,_,_,_,_,_,_,rfl,W,st,tr,λh' tk kp=>by rw [ea]; exact h h' tk (kp' _ (λb o e=>Heap.get?_push_of_some _ e) h' kp)⟩)
  | false=>exact call_any_walk (wpAny_pyIter_list q ⟨_,_,_,_,_,_,_,rfl,W,st,tr,λh' tk kp=>by rw [eb]; exact h h' tk (kp' _ (λb o e=>Heap.get?_push_of_some _ e) h' kp)⟩)
 | false=>
  have W:=Walks.tuple (prog:=prog) (w:=w) (A:=A.in1) hh s.heap.objs.size l (Nat.ne_of_lt hl) its.toArray
  have st:(s.heap.push { cls:=.type "tuple_iterator",data:=.fields #[.ref l,.int 0 0] }).IsTupleIter s.heap.objs.size l 0/\(s.heap.push { cls:=.type "tuple_iterator",data:=.fields #[.ref l,.int 0 0] }).IsTuple l its.toArray:=⟨⟨_,Heap.get?_push_size _ rfl,rfl,rfl⟩,(BW.at (k:=false) q λo e=>Heap.get?_push_of_some _ e:BW false _ l _)⟩
  cases al with
  | true=>exact call_all_walk (wpAny_pyIter_tuple q ⟨_,_,_,_,_,_,_,rfl,W,st,tr,λh' tk kp=>by rw [ea]; exact h h' tk (kp' _ (λb o e=>Heap.get?_push_of_some _ e) h' kp)⟩)
  | false=>exact call_any_walk (wpAny_pyIter_tuple q ⟨_,_,_,_,_,_,_,rfl,W,st,tr,λh' tk kp=>by rw [eb]; exact h h' tk (kp' _ (λb o e=>Heap.get?_push_of_some _ e) h' kp)⟩)
theorem Zv {bs:List Bool} (al:Bool) (h:LT O d (bs.map D.bl)) (hc:X.calm=true):BY X O (.builtin (if al then "all" else "any")) [d] (.bl (if al then bs.all id else bs.any id)):=λG pins s σ H vs us Q I r ⟨h1,h2,h3⟩=>by
 cases h2 with | cons i r2=>
 cases r2
 obtain ⟨kk,ad,ws,rfl,q,is⟩:=h.sq h1 i
 obtain ⟨u,rfl,ru⟩:=Ds r
 cases ru
 obtain ⟨its,va,sq,_⟩:=EL I q
 have e1:=is.length
 have e2:=va.length
 rw [List.length_map] at e1
 refine Zp (bs:=bs) (I.ok.hd hc) sq (λi v hv=>?_) wF al λh' tk kp=>⟨.bl _,H,I.kept kp,rfl,h3 _ G H (Ag.refl _) h1 (.bl _)⟩
 have hi:i<bs.length:=by rw [e1,e2]; exact (List.getElem?_eq_some_iff.mp hv).1
 obtain ⟨w,hw,iw⟩:=is.get (i:=i) (d:=.bl bs[i]) (by simp [hi])
 obtain ⟨z,hz,rz⟩:=va.get hw
 rw [hv] at hz
 cases hz
 cases iw
 rw [PJ hi]
 exact rz
theorem MP {bs:List Bool} (h:LT O d (bs.map D.bl)) (hc:X.calm=true:=by rfl):BY X O (.builtin "all") [d] (.bl (bs.all id)):=Zv true h hc
end
end DL
namespace DL
open PySem PySem.Spec PyProof.Rows L2
mutual
def GW:D->Bool
 | .ptr _=>false
 | .tup xs=>DO xs
 | .lst xs=>DO xs
 | .scr xs=>DO xs
 | .dct _ xs=>DO xs
 | _=>true
def DO:List D->Bool
 | []=>true
 | d::ds=>GW d&&DO ds
end
theorem Le {α:Type} {f:α->D} (h:∀ a,GW (f a)=true) (l:List α):DO (l.map f)=true:=by
 induction l with
 | nil=>rfl
 | cons a l ih=>rw [List.map_cons]; unfold DO; rw [h,ih]; rfl
theorem Lf (l:List Int):DO (l.map D.int)=true:=Le (λ_=>rfl) l
section
variable {K:PySem.W.Frag} {G G':Wd} {t:List Addr}
mutual
theorem Is.cut:∀ {d:D} {v:V},Is K G' d v->GW d=true->∀ l,Is K ⟨G'.g,l⟩ d v
 | _,_,.non,_,l=>.non
 | _,_,.bl b,_,l=>.bl b
 | _,_,.int i,_,l=>.int i
 | _,_,.str x,_,l=>.str x
 | _,_,.tup h r,e,l=>.tup h (Aj.cut r e l)
 | _,_,.lst h r,e,l=>.lst h (Aj.cut r e l)
 | _,_,.scr h r,e,l=>.scr h (Aj.cut r e l)
 | _,_,.ptr n h,e,l=>by cases e
 | _,_,.ty n,_,l=>.ty n
 | _,_,.fn n,_,l=>.fn n
 | _,_,.dct h hl r,e,l=>.dct h hl (Aj.cut r e l)
theorem Aj.cut:∀ {ds:List D} {vs:List V},Aj K G' ds vs->DO ds=true->∀ l,Aj K ⟨G'.g,l⟩ ds vs
 | _,_,.nil,_,l=>.nil
 | _,_,.cons h r,e,l=>by
  have e:=(Bool.and_eq_true _ _).mp e
  exact .cons (Is.cut h e.1 l) (Aj.cut r e.2 l)
end
mutual
theorem Is.back (e:G'.l=G.l++t):∀ {d:D} {v v0:V},Is K G d v0->Is K G' d v->Is K ⟨G'.g,G.l⟩ d v
 | _,_,_,.non,h=>by cases h; exact .non
 | _,_,_,.bl b,h=>by cases h; exact .bl b
 | _,_,_,.int i,h=>by cases h; exact .int i
 | _,_,_,.str x,h=>by cases h; exact .str x
 | _,_,_,.tup _ r0,h=>by cases h with | tup h r=>exact .tup h (Aj.back e r0 r)
 | _,_,_,.lst _ r0,h=>by cases h with | lst h r=>exact .lst h (Aj.back e r0 r)
 | _,_,_,.scr _ r0,h=>by cases h with | scr h r=>exact .scr h (Aj.back e r0 r)
 | _,_,_,.ptr n q,h=>by
  cases h with
  | ptr _ h=>
   refine .ptr n ?_
   rw [e,List.getElem?_append_left (List.getElem?_eq_some_iff.mp q).1] at h
   exact h
 | _,_,_,.ty n,h=>by cases h; exact .ty n
 | _,_,_,.fn n,h=>by cases h; exact .fn n
 | _,_,_,.dct _ _ r0,h=>by cases h with | dct h hl r=>exact .dct h hl (Aj.back e r0 r)
theorem Aj.back (e:G'.l=G.l++t):∀ {ds:List D} {vs v0:List V},Aj K G ds v0->Aj K G' ds vs->Aj K ⟨G'.g,G.l⟩ ds vs
 | _,_,_,.nil,h=>by cases h; exact .nil
 | _,_,_,.cons q r,h=>by cases h with | cons h1 h2=>exact .cons (Is.back e q h1) (Aj.back e r h2)
end
theorem A4.back (e:G'.l=G.l++t):∀ {fs:List (Str×D)} {vs v0:List (Str×V)},A4 K G fs v0->A4 K G' fs vs->A4 K ⟨G'.g,G.l⟩ fs vs
 | _,_,_,.nil,h=>by cases h; exact .nil
 | _,_,_,.cons q r,h=>by cases h with | cons h1 h2=>exact .cons (Is.back e q h1) (A4.back e r h2)
theorem SA.cut {H H':Hp} {O O2:Ad} (s:SA K G H O) (e:Ag G G') (s':SA K G' H' (O++O2)):Ag G ⟨G'.g,G.l⟩/\SA K ⟨G'.g,G.l⟩ H' O:=by
 obtain ⟨t,et⟩:=e.l
 refine ⟨⟨e.g,[],(List.append_nil _).symm⟩,⟨s'.sub,s.len,s.nd,λa ha=>s'.liv a (by rw [et]; exact List.mem_append_left _ ha),λn m h=>?_⟩⟩
 have hn:=(List.getElem?_eq_some_iff.mp h).1
 obtain ⟨a,q1,q2,q3⟩:=s'.mt n m (by rw [List.getElem?_append_left hn]; exact h)
 obtain ⟨a0,p1,p2,p3⟩:=s.mt n m h
 rw [et,List.getElem?_append_left (by rw [s.len]; exact hn)] at q1
 refine ⟨a,q1,q2,?_⟩
 cases m with
 | lst xs=>
  obtain ⟨vs,g1,g2⟩:=q3
  obtain ⟨v0,h1,h2⟩:=p3
  exact ⟨vs,g1,Aj.back et h2 g2⟩
 | ins C fs=>
  obtain ⟨dx,vs,g1,g2⟩:=q3
  obtain ⟨dx0,v0,h1,h2⟩:=p3
  exact ⟨dx,vs,g1,A4.back et h2 g2⟩
 | exc C fs ha=>
  obtain ⟨ob,g1,g2,g3,g4⟩:=q3
  obtain ⟨ob0,h1,h2,h3,_⟩:=p3
  refine ⟨ob,g1,g2,?_,g4⟩
  rcases h3 with h3 | ⟨dx0,v0,b1,b2,b3⟩
  ·exact .inl h3
  ·refine g3.imp id ?_
   rintro ⟨dx,vs,a1,a2,a3⟩
   exact ⟨dx,vs,a1,a2,A4.back et b3 a3⟩
 | dct ks xs=>
  obtain ⟨vs,g1,g2,g3⟩:=q3
  obtain ⟨v0,h1,h2,h3⟩:=p3
  exact ⟨vs,g1,g2,Aj.back et h3 g3⟩
 | pin ob vs ks xs=>exact ⟨q3.1,q3.2.1,Aj.back et p3.2.2 q3.2.2⟩
end
section
variable {X:Cx} {ρ:Am} {O:Ad} {e a b c:Expr} {es:List Expr} {d da db:D} {ds:List D} {R:D->Ad->Prop} {pos p:Pos} {x:Str} {AK:List Stmt} {P:A2}
theorem FF (h:Exs X ρ O AK { nx:=λ_ _=>False,rt:=λd O'=>(∃ O2,O'=O++O2)/\GW d=true/\P.rt d O }):Exs X ρ O AK P:=λG pins s σ H E I ⟨q1,q2,q3⟩=>by
 refine h G pins s σ H E I ⟨q1,q2,⟨λσ' ρ' O' G3 H3 e3 s3 n3 q=>q.elim,λv d O' G3 H3 e3 s3 i3 r=>?_,λσ' ρ' O' G3 H3 e3 s3 n3 q=>q.elim,λσ' ρ' O' G3 H3 e3 s3 n3 q=>q.elim⟩⟩
 obtain ⟨⟨O2,rfl⟩,r2,r3⟩:=r
 obtain ⟨e4,s4⟩:=q1.cut e3 s3
 exact q3.rt v d O _ H3 e4 s4 (i3.cut r2 _) r3
def HW (pre:List D->Prop) (f:List D->D->Prop):A7:=λds O R=>pre ds/\∀ d,f ds d->R d O
theorem Jy {tg:Expr} (he:Ev X ρ O e λd O'=>∃ ρ1,Tg X tg d ρ ρ1/\P.nx ρ1 O') (hs:swapsWithSole [tg] e pos.line X.env=pure false:=by rfl) (hw:swappedStores [tg] e X.env=pure none:=by rfl)
  (h1:(assignEach [tg] X.env).map (·.2)=[assign tg X.env]:=by rfl):Ex X ρ O (.Assign [tg] e pos) P:=λG=>
 PS.imp (Uu (he G) (g:=λv σ H Q=>∃ G1 d ρ1,Tg X tg d ρ ρ1/\Is X.K G1 d v/\Bj G1.g H/\Ar X.K G1 σ ρ/\∀ σ',Ar X.K G1 σ' ρ1->Q σ' H) (λpins s σ H v u Q I r ⟨G1,d,ρ1,ht,q⟩=>ht G1 pins s σ H v u Q I r q) hs hw h1) λE σ H ⟨q1,q2,q3⟩=>
  ⟨q1,q2,λv d O' G' H' e1 s1 i1 ⟨ρ1,t1,r1⟩=>⟨G',d,ρ1,t1,i1,s1.sub,q2.ext e1,λσ' n'=>q3.nx _ _ O' G' H' e1 s1 n' r1⟩⟩
theorem AL {m:Option MO} {O2:Ad}:(O++m::O2)[O.length]?=some m:=by
 rw [List.getElem?_append_right (Nat.le_refl _),Nat.sub_self]; rfl
theorem Gr {m n:Option MO} {O2:Ad}:(O++m::n::O2)[O.length+1]?=some n:=by
 rw [List.getElem?_append_right wF,show O.length+1-O.length=1 by omega]; rfl
theorem CI {m z:Option MO} {O2:Ad}:(O++m::O2).set O.length z=O++z::O2:=by
 rw [List.set_append_right (h:=Nat.le_refl _),Nat.sub_self]; rfl
theorem ss1 {m n z:Option MO} {O2:Ad}:(O++m::n::O2).set (O.length+1) z=O++m::z::O2:=by
 rw [List.set_append_right (h:=by omega),show O.length+1-O.length=1 by omega]; rfl
theorem GD {m:Option MO}:(O++[m]).length=O.length+1:=by rw [List.length_append]; rfl
section
variable {α:Type} {ps:List α} {f g:α->D} {h:α->Option D} {tg iter elt:Expr} {ifs:List Expr} {scope:Scope}
theorem XI (ps:List α) (g:α->D):(ps.map λq=>some (g q)).filterMap id=ps.map g:=by
 induction ps with
 | nil=>rfl
 | cons a l ih=>rw [List.map_cons,List.filterMap_cons,ih]; rfl
theorem PV (ps:List α) (h:α->Option D):(ps.map h).filterMap id=ps.filterMap h:=by
 rw [List.filterMap_map]; rfl
theorem Yn (h:α->Option D) (T F:List Str) (js:List Nat) (hi:Cn X ρ O tg iter (ps.map f)) (hsz:ps.length<=sizeLine) (turn:∀ q,q∈ps->Nj X T F js ρ O scope tg elt ifs (f q) (h q))
  (hfl:F.length=js.length:=by rfl) (hB:Eh X.N X.env.scope.names scope.names F js=true:=by rfl) (hc:X.calm=true:=by rfl) (hk:scope.kind=.function:=by rfl) (hs:∀ x,foldedSetIterable iter X.env x=pure x:=by intro _; rfl) :
  Ac X ρ O (.ListComp elt [⟨tg,iter,ifs,0⟩] scope pos) (.lst (ps.filterMap h)):=by
 rw [<- PV]
 refine Ym T F js hi (by rw [List.length_map,List.length_map]) (by rw [List.length_map]; exact hsz) (λi x z h1 h2=>?_) hfl hB hc hk hs
 rw [List.getElem?_map] at h1 h2
 cases e:ps[i]? with
 | none=>rw [e] at h1; cases h1
 | some q=>rw [e] at h1 h2; cases h1; cases h2; exact turn q (List.mem_of_getElem? e)
theorem F7 (g:α->D) (T F:List Str) (js:List Nat) (hi:Cn X ρ O tg iter (ps.map f)) (hsz:ps.length<=sizeLine) (turn:∀ q,q∈ps->Nj X T F js ρ O scope tg elt ifs (f q) (some (g q)))
  (hfl:F.length=js.length:=by rfl) (hB:Eh X.N X.env.scope.names scope.names F js=true:=by rfl) (hc:X.calm=true:=by rfl) (hk:scope.kind=.function:=by rfl) (hs:∀ x,foldedSetIterable iter X.env x=pure x:=by intro _; rfl) :
  Ac X ρ O (.ListComp elt [⟨tg,iter,ifs,0⟩] scope pos) (.lst (ps.map g)):=by
 rw [<- XI,PV]
 exact Yn (λq=>some (g q)) T F js hi hsz turn hfl hB hc hk hs
theorem Fj {xs:List D} (he:Ac X ρ O e d) (fa:LF d xs):Cn X ρ O tg e xs:=by
 rcases fa with rfl | rfl | rfl
 ·exact Yz he
 ·exact Yy he
 ·exact Yx he
end
end
def CO {α:Type} (a:List α) (lo hi:Option Int):List α:=(a.drop (HT.sIx a.length 0 lo)).take (HT.sIx a.length a.length hi-HT.sIx a.length 0 lo)
theorem S9 {α:Type} {f:α->D} (a:List α) (lo hi:Option Int):GC (a.map f) lo hi=(CO a lo hi).map f:=by
 unfold GC CO
 rw [List.length_map,List.map_take,List.map_drop]
theorem YX {α:Type} (a:List α) (lo hi:Option Int):(CO a lo hi).length<=a.length:=by
 unfold CO
 rw [List.length_take,List.length_drop]
 omega
theorem Gb {α:Type} (a:List α) (k:Nat):CO a (some (k:Int)) none=a.drop k:=by
 unfold CO
 rw [HT.sIx_none,HT.sIx_nat]
 rcases Nat.le_total k a.length with h | h
 ·rw [Nat.min_eq_left h,List.take_of_length_le (by rw [List.length_drop]; exact Nat.le_refl _)]
 ·rw [Nat.min_eq_right h,Nat.sub_self,List.take_zero,List.drop_of_length_le h]
theorem Nm {α β:Type} {f:α->D} {g:β->D}:∀ (a:List α) (b:List β),ET (a.map f) (b.map g)=(a.zip b).map λq=>.tup [f q.1,g q.2]
 | [],_=>rfl
 | _::_,[]=>rfl
 | x::a,y::b=>by
  have ih:=Nm (f:=f) (g:=g) a b
  unfold ET at ih ⊢
  rw [List.map_cons,List.map_cons,List.zipWith_cons_cons,ih]
  rfl
section
variable {X:Cx} {ρ:Am} {O:Ad} {e a b c:Expr} {es:List Expr} {d da db:D} {ds:List D} {R:D->Ad->Prop} {pos p:Pos} {x:Str} {AK:List Stmt} {P:A2}
theorem DY {α:Type} {f:α->D} {as:List α} {lo hi:Option Expr} {l u:Option Int} {p2:Pos} (ha:Ac X ρ O a da) (hx:LV O da (as.map f)) (hl:Dp X ρ O lo l) (hh:Dp X ρ O hi u):Ac X ρ O (.Subscript a (.Slice lo hi none p2) pos) (.lst ((CO as l u).map f)):=by
 rw [<- S9]
 exact Yb ha hx hl hh
theorem P4 {α β:Type} {f:α->D} {g:β->D} {as:List α} {bs:List β} (ha:Ac X ρ O a da) (hb:Ac X ρ O b db) (fa:LF da (as.map f)) (fb:LF db (bs.map g)) (hm:X.mg "zip" = none) (hg:Gl X "zip" := by rfl) (hs:starEach [a,b] X.env=[(false,eval a X.env),(false,eval b X.env)]:=by rfl) (hs2:starEach [b] X.env=[(false,eval b X.env)]:=by rfl) :
  Jq X ρ O (.Call (.Name "zip" p) [a,b] [] pos) ((as.zip bs).map λq=>.tup [f q.1,g q.2]) "zip" := by
 rw [<- Nm]
 exact XQ ha hb fa fb hm hg hs hs2
end
theorem ZD {α:Type} {f:α->D} {a:List α} {i:Int} {v:α} (h0:0<=i) (h:a[i.toNat]?=some v):Bg (a.map f) i=some (f v):=by
 obtain ⟨k,rfl⟩:=Int.eq_ofNat_of_zero_le h0
 rw [Int.toNat_natCast] at h
 exact C5 (by rw [List.getElem?_map,h]; rfl)
def sm {α:Type} (g:α->Int):List α->Int
 | []=>0
 | a::l=>g a+sm g l
section
variable {α β:Type} {g h:α->Int} {l m:List α}
theorem JT:sm g (l++m)=sm g l+sm g m:=by
 induction l with
 | nil=>exact (Int.zero_add _).symm
 | cons a l ih=>show g a+sm g (l++m)=(g a+sm g l)+sm g m; rw [ih]; omega
theorem EX (p:l.Perm m):sm g l=sm g m:=by
 induction p with
 | nil=>rfl
 | cons a _ ih=>unfold sm; rw [ih]
 | swap a b l=>unfold sm; unfold sm; omega
 | trans _ _ h1 h2=>rw [h1,h2]
theorem S8 {i:Nat} {a:α} (e:l[i]?=some a):sm g (l.take (i+1))=sm g (l.take i)+g a:=by
 rw [List.take_add_one,e,JT]
 show _+(g a+0)=_
 omega
theorem HK (g:α->Int) (l:List α):(l.map g).sum=sm g l:=by
 induction l with
 | nil=>rfl
 | cons a l ih=>rw [List.map_cons,List.sum_cons,ih]; rfl
theorem SE (l:List Int):l.sum=sm (λi=>i) l:=by rw [<- HK,List.map_id']
theorem JS (q:∀ a∈l,g a<=h a):sm g l<=sm h l:=by
 induction l with
 | nil=>exact Int.le_refl _
 | cons a l ih=>
  have h1:=q a List.mem_cons_self
  have h2:=ih λb hb=>q b (List.mem_cons_of_mem _ hb)
  unfold sm
  omega
theorem Og (q:∀ a∈l,g a=h a):sm g l=sm h l:=by
 induction l with
 | nil=>rfl
 | cons a l ih=>
  have h1:=q a List.mem_cons_self
  have h2:=ih λb hb=>q b (List.mem_cons_of_mem _ hb)
  unfold sm
  omega
theorem Oh:sm (λa=>g a+h a) l=sm g l+sm h l:=by
 induction l with
 | nil=>rfl
 | cons a l ih=>unfold sm; rw [ih]; omega
theorem Od:sm (λ_:α=>(0:Int)) l=0:=by
 induction l with
 | nil=>rfl
 | cons a l ih=>unfold sm; rw [ih]; rfl
theorem JR (q:∀ a∈l,0<=g a):0<=sm g l:=by
 have:=JS (g:=λ_=>0) (h:=g) q
 rw [Od] at this
 exact this
theorem S7 {a:List β} {b:List Int} (e:a.length=b.length):sm (λq:β×Int=>q.2) (a.zip b)=b.sum:=by
 induction a generalizing b with
 | nil=>cases b with | nil=>rfl | cons _ _=>cases e
 | cons x a ih=>
  cases b with
  | nil=>cases e
  | cons y b=>
   rw [List.zip_cons_cons,List.sum_cons]
   unfold sm
   rw [ih (by simpa using e)]
end
theorem QM {b:Int} {n:Nat} (h0:0<=b) (h1:b<2 ^ n):PySem.Builtin.Int.intBits b<=n:=by
 unfold PySem.Builtin.Int.intBits
 split
 ·exact Nat.zero_le _
 ·rename_i hz
  have hn:b.natAbs<2 ^ n:=by
   have e:((2 ^ n:Nat):Int)=2 ^ n:=by rw [Int.natCast_pow]; rfl
   omega
  have hp:b.natAbs≠0:=by
   intro z; apply hz; rw [Int.natAbs_eq_zero.mp z]; rfl
  have:=(Nat.log2_lt hp).mpr hn
  omega
theorem DQ {a b:Int} {m n:Nat} (a0:0<=a) (a1:a<2 ^ m) (b0:0<=b) (b1:b<2 ^ n) (h:m+n<=134217728:=by decide):IntMulOk a b:=IntMulOk.of_le (QM a0 a1) (QM b0 b1) h
theorem UE {α:Type} (l:List α):((List.range l.length).map λ(k:Nat)=>(((l.length:Nat):Int)-1+-1*(k:Int)).toNat).filterMap (l[·]?)=l.reverse:=by
 apply List.ext_getElem?
 intro i
 rw [List.filterMap_map]
 have e:((λx=>l[x]?) ∘ λ(k:Nat)=>(((l.length:Nat):Int)-1+-1*(k:Int)).toNat)=λ(k:Nat)=>l[l.length-1-k]?:=by
  funext k
  show l[(((l.length:Nat):Int)-1+-1*(k:Int)).toNat]?=_
  congr 1
  omega
 rw [e]
 have e2:(List.range l.length).filterMap (λ(k:Nat)=>l[l.length-1-k]?)=l.reverse:=by
  have h:∀ n,n<=l.length->(List.range n).filterMap (λ(k:Nat)=>l[l.length-1-k]?)=l.reverse.take n:=by
   intro n
   induction n with
   | zero=>intro _; rw [List.take_zero]; rfl
   | succ n ih=>
    intro hn
    have hlt:l.length-1-n<l.length:=by omega
    have hr:n<l.reverse.length:=by rw [List.length_reverse]; omega
    rw [List.range_succ,List.filterMap_append,ih wF,List.take_add_one]
    congr 1
    have hlt':l.length-1-n<l.length:=hlt
    rw [List.filterMap_cons,List.filterMap_nil,List.getElem?_eq_getElem hlt',List.getElem?_eq_getElem hr,List.getElem_reverse]
    rfl
  rw [h _ (Nat.le_refl _),List.take_of_length_le (by rw [List.length_reverse]; exact Nat.le_refl _)]
 rw [e2]
theorem Tc (its:List Value):slicePick its.toArray none none (some (-1))=its.reverse.toArray:=by
 have e:sliceBounds none none (some (-1)) its.toArray.size=(((its.length:Nat):Int)-1,-1,-1):=by simp [sliceBounds]
 unfold slicePick
 rw [e]
 have er:sliceRange (((its.length:Nat):Int)-1) (-1) (-1)=(List.range its.length).map λ(k:Nat)=>(((its.length:Nat):Int)-1+-1*(k:Int)).toNat:=by
  unfold sliceRange
  have hc:(if (-1:Int)>0 then (if ((its.length:Nat):Int)-1 < -1 then (-1-(((its.length:Nat):Int)-1)+-1-1) / -1 else 0) else (if ((its.length:Nat):Int)-1 > -1 then (((its.length:Nat):Int)-1 - -1 - -1-1)/(- -1) else 0)).toNat=its.length:=by
   rw [if_neg wE,show (- -1:Int)=1 from rfl,Int.ediv_one]
   split <;> omega
  show (List.range ((if (-1:Int)>0 then (if ((its.length:Nat):Int)-1 < -1 then (-1-(((its.length:Nat):Int)-1)+-1-1) / -1 else 0) else (if ((its.length:Nat):Int)-1 > -1 then (((its.length:Nat):Int)-1 - -1 - -1-1)/(- -1) else 0)).toNat)).map _=_
  rw [hc]
 show ((sliceRange (((its.length:Nat):Int)-1) (-1) (-1)).filterMap (its.toArray[·]?)).toArray=_
 rw [er]
 congr 1
 have:=UE its
 simpa using this
section
variable {prog:Program} {w:World} {A:Around} {E:Value->Shared->Prop} {s:Shared}
end
section
variable {X:Cx} {ρ:Am} {O:Ad} {e a b c st:Expr} {es:List Expr} {d da db:D} {ds xs:List D} {R:D->Ad->Prop} {pos p p2:Pos} {x:Str} {AK:List Stmt} {P:A2}
theorem Yd (ha:Ac X ρ O a da) (hx:LV O da xs) (hst:Dp X ρ O (some st) (some (-1))):Ac X ρ O (.Subscript a (.Slice none none (some st) p2) pos) (.lst xs.reverse):=λG pins s σ H Q I ⟨h1,h2,h3⟩=>by
 refine Subscript_ (Ao (ha G pins s σ H (λv H1=>∃ G1,Ag G G1/\SA X.K G1 H1 O/\Is X.K G1 da v) I ⟨h1,h2,λv G' H' e s i=>⟨G',e,s,i⟩⟩) λv s1 ⟨x,H1,I1,r1,G1,e1,sa1,i1⟩=>?_)
 refine wpAny_Slice ?_
 rw [evalPart_none]
 refine wpAny_pure (wpAny_pure ?_)
 refine Ao (hst G1 pins s1 σ H1 (λo H2=>∃ G2,Ag G1 G2/\SA X.K G2 H2 O/\o=some (-1)) I1 ⟨sa1,h2.ext e1,λG' H' e s=>⟨G',e,s,rfl⟩⟩) λu s2 ⟨o,H2,I2,pu,G2,e2,sa2,ho⟩=>?_
 subst ho
 have i2:=i1.ext e2
 obtain ⟨ad,vs,rfl,q,is⟩:=hx.sq sa2 i2
 cases r1
 have I4:L2.Inv X pins σ H2 { s2 with heap:=s2.heap.push { cls:=.type "slice",data:=.fields #[.none,.none,u] } }:=I2.kept (t':=s2.toks) λb ob q=>Heap.get?_push_of_some _ q
 obtain ⟨its,r,ht,hz⟩:=I4.list q
 refine tail_any (ops:=[.ref ad,.ref s2.heap.objs.size]) ht.isList.typeIs slot_list_getitem.lookup ?_ (by with_unfolding_all rfl)
 refine wpAny_getItem_list_slice ht.isList (Heap.IsSliceOf.new ..) .none .none pu wE ?_ (by rw [List.size_toArray]; have:=r.length; omega)
 rw [Tc]
 obtain ⟨e4,s4⟩:=sa2.laid (o:=.lst vs.reverse) (p:=(s2.heap.push { cls:=.type "slice",data:=.fields #[.none,.none,u] }).objs.size) (I4.hok.fresh (Nat.le_refl _))
 refine ⟨.ref _,_,I4.laid (t':=s2.toks) (o:=.lst vs.reverse) (λb ob q=>Heap.get?_push_of_some _ q) (Nat.le_refl _) ?_,rfl,h3 _ _ _ ((e1.trans e2).trans e4) s4 (.lst AJ (is.reverse.ext e4))⟩
 exact ⟨by rw [List.length_reverse]; exact hz,_,0,r.reverse,Heap.get?_push_size _ rfl⟩
theorem Yc {α:Type} {f:α->D} {as:List α} (ha:Ac X ρ O a da) (hx:LV O da (as.map f)) (hst:Dp X ρ O (some st) (some (-1))):Ac X ρ O (.Subscript a (.Slice none none (some st) p2) pos) (.lst (as.reverse.map f)):=by
 rw [List.map_reverse]
 exact Yd ha hx hst
theorem V9 {α:Type} {f:α->D} {as bs:List α} (hz:as.length+bs.length<=sizeLine):AX X O (binaryOp .Add) (.lst (as.map f)) (.lst (bs.map f)) (.lst ((as++bs).map f)):=by
 rw [List.map_append]
 exact Dz (by rw [List.length_map,List.length_map]; exact hz)
end
theorem Of {α β:Type} {g:β->Int} {f:α->β} {l:List α}:sm g (l.map f)=sm (λa=>g (f a)) l:=by
 induction l with
 | nil=>rfl
 | cons a l ih=>show g (f a)+_=g (f a)+_; rw [ih]
section
variable {prog:Program} {w:World} {A:Around} {E:Value->Shared->Prop} {s:Shared}
end
section
variable {X:Cx} {O:Ad} {xs:List D}
end
def BN (f:Str) (d:D):List (Str×D)->List (Str×D)
 | []=>[(f,d)]
 | (g,x)::r=>if g=f then (g,d)::r else (g,x)::BN f d r
section
variable {K:PySem.W.Frag} {G:Wd}
theorem A4.look {f:Str} {d:D}:∀ {fs:List (Str×D)} {vs:List (Str×V)},A4 K G fs vs->fs.lookup f=some d->∃ v,vs.lookup f=some v/\Is K G d v
 | _,_,.nil,e=>by cases e
 | _,_,.cons (f:=g) h r,e=>by
  rw [List.lookup_cons] at e
  cases hc:f==g with
  | true=>
   rw [hc] at e
   cases e
   exact ⟨_,by rw [List.lookup_cons,hc],h⟩
  | false=>
   rw [hc] at e
   obtain ⟨v,e1,e2⟩:=A4.look r e
   exact ⟨v,by rw [List.lookup_cons,hc]; exact e1,e2⟩
theorem A4.none {f:Str}:∀ {fs:List (Str×D)} {vs:List (Str×V)},A4 K G fs vs->fs.lookup f=Option.none->vs.lookup f=Option.none
 | _,_,.nil,e=>rfl
 | _,_,.cons (f:=g) h r,e=>by
  rw [List.lookup_cons] at e
  cases hc:f==g with
  | true=>rw [hc] at e; cases e
  | false=>
   rw [hc] at e
   rw [List.lookup_cons,hc]
   exact A4.none r e
theorem A4.put {f:Str} {d:D} {v:V} (i:Is K G d v):∀ {fs:List (Str×D)} {vs:List (Str×V)},A4 K G fs vs->A4 K G (BN f d fs) (Cp f v vs)
 | _,_,.nil=>.cons i .nil
 | _,_,.cons (f:=g) h r=>by
  unfold BN Cp
  by_cases e:g=f
  ·rw [if_pos e,if_pos e]; exact .cons i r
  ·rw [if_neg e,if_neg e]; exact .cons h (A4.put i r)
theorem A4.len:∀ {fs:List (Str×D)} {vs:List (Str×V)},A4 K G fs vs->fs.length=vs.length
 | _,_,.nil=>rfl
 | _,_,.cons _ r=>by rw [List.length_cons,List.length_cons,r.len]
end
theorem SA.ins {K:PySem.W.Frag} {G:Wd} {H:Hp} {O:Ad} {q:Nat} {C:Addr} {fs:List (Str×D)} {v:V} (s:SA K G H O) (i:Is K G (.ptr q) v) (h:O[q]?=some (some (.ins C fs))):∃ a dx vs,v=.ref a/\G.l[q]?=some a/\H a=some (.ins C dx vs)/\A4 K G fs vs:=by
 cases i with
 | ptr _ ha=>
  obtain ⟨a,h1,h2,dx,vs,h3,h4⟩:=s.mt q _ h
  cases Option.some.inj (ha.symm.trans h1)
  exact ⟨_,dx,vs,rfl,h1,h3,h4⟩
section
variable {X:Cx} {ρ:Am} {O:Ad} {e a b c o value:Expr} {es:List Expr} {d da db:D} {ds:List D} {R:D->Ad->Prop} {pos p apos pos':Pos} {x f m:Str} {AK:List Stmt} {P:A2} {q:Nat} {C:Addr} {fs:List (Str×D)}
theorem Bl (he:Ac X ρ O e (.ptr q)) (hq:O[q]?=some (some (.ins C fs))) (c:CF X.K C) (n:B8 X.K C f) (hl:fs.lookup f=some d) (hb:attributeBase e f X.env (eval e X.env)=eval e X.env:=by rfl):Ac X ρ O (.Attribute e f pos) d:=λG=>
 PE.imp (UW (he G) hb) λσ H Q ⟨h1,h2,h3⟩=>⟨h1,h2,λv G1 H1 e1 s1 i1=>by
  obtain ⟨a,dx,vs,rfl,g1,g2,g3⟩:=s1.ins i1 hq
  obtain ⟨v,l,iv⟩:=g3.look hl
  exact ⟨a,C,dx,vs,v,rfl,g2,c,n,l,h3 v G1 H1 e1 s1 iv⟩⟩
theorem Er (hv:Ac X ρ O value d) (ho:Ac X ρ O o (.ptr q)) (hq:O[q]?=some (some (.ins C fs))) (c:CF X.K C) (n:B8 X.K C f) (hz:fs.length<1000) (h:P.nx ρ (O.set q (some (.ins C (BN f d fs))))) (hs:swapsWith value (some (.Attribute o f pos')) pos.line X.env=pure false:=by rfl) :
  Ex X ρ O (.Assign [.Attribute o f pos'] value pos) P:=λG pins s σ H E I ⟨h1,h2,h3⟩=>by
 refine plainObj_wpAny_Assign_Attribute (Ao (hv G pins s σ H (λv H1=>∃ G1,Ag G G1/\SA X.K G1 H1 O/\Is X.K G1 d v) I ⟨h1,h2,λv G' H' e s i=>⟨G',e,s,i⟩⟩) λu s1 ⟨y,H1,I1,ry,G1,e1,sa1,i1⟩=>
  Ao (ho G1 pins s1 σ H1 (λv H2=>∃ G2,Ag G1 G2/\SA X.K G2 H2 O/\Is X.K G2 (.ptr q) v) I1 ⟨sa1,h2.ext e1,λv G' H' e s i=>⟨G',e,s,i⟩⟩) λov s2 ⟨x,H2,I2,rx,G2,e2,sa2,i2⟩=>?_) hs
 obtain ⟨a,dx,vs,rfl,g1,g2,g3⟩:=sa2.ins i2 hq
 obtain rfl:ov=Value.ref a:=rx
 refine Oi I2 g2 c n (by rw [<- g3.len]; exact hz) ry λs3 I3=>⟨σ,_,I3,?_⟩
 exact h3.nx σ ρ _ G2 _ (e1.trans e2) (sa2.put (m':=.ins C (BN f d fs)) hq g1 ⟨dx,_,AJ,g3.put (i1.ext e2)⟩) (h2.ext (e1.trans e2)) h
structure DF (P:Program) (w:World) (K:PySem.W.Frag) (mg:Str->Option Value) (base:Heap) (C:Addr) (k:Nat) (m:Str) (sp:A7):Prop where
 ex:∃ f fd ps,AI P w K mg base BM k f fd ps (Cc K sp)/\Ho K C m f/\Binds K fd ps []
 cls:CF K C
theorem EG {k:Nat} {sp:A7} {pl:Sem Bool} (M:DF X.prog X.w X.K X.mg X.base C k m sp) (hr:AR k X.A) (ho:Ac X ρ O o (.ptr q)) (hq:O[q]?=some (some (.ins C fs))) (hno:fs.lookup m=none) (ha:BB X ρ O (e::es) ds) (hs:sp (.ptr q::ds) O R)
  (hst:starEach (e::es) X.env=(false,eval e X.env)::starEach es X.env:=by rfl) (hpl:(backTo pos (starEach es X.env)).any (·.1)=false:=by rfl)
  (ht:eval (.Call (.Attribute o m apos) (e::es) [] pos) X.env=(do
   let ov <- eval o X.env
   standAt apos.atName
   let (f,first) <- holding [ov] (getMethod ov m pl)
   callWith pos f first (backTo pos (starEach (e::es) X.env)) (backToKw pos (keywordEach [] X.env))):=by rfl):Ev X ρ O (.Call (.Attribute o m apos) (e::es) [] pos) R:=λG pins s σ H Q I ⟨h1,h2,h3⟩=>by
 obtain ⟨f,fd,ps,g1,g2,g3⟩:=M.ex
 refine US (t:=λσ H Q=>∃ G1,SA X.K G1 H O/\Ar X.K G1 σ ρ/\∀ vs G' H',Ag G1 G'->SA X.K G' H' O->Aj X.K G' ds vs->Q vs H') (ho G) M.cls g2 g1 hr g3 .nil HZ (λpos pins s σ H Q I ⟨G1,z⟩=>ha G1 pos pins s σ H Q I z) hst hpl ht pins s σ H Q I ⟨h1,h2,λv G1 H1 e1 s1 i1=>?_⟩
 obtain ⟨a,dx,vs,rfl,k1,k2,k3⟩:=s1.ins i1 hq
 refine ⟨a,dx,vs,rfl,k2,k3.none hno,G1,s1,h2.ext e1,λus G2 H2 e2 s2 i2=>?_⟩
 show Cc X.K sp (V.ref a::(us++[])) H2 Q E0
 rw [List.append_nil]
 exact ⟨G2,O,.ptr q::ds,R,s2,.cons (i1.ext e2) i2,hs,λv d O' G' H' e3 s3 i3 r3=>h3 v d O' G' H' ((e1.trans e2).trans e3) s3 i3 r3⟩
theorem DZ {k:Nat} {sp:A7} {pl:Sem Bool} (M:DF X.prog X.w X.K X.mg X.base C k m sp) (hr:AR k X.A) (ho:Ac X ρ O o (.ptr q)) (hq:O[q]?=some (some (.ins C fs))) (hno:fs.lookup m=none) (hs:sp [.ptr q] O R)
  (ht:eval (.Call (.Attribute o m apos) [] [] pos) X.env=(do
   let ov <- eval o X.env
   standAt apos.atName
   let (f,first) <- holding [ov] (getMethod ov m pl)
   callWith pos f first (backTo pos (starEach [] X.env)) (backToKw pos (keywordEach [] X.env))):=by rfl):Ev X ρ O (.Call (.Attribute o m apos) [] [] pos) R:=λG pins s σ H Q I ⟨h1,h2,h3⟩=>by
 obtain ⟨f,fd,ps,g1,g2,g3⟩:=M.ex
 refine UR (ho G) M.cls g2 g1 hr g3 .nil HZ ht pins s σ H Q I ⟨h1,h2,λv G1 H1 e1 s1 i1=>?_⟩
 obtain ⟨a,dx,vs,rfl,k1,k2,k3⟩:=s1.ins i1 hq
 refine ⟨a,dx,vs,rfl,k2,k3.none hno,?_⟩
 show Cc X.K sp (V.ref a::[]) H1 Q E0
 exact ⟨G1,O,[.ptr q],R,s1,.cons i1 .nil,hs,λv d O' G' H' e3 s3 i3 r3=>h3 v d O' G' H' (e1.trans e3) s3 i3 r3⟩
structure Rb (P:Program) (w:World) (K:PySem.W.Frag) (mg:Str->Option Value) (base:Heap) (C:Addr) (k:Nat) (x:Str) (sp:A7):Prop where
 ex:∃ f fd ps,AI P w K mg base BM k f fd ps (Cc K sp)/\Mk K C f/\Binds K fd ps []
 at_:mg x=some (.ref C)
theorem made {K:PySem.W.Frag} {G:Wd} {H:Hp} {y dx:Addr} (s:SA K G H O) (h1:H y=none) (h2:H dx=none) (h3:dx≠y):Ag G ⟨G.g,G.l++[y]⟩/\SA K ⟨G.g,G.l++[y]⟩ (An (An H dx (.own y)) y (.ins C dx [])) (O++[some (.ins C [])]):=
 (s.grow (Fb h2)).new (by rw [As]; exact h1; exact λe=>h3 e.symm) ⟨dx,[],AJ,.nil⟩
theorem Qd {k:Nat} {sp:A7} (M:Rb X.prog X.w X.K X.mg X.base C k x sp) (hr:AR (k+1) X.A) (ha:BB X ρ O (e::es) ds) (hs:sp (.ptr O.length::ds) (O++[some (.ins C [])]) λd O'=>d=.non/\R (.ptr O.length) O')
  (hg:Gl X x:=by rfl) (hdb:(x==("__debug__" : Str))=false:=by decide) (he:starEach (e::es) X.env=(false,eval e X.env)::starEach es X.env:=by rfl) (hpl:(backTo pos (starEach es X.env)).any (·.1)=false:=by rfl) :
  Ev X ρ O (.Call (.Name x p) (e::es) [] pos) R:=λG pins s σ H Q I ⟨h1,h2,h3⟩=>by
 obtain ⟨f,fd,ps,g1,g2,g3⟩:=M.ex
 refine UT g2 g1 hr hg M.at_ g3 .nil HZ (ha G) hdb he hpl pins s σ H Q I ⟨h1,h2,λvs G1 H1 e1 s1 i1=>λy dx k1 k2 k3=>?_⟩
 obtain ⟨e2,s2⟩:=made (C:=C) s1 k1 k2 k3
 have iy:Is X.K ⟨G1.g,G1.l++[y]⟩ (.ptr O.length) (.ref y):=.ptr _ (by rw [<- s1.len,List.getElem?_append_right (Nat.le_refl _),Nat.sub_self]; rfl)
 show Cc X.K sp (V.ref y::(vs++[])) _ _ E0
 rw [List.append_nil]
 refine ⟨_,_,.ptr O.length::ds,_,s2,.cons iy (i1.ext e2),hs,λv d O' G' H' e3 s3 i3 r3=>?_⟩
 obtain ⟨rfl,r⟩:=r3
 cases i3
 exact ⟨rfl,h3 _ _ O' G' H' ((e1.trans e2).trans e3) s3 (iy.ext e3) r⟩
end
section
variable {X:Cx} {ρ:Am} {O:Ad} {e a b c o ix value:Expr} {es:List Expr} {d da db:D} {ds xs:List D} {R:D->Ad->Prop} {pos p apos tpos:Pos} {x f m:Str} {AK:List Stmt} {P:A2} {q j:Nat} {i:Int}
end
end DL
namespace DL
open PySem PySem.Spec PyProof.Rows L2 PySem.W
section
variable {prog:Program} {w:World} {A:Around} {E:Value->Shared->Prop} {s:Shared} {n l i:Nat} {j:Int} {k:Bool} {xs:Array Value} {f0 f1 old v:Value}
end
section
variable {X:Cx} {ρ:Am} {O:Ad} {e a b c:Expr} {es:List Expr} {d da db:D} {ds:List D} {R:D->Ad->Prop} {pos p:Pos} {x:Str} {xs ys:List D}
end
end DL
namespace DL
open PySem PySem.Spec PyProof.Rows L2
section
variable {X:Cx} {ρ:Am} {O:Ad} {e a b c o value:Expr} {es:List Expr} {d da db:D} {ds:List D} {R:D->Ad->Prop} {pos p p2 apos pos':Pos} {x y f m:Str} {AK:List Stmt} {P:A2} {q:Nat} {C C2:Addr} {fs:List (Str×D)}
theorem IJ {i:Int} {t:Tok} (hm:X.mg x=some (.int i t)) (hg:Gl X x:=by rfl) (hd:(x==("__debug__" : Str))=false:=by decide):Ac X ρ O (.Name x pos) (.int i):=λG=>
 PE.imp (K8 (v:=.int i) hg hm ⟨t,rfl⟩ hd) λσ H Q ⟨h1,h2,h3⟩=>h3 _ G H (Ag.refl _) h1 (.int i)
structure Rq (K:PySem.W.Frag) (C:Addr):Prop where
 cls:CF K C
 ha:PySem.W.findIn K (.ref C) "__class__" = some (some (.builtin "object.__class__"))
 hn:PySem.W.specialIn K (.builtin "object.__class__") "__get__" = some (some (.builtin "getset_descriptor.__get__"))
 htk:PySem.W.takesIn K (.builtin "object.__class__")=some true
 hm:PySem.W.mroIn K C (.type "object")=some true
end
def Jr (X:Cx) (ρ:Am) (O:Ad) (e:Expr) (R:Bool->Ad->Prop):Prop:=
 ∀ G,PT X e (λσ H Q=>SA X.K G H O/\Ar X.K G σ ρ/\∀ k O' G' H',Ag G G'->SA X.K G' H' O'->R k O'->Q k H')
section
variable {X:Cx} {ρ:Am} {O:Ad} {e a b c:Expr} {body orelse:List Stmt} {d da db:D} {pos:Pos} {P:A2}
theorem RE {R:Bool->Ad->Prop} (hc:Jr X ρ O c R) (h:∀ k O',R k O'->(k=true->Exs X ρ O' body P)/\(k=false->Exs X ρ O' orelse P)):Ex X ρ O (.If c body orelse pos) P:=λG=>
 PS.imp (K1 (hc G) (t:=λE σ H=>∃ G1 O',R true O'/\SA X.K G1 H O'/\Ar X.K G1 σ ρ/\Cs X.K G1 P E) (λpins s σ H E I ⟨G1,O',z,q⟩=>(h true O' z).1 rfl G1 pins s σ H E I q)
  (u:=λE σ H=>∃ G1 O',R false O'/\SA X.K G1 H O'/\Ar X.K G1 σ ρ/\Cs X.K G1 P E) (λpins s σ H E I ⟨G1,O',z,q⟩=>(h false O' z).2 rfl G1 pins s σ H E I q)) λE σ H ⟨q1,q2,q3⟩=>
  ⟨q1,q2,λk O' G' H' e1 s1 r1=>by
   cases k with
   | true=>exact Mn ⟨G',O',r1,s1,q2.ext e1,q3.ext e1⟩
   | false=>exact Mo ⟨G',O',r1,s1,q2.ext e1,q3.ext e1⟩⟩
end
section
variable {X:Cx} {ρ:Am} {O:Ad} {a b:Expr} {pos:Pos} {R:D->Ad->Prop} {xs:List D}
end
end DL
namespace DL
open PySem PySem.Spec PyProof.Rows L2 PySem.W
section
variable {X:Cx} {ρ:Am} {O:Ad} {d:D} {xs ys:List D}
theorem Yh {es:List Expr} {R:D->Ad->Prop} {pos:Pos} (h:FA X ρ O es λds O'=>ds.length<=sizeLine/\R (.lst ds) O'):Ev X ρ O (.List es pos) R:=λG=>
 PE.imp (K7 (h G)) λσ H Q ⟨h1,h2,h3⟩=>⟨h1,h2,λvs ds O1 G1 H1 e1 s1 i1 ⟨hz,r⟩=>⟨by rw [<- i1.length]; exact hz,λp hp=>by
  obtain ⟨e2,s2⟩:=s1.laid (o:=.lst vs) hp
  exact h3 _ _ _ _ _ (e1.trans e2) s2 (.lst AJ (i1.ext e2)) r⟩⟩
theorem Aj.toBls {K:PySem.W.Frag} {G:Wd}:∀ {bs:List Bool} {vs:List V},Aj K G (bs.map D.bl) vs->vs=bs.map V.bl
 | [],_,.nil=>rfl
 | b::bs,_,.cons h r=>by cases h; rw [Aj.toBls r]; rfl
end
section
variable {P:Program} {w:World} {K:PySem.W.Frag} {mg:Str->Option Value} {base:Heap}
end
section
variable {X:Cx} {ρ:Am} {O:Ad} {a:Expr} {pos p:Pos} {R:D->Ad->Prop} {xs:List D} {d:D}
end
section
variable {prog:Program} {w:World} {A:Around} {E:Value->Shared->Prop} {s:Shared}
end
section
variable {X:Cx} {O:Ad} {d:D} {k:Nat}
end
section
variable {X:Cx} {ρ:Am} {O:Ad} {e:Expr} {p p2 pos pos2:Pos}
end
section
variable {X:Cx} {ρ:Am} {O:Ad} {e:Expr} {es:List Expr} {ds:List D} {R:D->Ad->Prop} {pos p:Pos} {x:Str} {C:Addr}
end
end DL
namespace DL
open PySem PySem.Spec PyProof.Rows L2
section
variable {X:Cx} {ρ:Am} {O:Ad} {a b:Expr} {pos:Pos}
theorem Yr {R:Bool->Ad->Prop} (ha:Ev X ρ O a λd O'=>∃ k,d=.bl k/\R k O') (he:∀ whole,isTrue a X.env whole=(do let v <- whole; standAt a.pos; holding [v] (truthy v)):=by intro _; rfl):Jr X ρ O a R:=λG=>
 (Oz (ha G) he).imp λσ H Q ⟨q1,q2,q3⟩=>⟨q1,q2,λv d O' G' H' e1 s1 i1 r=>by
  obtain ⟨k,rfl,r⟩:=r
  cases i1
  exact ⟨k,rfl,q3 k O' G' H' e1 s1 r⟩⟩
theorem Yq {R:Bool->Ad->Prop} (ha:Jr X ρ O a λk O'=>R (!k) O'):Jr X ρ O (.UnaryOp .Not a pos) R:=λG=>
 (OA (ha G)).imp λσ H Q ⟨q1,q2,q3⟩=>⟨q1,q2,λk O' G' H' e1 s1 r=>q3 (!k) O' G' H' e1 s1 r⟩
end
section
variable {X:Cx} {ρ:Am} {O:Ad} {a e:Expr} {d:D}
end
section
variable {prog:Program} {w:World} {A:Around} {E:Value->Shared->Prop} {s:Shared}
end
section
variable {X:Cx} {O:Ad} {xs:List D}
end
section
variable {X:Cx} {ρ:Am} {O:Ad} {a b:Expr} {d:D} {pos:Pos}
end
def AH {α:Type} (l:List α) (lo:Nat):List α:=(List.range ((l.length-lo+1)/2)).filterMap λk=>l[lo+2*k]?
theorem fmI {K:PySem.W.Frag} {G:Wd} {ds:List D} {vs:List V} (h:Aj K G ds vs) (f:Nat->Nat):∀ ix:List Nat,Aj K G (ix.filterMap λk=>ds[f k]?) (ix.filterMap λk=>vs[f k]?)
 | []=>.nil
 | i::ix=>by
  have ih:=fmI h f ix
  rw [List.filterMap_cons,List.filterMap_cons]
  cases e:ds[f i]? with
  | none=>
   have:vs[f i]?=none:=by
    rw [List.getElem?_eq_none_iff] at e ⊢
    rw [<- h.length]; exact e
   rw [this]
   exact ih
  | some d=>
   obtain ⟨v,hv,iv⟩:=h.get e
   rw [hv]
   exact .cons iv ih
theorem fmV {xs:List V} {us:List Value} (h:Aq xs us) (f:Nat->Nat):∀ ix:List Nat,Aq (ix.filterMap λk=>xs[f k]?) (ix.filterMap λk=>us[f k]?)
 | []=>.nil
 | i::ix=>by
  have ih:=fmV h f ix
  rw [List.filterMap_cons,List.filterMap_cons]
  cases e:xs[f i]? with
  | none=>
   rw [h.none_of e]
   exact ih
  | some d=>
   obtain ⟨v,hv,iv⟩:=h.get e
   rw [hv]
   exact .cons iv ih
theorem SN {K:PySem.W.Frag} {G:Wd} {ds:List D} {vs:List V} (h:Aj K G ds vs) (lo:Nat):Aj K G (AH ds lo) (AH vs lo):=by
 unfold AH
 rw [h.length]
 exact fmI h _ _
theorem SM {xs:List V} {us:List Value} (h:Aq xs us) (lo:Nat):Aq (AH xs lo) (AH us lo):=by
 unfold AH
 rw [h.length]
 exact fmV h _ _
theorem SL {α:Type} (l:List α) (lo:Nat):(AH l lo).length<=l.length:=by
 unfold AH
 refine Nat.le_trans (List.length_filterMap_le _ _) ?_
 rw [List.length_range]
 omega
def M9 (o:Option Int) (lo:Nat):Prop:=(o=none/\lo=0)\/(o=some 1/\lo=1)
theorem UD {its:List Value} {o:Option Int} {lo:Nat} (h:M9 o lo):slicePick its.toArray o none (some 2)=(AH its lo).toArray:=by
 have hb:sliceBounds o none (some 2) its.toArray.size=(((min lo its.length:Nat):Int),((its.length:Nat):Int),2):=by
  rcases h with ⟨rfl,rfl⟩ | ⟨rfl,rfl⟩
  ·simp [sliceBounds]
  ·have e:sliceBounds (some 1) none (some 2) its.toArray.size=(max 0 (min 1 ((its.length:Nat):Int)),((its.length:Nat):Int),2):=rfl
   have e2:max 0 (min 1 ((its.length:Nat):Int))=((min 1 its.length:Nat):Int):=by omega
   rw [e,e2]
 have hr:sliceRange ((min lo its.length:Nat):Int) ((its.length:Nat):Int) 2=(List.range ((its.length-lo+1)/2)).map λk=>lo+2*k:=by
  unfold sliceRange
  have hc:(if (2:Int)>0 then (if ((min lo its.length:Nat):Int)<((its.length:Nat):Int) then (((its.length:Nat):Int)-((min lo its.length:Nat):Int)+2-1)/2 else 0) else (if ((min lo its.length:Nat):Int)>((its.length:Nat):Int) then (((min lo its.length:Nat):Int)-((its.length:Nat):Int)-2-1) / -2 else 0)).toNat=(its.length-lo+1)/2:=by
   rw [if_pos wE]
   rcases h with ⟨_,rfl⟩ | ⟨_,rfl⟩ <;> split <;> omega
  show (List.range _).map _=_
  rw [hc]
  refine List.map_congr_left λk hk=>?_
  have hk:=List.mem_range.mp hk
  show (((min lo its.length:Nat):Int)+2*(k:Int)).toNat=lo+2*k
  omega
 unfold slicePick
 rw [hb]
 show ((sliceRange ((min lo its.length:Nat):Int) ((its.length:Nat):Int) 2).filterMap (its.toArray[·]?)).toArray=_
 rw [hr,List.filterMap_map]
 unfold AH
 congr 2
 funext k
 exact List.getElem?_toArray
section
variable {X:Cx} {ρ:Am} {O:Ad} {e a b c st:Expr} {d da db:D} {xs ys:List D} {R:D->Ad->Prop} {pos p p2:Pos} {P:A2} {q:Nat}
theorem X7 {lo:Option Expr} {o:Option Int} {k:Nat} (ha:Ac X ρ O a da) (hx:LV O da xs) (hl:Dp X ρ O lo o) (hst:Dp X ρ O (some st) (some 2)) (hk:M9 o k):Ac X ρ O (.Subscript a (.Slice lo none (some st) p2) pos) (.lst (AH xs k)):=λG pins s σ H Q I ⟨h1,h2,h3⟩=>by
 refine Subscript_ (Ao (ha G pins s σ H (λv H1=>∃ G1,Ag G G1/\SA X.K G1 H1 O/\Is X.K G1 da v) I ⟨h1,h2,λv G' H' e s i=>⟨G',e,s,i⟩⟩) λv s1 ⟨x,H1,I1,r1,G1,e1,sa1,i1⟩=>?_)
 refine wpAny_Slice ?_
 refine Ao (hl G1 pins s1 σ H1 (λz H2=>∃ G2,Ag G1 G2/\SA X.K G2 H2 O/\z=o) I1 ⟨sa1,h2.ext e1,λG' H' e s=>⟨G',e,s,rfl⟩⟩) λu0 s15 ⟨o1,H15,I15,pu0,G15,e15,sa15,ho1⟩=>?_
 subst ho1
 rw [evalPart_none]
 refine wpAny_pure ?_
 refine Ao (hst G15 pins s15 σ H15 (λz H2=>∃ G2,Ag G15 G2/\SA X.K G2 H2 O/\z=some 2) I15 ⟨sa15,h2.ext (e1.trans e15),λG' H' e s=>⟨G',e,s,rfl⟩⟩) λu s2 ⟨o2,H2,I2,pu,G2,e2,sa2,ho⟩=>?_
 subst ho
 have i2:=i1.ext (e15.trans e2)
 obtain ⟨ad,vs,rfl,q,is⟩:=hx.sq sa2 i2
 cases r1
 have I4:L2.Inv X pins σ H2 { s2 with heap:=s2.heap.push { cls:=.type "slice",data:=.fields #[u0,.none,u] } }:=I2.kept (t':=s2.toks) λb ob q=>Heap.get?_push_of_some _ q
 obtain ⟨its,r,ht,hz⟩:=I4.list q
 refine tail_any (ops:=[.ref ad,.ref s2.heap.objs.size]) ht.isList.typeIs slot_list_getitem.lookup ?_ (by with_unfolding_all rfl)
 refine wpAny_getItem_list_slice ht.isList (Heap.IsSliceOf.new ..) pu0 .none pu wE ?_ (by rw [List.size_toArray]; have:=r.length; omega)
 rw [UD hk]
 obtain ⟨e4,s4⟩:=sa2.laid (o:=.lst (AH vs k)) (p:=(s2.heap.push { cls:=.type "slice",data:=.fields #[u0,.none,u] }).objs.size) (I4.hok.fresh (Nat.le_refl _))
 refine ⟨.ref _,_,I4.laid (t':=s2.toks) (o:=.lst (AH vs k)) (λb ob q=>Heap.get?_push_of_some _ q) (Nat.le_refl _) ?_,rfl,h3 _ _ _ (((e1.trans e15).trans e2).trans e4) s4 (.lst AJ ((SN is k).ext e4))⟩
 exact ⟨Nat.le_trans (SL _ _) hz,_,0,SM r k,Heap.get?_push_size _ rfl⟩
theorem SK {α:Type} {f:α->D} (l:List α) (k:Nat):AH (l.map f) k=(AH l k).map f:=by
 unfold AH
 rw [List.length_map,List.map_filterMap]
 congr 1
 funext j
 rw [List.getElem?_map]
theorem Qa {α:Type} {f:α->D} {as:List α} {lo:Option Expr} {o:Option Int} {k:Nat} (ha:Ac X ρ O a da) (hx:LV O da (as.map f)) (hl:Dp X ρ O lo o) (hst:Dp X ρ O (some st) (some 2)) (hk:M9 o k):Ac X ρ O (.Subscript a (.Slice lo none (some st) p2) pos) (.lst ((AH as k).map f)):=by
 rw [<- SK]
 exact X7 ha hx hl hst hk
theorem Co {α:Type} (a b:α) (l:List α):AH (a::b::l) 0=a::AH l 0/\AH (a::b::l) 1=b::AH l 1:=by
 have h:∀ (x:α) (lo:Nat),lo<=1->(a::b::l)[lo]?=some x->AH (a::b::l) lo=x::AH l lo:=λx lo h1 hx=>by
  unfold AH
  rw [show ((a::b::l).length-lo+1)/2=(l.length-lo+1)/2+1 by simp only [List.length_cons]; omega,List.range_succ_eq_map,List.filterMap_cons]
  rw [show lo+2*0=lo by omega,hx,List.filterMap_map]
  refine congrArg (x::·) (congrArg (List.filterMap · _) ?_)
  funext k
  show (a::b::l)[lo+2*(k+1)]?=l[lo+2*k]?
  rw [show lo+2*(k+1)=lo+2*k+1+1 by omega,List.getElem?_cons_succ,List.getElem?_cons_succ]
 exact ⟨h a 0 wF rfl,h b 1 wF rfl⟩
end
section
variable {prog:Program} {w:World} {A:Around} {E:Value->Shared->Prop} {s:Shared}
end
section
variable {X:Cx} {ρ:Am} {O:Ad} {a st lo:Expr} {xs:List D} {pos p2:Pos}
end
section
variable {X:Cx} {ρ:Am} {O:Ad} {e:Expr} {C C2:Addr} {x:Str} {p p2 pos:Pos} {R:D->Ad->Prop}
end
section
variable {X:Cx} {ρ:Am} {O:Ad} {o ix e:Expr} {pos tpos:Pos} {P:A2} {q:Nat}
end
end DL
namespace DL
open PySem PySem.Spec PyProof.Rows L2 PySem.W
section
variable {prog:Program} {w:World} {A:Around} {E:Value->Shared->Prop} {s:Shared} {n l:Nat} {j:Int} {xs:Array Value} {v:Value}
end
section
variable {X:Cx} {ρ:Am} {O:Ad} {a:Expr} {pos p:Pos} {xs:List D}
end
section
variable {prog:Program} {w:World} {A:Around} {E:Value->Shared->Prop} {s:Shared} {l:Nat} {k:Int} {t:Tok} {vs:List Value} {ns:List Int}
end
section
variable {X:Cx} {ρ:Am} {O:Ad} {a e:Expr}
end
end DL
namespace L2
open PySem PySem.Spec PyProof.Rows
def AC {α:Type}:Sem α->Prop
 | .pure _=>True
 | .raise _=>True
 | .unsupported _=>True
 | .finish _=>True
 | .rule _ k=>AC (k ())
 | .at _ k=>AC (k ())
 | .load _ _ k=>∀ o,AC (k o)
 | .update _ _ f k=>(∀ o:Obj,((f o).dict=o.dict/\ctxOf (f o)=ctxOf o)/\(o.data≠.freed->(f o).data≠.freed))/\AC (k ())
 | .alloc _ k=>∀ a,AC (k a)
 | .loadIfAlive _ k=>∀ o,AC (k o)
 | .point _ k=>AC (k ())
 | .fresh k=>∀ t,AC (k t)
 | .ask k=>∀ t,AC (k t)
 | .handled _ k=>∀ t,AC (k t)
 | .stack k=>∀ t,AC (k t)
 | .thread k=>∀ t,AC (k t)
 | _=>False
theorem AC.bind {α β:Type} {t:Sem α} {k:α->Sem β} (h:AC t) (g:∀ a,AC (k a)):AC (t >>= k):=by
 show AC (Sem.bind t k)
 induction t with
 | pure a=>exact g a
 | raise _=>trivial
 | unsupported _=>trivial
 | finish _=>trivial
 | rule _ _ ih=>exact ih () h
 | «at» _ _ ih=>exact ih () h
 | load _ _ _ ih=>exact λo=>ih o (h o)
 | update _ _ _ _ ih=>exact ⟨h.1,ih () h.2⟩
 | alloc _ _ ih=>exact λo=>ih o (h o)
 | loadIfAlive _ _ ih=>exact λo=>ih o (h o)
 | point _ _ ih=>exact ih () h
 | fresh _ ih=>exact λo=>ih o (h o)
 | ask _ ih=>exact λo=>ih o (h o)
 | handled _ _ ih=>exact λo=>ih o (h o)
 | stack _ ih=>exact λo=>ih o (h o)
 | thread _ ih=>exact λo=>ih o (h o)
 | _=>exact h.elim
def DK (h h':Heap):Prop:=∀ b o,h.get? b=some o->∃ o',h'.get? b=some o'/\o'.dict=o.dict/\ctxOf o'=ctxOf o
theorem DK.refl (h:Heap):DK h h:=λ_ o e=>⟨o,e,rfl,rfl⟩
theorem DK.trans {h h1 h2:Heap} (x:DK h h1) (y:DK h1 h2):DK h h2:=λb o e=>by
 obtain ⟨o1,e1,d1⟩:=x b o e
 obtain ⟨o2,e2,d2⟩:=y b o1 e1
 exact ⟨o2,e2,d2.1.trans d1.1,d2.2.trans d1.2⟩
theorem DK.push {h:Heap} (o:Obj):DK h (h.push o):=λb o' e=>⟨o',Heap.get?_push_of_some _ e,rfl,rfl⟩
theorem DK.update {h:Heap} {a:Addr} {f:Obj->Obj} (hf:∀ o:Obj,((f o).dict=o.dict/\ctxOf (f o)=ctxOf o)/\(o.data≠.freed->(f o).data≠.freed)):DK h (h.update a f):=λb o e=>by
 by_cases hb:a=b
 ·subst hb
  have hn:o.data≠.freed:=λz=>by
   unfold Heap.get? at e
   split at e
   ·cases e
   ·rename_i hx
    obtain ⟨c,d,x,l⟩:=o
    subst z
    exact hx _ _ _ e
  refine ⟨f o,Heap.get?_update_self f e ?_,(hf o).1⟩
  have:=(hf o).2 hn
  revert this
  generalize f o=z
  obtain ⟨c,d,y,l⟩:=z
  intro this
  cases y <;> first | rfl | exact absurd rfl this
 ·exact ⟨o,(Heap.get?_update_other _ _ hb).trans e,rfl,rfl⟩
theorem AC.wp {α:Type} {M:Model} {Γ:PySem.Ctx} {t:Sem α} (h:AC t):∀ {Q:α->Pos->Shared->Prop} {E:Value->Pos->Shared->Prop} {p:Pos} {s:Shared} {h0:Heap},DK h0 s.heap->Sem.wp M Γ t Q E p s->Sem.wp M Γ t (λa p' s'=>Q a p' s'/\DK h0 s'.heap) (λe p' s'=>E e p' s'/\DK h0 s'.heap) p s:=by
 induction t with
 | pure a=>exact λd q=>⟨q,d⟩
 | raise _=>exact λd q=>⟨q,d⟩
 | unsupported _=>exact λd q=>q.elim
 | finish _=>exact λd q=>q.elim
 | rule _ _ ih=>exact λd q=>ih () h d q
 | «at» _ _ ih=>exact λd q=>ih () h d q
 | load _ _ _ ih=>exact λd ⟨o,e,q⟩=>⟨o,e,ih o (h o) d q⟩
 | update _ _ _ _ ih=>exact λd ⟨e,q⟩=>⟨e,ih () h.2 (d.trans (DK.update h.1)) q⟩
 | alloc _ _ ih=>exact λd q=>ih _ (h _) (d.trans (DK.push _)) q
 | loadIfAlive _ _ ih=>exact λd q=>ih _ (h _) d q
 | point _ _ ih=>exact λd q=>ih () h d q
 | fresh _ ih=>exact λd q=>ih _ (h _) d q
 | ask _ ih=>exact λd q=>ih _ (h _) d q
 | handled _ _ ih=>exact λd q=>ih _ (h _) d q
 | stack _ ih=>exact λd q=>ih _ (h _) d q
 | thread _ ih=>exact λd q=>ih _ (h _) d q
 | _=>exact h.elim
theorem AC.any {α:Type} {M:Model} {A:Around} {t:Sem α} {Q:α->Shared->Prop} {E:Value->Shared->Prop} {s:Shared} (h:AC t) (q:wpAny M A t Q E s):wpAny M A t (λa s'=>Q a s'/\DK s.heap s'.heap) (λe s'=>E e s'/\DK s.heap s'.heap) s:=
 λΓ p hi=>h.wp (DK.refl _) (q Γ p hi)
theorem Im {v:Value} {i:Nat}:AC (field v i):=by
 unfold field fieldsOf
 refine AC.bind ?_ λvs=>?_
 ·cases v with
  | ref a=>
   refine AC.bind (λ_=>trivial) λo=>?_
   split <;> trivial
  | _=>trivial
 ·split <;> trivial
theorem Ln {v x:Value} {i:Nat} (hi:i≠2:=by decide):AC (setField v i x):=by
 unfold setField
 cases v with
 | ref a=>
  show AC (updateField a i x)
  unfold updateField
  refine AC.bind (λ_=>trivial) λo=>?_
  split
  ·split
   ·refine ⟨λo=>?_,trivial⟩
    obtain ⟨c,d,y,l⟩:=o
    cases y <;> refine ⟨⟨rfl,?_⟩,λz=>by first | exact z | (intro q; cases q)⟩
    all_goals first | rfl | (show (Array.setIfInBounds _ i x)[2]?=_; rw [Array.getElem?_setIfInBounds_ne hi]; rfl)
   ·trivial
  ·trivial
 | _=>trivial
theorem Lm {e:Value} {f:Option Addr}:AC (setFlight e f):=by
 unfold setFlight
 refine AC.bind Im λtb=>?_
 split
 ·exact Ln
 ·trivial
theorem Ll:AC stack:=λ_=>trivial
theorem Pf:∀ l:List Env,AC (readyFrames l)
 | []=>trivial
 | env::outer=>by
  unfold readyFrames
  split
  ·refine AC.bind (λ_=>trivial) λo=>?_
   split
   ·trivial
   ·refine AC.bind ?_ λim=>AC.bind ?_ λback=>AC.bind ⟨λo=>⟨⟨rfl,rfl⟩,id⟩,trivial⟩ λ_=>Pf outer
    ·unfold behindIsImport
     split
     ·trivial
     ·split
      ·trivial
      ·exact AC.bind Im λ_=>trivial
    ·unfold keptBack underTheClaimsCaller
     split
     ·split
      ·trivial
      ·exact AC.bind (AC.bind Ll λ_=>trivial) λ_=>trivial
     ·trivial
  ·trivial
theorem Wy {env:Env}:AC (PySem.frameOf env):=by
 unfold PySem.frameOf frameEnvs
 refine AC.bind (AC.bind Ll λ_=>trivial) λes=>AC.bind ?_ λo=>?_
 ·unfold frameObject
  split
  ·trivial
  ·exact AC.bind (Pf _) λ_=>trivial
 ·split <;> trivial
theorem Ww {f:Addr} {b:Bool}:AC (entryPlaceOf f b):=by
 unfold entryPlaceOf
 refine AC.bind Ll λa=>?_
 split <;> trivial
theorem Wx {a b c d e:Value} {l:List Value}:AC (EntryCells.newEntry a b c d e l):=by
 unfold EntryCells.newEntry newFields newObj newObjAsIs
 dsimp only
 split <;> split <;> first | trivial | exact λ_=>trivial
theorem Pg {e:Value} {env:Env}:AC (noteFrame e env):=by
 unfold noteFrame
 split
 ·refine AC.bind Im λhd=>?_
  have AK:∀ (f:Addr) (hd:Value),AC (do setField e 1 (<- EntryCells.newEntry hd (<- PySem.frameOf env) .none (rawInt f) .none (<- entryPlaceOf f (hd != .none)))):=λf hd=>
   AC.bind Wy λ_=>AC.bind Ww λ_=>AC.bind Wx λ_=>Ln
  split
  ·refine AC.bind Im λx=>?_
   split
   ·trivial
   ·exact AC.bind Ln λ_=>AK _ _
  ·exact AK _ _
 ·trivial
theorem Ph {e:Value} {env:Env}:AC (leaving env e):=AC.bind Pg λ_=>Lm
def Q0F (B:Heap) (l:List Env) (a C:Addr) (od:Option Addr) (h:Heap):Prop:=
 (∃ t,Heap.FlyingW B l a (.ref C) (.ref t) h)/\∃ oe,h.get? a=some oe/\oe.dict=od/\ctxOf oe=some .none
structure Ep (P:Program) (w:World) (outer:List Env) (H H':Hp) (s s':Shared) (a C:Addr) (od:Option Addr) (B:Heap):Prop where
 os:s'.os=s.os
 bare:AllBare s'.gens
 fly:Q0F B outer a C od s'.heap
 un:Un (AV outer) [] H H' s.heap s'.heap
 hok:A3 P w H' s'.heap
 old:∀ b o,s.heap.get? b=some o->b∉AV outer->∃ o',B.get? b=some o'
 trk:∀ b u,H' b=some u->∃ o',B.get? b=some o'
def Bk (P:Program) (w:World):CS:=λouter H s E e s'=>∃ a C od B H',e=.ref a/\Ep P w outer H H' s s' a C od B/\E (.ref C) od H'
section
variable {P:Program} {w:World}
theorem Mq {H:Hp} {h h' B:Heap} (ok:A3 P w H h) (k1:B.StaysIn h) (k2:B.StaysIn h') (t:∀ b u,H b=some u->∃ o',B.get? b=some o'):A3 P w H h':=λa o e=>
 (ok a o e).stay (λb u hb q=>by
  have hb':∃ v,H b=some v:=by
   rcases hb with rfl | hb
   ·exact ⟨o,e⟩
   ·exact ⟨_,hb⟩
  obtain ⟨v,hv⟩:=hb'
  obtain ⟨o',h1⟩:=t b v hv
  have h2:=k1 b o' h1
  rw [q] at h2
  cases h2
  exact k2 b _ h1) (λ_ q=>q) λ_ _ q=>q
theorem A3.get {H:Hp} {h:Heap} {a:Addr} {o:HO} (x:A3 P w H h) (e:H a=some o):∃ ob,h.get? a=some ob:=by
 have x:=x a o e
 induction o with
 | lst xs=>obtain ⟨_,_,_,_,e⟩:=x; exact ⟨_,e⟩
 | tup xs=>obtain ⟨_,_,_,_,e,_⟩:=x; exact ⟨_,e⟩
 | dK kvs=>obtain ⟨_,_,_,_,o,_,_,e,_⟩:=x; exact ⟨_,e⟩
 | dT kvs=>obtain ⟨_,_,_,_,o,_,_,e,_⟩:=x; exact ⟨_,e⟩
 | set S n=>obtain ⟨o,_,_,_,e,_⟩:=x; exact ⟨_,e⟩
 | ins C dx fs=>obtain ⟨_,_,_,e,_⟩:=x; exact ⟨_,e⟩
 | own y=>exact x
 | xd fs=>obtain ⟨_,⟨_,_,_,e,_⟩,_⟩:=x; exact ⟨_,e⟩
 | rng lo hi=>obtain ⟨_,_,_,e⟩:=x; exact ⟨_,e⟩
 | frz ob u=>obtain ⟨e,_⟩:=x; exact ⟨_,e⟩
 | tbl ps=>exact ⟨_,show h.get? a=some _ from x⟩
 | met f y=>exact ⟨_,show h.get? a=some _ from x⟩
 | ext φ=>obtain ⟨_,q,_⟩:=x; exact q
theorem Xq {h:Heap} {as:List Addr} {b:Addr} {o:Obj} (e:h.get? b=some o) (n:b∉as):(PySem.W.hideAll h as).get? b=some o:=PySem.W.hideAll_get _ e n
end
section
variable {CX:CS} {P:Program} {w:World} {K:PySem.W.Frag} {mg:Str->Option Value} {base:Heap} {N:List Str} {qual:Str} {scope:Scope} {f:Addr} {cd:Value} {A:Around} {outer:List Env} {s:Shared} {H:Hp} {E:XK}
theorem U4:EK (Bk P w) (Dj (Bk P w) P w K mg base N qual scope f cd A outer s H E) E:=λpins σ H1 s1 e s2 I hc=>by
 obtain ⟨a,C,od,B,H2,rfl,g,he⟩:=hc
 obtain ⟨⟨t,fl⟩,hd⟩:=g.fly
 show wpAny _ _ (leaving _ _) _ _ s2
 have hne:∀ b o,s.heap.get? b=some o->b≠s.heap.objs.size:=λb o e z=>Nat.lt_irrefl _ (z ▸ Heap.lt_size e)
 have hst:∀ b o,s.heap.get? b=some o->b∉AV outer->b∉AV (envOfC qual scope s.heap.objs.size f cd::outer):=λb o e n z=>by
  unfold AV at z n
  rw [List.filterMap_cons] at z
  have z:b∈s.heap.objs.size::List.filterMap (λx:Env=>x.frame) outer:=z
  rcases List.mem_cons.mp z with z | z
  ·exact hne b o e z
  ·exact n z
 have hin:∀ b,b∈AV outer->b∈AV (envOfC qual scope s.heap.objs.size f cd::outer):=λb z=>by
  unfold AV at z ⊢
  rw [List.filterMap_cons]
  exact List.mem_cons_of_mem _ z
 obtain ⟨oe,ho0,ho1⟩:=hd
 refine wpAny_mono (Ph.any (wpAny_leaves_onW (E:=λ_ _=>False) (Q:=λ_ s'=>∃ h',s'={ s2 with heap:=h' }/\Heap.FlyingW B outer a (.ref C) (.ref t) h'/\s2.heap.UpToSlots h') I.ok.frames rfl fl λh' fl' sm=>⟨h',rfl,fl',sm⟩)) (λ_ s3 ⟨⟨h',e3,fl',sm⟩,dk⟩=>?_) λ_ _ z=>z.1.elim
 subst e3
 obtain ⟨oe',ho2,ho3⟩:=dk a oe ho0
 refine ⟨a,C,od,B,H2,rfl,⟨g.os.trans I.os,g.bare,⟨⟨t,fl'⟩,oe',ho2,ho3.1.trans ho1.1,ho3.2.trans ho1.2⟩,?_,Mq g.hok fl.1 fl'.1 g.trk,?_,g.trk⟩,he⟩
 ·have hu:Un (AV outer) [] H H1 s.heap s1.heap:=I.base
  refine ⟨λb o q n hb _=>?_,λb o q n hb _=>?_,λb o q n _=>?_,λb o q _=>?_,λb xs q=>g.un.tups b xs (hu.tups b xs q),λb o u q=>g.un.frzs b o u (hu.frzs b o u q),λb ps q=>?_⟩
  ·have q1:=hu.keep b o q n hb (by simp)
   have n1:=hu.free b o q n (by simp)
   have q2:=g.un.keep b o q1 n1 (hst b o q hb) (by simp)
   obtain ⟨o',ho⟩:=g.old b o q1 (hst b o q hb)
   have h2:=fl.1 b o' ho
   rw [q2] at h2
   cases h2
   exact fl'.1 b _ ho
  ·obtain ⟨sl,q1⟩:=hu.slot b o q n hb (by simp)
   have n1:=hu.free b o q n (by simp)
   obtain ⟨sl2,q2⟩:=g.un.slot b _ q1 n1 (hin b hb) (by simp)
   obtain ⟨_,oo,ho,hnf⟩:=fl.2.2.1.mem (hin b hb)
   rw [q2] at ho
   cases ho
   obtain ⟨sl3,q3⟩:=sm b _ q2 hnf
   exact ⟨sl3,q3⟩
  ·obtain ⟨o1,q1⟩:=hu.there b o q (by simp)
   exact g.un.free b o1 q1 (hu.free b o q n (by simp)) (by simp)
  ·obtain ⟨o1,q1⟩:=hu.there b o q (by simp)
   by_cases hb:b∈AV outer
   ·obtain ⟨_,oo,ho,hnf⟩:=fl.2.2.1.mem (hin b hb)
    obtain ⟨sl3,q3⟩:=sm b _ ho hnf
    exact ⟨_,q3⟩
   ·obtain ⟨o',ho⟩:=g.old b o1 q1 (hst b o q hb)
    exact ⟨o',fl'.1 b _ ho⟩
  ·obtain ⟨m1,e1⟩:=hu.tbls b ps q
   obtain ⟨m2,e2⟩:=g.un.tbls b _ e1
   exact ⟨m1++m2,by rw [e2,Array.append_assoc]⟩
 ·intro b o q hb
  have hu:Un (AV outer) [] H H1 s.heap s1.heap:=I.base
  obtain ⟨o1,q1⟩:=hu.there b o q (by simp)
  exact g.old b o1 q1 (hst b o q hb)
theorem Ud {pins:List (Addr×Obj)} {σ:St} {H1:Hp} {s1:Shared} {a C t:Addr} {oe:Obj} {vs:Array Value} (I:Inv (Dj (Bk P w) P w K mg base N qual scope f cd A outer s H E) pins σ H1 s1) (n1:H1 a=none) (n0:s.heap.get? a=none)
  (ho:s1.heap.get? a=some oe) (hc:oe.cls=.ref C) (hv:oe.data=.fields vs) (h1:vs[1]?=some .none) (h0:vs[0]?=some (.ref t)) (h2:vs[2]?=some .none) (he:E (.ref C) oe.dict H1):(Dj (Bk P w) P w K mg base N qual scope f cd A outer s H E).xe (.ref a) s1:=by
 show wpAny _ _ (leaving _ _) _ _ _
 have hu:Un (AV outer) [] H H1 s.heap s1.heap:=I.base
 have hne:∀ b o,s.heap.get? b=some o->b≠s.heap.objs.size:=λb o e z=>Nat.lt_irrefl _ (z ▸ Heap.lt_size e)
 have hst:∀ b o,s.heap.get? b=some o->b∉AV outer->b∉AV (envOfC qual scope s.heap.objs.size f cd::outer):=λb o e n z=>by
  unfold AV at z n
  rw [List.filterMap_cons] at z
  have z:b∈s.heap.objs.size::List.filterMap (λx:Env=>x.frame) outer:=z
  rcases List.mem_cons.mp z with z | z
  ·exact hne b o e z
  ·exact n z
 have hsub:∀ b,b∈AV outer->b∈AV (envOfC qual scope s.heap.objs.size f cd::outer):=λb z=>by
  unfold AV at z ⊢
  rw [List.filterMap_cons]
  exact List.mem_cons_of_mem _ z
 generalize hB:PySem.W.hideAll s1.heap (a::AV (envOfC qual scope s.heap.objs.size f cd::outer))=B
 have hin:∀ env∈(envOfC qual scope s.heap.objs.size f cd::outer),∀ b,env.frame=some b->b∈a::AV (envOfC qual scope s.heap.objs.size f cd::outer):=λenv he b hb=>List.mem_cons_of_mem _ (List.mem_filterMap.mpr ⟨env,he,hb⟩)
 have ff:s1.heap.FunFrames B (envOfC qual scope s.heap.objs.size f cd::outer):=hB ▸ PySem.W.funFrames_hide I.stack hin
 have of:∀ b o,B.get? b=some o->s1.heap.get? b=some o:=λb o q=>PySem.W.of_hideAll _ (hB ▸ q)
 have to:∀ b o,s1.heap.get? b=some o->b≠a->b∉AV (envOfC qual scope s.heap.objs.size f cd::outer)->B.get? b=some o:=λb o q n1 n2=>hB ▸ Xq q (λz=>by
  rcases List.mem_cons.mp z with z | z
  ·exact n1 z
  ·exact n2 z)
 have ba:B.get? a=none:=hB ▸ PySem.W.hideAll_none _ List.mem_cons_self
 have trk:∀ b u,H1 b=some u->∃ o',B.get? b=some o':=λb u q=>by
  have hb:b∉AV (envOfC qual scope s.heap.objs.size f cd::outer):=λz=>by
   have:=I.stkFree b z
   rw [q] at this
   cases this
  obtain ⟨o,ho⟩:∃ o,s1.heap.get? b=some o:=I.hok.get q
  exact ⟨o,to b o ho (BO q n1) hb⟩
 refine wpAny_mono (Ph.any (wpAny_leaving_firstW (E:=λ_ _=>False) (Q:=λ_ s'=>∃ h',s'={ s1 with heap:=h' }/\Heap.LeftW B (envOfC qual scope s.heap.objs.size f cd::outer) a oe.cls (.ref t) s1.heap h') I.ok.frames ff rfl ho of ba hv h1 h0 λh' l=>⟨h',rfl,l⟩)) (λ_ s3 ⟨⟨h',e3,k1,⟨_,_,k2⟩,k3,sm⟩,dk⟩=>?_) λ_ _ z=>z.1.elim
 subst e3
 obtain ⟨oe',ho2,ho3⟩:=dk a oe ho
 have na:∀ b o,s.heap.get? b=some o->b≠a:=λb o q z=>by rw [z,n0] at q; cases q
 refine ⟨a,C,oe.dict,B,H1,rfl,⟨I.os,I.bare,⟨⟨t,k1,ba,k2,hc ▸ k3⟩,oe',ho2,ho3.1,ho3.2.trans (by unfold ctxOf; rw [hv]; exact h2)⟩,?_,Mq I.hok of k1 trk,?_,trk⟩,he⟩
 ·refine ⟨λb o q n hb _=>?_,λb o q n hb _=>?_,λb o q n _=>hu.free b o q n (by simp),λb o q _=>?_,hu.tups,hu.frzs,hu.tbls⟩
  ·exact k1 b o (to b o (hu.keep b o q n hb (by simp)) (na b o q) (hst b o q hb))
  ·obtain ⟨sl,q1⟩:=hu.slot b o q n hb (by simp)
   obtain ⟨_,oo,ho,hnf⟩:=ff.mem (hsub b hb)
   rw [q1] at ho
   cases ho
   obtain ⟨sl3,q3⟩:=sm b _ q1 hnf
   exact ⟨sl3,q3⟩
  ·obtain ⟨o1,q1⟩:=hu.there b o q (by simp)
   by_cases hb:b∈AV outer
   ·obtain ⟨_,oo,ho,hnf⟩:=ff.mem (hsub b hb)
    obtain ⟨sl3,q3⟩:=sm b _ ho hnf
    exact ⟨_,q3⟩
   ·exact ⟨o1,k1 b _ (to b o1 q1 (na b o q) (hst b o q hb))⟩
 ·intro b o q hb
  obtain ⟨o1,q1⟩:=hu.there b o q (by simp)
  exact ⟨o1,to b o1 q1 (na b o q) (hst b o q hb)⟩
end
end L2
namespace DL
open PySem PySem.Spec PyProof.Rows L2
def Fds (K:PySem.W.Frag) (G:Wd) (od:Option Addr) (fs:List (Str×D)):Prop:=fs=[]\/∃ dx vs,od=some dx/\G.g dx=some (.xd vs)/\A4 K G fs vs
abbrev XR:=Addr->List (Str×D)->Ad->Prop
abbrev Bi:=List D->Ad->(D->Ad->Prop)->XR->Prop
def BC (K:PySem.W.Frag) (sp:Bi):Sp:=λvs H Q E=>∃ G O ds R RX,SA K G H O/\Aj K G ds vs/\sp ds O R RX/\(∀ v d O' G' H',Ag G G'->SA K G' H' O'->Is K G' d v->R d O'->Q v H') /\
 ∀ C fs od O' G' H',Ag G G'->SA K G' H' O'->Fds K G' od fs->RX C fs O'->E (.ref C) od H'
def Je (X:Cx) (C:Addr) (od:Option Addr) (σ:L2.St) (H':Hp):Prop:=∀ pins H1 s1 a B s2,L2.Inv X pins σ H1 s1->Ep X.prog X.w X.stack H1 H' s1 s2 a C od B->X.xe (.ref a) s2
def ZN (X:Cx) (C:Addr) (od:Option Addr) (σ:L2.St) (H':Hp):Prop:=∀ pins s1 a t oe vs,L2.Inv X pins σ H' s1->H' a=none->X.s₀.heap.get? a=none->s1.heap.get? a=some oe->oe.cls=.ref C->oe.data=.fields vs->vs[1]?=some .none->vs[0]?=some (.ref t)->vs[2]?=some .none->oe.dict=od->X.xe (.ref a) s1
abbrev XC:=Addr->List (Str×D)->Am->Ad->Prop
def Dq (X:Cx) (mk:Prop) (G:Wd) (RX:XC):Prop:=∀ C fs od σ ρ O' G' H',Ag G G'->SA X.K G' H' O'->Ar X.K G' σ ρ->Fds X.K G' od fs->RX C fs ρ O'->Je X C od σ H'/\(mk->ZN X C od σ H')
theorem Dq.ext {X:Cx} {mk:Prop} {G G':Wd} {RX:XC} (h:Dq X mk G RX) (e:Ag G G'):Dq X mk G' RX:=λC fs od σ ρ O' G2 H' e2=>h C fs od σ ρ O' G2 H' (e.trans e2)
def D5 (X:Cx) (mk:Prop) (ρ:Am) (O:Ad) (e:Expr) (R:D->Ad->Prop) (RX:XC):Prop:=
 ∀ G,PE X e (λσ H Q=>SA X.K G H O/\Ar X.K G σ ρ/\(∀ v d O' G' H',Ag G G'->SA X.K G' H' O'->Is X.K G' d v->R d O'->Q v H')/\Dq X mk G RX)
def DG (X:Cx) (mk:Prop) (ρ:Am) (O:Ad) (st:Stmt) (P:A2) (RX:XC):Prop:=∀ G,PS X st (λE σ H=>SA X.K G H O/\Ar X.K G σ ρ/\Cs X.K G P E/\Dq X mk G RX)
def Dn (X:Cx) (mk:Prop) (ρ:Am) (O:Ad) (st:List Stmt) (P:A2) (RX:XC):Prop:=∀ G,PSs X st (λE σ H=>SA X.K G H O/\Ar X.K G σ ρ/\Cs X.K G P E/\Dq X mk G RX)
section
variable {X:Cx} {mk:Prop} {ρ:Am} {O:Ad} {e a b c o:Expr} {es:List Expr} {d da db:D} {ds:List D} {R:D->Ad->Prop} {RX:XC} {pos p apos:Pos} {x m:Str} {st:Stmt} {AK body orelse:List Stmt} {P:A2} {C:Addr} {q:Nat} {fs:List (Str×D)}
theorem _root_.DL.Ex.x_ (h:Ex X ρ O st P):DG X mk ρ O st P RX:=λG=>PS.imp (h G) λE σ H ⟨h1,h2,h3,_⟩=>⟨h1,h2,h3⟩
theorem _root_.DL.Exs.x_ (h:Exs X ρ O AK P):Dn X mk ρ O AK P RX:=λG=>PSs.imp (h G) λE σ H ⟨h1,h2,h3,_⟩=>⟨h1,h2,h3⟩
theorem A8 (h:P.nx ρ O):Dn X mk ρ O [] P RX:=Exs.x_ (Ay h)
theorem Ap (h:DG X mk ρ O st { P with nx:=λρ' O'=>Dn X mk ρ' O' AK P RX } RX):Dn X mk ρ O (st::AK) P RX:=λG=>
 PSs.imp (K0 (h G) (u:=λE σ H=>∃ G1 ρ1 O1,SA X.K G1 H O1/\Ar X.K G1 σ ρ1/\Dn X mk ρ1 O1 AK P RX/\Cs X.K G1 P E/\Dq X mk G1 RX) (λpins s σ H E I ⟨G1,ρ1,O1,q1,q2,q3,q4,q5⟩=>q3 G1 pins s σ H E I ⟨q1,q2,q4,q5⟩)) λE σ H ⟨h1,h2,h3,h4⟩=>
  ⟨h1,h2,⟨λσ1 ρ1 O1 G1 H1 e1 s1 n1 q1=>⟨G1,ρ1,O1,s1,n1,q1,h3.ext e1,h4.ext e1⟩,h3.rt,h3.bk,h3.ct⟩,h4⟩
theorem A9 {k:Bool} (hc:Ax X ρ O c k) (h1:k=true->Dn X mk ρ O body P RX) (h2:k=false->Dn X mk ρ O orelse P RX):DG X mk ρ O (.If c body orelse pos) P RX:=λG=>
 PS.imp (K1 (hc G) (t:=λE σ H=>∃ G1,k=true/\SA X.K G1 H O/\Ar X.K G1 σ ρ/\Cs X.K G1 P E/\Dq X mk G1 RX) (λpins s σ H E I ⟨G1,z,q⟩=>h1 z G1 pins s σ H E I q)
  (u:=λE σ H=>∃ G1,k=false/\SA X.K G1 H O/\Ar X.K G1 σ ρ/\Cs X.K G1 P E/\Dq X mk G1 RX) (λpins s σ H E I ⟨G1,z,q⟩=>h2 z G1 pins s σ H E I q)) λE σ H ⟨q1,q2,q3,q4⟩=>
  ⟨q1,q2,λG' H' e1 s1=>by
   cases k with
   | true=>exact Mn ⟨G',rfl,s1,q2.ext e1,q3.ext e1,q4.ext e1⟩
   | false=>exact Mo ⟨G',rfl,s1,q2.ext e1,q3.ext e1,q4.ext e1⟩⟩
theorem Bo (h:D5 X mk ρ O e (λ_ O'=>P.nx ρ O') RX) (hs:swapsWith e none pos.line X.env=pure false:=by rfl):DG X mk ρ O (.Expr e pos) P RX:=λG=>PS.imp (FT (h G) hs) λE σ H ⟨h1,h2,h3,h4⟩=>
 ⟨h1,h2,λv d O' G' H' e1 s1 i1 r1=>h3.nx σ ρ O' G' H' e1 s1 (h2.ext e1) r1,h4⟩
theorem Dr (i:Nat) (he:D5 X mk ρ O e (λd O'=>P.nx (ρ.set i (some d)) O') RX) (hN:X.N.Nodup) (hi:X.N[i]?=some x:=by rfl) (hx:Fz X.env.scope x:=by first | exact Or.inl rfl | exact Or.inr rfl) {p:Pos}
  (hs:swapsWith e (some (.Name x p)) pos.line X.env=pure false:=by rfl) (hf:X.fn x=true\/X.env.scope.names.lookup x=some .local:=by first | exact .inl rfl | exact .inr rfl | assumption):DG X mk ρ O (.Assign [.Name x p] e pos) P RX:=λG=>
 PS.imp (OB hN hi hx (he G) hs hf) λE σ H ⟨h1,h2,h3,h4⟩=>⟨h1,h2,λv d O' G' H' e1 s1 i1 r1=>h3.nx _ _ O' G' H' e1 s1 ((h2.ext e1).set i i1) r1,h4⟩
theorem KO {CX:CS} {k:Nat} {f:Addr} {fd:FuncData} {ps:List Str} {sp:Sp} {E:XK} {pins:List (Addr×Obj)} {σ:L2.St} {H:Hp} {s:Shared} {Q:VK} {us:List Value} {vs:List V} (F:AI X.prog X.w X.K X.mg X.base CX k f fd ps sp) (hr:AR k X.A) (hb:Binds X.K fd ps [])
  (I:L2.Inv X pins σ H s) (r:Aq vs us) (h:sp vs H Q E) (hx:∀ e s',CX X.stack H s E e s'->X.xe e s'):wpAny (model X.prog X.w) X.A (call (.ref f) us) (EP X pins σ Q) X.xe s:=by
 have hl:us.length=ps.length:=by rw [<- r.length]; exact F.len _ _ _ _ h
 have hb':=hb s us I.kIn (by rw [List.append_nil]; exact hl)
 rw [List.append_nil] at hb'
 refine wpAny_call (codeAny_mono (F.run X.A X.stack s H ⟨us,[]⟩ us vs Q E hr I.env0 hb' r h) λr s' hq=>?_)
 match r,hq with
 | .error e,hq=>exact hx e s' hq
 | .ok (.ret u),hq=>exact I.after hq
theorem JE {G:Wd} {H' H1:Hp} {σ:L2.St} {pins:List (Addr×Obj)} {s1 s2:Shared} {e:Value} {E:XK} (I:L2.Inv X pins σ H1 s1) (k:∀ C od H2,E (.ref C) od H2->Je X C od σ H2) (h:Bk X.prog X.w X.stack H1 s1 E e s2):X.xe e s2:=by
 obtain ⟨a,C,od,B,H2,rfl,g,he⟩:=h
 exact k C od H2 he pins H1 s1 a B s2 I g
def Js (X:Cx) (σ:L2.St):XK:=λc od H'=>∀ C,c=.ref C->Je X C od σ H'
theorem Mv {σ:L2.St}:∀ C od H2,Js X σ (.ref C) od H2->Je X C od σ H2:=λC od H2 h=>h C rfl
structure A1 (P:Program) (w:World) (K:PySem.W.Frag) (mg:Str->Option Value) (base:Heap) (k:Nat) (x:Str) (sp:Bi):Prop where
 ex:∃ f fd ps,AI P w K mg base (Bk P w) k f fd ps (BC K sp)/\mg x=some (.ref f)/\PySem.W.keepIn K (.ref f)=true/\Binds K fd ps []
theorem Be {k:Nat} {sp:Bi} (F:A1 X.prog X.w X.K X.mg X.base k x sp) (hr:AR k X.A) (ha:BB X ρ O (e::es) ds) (hs:sp ds O R λC fs O'=>RX C fs ρ O') (hg:Gl X x:=by rfl) (hdb:(x==("__debug__" : Str))=false:=by decide)
  (he:starEach (e::es) X.env=(false,eval e X.env)::starEach es X.env:=by rfl) (hpl:(backTo pos (starEach es X.env)).any (·.1)=false:=by rfl):D5 X mk ρ O (.Call (.Name x p) (e::es) [] pos) R RX:=λG pins s σ H Q I ⟨h1,h2,h3,h4⟩=>by
 obtain ⟨f,fd,ps,g1,g2,g3,g4⟩:=F.ex
 refine wpAny_Call_Name_kw (Fe I hg g2 ?_ hdb)
 refine PySem.W.callWith_K (h₀:=X.base) I.ok.mod.kin g3 (Ao (ha G pos pins s σ H (λvs H'=>∃ G',Ag G G'/\SA X.K G' H' O/\Aj X.K G' ds vs) I ⟨h1,h2,λvs G' H' e1 s1 i1=>⟨G',e1,s1,i1⟩⟩) λus s1 ⟨vs,H1,I1,r,G1,e1,sa,i1⟩=>⟨I1.kIn,?_⟩) he hpl
 refine KO (E:=Js X σ) g1 hr g4 I1 r ⟨G1,O,ds,R,_,sa,i1,hs,λv d O' G' H' e2 s2 i2 r2=>h3 v d O' G' H' (e1.trans e2) s2 i2 r2,λC fs od O' G' H' e2 s2 f2 r2=>?_⟩ λe s' hx=>JE (G:=G) (H':=H) I1 Mv hx
 intro C' hC
 cases hC
 exact (h4 _ fs od σ ρ O' G' H' (e1.trans e2) s2 (h2.ext (e1.trans e2)) f2 r2).1
structure Bu (P:Program) (w:World) (K:PySem.W.Frag) (mg:Str->Option Value) (base:Heap) (C:Addr) (k:Nat) (m:Str) (sp:Bi):Prop where
 ex:∃ f fd ps,AI P w K mg base (Bk P w) k f fd ps (BC K sp)/\Ho K C m f/\Binds K fd ps []
 cls:CF K C
theorem Cl {k:Nat} {sp:Bi} {pl:Sem Bool} (M:Bu X.prog X.w X.K X.mg X.base C k m sp) (hr:AR k X.A) (ho:Ac X ρ O o (.ptr q)) (hq:O[q]?=some (some (.ins C fs))) (hno:fs.lookup m=none) (ha:BB X ρ O (e::es) ds)
  (hs:sp (.ptr q::ds) O R λC fs O'=>RX C fs ρ O') (hst:starEach (e::es) X.env=(false,eval e X.env)::starEach es X.env:=by rfl) (hpl:(backTo pos (starEach es X.env)).any (·.1)=false:=by rfl)
  (ht:eval (.Call (.Attribute o m apos) (e::es) [] pos) X.env=(do
   let ov <- eval o X.env
   standAt apos.atName
   let (f,first) <- holding [ov] (getMethod ov m pl)
   callWith pos f first (backTo pos (starEach (e::es) X.env)) (backToKw pos (keywordEach [] X.env))):=by rfl):D5 X mk ρ O (.Call (.Attribute o m apos) (e::es) [] pos) R RX:=λG pins s σ H Q I ⟨h1,h2,h3,h4⟩=>by
 obtain ⟨f,fd,ps,g1,g2,g3⟩:=M.ex
 refine PySem.W.methodCall_KW (pl:=pl) (Ao (ho G pins s σ H (λv H'=>∃ G',Ag G G'/\SA X.K G' H' O/\Is X.K G' (.ptr q) v) I ⟨h1,h2,λv G' H' e s i=>⟨G',e,s,i⟩⟩) λu s1 ⟨y,H1,I1,ry,G1,e1,sa1,i1⟩=>?_) ht
 obtain ⟨a,dx,vs,rfl,k1,k2,k3⟩:=sa1.ins i1 hq
 obtain rfl:u=Value.ref a:=ry
 refine IC I1 k2 M.cls g2 (k3.none hno) ?_
 refine PySem.W.callWith_K (first:=[.ref a]) (h₀:=X.base) I.ok.mod.kin g2.kp (Ao (ha G1 pos pins s1 σ H1 (λvs H'=>∃ G',Ag G1 G'/\SA X.K G' H' O/\Aj X.K G' ds vs) I1 ⟨sa1,h2.ext e1,λvs G' H' e1 s1 i1=>⟨G',e1,s1,i1⟩⟩) λus s2 ⟨ws,H2,I2,r,G2,e2,sa2,i2⟩=>⟨I2.kIn,?_⟩) hst hpl
 have e12:=e1.trans e2
 refine KO (us:=.ref a::us) (vs:=.ref a::ws) (E:=Js X σ) g1 hr g3 I2 (.cons rfl r) ⟨G2,O,.ptr q::ds,R,_,sa2,.cons (i1.ext e2) i2,hs,λv d O' G' H' e3 s3 i3 r3=>h3 v d O' G' H' (e12.trans e3) s3 i3 r3,λC fs od O' G' H' e3 s3 f3 r3=>?_⟩ λe s' hx=>JE (G:=G) (H':=H) I2 Mv hx
 intro C' hC
 cases hC
 exact (h4 _ fs od σ ρ O' G' H' (e12.trans e3) s3 (h2.ext (e12.trans e3)) f3 r3).1
structure Jl (P:Program) (w:World) (K:PySem.W.Frag) (mg:Str->Option Value) (base:Heap) (C:Addr) (k:Nat) (x:Str) (sp:Bi):Prop where
 ex:∃ f fd ps,AI P w K mg base (Bk P w) k f fd ps (BC K sp)/\Mk K C f/\Binds K fd ps []
 at_:mg x=some (.ref C)
end
section
variable {P:Program} {w:World} {K:PySem.W.Frag} {mg:Str->Option Value} {base:Heap}
theorem B5 {x qual:Str} {st:Stmt} {f:Addr} {fd:FuncData} {N ps:List Str} {k:Nat} {sp:Bi} (F:AB K x qual st f fd) (S:AD N ps (Av st)) (len:∀ ds O R RX,sp ds O R RX->ds.length=ps.length)
  (hbody:∀ (cdv:Value) (A:Around) (outer:List Env) (s:Shared) (H:Hp) (E:XK) (ds:List D) (O:Ad) (R:D->Ad->Prop) (RX:XR),AR k (A.deeper (envOfC qual (Av st) s.heap.objs.size f cdv))->sp ds O R RX->
   Dn (Dj (Bk P w) P w K mg base N qual (Av st) f cdv A outer s H E) True (FJ N ds) O (CN st) { nx:=λ_ O'=>R .non O',rt:=R } λC fs _ O'=>RX C fs O'):AI P w K mg base (Bk P w) (k+1) f fd ps (BC K sp):=by
 obtain ⟨oc,od,kV,doc,pm,an,cdv,ct,osl,rfl,lk,hcd⟩:=F.ex
 refine PR lk hcd S (λvs H Q E h=>?_) λA outer s H vs Q E hr h=>?_
 ·obtain ⟨G,O,ds,R,RX,h1,h2,h3,h4⟩:=h
  rw [<- h2.length]
  exact len _ _ _ _ h3
 ·obtain ⟨G,O,ds,R,RX,h1,h2,h3,h4,h5⟩:=h
  refine ⟨_,hbody cdv A outer s H E ds O R RX hr h3 G,h1,NO h2,⟨λσ ρ O' G' H' e1 s1 n1 q=>h4 _ _ O' G' H' e1 s1 .non q,λv d O' G' H' e1 s1 i1 q=>h4 v d O' G' H' e1 s1 i1 q,λσ ρ O' G' H' e1 s1 n1 q=>q.elim,λσ ρ O' G' H' e1 s1 n1 q=>q.elim⟩,?_⟩
  intro C fs od σ ρ O' G' H' e1 s1 n1 f1 r1
  have hE:=h5 C fs od O' G' H' e1 s1 f1 r1
  refine ⟨λpins H1 s1 a B s2 I g=>U4 pins σ H1 s1 (.ref a) s2 I ⟨a,C,od,B,H',rfl,g,hE⟩,λ_ pins s1 a t oe vs I x1 x2 x3 x4 x5 x6 x7 x9 x8=>Ud I x1 x2 x3 x4 x5 x6 x7 x9 (x8 ▸ hE)⟩
end
end DL
namespace L2
open PySem PySem.Spec PyProof.Rows
theorem P5 {K:PySem.W.Frag} {h:Heap} {C:Addr} {bmB:List Value} {newId:String} (X:K.In h) (q:PySem.W.excIn K C bmB newId=true):OwnCls "e" C bmB newId (λ_=>some (.ref C)) h:=by
 unfold PySem.W.excIn at q
 split at q
 ·rename_i dd cd sl ho
  split at q
  ·rename_i C' bm k0 k1 k2 k3 n k5 hm hs
   have e:=X _ _ ho
   obtain ⟨nm,bs,mro,ns,qn,hd,sn,sub,ab,col,del⟩:=cd
   obtain ⟨l⟩:=sl
   simp only [Bool.and_eq_true,beq_iff_eq,Bool.not_eq_true'] at q hm hs
   obtain ⟨⟨⟨⟨⟨q1,q2⟩,q3⟩,q4⟩,q5⟩,q6⟩:=q
   subst q1 q2 hm hs
   subst q3
   exact ⟨rfl,bm,ns,nm,qn,bs,hd,sn,sub,ab,col,dd,k0,k1,k2,k3,k5,_,e,.of_isNs (PySem.W.isNs_of_in X q5),PySem.W.nsMap_none_of_in X q5 q6,PySem.W.tail_of_in X q4⟩
  ·cases q
 ·cases q
section
variable {X:Cx} {pins:List (Addr×Obj)} {σ:St} {H:Hp} {s:Shared}
theorem Il {M:Model} {A:Around} {E:Value->Shared->Prop} {i:Nat} {n:Str} {pos:Pos} {Q:Unit->Shared->Prop} (I:Inv X pins σ H s) (hN:X.N.Nodup) (hi:X.N[i]?=some n) (hl:X.env.kindOf n=some .local)
  (h:∀ s',Inv X pins (σ.set i none) H s'->Q () s'):wpAny M A (do bindName X.env n .none; unbindBehindTheSuite X.env n pos) Q E s:=by
 refine wpAny_bind (wpAny_bindName (HA I hN hi (.inl hl) (v:=.non) (u:=.none) rfl (λs1 I1=>?_) (.inr hl)))
 have hiσ:i<σ.length:=by rw [I.len]; exact (List.getElem?_eq_some_iff.mp hi).1
 obtain ⟨m,hn,hk⟩:=id I1.loc
 obtain ⟨u,ru,lu⟩:=hk i n .non hi (List.getElem?_set_self hiσ) (.inl hl)
 have hv:m n=some u:=by
  rcases lu with ⟨_,e⟩ | ⟨k | k,_⟩
  ·exact e
  ·rw [hl] at k; cases k
  ·rw [hl] at k; cases k
 unfold unbindBehindTheSuite
 refine wpAny_onRaise (wpAny_unbindName_local hl hn hv (by rw [I.ok.kind]; rfl) λh' u' hn' hs=>h _ ?_)
 have ne:∀ b o,X.s₀.heap.get? b=some o->b≠X.env.locals:=λb o e=>Nat.ne_of_lt (Nat.lt_of_lt_of_le (Heap.lt_size e) I.ok.above)
 refine ⟨I1.ok,I1.os,I1.bare,⟨λb o e n hb hx=>(hs.2 b (ne b o e)).trans (I1.base.keep b o e n hb hx),λb o e n hb hx=>?_,I1.base.free,λb o e hx=>?_,I1.base.tups,I1.base.frzs,I1.base.tbls⟩,⟨_,hn',λj y v' e1 e2 e3=>?_⟩,λy c e=>?_,I1.free,I1.freeC,λp hp=>?_,λb ob e=>?_,by simpa using I.len⟩
 ·obtain ⟨sl,q⟩:=I1.base.slot b o e n hb hx
  exact ⟨sl,(hs.2 b (ne b o e)).trans q⟩
 ·obtain ⟨o',q⟩:=I1.base.there b o e hx
  exact ⟨o',(hs.2 b (ne b o e)).trans q⟩
 ·have hj:j≠i:=by
   rintro rfl
   rw [List.getElem?_set_self hiσ] at e2
   cases e2
  rw [List.getElem?_set_ne (Ne.symm hj)] at e2
  obtain ⟨u2,r2,q⟩:=hk j y v' e1 (by rw [List.getElem?_set_ne (Ne.symm hj)]; exact e2) e3
  refine ⟨u2,r2,?_⟩
  rcases q with ⟨k,e⟩ | ⟨k,c,e,z⟩
  ·refine .inl ⟨k,?_⟩
   have:y≠n:=λe=>hj (Lh hN e1 (e ▸ hi))
   simp [this,e]
  ·exact .inr ⟨k,c,e,z.sameBut hs (I.cne y c e)⟩
 ·obtain ⟨w',z⟩:=I1.cell y c e
  exact ⟨w',z.sameBut hs (I.cne y c e)⟩
 ·obtain ⟨e,n,ne,nf,d⟩:=I1.pin p hp
  exact ⟨(hs.2 p.1 ne).trans e,n,ne,nf,d⟩
 ·refine (I1.hok b ob e).stay (λc w' hc q=>(hs.2 c ?_).trans q) (λ_ q=>q) λ_ _ q=>q
  intro z
  subst z
  rcases hc with hc | hc
  ·rw [<- hc,I1.free] at e; cases e
  ·rw [I1.free] at hc; cases hc
theorem Ep.on {P:Program} {w:World} {l:List Env} {H H':Hp} {s s':Shared} {a C t:Addr} {od:Option Addr} {B h':Heap} (g:Ep P w l H H' s s' a C od B) (fl':Heap.FlyingW B l a (.ref C) (.ref t) h') (sm:s'.heap.UpToSlots h') (dk:DK s'.heap h') :
  Ep P w l H H' s { s' with heap:=h' } a C od B:=by
 obtain ⟨⟨t0,fl⟩,oe,ho0,ho1⟩:=g.fly
 obtain ⟨oe',ho2,ho3⟩:=dk a oe ho0
 refine ⟨g.os,g.bare,⟨⟨t,fl'⟩,oe',ho2,ho3.1.trans ho1.1,ho3.2.trans ho1.2⟩,⟨λb o q n hb _=>?_,λb o q n hb _=>?_,λb o q n hx=>g.un.free b o q n hx,λb o q _=>?_,g.un.tups,g.un.frzs,g.un.tbls⟩,Mq g.hok fl.1 fl'.1 g.trk,g.old,g.trk⟩
 ·obtain ⟨o',ho⟩:=g.old b o q hb
  have h2:=fl.1 b o' ho
  rw [g.un.keep b o q n hb (by simp)] at h2
  cases h2
  exact fl'.1 b _ ho
 ·obtain ⟨sl,q1⟩:=g.un.slot b o q n hb (by simp)
  obtain ⟨_,oo,ho,hnf⟩:=fl.2.2.1.mem hb
  rw [q1] at ho
  cases ho
  obtain ⟨sl3,q3⟩:=sm b _ q1 hnf
  exact ⟨sl3,q3⟩
 ·by_cases hb:b∈AV l
  ·obtain ⟨_,oo,ho,hnf⟩:=fl.2.2.1.mem hb
   obtain ⟨sl3,q3⟩:=sm b _ ho hnf
   exact ⟨_,q3⟩
  ·obtain ⟨o',ho⟩:=g.old b o q hb
   exact ⟨o',fl'.1 b _ ho⟩
theorem Ep.new {P:Program} {w:World} {l:List Env} {H H':Hp} {s s':Shared} {a C:Addr} {od:Option Addr} {B:Heap} (g:Ep P w l H H' s s' a C od B):s.heap.get? a=none/\a∉AV l/\H' a=none:=by
 obtain ⟨⟨t,fl⟩,hd⟩:=g.fly
 have hn:a∉AV l:=λz=>by
  obtain ⟨_,o,ho,hnf⟩:=fl.2.2.1.mem z
  obtain ⟨oe,vs,h1,h2,h3,h4⟩:=fl.first
  rw [h1] at ho
  cases ho
  exact hnf _ h3
 have hb:=fl.2.1
 refine ⟨?_,hn,?_⟩
 ·cases q:s.heap.get? a with
  | none=>rfl
  | some o=>
   obtain ⟨o',ho⟩:=g.old a o q hn
   rw [hb] at ho
   cases ho
 ·cases q:H' a with
  | none=>rfl
  | some u=>
   obtain ⟨o',ho⟩:=g.trk a u q
   rw [hb] at ho
   cases ho
abbrev Cx.as (X:Cx) (A:Around) (calm:Bool) (pn:List (Addr×Obj)) (E:Value->Shared->Prop):Cx:={ X with A:=A,calm:=calm,pn:=pn,xe:=E }
theorem Inv.as {A:Around} {calm:Bool} {pn pins':List (Addr×Obj)} {E:Value->Shared->Prop} (I:Inv X pins σ H s) (hd:calm=true->A.handled=none) (hf:A.frames=some X.stack) (hp:∀ p∈pn++pins',p∈X.pn++pins):Inv (X.as A calm pn E) pins' σ H s:=
 ⟨⟨I.ok.mod,I.ok.kind,I.ok.glob,I.ok.blt,I.ok.above,I.ok.inj,I.ok.has,I.ok.cab,hd,hf,I.ok.stk,I.ok.exf,I.ok.bs,I.ok.bsz,I.ok.noex,I.ok.exfs,I.ok.funs,I.ok.frf⟩,I.os,I.bare,I.base,I.loc,I.cell,I.free,I.freeC,λp q=>I.pin p (hp p q),I.hok,I.len⟩
theorem Inv.asI {A:Around} {calm:Bool} {pn pins':List (Addr×Obj)} {E:Value->Shared->Prop} (I:Inv (X.as A calm pn E) pins' σ H s) (hd:X.calm=true->X.A.handled=none) (hf:X.A.frames=some X.stack) (hp:∀ p∈X.pn++pins,p∈pn++pins'):Inv X pins σ H s:=
 ⟨⟨I.ok.mod,I.ok.kind,I.ok.glob,I.ok.blt,I.ok.above,I.ok.inj,I.ok.has,I.ok.cab,hd,hf,I.ok.stk,I.ok.exf,I.ok.bs,I.ok.bsz,I.ok.noex,I.ok.exfs,I.ok.funs,I.ok.frf⟩,I.os,I.bare,I.base,I.loc,I.cell,I.free,I.freeC,λp q=>I.pin p (hp p q),I.hok,I.len⟩
theorem Inv.tracked {a:Addr} {ob:Obj} (I:Inv X pins σ H s) (hx:X.ex=[]) (h1:s.heap.get? a=some ob) (h2:H a=none) (h3:X.s₀.heap.get? a=none) (h4:a≠X.env.locals) (h5:∀ x c,X.env.cells.lookup x=some c->c≠a) (h6:∀ p∈X.pn++pins,p.1≠a) :
  Inv X pins σ (An H a (.ext λh=>h.get? a=some ob)) s:=by
 refine ⟨I.ok,I.os,I.bare,⟨I.base.keep,I.base.slot,λb o q n hb=>?_,I.base.there,λb xs q=>?_,λb o u q=>?_,λb ps q=>?_⟩,I.loc,I.cell,by rw [As (Ne.symm h4)]; exact I.free,λx c q=>by rw [As (h5 x c q)]; exact I.freeC x c q,λp hp=>?_,λb u q=>?_,I.len⟩
 ·rw [As]
  ·exact I.base.free b o q n hb
  ·rintro rfl; rw [h3] at q; cases q
 ·have:=I.base.tups b xs q
  rw [As (BO this h2)]; exact this
 ·have:=I.base.frzs b o u q
  rw [As (BO this h2)]; exact this
 ·obtain ⟨m,this⟩:=I.base.tbls b ps q
  exact ⟨m,by rw [As (BO this h2)]; exact this⟩
 ·obtain ⟨e,n,r⟩:=I.pin p hp
  exact ⟨e,by rw [As (h6 p hp)]; exact n,r⟩
 ·by_cases hb:b=a
  ·subst hb
   rw [AJ] at q
   cases q
   exact ⟨h1,⟨ob,h1⟩,λx y e k=>k ob e⟩
  ·rw [As hb] at q
   exact (I.hok b u q).stay (λ_ _ _ e=>e) (λc e=>by rw [As (BO e h2)]; exact e) λc xs e=>by rw [As (BO e h2)]; exact e
end
end L2
namespace DL
open PySem PySem.Spec PyProof.Rows L2
abbrev B7:List Value:=[.type "ValueError",.type "Exception",.type "BaseException",.type "object"]
section
variable {X:Cx} {mk:Prop} {ρ:Am} {O:Ad} {e a b c o:Expr} {es:List Expr} {d da db:D} {ds:List D} {R:D->Ad->Prop} {RX:XC} {pos p np cpos hpos:Pos} {x y n:Str} {st b₀:Stmt} {AK body suite:List Stmt} {P:A2} {C CB:Addr} {fs:List (Str×D)}
theorem IK {p1 p2 p3:Pos} {j:Nat} (he:Ac X ρ O e (.str x)) (hz:(Str.empty++x++y).length<=sizeLine) (hx:x.length<=sizeLine) (h1:(Str.empty++x).length<=sizeLine):Ac X ρ O (.JoinedStr [.FormattedValue e (-1) none p1,.Constant (.str y) j p2] p3) (.str (Str.empty++x++y)):=λG pins s σ H Q I ⟨h1',h2,h3⟩=>by
 refine JoinedStr_many (joinParts_cons (FormattedValue_plain (Ao (he G pins s σ H (λv H'=>∃ G',Ag G G'/\SA X.K G' H' O/\Is X.K G' (.str x) v) I ⟨h1',h2,λv G' H' e s i=>⟨G',e,s,i⟩⟩) λu s1 ⟨v,H1,I1,r,G1,e1,sa1,i1⟩=>?_)))
 cases i1
 obtain ⟨t,rfl⟩:=(show ∃ t,u=Value.str x t from r)
 refine formatField_str (λt' tk=>⟨h1,joinParts_cons ?_⟩) hx
 refine Ao (Al (X:=X) (ρ:=ρ) (O:=O) (x:=y) (j:=j) (pos:=p2) G1 pins _ σ H1 (λv H'=>∃ G',Ag G1 G'/\SA X.K G' H' O/\Is X.K G' (.str y) v) (I1.tok tk) ⟨sa1,h2.ext e1,λv G' H' e s i=>⟨G',e,s,i⟩⟩) λu2 s2 ⟨v2,H2,I2,r2,G2,e2,sa2,i2⟩=>?_
 cases i2
 obtain ⟨t2,rfl⟩:=(show ∃ t,u2=Value.str y t from r2)
 exact ⟨hz,joinParts_nil ⟨.str (Str.empty++x++y),H2,I2.tok _,⟨_,rfl⟩,h3 _ G2 H2 (e1.trans e2) sa2 (.str _)⟩ hz⟩
theorem Gn (hx:PySem.W.excIn X.K C B7 "ValueError.__new__" = true) (hm:X.mg x=some (.ref C)) (ha:BB X ρ O (e::es) ds) (hr:RX C [] ρ O) (hmk:mk) (hz:ds.length<=1000:=by simp) (hc:X.calm=true:=by rfl) (hex:X.ex=[]:=by rfl) (hg:Gl X x:=by rfl)
  (hdb:(x==("__debug__" : Str))=false:=by decide) (he:starEach (e::es) X.env=(false,eval e X.env)::starEach es X.env:=by rfl) (hpl:(backTo cpos (starEach es X.env)).any (·.1)=false:=by rfl) :
  DG X mk ρ O (.Raise (some (.Call (.Name x np) (e::es) [] cpos)) none pos) P RX:=λG pins s σ H E I ⟨h1,h2,h3,h4⟩=>by
 obtain ⟨tl,N,nm,q,bs,hdct,sn,sub,ab,col,dd,k0,k1,k2,k3,k5,mN,hC,hN,hni,T⟩:=(P5 I.mod.kin hx).obj
 have ha':=ha G cpos pins s σ H (λvs H'=>∃ G',Ag G G'/\SA X.K G' H' O/\Aj X.K G' ds vs) I ⟨h1,h2,λvs G' H' e1 s1 i1=>⟨G',e1,s1,i1⟩⟩
 refine wpAny_Raise_call_subU (k5:=k5) (k3:=k3) (k2:=k2) (k1:=k1) (k0:=k0) (dd:=dd) (col:=col) (ab:=ab) (sub:=sub) (sn:=sn) (hdct:=hdct) (bs:=bs) (N:=N) (q:=q) (nm:=nm) (C:=C) (bm:=tl) (mN:=mN) PySem.F.excBase_ValueError wD PySem.F.excBase_ValueError (T.hasType PySem.F.excBase_ValueError.hasBase) (I.ok.hd hc) (by rw [he]; exact hpl) hni (Fe I hg hm ⟨rfl,?_⟩ hdb)
 rw [he] at ha' ⊢
 refine Calls.evalArgs_plain (Ao ha' λus s2 ⟨vs,H2,I2,r,G2,e2,sa,i2⟩=>⟨rfl,?_,I2.bk _ _ hC,hN.keeps I2.bk,T.keeps I2.bk,λh' a' hx=>?_⟩)
 ·show us.length<=sizeLine
  rw [<- r.length,<- i2.length]
  exact Nat.le_of_lt (S5 hz)
 ·obtain ⟨t,he',_,_⟩:=hx.there
  refine (h4 C [] none σ ρ O G2 H2 e2 sa (h2.ext e2) (.inl rfl) hr).2 hmk pins { s2 with heap:=h' } a' t _ _ (I2.kept (t':=s2.toks) hx.keeps) ?_ ?_ he' rfl rfl rfl rfl rfl rfl
  ·cases z:H2 a' with
   | none=>rfl
   | some u=>
    obtain ⟨o,z'⟩:=I2.hok.get z
    rw [hx.new] at z'
    cases z'
  ·cases z:X.s₀.heap.get? a' with
   | none=>rfl
   | some o=>
    have hu:Un X.fs X.ex X.H₀ H2 X.s₀.heap s2.heap:=I2.base
    obtain ⟨o',z'⟩:=hu.there a' o z (by rw [hex]; simp)
    rw [hx.new] at z'
    cases z'
abbrev _root_.L2.Cx.tried (X:Cx) (pn:List (Addr×Obj)) (E:Value->Shared->Prop):Cx:=X.as X.A X.calm pn E
abbrev _root_.L2.Cx.held (X:Cx) (v:Value):Cx:=X.as (X.A.mark (some v)) false X.pn λ_ _=>False
abbrev MJ (X:Cx) (pins:List (Addr×Obj)) (E:EO) (x n:Str) (np hpos:Pos) (b₀:Stmt) (suite:List Stmt):Value->Shared->Prop:=λe s₁=>wpAny (model X.prog X.w) X.A (noteFrame e X.env) (λ_ s₂=>wpAny (model X.prog X.w) X.A (setFlight e none) (λ_ s₃=>wpAny (model X.prog X.w) X.A (handleBy e X.env [.ExceptHandler (some (.Name x np)) (some n) (b₀::suite) hpos]) (SP X pins E) X.xe s₃) X.xe s₂) X.xe s₁
theorem RB (i:Nat) (hN:X.N.Nodup) (hm:X.mg x=some (.ref CB)) (hb:∀ pn E,Dn (X.tried pn E) False ρ O body P RX)
  (hh:∀ v C fs ρ' O',RX C fs ρ' O'->PySem.W.exmOne X.K (.ref C) (.ref CB)=some true /\
   Exs (X.held v) (ρ'.set i (some (.ptr O'.length))) (O'++[some (.exc C fs)]) (b₀::suite) { nx:=λρ2 O2=>P.nx (ρ2.set i none) O2,rt:=P.rt,bk:=λρ2 O2=>P.bk (ρ2.set i none) O2,ct:=λρ2 O2=>P.ct (ρ2.set i none) O2 })
  (hi:X.N[i]?=some n:=by rfl) (hl:X.env.kindOf n=some .local:=by rfl) (hg:Gl X x:=by rfl) (hst:X.stack=X.env::X.outer:=by rfl) (hfr:X.env.frame=some X.env.locals:=by rfl) (hex:X.ex=[]:=by rfl) (hdb:(x==("__debug__" : Str))=false:=by decide) :
  Ex X ρ O (.Try body [.ExceptHandler (some (.Name x np)) (some n) (b₀::suite) hpos] [] [] pos) P:=λG pins s σ H E I ⟨h1,h2,h3⟩=>by
 refine wpAny_Try_except ?_
 have I0:L2.Inv (X.tried (X.pn++pins) (MJ X pins E x n np hpos b₀ suite)) [] σ H s:=
  I.as I.ok.hd I.ok.frames λp q=>by simpa using q
 refine wpAny_mono (hb (X.pn++pins) (MJ X pins E x n np hpos b₀ suite) G [] s σ H E I0 ⟨h1,h2,h3,λC fs od σ2 ρ2 O2 G2 H2 e2 sa2 n2 f2 r2=>⟨λpins2 H1 s1 a' B s2 I1 g=>?_,λz=>z.elim⟩⟩) (λf s1 hs=>?_) λe s1 z=>z
 ·obtain ⟨hq,hsu⟩:=hh (.ref a') C fs ρ2 O2 r2
  have hg1:Ep X.prog X.w (X.env::X.outer) H1 H2 s1 s2 a' C od B:=hst ▸ g
  obtain ⟨⟨t,fl⟩,hd⟩:=hg1.fly
  obtain ⟨n1,n3,n4⟩:=hg1.new
  have hfrm:X.A.frames=some (X.env::X.outer):=hst ▸ I.ok.frames
  show wpAny (model X.prog X.w) X.A (noteFrame _ X.env) _ _ s2
  refine wpAny_mono (Pg.any (wpAny_looks_onW (E:=λ_ _=>False) (Q:=λ_ s'=>∃ h',s'={ s2 with heap:=h' }/\Heap.HeldW B (X.env::X.outer) a' (.ref C) (.ref t) X.env.locals h'/\s2.heap.UpToSlots h') hfrm hfr fl λh4 held4 sm4=>⟨h4,rfl,held4,sm4⟩)) (λ_ s4 ⟨⟨h4,e4,held4,sm4⟩,dk4⟩=>?_) λ_ _ z=>z.1.elim
  subst e4
  refine wpAny_mono (Lm.any (wpAny_landsW (E:=λ_ _=>False) (s:={ s2 with heap:=h4 }) (Q:=λ_ s'=>∃ h',s'={ s2 with heap:=h' }/\Heap.FlyingW B (X.env::X.outer) a' (.ref C) (.ref t) h'/\h4.UpToSlots h') held4 λh5 fl5 sm5=>⟨h5,rfl,fl5,sm5⟩)) (λ_ s5 ⟨⟨h5,e5,fl5,sm5⟩,dk5⟩=>?_) λ_ _ z=>z.1.elim
  subst e5
  have g5:=hg1.on fl5 (sm4.trans sm5) (dk4.trans dk5)
  have J:∀ (s':Shared),Ep X.prog X.w (X.env::X.outer) H1 H2 s1 s' a' C od B->L2.Inv X pins σ2 H2 s':=λs' g'=>by
   have:=I1.call' (ch:=[]) g'.os (by show Un (AV X.stack) _ _ _ _ _; rw [hst]; exact g'.un) g'.hok g'.bare (λb z=>absurd z (by simp))
   exact this.asI I.ok.hd I.ok.frames λp q=>List.mem_append_left _ q
  have hmark:(X.A.mark (some (.ref a'))).frames=some X.stack:=I.ok.frames
  have I5:=J _ g5
  have I5h:L2.Inv (X.held (.ref a')) pins σ2 H2 _:=I5.as (by intro z; cases z) hmark λp q=>q
  refine wpAny_handleBy_cons (codeAny_handlers_test (Fe (X:=X.held (.ref a')) I5h hg hm ?_ hdb)) (by intro q; cases q)
  obtain ⟨ob,ho1,ho2⟩:=fl5.there
  have LT:PySem.W.Looks (model X.prog X.w) h5 (typeOf (.ref a')) (.ref C):=ho2 ▸ (PySem.W.Looks.ld ho1).andThen .now
  refine (PySem.W.exm_one I5.kIn LT hq).here (codeAny_handlers_suite_as ?_)
  refine wpAny_mono (Lm.any (lands_againW (E:=λ_ _=>False) (Q:=λ_ s'=>∃ h',s'={ s2 with heap:=h' }/\Heap.FlyingW B (X.env::X.outer) a' (.ref C) (.ref t) h'/\h5.UpToSlots h') fl5 λh6 fl6 sm6=>⟨h6,rfl,fl6,sm6⟩)) (λ_ s6 ⟨⟨h6,e6,fl6,sm6⟩,dk6⟩=>?_) λ_ _ z=>z.1.elim
  subst e6
  have g6:=g5.on fl6 sm6 dk6
  have I6:=J _ g6
  obtain ⟨ob6,ws,u1,u2,u3,u4⟩:=fl6.first
  obtain ⟨_,ob6',u1',hd6,hcx6⟩:=g6.fly
  cases Option.some.inj (u1.symm.trans u1')
  have hloc:a'≠X.env.locals:=λz=>n3 (List.mem_filterMap.mpr ⟨X.env,List.mem_cons_self,by rw [hfr,z]⟩)
  have hs0:X.s₀.heap.get? a'=none:=by
   cases z:X.s₀.heap.get? a' with
   | none=>rfl
   | some o=>
    have hu:Un X.fs X.ex X.H₀ H1 X.s₀.heap s1.heap:=I1.base
    obtain ⟨o',z'⟩:=hu.there a' o z (by rw [hex]; simp)
    rw [n1] at z'
    cases z'
  have I7:=I6.tracked hex u1 n4 hs0 hloc (λy c q z=>by
   obtain ⟨v,o,z',_⟩:=I1.cell y c q
   rw [z,n1] at z'
   cases z') (λp hp z=>by
   obtain ⟨z',_⟩:=I1.pin p (List.mem_append_left _ hp)
   rw [z,n1] at z'
   cases z')
  have I7h:L2.Inv (X.held (.ref a')) pins σ2 _ _:=I7.as (by intro z; cases z) hmark λp q=>q
  have eG:Ag G2 ⟨G2.g,G2.l++[a']⟩:=⟨Bj.refl _,[a'],rfl⟩
  have hfd:fs=[]\/∃ dx vs,ob6.dict=some dx/\G2.g dx=some (.xd vs)/\A4 X.K ⟨G2.g,G2.l++[a']⟩ fs vs:=by
   rcases f2 with z | ⟨dx,vs,z1,z2,z3⟩
   ·exact .inl z
   ·exact .inr ⟨dx,vs,hd6.trans z1,z2,A4.ext eG z3⟩
  obtain ⟨e3,sa3⟩:=sa2.new (p:=a') (o:=.ext λh=>h.get? a'=some ob6) (m:=.exc C fs) n4 ⟨ob6,AJ,⟨u2,ws,u3⟩,hfd,λa z=>by cases z⟩
  have ia:Is X.K ⟨G2.g,G2.l++[a']⟩ (.ptr O2.length) (.ref a'):=.ptr _ (by rw [<- sa2.len,List.getElem?_append_right (Nat.le_refl _),Nat.sub_self]; rfl)
  refine HA (X:=X.held (.ref a')) I7h hN hi (.inl hl) (v:=.ref a') rfl (λs8 I8=>?_) (.inr hl)
  have e23:=e2.trans e3
  refine wpAny_mono (hsu _ pins s8 _ _ { nx:=λσ3 H3=>E.nx (σ3.set i none) H3,rt:=E.rt,bk:=λσ3 H3=>E.bk (σ3.set i none) H3,ct:=λσ3 H3=>E.ct (σ3.set i none) H3 } I8 ⟨sa3,(n2.ext e3).set i ia,?_⟩) (λf s9 hs=>?_) λ_ _ z=>z.elim
  ·have dr:∀ {K:PySem.W.Frag} {G:Wd} {σ:L2.St} {ρ:Am},Ar K G σ ρ->Ar K G (σ.set i none) (ρ.set i none):=λ{K G σ ρ} h=>⟨by simp [h.len],λj d' hj=>by
    by_cases hij:i=j
    ·subst hij
     rw [List.getElem?_set] at hj
     simp at hj
    ·rw [List.getElem?_set_ne hij] at hj ⊢
     exact h.get j d' hj⟩
   exact ⟨λσ3 ρ3 O3 G3 H3 e4 s4 n4 q=>h3.nx _ _ O3 G3 H3 (e23.trans e4) s4 (dr n4) q,λv d' O3 G3 H3 e4 s4 i4 q=>h3.rt v d' O3 G3 H3 (e23.trans e4) s4 i4 q,λσ3 ρ3 O3 G3 H3 e4 s4 n4 q=>h3.bk _ _ O3 G3 H3 (e23.trans e4) s4 (dr n4) q,λσ3 ρ3 O3 G3 H3 e4 s4 n4 q=>h3.ct _ _ O3 G3 H3 (e23.trans e4) s4 (dr n4) q⟩
  ·have fin:∀ {σ3:L2.St} {H3:Hp},L2.Inv (X.held (.ref a')) pins σ3 H3 s9->L2.Inv X pins σ3 H3 s9:=λI9=>I9.asI I.ok.hd I.ok.frames λp q=>q
   cases f with
   | next=>
    obtain ⟨σ3,H3,I9,q⟩:=hs
    exact Il (fin I9) hN hi hl λs' I'=>⟨_,_,I',q⟩
   | ret u=>
    obtain ⟨v,σ3,H3,I9,r,q⟩:=hs
    exact Il (fin I9) hN hi hl λs' I'=>⟨v,_,_,I',r,q⟩
   | brk=>
    obtain ⟨σ3,H3,I9,q⟩:=hs
    exact Il (fin I9) hN hi hl λs' I'=>⟨_,_,I',q⟩
   | cont=>
    obtain ⟨σ3,H3,I9,q⟩:=hs
    exact Il (fin I9) hN hi hl λs' I'=>⟨_,_,I',q⟩
 ·have fin:∀ {σ3:L2.St} {H3:Hp},L2.Inv (X.tried (X.pn++pins) (MJ X pins E x n np hpos b₀ suite)) [] σ3 H3 s1->L2.Inv X pins σ3 H3 s1:=
   λI9=>I9.asI I.ok.hd I.ok.frames λp q=>by simpa using q
  cases f with
  | next=>
   obtain ⟨σ3,H3,I9,q⟩:=hs
   exact KZ pins s1 σ3 H3 E (fin I9) q
  | ret u=>
   obtain ⟨v,σ3,H3,I9,r,q⟩:=hs
   exact ⟨v,σ3,H3,fin I9,r,q⟩
  | brk=>
   obtain ⟨σ3,H3,I9,q⟩:=hs
   exact ⟨σ3,H3,fin I9,q⟩
  | cont=>
   obtain ⟨σ3,H3,I9,q⟩:=hs
   exact ⟨σ3,H3,fin I9,q⟩
end
end DL
namespace L2
open PySem PySem.Spec PyProof.Rows Builtin.ObjectAttr Builtin.Getset_descriptor
structure Cg (K:PySem.W.Frag) (C:Addr):Prop where
 ga:PySem.W.findIn K (.ref C) "__getattribute__" = some (some (.builtin "BaseException.__getattribute__"))
 hk:PySem.W.findIn K (.ref C) "__getattr__" = some none
 mb:PySem.W.mroIn K C (.type "BaseException")=some true
 mo:PySem.W.mroIn K C (.type "object")=some true
 ca:PySem.W.findIn K (.ref C) "__class__" = some (some (.builtin "object.__class__"))
 gn:PySem.W.specialIn K (.builtin "object.__class__") "__get__" = some (some (.builtin "getset_descriptor.__get__"))
 gt:PySem.W.takesIn K (.builtin "object.__class__")=some true
 hd:PySem.W.hasDictIn K C=true
section
variable {prog:Program} {w:World} {A:Around} {E:Value->Shared->Prop} {s:Shared} {K:PySem.W.Frag} {x C:Addr} {n:Str}
theorem P6 {nv:Value} {Q:Unit->Shared->Prop} (T:Cg K C) (X:K.In s.heap) (LT:PySem.W.Looks (model prog w) s.heap (typeOf (.ref x)) (.ref C)) (h:Q () s):wpAny (model prog w) A (checkBuiltinCall "BaseException.__getattribute__" ⟨[.ref x,nv],[]⟩) Q E s:=by
 have LI:PySem.W.Looks (model prog w) s.heap (isInstance (.ref x) (.type "BaseException")) true:=LT.andThen (PySem.W.looks_mroIn X T.mb)
 exact @PySem.W.check_slot (model prog w) _ _ s "BaseException.__getattribute__" "BaseException" "__getattribute__" (.ref x) [nv] [] _ wD wD LI (F.args_bexc_ga (.ref x) nv) h
theorem XZ (T:Cg K C) {h:Heap} {M:Model} (X:K.In h):PySem.W.Looks M h (find (.ref x) (.ref C) "__class__") (.bind (.builtin "getset_descriptor.__get__") (.builtin "object.__class__")):=by
 have L1:=PySem.W.looks_findIn (M:=M) X T.ca
 have L2:=PySem.W.looks_specialIn (M:=M) X T.gn
 have L3:=PySem.W.looks_takesIn (M:=M) X T.gt
 refine L1.andThen (PySem.W.Looks.andThen (t:=getOf _) L2 ?_)
 refine PySem.W.Looks.andThen (t:=dataDescriptor? _ _) (L3.andThen .now) ?_
 exact PySem.W.Looks.tag .now
theorem X3 {R:Result->Shared->Prop} {tp:Value} (T:Cg K C) (X:K.In s.heap) (LT:PySem.W.Looks (model prog w) s.heap (typeOf (.ref x)) (.ref C)) (h:R (.ok (.ret (.ref C))) s) :
  codeAny (model prog w) A (.call (.builtin "getset_descriptor.__get__") ⟨[.builtin "object.__class__",.ref x,tp],[]⟩) R s:=by
 have LS:=PySem.W.looks_mroIn (M:=model prog w) X T.mo
 cases s
 refine codeAny_call_builtin PySem.W.KF.slot_gs.plain PySem.W.KF.entry_gs (PySem.W.KF.slot_gs.check _ _ _ _ _ _ _ _ PySem.W.KF.type_class (PySem.W.KF.args_gs _ _ _) ?_)
 unfold Builtin.«getset_descriptor.__get__» descrGet descrGetter descrCheckInstance descrNameAndClass isInstance; rw [PySem.W.dga_obj]
 refine wpAny_bind (wpAny_pure ?_); simp only [PySem.W.KF.owner_class]; repeat lk
 refine ⟨Code.quiet_builtin _ wD,codeAny_builtin PySem.W.KF.entry_class ?_⟩; unfold Builtin.«object.__class__» shownTypeOf; repeat lk
 exact h
theorem X0 {tk:Tok} {P:Value->Shared->Prop} (T:Cg K C) (X:K.In s.heap) (LT:PySem.W.Looks (model prog w) s.heap (typeOf (.ref x)) (.ref C)) (h:P (.ref C) s) :
  wpAny (model prog w) A (Builtin.«object.__getattribute__» ⟨[.ref x,.str "__class__" tk],[]⟩) (λfin s'=>match fin with | .done (.ret v)=>P v s' | _=>False) E s:=by
 have LF:=XZ (x:=x) (M:=model prog w) T X
 obtain ⟨hh,gg,d,t,os⟩:=s
 unfold Builtin.«object.__getattribute__» slotArgs
 refine wpAny_bind (wpAny_bind (wpAny_pure (wpAny_bind (wpAny_pure (wpAny_pure ?_)))))
 refine wpAny_bind (wpAny_pure (wpAny_bind (LT.at (wpAny_bind (LF.at ?_)))))
 show wpAny _ _ (holding [_] (call _ [_,.ref x,.ref C]) >>= ret) _ _ _
 exact wpAny_bind (wpAny_holding (wpAny_call (X3 T X LT (wpAny_pure h))))
theorem X2 {Q:Option Value->Shared->Prop} (T:Cg K C) (X:K.In s.heap) (LT:PySem.W.Looks (model prog w) s.heap (typeOf (.ref x)) (.ref C)) (h:Q (some (.ref C)) { s with toks:=s.toks+1 }) :
  wpAny (model prog w) A (getAttr? (.ref x) "__class__") Q E s:=by
 have LG:=PySem.W.looks_findIn (M:=model prog w) X T.ga
 have LH:=PySem.W.looks_findIn (M:=model prog w) X T.hk
 unfold getAttr? getAttrBy? getAttrBy
 refine wpAny_bind (wpAny_mkText (wpAny_bind (wpAny_attempt (wpAny_holding (wpAny_bind (LT.at (wpAny_bind (LG.at ?_))))))))
 show wpAny _ _ (getAttrByItsOwn _ _ _ _ _ _) _ _ _
 unfold getAttrByItsOwn
 refine wpAny_bind (LH.at (wpAny_bind (wpAny_attempt (wpAny_holding ?_))))
 show wpAny _ _ (boundAndCalled _ _ _) _ _ _
 unfold boundAndCalled
 rw [F.excAttr_ValueError.ga.bind]
 refine wpAny_bind (wpAny_pure (wpAny_call (codeAny_call_builtin F.excAttr_ValueError.ga.plain F.entry_bexc_ga (P6 T X LT (wpAny_mono (X0 (s:={ s with toks:=s.toks+1 }) (P:=λv s'=>v=.ref C/\s'={ s with toks:=s.toks+1 }) T X LT ⟨rfl,rfl⟩) (λfin s' z=>?_) λ_ _ z=>z)))))
 rcases fin with (v | _ | _ | _) | _ <;> first | exact z.elim | skip
 obtain ⟨rfl,rfl⟩:=z
 exact PySem.W.handed_on rfl (wpAny_pure h)
theorem WM (T:Cg K C):PySem.W.KitX K (.ref x) (.ref C) (λh=>∀ M,PySem.W.Looks M h (typeOf (.ref x)) (.ref C)) where
 ty:=λM _ _ L=>L M
 it:=λ_ _ X _=>by
  obtain ⟨cd,hc,_⟩:=PySem.W.any_some T.hd
  unfold PySem.W.clsIn at hc; split at hc
  ·rename_i ho
   intro _ _ _ _ k q
   exact wpAny_bind (wpAny_loadPart (k _ _ (X _ _ ho)) (wpAny_pure q))
  ·cases hc
 ne:=λh tp dd its n sl X ht=>by
  obtain ⟨cd,hc,_⟩:=PySem.W.any_some T.hd
  unfold PySem.W.clsIn at hc; split at hc
  ·rename_i ho
   by_cases e:C=tp
   ·subst e; cases (X _ _ ho).symm.trans ht
   ·exact Bool.eq_false_iff.mpr λq=>e (Value.ref.inj (beq_iff_eq.mp q))
  ·cases hc
 ca:=λX L k=>X2 T X (L _) k
end
end L2
namespace DL
open PySem PySem.Spec PyProof.Rows L2
section
variable {X:Cx} {ρ:Am} {O:Ad} {e:Expr} {es:List Expr} {p p2 pos:Pos} {x:Str} {C C2:Addr} {q:Nat} {fs:List (Str×D)} {k:Bool} {x1:Nat}
theorem XV {pins:List (Addr×Obj)} {σ:L2.St} {H:Hp} {s:Shared} {a:Addr} {ob:Obj} (I:L2.Inv X pins σ H s) (h:H a=some (.ext λh=>h.get? a=some ob)) (hc:ob.cls=.ref C):∀ M,PySem.W.Looks M s.heap (typeOf (.ref a)) (.ref C):=λM=>by
 obtain ⟨ho,_⟩:=I.hok a _ h
 exact hc ▸ (PySem.W.Looks.ld ho).andThen .now
def Ro (C:Addr) (v:V) (H:Hp):Prop:=∃ a ob,v=.ref a/\H a=some (.ext λh=>h.get? a=some ob)/\ob.cls=.ref C
theorem X4 {K:PySem.W.Frag} {G:Wd} {H:Hp} {v:V} (s:SA K G H O) (i:Is K G (.ptr q) v) {hx':Option Addr} (hq:O[q]?=some (some (.exc C fs hx'))):Ro C v H:=by
 cases i with
 | ptr _ ha=>
  obtain ⟨a,h1,h2,ob,h3,⟨h4,_⟩,_⟩:=s.mt q _ hq
  cases Option.some.inj (ha.symm.trans h1)
  exact ⟨_,ob,rfl,h3,h4⟩
theorem BK (hm:X.mg "isinstance" = none) (he:Ac X ρ O e (.ptr q)) {hx':Option Addr} (hq:O[q]?=some (some (.exc C fs hx'))) (T:Cg X.K C) (hx:X.mg x=some (.ref C2)) (hk:PySem.W.kitOne X.K (.ref C) (.ref C2)=some k)
  (hg:Gl X "isinstance" := by rfl) (hgx:Gl X x:=by rfl) (hdx:(x==("__debug__" : Str))=false:=by decide) (hs:starEach [e,.Name x p2] X.env=(false,eval e X.env)::starEach [.Name x p2] X.env:=by rfl) (hpl:(backTo pos (starEach [.Name x p2] X.env)).any (·.1)=false:=by rfl) :
  Ac X ρ O (.Call (.Name "isinstance" p) [e,.Name x p2] [] pos) (.bl k):=λG=>by
 refine PE.imp (OP (id := "isinstance") (r:=λvs H Q=>∃ v,vs=[v,.ref C2]/\Ro C v H/\Q (.bl k) H) (λpins s σ H xs us Q I r h=>?_) hg hm (by first | rfl | decide +kernel) (Dx (he G) (Dx (K8 (v:=.ref C2) hgx hx rfl hdx) Ez rfl) hs) wE wE hs hpl) λσ H Q ⟨h1,h2,h3⟩=>?_
 ·obtain ⟨v,rfl,⟨a,ob,rfl,ha,hc⟩,hQ⟩:=h
  obtain ⟨u,u',rfl,ru,ru'⟩:=Hz r
  cases ru'; cases ru
  exact PySem.W.kia_one (WM T) I.kIn (XV I ha hc) hk (by intro z; cases z) λtk=>⟨.bl k,H,I.kept λ_ _ e=>e,rfl,hQ⟩
 ·exact ⟨h1,h2,λv G1 H1 e1 s1 i1=>⟨v,rfl,X4 s1 i1 hq,h3 _ G1 H1 e1 s1 (.bl k)⟩⟩
end
end DL
namespace L2
open PySem PySem.Spec PyProof.Rows
section
variable {X:Cx} {tg a b c:Expr} {p pos:Pos}
end
end L2
namespace DL
open PySem PySem.Spec PyProof.Rows L2
section
variable {X:Cx} {ρ:Am} {O:Ad} {a b c:Expr} {p pos:Pos} {P:A2} {st:Stmt} {AK:List Stmt}
end
end DL
namespace L2
open PySem PySem.Spec PyProof.Rows Builtin.ObjectAttr
open DL (B7)
abbrev X5 (vs:List Value):Obj:={ cls:=.type "tuple",data:=.seq vs.toArray }
abbrev DX (C t:Addr):Obj:={ cls:=.ref C,data:=.fields #[.ref t,.none,.none,.none,.bool false,.none] }
abbrev DU (h:Heap) (C:Addr) (vs:List Value):Heap:=(h.push (X5 vs)).push (DX C h.objs.size)
section
variable {prog:Program} {w:World} {A:Around} {s:Shared} {K:PySem.W.Frag} {C f N:Addr} {nm q:Str} {bs bm:List Value} {hdct:Bool} {sn:List Str} {sub:List Value} {ab:Bool} {col:Option Bool} {dd:Option Addr} {k0 k1 k2 k3 k5:Option Value}
theorem XU {vs:List Value} {R:Result->Shared->Prop} (X:K.In s.heap) (hC:s.heap.get? C=some (excClassObj nm q C N bs bm hdct sn sub ab col dd k0 k1 k2 k3 k5 "ValueError.__new__")) (T:OwnTail s.heap B7 bm)
  (hi:PySem.W.findIn K (.ref C) "__init__" = some (some (.ref f))) (hf:PySem.W.typeIn K (.ref f)=some (.type "function")) (hz:vs.length<=sizeLine)
  (h:codeAny (model prog w) (A.under (.builtin "type.__call__" ⟨.ref C::vs,[]⟩)) (.call (.ref f) ⟨.ref (s.heap.objs.size+1)::vs,[]⟩) (PySem.W.InitBack (s.heap.objs.size+1) R) { s with heap:=DU s.heap C vs }) :
  codeAny (model prog w) A (.call (.ref C) ⟨vs,[]⟩) R s:=by
 obtain ⟨hp,g,d,t,os⟩:=s
 have f1:=tc_lookup
 have f2:=tc_bind (.ref C)
 have hT:(⟨hp,g,d,t,os⟩:Shared).TypeIs (.ref C) "type" :=⟨_,hC,rfl⟩
 have kp:∀ b o,hp.get? b=some o->(DU hp C vs).get? b=some o:=λb o e=>Heap.get?_push_of_some _ (Heap.get?_push_of_some _ e)
 have X1:K.In (DU hp C vs):=λb o e=>kp b o (X b o e)
 have LI:=PySem.W.looks_findIn (M:=model prog w) X1 hi
 have LB:=PySem.W.bind_fn (M:=model prog w) X1 (.ref (hp.objs.size+1)) hf
 have hC1:=kp _ _ hC
 have hget:(DU hp C vs).get? (hp.objs.size+1)=some (DX C hp.objs.size):=by heap_get
 have hcC:(Value.ref C::bm).contains (.ref C)=true:=by simp
 refine codeAny_of_tree ?_
 show wpAny _ _ (callAny (.ref C) _) _ _ _
 repeat (any_goals (first | assumption | with_reducible refine wpAny_loadPart_at hC ?_ | wp_step))
 refine ⟨rfl,codeAny_call_builtin_at (Code.quiet_builtin _ wD) entry_typeCall (wpAny_check_type_call_sub hC ?_)⟩
 repeat (first | with_reducible refine wpAny_loadPart_at hC ?_ | with_reducible refine wpAny_madeBy_exc hC ?_ | wp_step)
 refine codeAny_call_builtin_code (Code.quiet_builtin _ F.excBase_ValueError.quiet) (wpAny_check_new_subU F.excBase_ValueError wD T hC (codeAny_exc_new_subU F.excBase_ValueError wD F.excBase_ValueError T hC ?_ hz))
 show wpAny _ _ _ _ _ _
 have LT:PySem.W.Looks (model prog w) (DU hp C vs) (typeOf (.ref (hp.objs.size+1))) (.ref C):=(PySem.W.Looks.ld hget).andThen .now
 have LS:PySem.W.Looks (model prog w) (DU hp C vs) (isSubtype (.ref C) (.ref C)) true:=λ{_ _ _ s'} k z=>by
  obtain ⟨h1,g1,d1,t1,o1⟩:=s'
  refine wpAny_isSubtype_exc (k _ _ hC1) ?_
  rw [hcC]
  exact z
 show wpAny _ _ _ _ _ ⟨DU hp C vs,g,d,t,os⟩
 unfold isInstance callSpecial? specialOf
 refine wpAny_bind (wpAny_bind (LT.at (LS.at ?_)))
 show wpAny _ _ (holding [_] _ >>= _) _ _ _
 refine wpAny_bind (wpAny_holding (wpAny_bind (wpAny_bind (LT.at (LI.at ?_)))))
 show wpAny _ _ (holding _ _) _ _ _
 refine wpAny_holding (wpAny_bind (LB.at (wpAny_bind (wpAny_call (codeAny_mono h λr s' z=>?_)))))
 rcases r with e | (v | _ | _ | _) <;> first | exact z | exact z.elim | skip
 obtain ⟨rfl,z⟩:=z
 exact wpAny_pure (wpAny_pure z)
theorem Ua {h:Heap} {tl:List Value} (T:OwnTail h B7 tl) (self:Value):refuseLoop self "__setattr__" tl=pure ():=by
 induction T with
 | base=>exact F.store_ValueError.passes self
 | own _ _ _ _ ih=>rw [refuseLoop_ref]; exact ih
theorem XT {E:Value->Shared->Prop} {a t:Addr} {name:Str} {v:Value} {Q:Unit->Shared->Prop} (X:K.In s.heap) (hC:s.heap.get? C=some (excClassObj nm q C N bs bm true sn sub ab col dd k0 k1 k2 k3 k5 "ValueError.__new__")) (T:OwnTail s.heap B7 bm)
  (ho:s.heap.get? a=some (DX C t)) (sa:PySem.W.findIn K (.ref C) "__setattr__" = some (some (.builtin "object.__setattr__"))) (na:PySem.W.findIn K (.ref C) name=some none) (mo:PySem.W.mroIn K C (.type "object")=some true) (hd:PySem.W.hasDictIn K C=true)
  (h:∀ h' tk,h'.get? a=some { DX C t with dict:=some s.heap.objs.size }->h'.Ns1 s.heap.objs.size (λy=>if y=name then some v else none)->(∀ b o,b≠a->s.heap.get? b=some o->h'.get? b=some o)->Q () { s with heap:=h',toks:=tk }) :
  wpAny (model prog w) A (setAttr (.ref a) name v) Q E s:=by
 obtain ⟨hp,g,d,tk,os⟩:=s
 have LT:PySem.W.Looks (model prog w) hp (typeOf (.ref a)) (.ref C):=(PySem.W.Looks.ld ho).andThen .now
 have LS:=PySem.W.looks_findIn (M:=model prog w) X sa
 have LN:=PySem.W.looks_findIn (M:=model prog w) X na
 have LO:PySem.W.Looks (model prog w) hp (isInstance (.ref a) (.type "object")) true:=LT.andThen (PySem.W.looks_mroIn X mo)
 have SF:=F.store_ValueError
 have hxs:a≠hp.objs.size:=Nat.ne_of_lt (Heap.lt_size ho)
 unfold setAttr callSpecial? specialOf
 refine wpAny_bind (wpAny_mkText (wpAny_bind (wpAny_bind (wpAny_bind (LT.at (LS.at (wpAny_holding ?_)))))))
 rw [SF.slot.bind]
 refine wpAny_bind (wpAny_pure (wpAny_bind (wpAny_call (codeAny_call_builtin SF.slot.plain SF.entry (@PySem.W.check_slot (model prog w) _ _ _ "object.__setattr__" "object" "__setattr__" (.ref a) [.str name tk,v] [] _ SF.kind SF.split LO (SF.args (.ref a) (.str name tk) v) ?_)))))
 show wpAny _ _ (Builtin.«object.__setattr__» ⟨[.ref a,.str name tk,v],[]⟩) _ _ ⟨hp,g,d,tk+1,os⟩
 rw [PySem.W.osa_eq,refuse_eq]
 refine wpAny_bind (wpAny_bind (LT.at (wpAny_bind (wpAny_mroOf_exc hC ?_))))
 rw [refuseLoop_ref,Ua T]
 refine wpAny_pure (wpAny_bind (LT.at (wpAny_bind (LN.at (wpAny_bind (wpAny_pure ?_))))))
 show wpAny _ _ (storeInOwnDict _ _ _ _ _ _) _ _ _
 obtain ⟨cd,hc,hd'⟩:=PySem.W.any_some hd
 refine wpAny_bind (wpAny_pure (wpAny_bind (wpAny_bind (wpAny_loadPart ho (wpAny_bind ((PySem.W.looks_clsIn X hc).at ?_))))))
 rw [hd']
 have hx1:(hp.push { cls:=.type "dict",data:=.dict #[] }).get? a=some (DX C t):=Heap.get?_push_of_some _ ho
 generalize hH:((hp.push { cls:=.type "dict",data:=.dict #[] }).update a λo=>{ o with dict:=some hp.objs.size })=h1
 have ha1:h1.get? a=some { DX C t with dict:=some hp.objs.size }:=hH ▸ Heap.get?_update_self _ hx1 rfl
 have hd1:h1.get? hp.objs.size=some { cls:=.type "dict",data:=.dict #[] }:=hH ▸ (Heap.get?_update_ne _ _ _ _ (Ne.symm hxs)).trans (Heap.get?_push_at rfl rfl)
 have hk1:∀ b o,b≠a->hp.get? b=some o->h1.get? b=some o:=λb o n e=>hH ▸ (Heap.get?_update_ne _ _ _ _ n).trans (Heap.get?_push_of_some _ e)
 have hn1:h1.Ns hp.objs.size (λ_=>none):=⟨_,#[],_,hd1,rfl,λe he=>absurd he (by simp),λ_=>rfl⟩
 show wpAny _ _ (alloc _ >>= λd=>update a (λo=>{ o with dict:=some d }) >>= λ_=>dictMade (.ref C) a d) _ _ _
 refine wpAny_bind (wpAny_alloc' (wpAny_bind (wpAny_update' hx1 (wpAny_pure ?_))))
 show wpAny _ _ (storeInDict hp.objs.size (.str name tk) name v) _ _ ⟨_,_,_,_,_⟩
 rw [show ((⟨hp,g,d,tk+1,os⟩:Shared).heap.push { cls:=.type "dict",data:=.dict #[] })=hp.push { cls:=.type "dict",data:=.dict #[] } from rfl,hH]
 unfold storeInDict newKeyGuard
 refine wpAny_bind (wpAny_pure (wpAny_bind (wpAny_nsSet1 (Heap.Ns1.of_empty hn1) λh' hn' hs=>?_)))
 obtain ⟨oD,esD,epD,hoD,hdD,hcD⟩:=hn'.count (Within.cons name v Within.nil)
 refine wpAny_bind (wpAny_lookBehind hoD (by rw [hdD]; exact pastItsLine_dict (Nat.le_trans hcD (by rw [List.length_cons,List.length_nil,sizeLine_eq]; omega))) ?_)
 refine wpAny_pure (wpAny_pure (wpAny_pure (h h' _ ((hs.2 a hxs).trans ha1) hn' λb o n e=>(hs.2 b (Nat.ne_of_lt (Heap.lt_size e))).trans (hk1 b o n e))))
end
end L2
namespace L2
open PySem PySem.Spec PyProof.Rows Builtin.ObjectAttr DL
structure EN (K:PySem.W.Frag) (C f:Addr) (name:Str):Prop where
 cls:∃ (nm q:Str) (N:Addr) (bs bm:List Value) (sn:List Str) (sub:List Value) (ab:Bool) (col:Option Bool) (dd:Option Addr) (k0 k1 k2 k3 k5:Option Value),
  K.lookup C=some (excClassObj nm q C N bs bm true sn sub ab col dd k0 k1 k2 k3 k5 "ValueError.__new__")/\∀ h,K.In h->OwnTail h B7 bm
 init:PySem.W.findIn K (.ref C) "__init__" = some (some (.ref f))
 fn:PySem.W.typeIn K (.ref f)=some (.type "function")
 sa:PySem.W.findIn K (.ref C) "__setattr__" = some (some (.builtin "object.__setattr__"))
 na:PySem.W.findIn K (.ref C) name=some none
 kp:PySem.W.keepIn K (.ref C)=true
section
variable {X:Cx} {pins:List (Addr×Obj)} {σ:St} {H:Hp} {s:Shared} {C f a t:Addr} {name:Str}
abbrev Gf (C a t:Addr):HO:=.ext λh=>h.get? a=some (DX C t)
abbrev Es (C a t dx:Addr):HO:=.ext λh=>h.get? a=some { DX C t with dict:=some dx }
theorem Inv.track {b:Addr} {o:HO} (I:Inv X pins σ H s) (fp:B9 X pins H b) (hs:X.s₀.heap.get? b=none) (new:Bn X.prog X.w (An H b o) s.heap b o):Inv X pins σ (An H b o) s:=by
 obtain ⟨h2,h4,_,_,h5,h6⟩:=fp
 refine ⟨I.ok,I.os,I.bare,⟨I.base.keep,I.base.slot,λc o q n hb=>?_,I.base.there,λc xs q=>?_,λc o u q=>?_,λc ps q=>?_⟩,I.loc,I.cell,by rw [As (Ne.symm h4)]; exact I.free,λx c q=>by rw [As (h5 x c q)]; exact I.freeC x c q,λp hp=>?_,λc u q=>?_,I.len⟩
 ·rw [As]
  ·exact I.base.free c o q n hb
  ·rintro rfl; rw [hs] at q; cases q
 ·have:=I.base.tups c xs q
  rw [As (BO this h2)]; exact this
 ·have:=I.base.frzs c o u q
  rw [As (BO this h2)]; exact this
 ·obtain ⟨m,this⟩:=I.base.tbls c ps q
  exact ⟨m,by rw [As (BO this h2)]; exact this⟩
 ·obtain ⟨e,n,r⟩:=I.pin p hp
  exact ⟨e,by rw [As (h6 p hp)]; exact n,r⟩
 ·by_cases hb:c=b
  ·subst hb
   rw [AJ] at q
   cases q
   exact new
  ·rw [As hb] at q
   exact (I.hok c u q).stay (λ_ _ _ e=>e) (λc e=>by rw [As (BO e h2)]; exact e) λc xs e=>by rw [As (BO e h2)]; exact e
theorem XW {y:V} {u:Value} {A:Around} {E:Value->Shared->Prop} {Q:Unit->Shared->Prop} (Z:EN X.K C f name) (T:Cg X.K C) (I:Inv X pins σ H s) (e:H a=some (Gf C a t)) (ry:Aw y u)
  (h:∀ s' dx,H dx=none->Inv X pins σ (An (An H a (Es C a t dx)) dx (.xd [(name,y)])) s'->Q () s'):wpAny (model X.prog X.w) A (setAttr (.ref a) name u) Q E s:=by
 obtain ⟨nm,q,N,bs,bm,sn,sub,ab,col,dd,k0,k1,k2,k3,k5,hC,hT⟩:=Z.cls
 obtain ⟨ho,_⟩:=I.hok a _ e
 refine XT I.kIn (I.kIn _ _ hC) (hT _ I.kIn) ho Z.sa Z.na T.mo T.hd λh' tk h1 h2 h3=>h _ s.heap.objs.size (I.hok.fresh (Nat.le_refl _)) ?_
 have hne:a≠s.heap.objs.size:=Nat.ne_of_lt (Heap.lt_size ho)
 have hf:H s.heap.objs.size=none:=I.hok.fresh (Nat.le_refl _)
 have I1:Inv X pins σ (An H a (Es C a t s.heap.objs.size)) { s with heap:=h',toks:=tk }:=
  I.write (x:=a) (e:=a) (by rw [e]; exact True.intro) (.inl rfl) (λb u n z=>h3 b u n z) ⟨_,h1⟩ ⟨h1,⟨_,h1⟩,λx y e k=>k _ e⟩
 have fp:=I.fpOk (b:=s.heap.objs.size) (H':=An H a (Es C a t s.heap.objs.size)) (Nat.le_refl _) (by rw [As (Ne.symm hne)]; exact hf)
 refine I1.track fp ?_ ⟨_,h2,λg=>?_⟩
 ·cases z:X.s₀.heap.get? s.heap.objs.size with
  | none=>rfl
  | some o=>exact absurd (Heap.lt_size z) (Nat.not_lt.mpr I.sz)
 ·show BX (List.lookup g [(name,y)]) (if g=name then some u else none)
  by_cases z:g=name
  ·rw [if_pos z,z,List.lookup_cons,beq_self_eq_true]; exact ry
  ·rw [if_neg z,List.lookup_cons,beq_eq_false_iff_ne.mpr z]; trivial
theorem Inv.forget {φ:Heap->Prop} (I:Inv X pins σ (An H a (.ext φ)) s) (hn:H a=none):Inv X pins σ H s:=by
 have hs:∀ b u,H b=some u->An H a (.ext φ) b=some u:=λb u q=>by rw [As (BO q hn)]; exact q
 have back:∀ b u,An H a (.ext φ) b=some u->u≠.ext φ->H b=some u:=λb u q n=>by
  by_cases hb:b=a
  ·subst hb; rw [AJ] at q; exact absurd (Option.some.inj q).symm n
  ·rw [As hb] at q; exact q
 have no:∀ b,An H a (.ext φ) b=none->H b=none:=λb q=>by
  by_cases hb:b=a
  ·subst hb; exact hn
  ·rw [As hb] at q; exact q
 refine ⟨I.ok,I.os,I.bare,⟨I.base.keep,I.base.slot,λc o q n hb=>no c (I.base.free c o q n hb),I.base.there,λc xs q=>back c _ (I.base.tups c xs q) (λz=>by cases z),λc o u q=>back c _ (I.base.frzs c o u q) (λz=>by cases z),λc ps q=>?_⟩,I.loc,I.cell,no _ I.free,λx c q=>no _ (I.freeC x c q),λp hp=>?_,λc u q=>?_,I.len⟩
 ·obtain ⟨m,z⟩:=I.base.tbls c ps q
  exact ⟨m,back c _ z (λz=>by cases z)⟩
 ·obtain ⟨e,n,r⟩:=I.pin p hp
  exact ⟨e,no _ n,r⟩
 ·refine (I.hok c u (hs c u q)).stay (λ_ _ _ e=>e) (λb e=>back b _ e λz=>by cases z) λb xs e=>back b _ e λz=>by cases z
end
end L2
namespace L2
open PySem PySem.Spec PyProof.Rows Builtin.ObjectAttr DL
def EW (C:Addr) (name:Str):Sp:=λvs H Q _=>∃ a t v,vs=[.ref a,v]/\H a=some (Gf C a t)/\∀ dx,H dx=none->Q .non (An (An H a (Es C a t dx)) dx (.xd [(name,v)]))
section
variable {P:Program} {w:World} {K:PySem.W.Frag} {mg:Str->Option Value} {base:Heap} {C f:Addr} {name sn nn qual:Str} {st:Stmt} {fd:FuncData} {p1 p2 p3 p4:Pos}
theorem Ut {X:Cx} (Z:EN X.K C f name) (T:Cg X.K C) (h0:X.N[0]?=some sn) (h1:X.N[1]?=some nn) (v0:Dl X.env.scope sn) (v1:Dl X.env.scope nn) (d0:(sn==("__debug__" : Str))=false) (d1:(nn==("__debug__" : Str))=false) (c0:(sn==("__classdict__" : Str))=false) (c1:(nn==("__classdict__" : Str))=false)
  (hs:swapsWith (.Name nn p3) (some (.Attribute (.Name sn p1) name p2)) p4.line X.env=pure false) :
  PS X (.Assign [.Attribute (.Name sn p1) name p2] (.Name nn p3) p4) (λD σ H=>∃ a t v,σ[0]?=some (some (.ref a))/\σ[1]?=some (some v)/\H a=some (Gf C a t)/\∀ dx,H dx=none->D.nx σ (An (An H a (Es C a t dx)) dx (.xd [(name,v)]))):=by
 intro pins s σ H D I ⟨a,t,v,q0,q1,ha,hD⟩
 refine plainObj_wpAny_Assign_Attribute (Ao (K6 h1 v1 d1 c1 pins s σ H (λy H1=>y=v/\H1=H) I ⟨v,q1,rfl,rfl⟩) λu s1 ⟨y,H1,I1,ry,e1,e2⟩=>Ao (K6 h0 v0 d0 c0 pins s1 σ H1 (λy H2=>y=.ref a/\H2=H1) I1 ⟨_,q0,rfl,rfl⟩) λov s2 ⟨x,H2,I2,rx,e3,e4⟩=>?_) hs
 subst e1 e2 e3 e4
 obtain rfl:ov=Value.ref a:=rx
 exact XW Z T I2 ha ry λs3 dx hn I3=>⟨σ,_,I3,hD dx hn⟩
theorem okI (F:AB K "__init__" qual st f fd) (S:AD [sn,nn] [sn,nn] (Av st)) (Z:EN K C f name) (T:Cg K C) (hb:CN st=[.Assign [.Attribute (.Name sn p1) name p2] (.Name nn p3) p4]) (d0:(sn==("__debug__" : Str))=false) (d1:(nn==("__debug__" : Str))=false) (c0:(sn==("__classdict__" : Str))=false) (c1:(nn==("__classdict__" : Str))=false)
  (v0:Dl (Av st) sn) (v1:Dl (Av st) nn) (hs:∀ env,swapsWith (.Name nn p3) (some (.Attribute (.Name sn p1) name p2)) p4.line env=pure false):AI P w K mg base BM 1 f fd [sn,nn] (EW C name):=by
 refine F.ok (k:=0) S (λvs H Q E h=>?_) (λcdv A outer s H vs Q E hr h=>?_)
 ·obtain ⟨_,_,_,rfl,_⟩:=h; rfl
 ·obtain ⟨a,t,v,rfl,ha,hQ⟩:=h
  rw [hb]
  exact ⟨_,K0 (Ut Z T rfl rfl v0 v1 d0 d1 c0 c1 (hs _)) KZ,a,t,v,rfl,rfl,ha,hQ⟩
theorem Uc {M:Model} {A:Around} {E:Value->Shared->Prop} {s:Shared} {env:Env} {x:Sem Value} {Q:Flow->Shared->Prop} {nm q:Str} {N:Addr} {bs bm:List Value} {sn:List Str} {sub:List Value} {ab:Bool} {col:Option Bool} {dd:Option Addr} {k0 k1 k2 k3 k5:Option Value} (hh:A.handled=none)
  (h:wpAny M A x (λv s₁=>∃ e t dx,v=.ref e/\s₁.heap.get? C=some (excClassObj nm q C N bs bm true sn sub ab col dd k0 k1 k2 k3 k5 "ValueError.__new__")/\OwnTail s₁.heap B7 bm/\s₁.heap.get? e=some { DX C t with dict:=some dx }/\E (.ref e) s₁) E s) :
  wpAny M A (raiseStmt env (some x) none) Q E s:=by
 unfold raiseStmt
 refine wpAny_bind (wpAny_mono h (λv s1 h1=>?_) λ_ _ x=>x)
 obtain ⟨e,t,dx,rfl,hC,T,he,hE⟩:=h1
 have hcB:(Value.ref C::bm).contains (.type "BaseException")=true:=by rw [List.contains_cons,T.hasType F.excBase_ValueError.hasBase,Bool.or_true]
 obtain ⟨hp,g,d,tk,os⟩:=s1
 repeat (first | with_reducible refine wpAny_loadPart_at he ?_ | with_reducible refine wpAny_loadPart_at hC ?_ | (with_reducible refine wpAny_isSubtype_exc hC ?_; rw [hcB]) | wp_step)
 exact wpAny_raiseNew_none hh hE
end
end L2
namespace DL
open PySem PySem.Spec PyProof.Rows L2
structure EM (P:Program) (w:World) (K:PySem.W.Frag) (mg:Str->Option Value) (base:Heap) (C:Addr) (k:Nat) (x name:Str):Prop where
 ex:∃ f fd ps,AI P w K mg base BM k f fd ps (EW C name)/\EN K C f name/\Binds K fd ps []
 ty:Cg K C
 at_:mg x=some (.ref C)
section
variable {X:Cx} {mk:Prop} {ρ:Am} {O:Ad} {e:Expr} {d:D} {RX:XC} {pos np cpos:Pos} {x name:Str} {P:A2} {C:Addr} {k:Nat}
theorem FH (M:EM X.prog X.w X.K X.mg X.base C k x name) (hr:AR (k+1) X.A) (ha:BB X ρ O [e] [d]) (hR:RX C [(name,d)] ρ O) (hmk:mk) (hc:X.calm=true:=by rfl) (hex:X.ex=[]:=by rfl) (hg:Gl X x:=by rfl)
  (hdb:(x==("__debug__" : Str))=false:=by decide) (he:starEach [e] X.env=(false,eval e X.env)::starEach [] X.env:=by rfl) (hpl:(backTo cpos (starEach [] X.env)).any (·.1)=false:=by rfl) :
  DG X mk ρ O (.Raise (some (.Call (.Name x np) [e] [] cpos)) none pos) P RX:=λG pins s σ H E I ⟨h1,h2,h3,h4⟩=>by
 obtain ⟨f,fd,ps,g1,g2,g3⟩:=M.ex
 obtain ⟨nm,q,N,bs,bm,sn,sub,ab,col,dd,k0,k1,k2,k3,k5,hC,hT⟩:=g2.cls
 rw [arm_exec_Raise]
 refine wpAny_bind (wpAny_standAt (Uc (C:=C) (nm:=nm) (q:=q) (N:=N) (bs:=bs) (bm:=bm) (sn:=sn) (sub:=sub) (ab:=ab) (col:=col) (dd:=dd) (k0:=k0) (k1:=k1) (k2:=k2) (k3:=k3) (k5:=k5) (I.ok.hd hc) (wpAny_bind (wpAny_mono (wpAny_Call_Name_kw (Fe I hg M.at_ ?_ hdb)) (λv s3 h3=>wpAny_bind (wpAny_standAt (wpAny_pure h3))) λ_ _ z=>z))))
 refine PySem.W.callWith_K (h₀:=X.base) I.ok.mod.kin g2.kp (Ao (ha G cpos pins s σ H (λvs H'=>∃ G',Ag G G'/\SA X.K G' H' O/\Aj X.K G' [d] vs) I ⟨h1,h2,λvs G' H' e1 s1 i1=>⟨G',e1,s1,i1⟩⟩) λus s1 ⟨vs,H1,I1,r,G1,e1,sa,i1⟩=>⟨I1.kIn,?_⟩) he hpl
 obtain ⟨v,rfl,iv⟩:∃ v,vs=[v]/\Is X.K G1 d v:=by
  cases i1 with | cons i r'=>cases r' with | nil=>exact ⟨_,rfl,i⟩
 have ul:us.length=1:=r.length.symm
 have ha1:H1 (s1.heap.objs.size+1)=none:=I1.hok.fresh (Nat.le_succ _)
 have kp:∀ b o,s1.heap.get? b=some o->(DU s1.heap C us).get? b=some o:=λb o e=>Heap.get?_push_of_some _ (Heap.get?_push_of_some _ e)
 have hget:(DU s1.heap C us).get? (s1.heap.objs.size+1)=some (DX C s1.heap.objs.size):=by heap_get
 have s0n:X.s₀.heap.get? (s1.heap.objs.size+1)=none:=by
  cases z:X.s₀.heap.get? (s1.heap.objs.size+1) with
  | none=>rfl
  | some o=>exact absurd (Heap.lt_size z) (Nat.not_lt.mpr (Nat.le_succ_of_le I1.sz))
 have I2:L2.Inv X pins σ (An H1 (s1.heap.objs.size+1) (Gf C (s1.heap.objs.size+1) s1.heap.objs.size)) { s1 with heap:=DU s1.heap C us }:=
  (I1.kept (t':=s1.toks) kp).track (I1.fpOk (Nat.le_succ _) ha1) s0n ⟨hget,⟨_,hget⟩,λ_ _ e k=>k _ e⟩
 generalize hH2:An H1 (s1.heap.objs.size+1) (Gf C (s1.heap.objs.size+1) s1.heap.objs.size)=H2 at I2
 have hsp:EW C name [V.ref (s1.heap.objs.size+1),v] H2 (λu H'=>u=.non/\∃ dx,H2 dx=none/\H'=An (An H2 (s1.heap.objs.size+1) (Es C (s1.heap.objs.size+1) s1.heap.objs.size dx)) dx (.xd [(name,v)])) (λ_ _ _=>False):=
  ⟨_,_,v,rfl,by rw [<- hH2]; exact AJ,λdx hn=>⟨rfl,dx,hn,rfl⟩⟩
 have r2:Aq [V.ref (s1.heap.objs.size+1),v] (Value.ref (s1.heap.objs.size+1)::us):=.cons rfl r
 have hl:(Value.ref (s1.heap.objs.size+1)::us).length=ps.length:=by rw [<- r2.length]; exact g1.len _ _ _ _ hsp
 have hb:=g3 { s1 with heap:=_ } (Value.ref (s1.heap.objs.size+1)::us) I2.kIn (by rw [List.append_nil]; exact hl)
 rw [List.append_nil] at hb
 refine wpAny_call (XU (f:=f) I1.kIn (I1.kIn _ _ hC) (hT _ I1.kIn) g2.init g2.fn (by rw [List.nil_append,ul,sizeLine_eq]; decide) (codeAny_mono (g1.run _ X.stack _ _ ⟨Value.ref (s1.heap.objs.size+1)::us,[]⟩ _ _ _ (λ_ _ _=>False) (hr.make C us []) (I2.env0.make C us []) hb r2 hsp) λr s' hq'=>?_))
 match r,hq' with
 | .error e,hq'=>exact hq'.elim
 | .ok (.ret u),hq'=>
  obtain ⟨v',H',I3,rv,ev,dx,hn,hH'⟩:=I2.after hq'
  subst ev
  refine ⟨rv,?_⟩
  have h2a:H2 (s1.heap.objs.size+1)=some (Gf C (s1.heap.objs.size+1) s1.heap.objs.size):=by rw [<- hH2]; exact AJ
  have hne:s1.heap.objs.size+1≠dx:=BO h2a hn
  have h1d:H1 dx=none:=by rw [<- hH2,As (Ne.symm hne)] at hn; exact hn
  have hcomm:H'=An (An H1 dx (.xd [(name,v)])) (s1.heap.objs.size+1) (Es C (s1.heap.objs.size+1) s1.heap.objs.size dx):=by
   rw [hH',<- hH2,RP]
   funext b
   unfold An
   by_cases hb:b=dx
   ·subst hb; rw [if_pos rfl,if_neg (Ne.symm hne),if_pos rfl]
   ·rw [if_neg hb,if_neg hb]
  have h3n:An H1 dx (.xd [(name,v)]) (s1.heap.objs.size+1)=none:=by rw [As hne]; exact ha1
  obtain ⟨ho,_⟩:=I3.hok (s1.heap.objs.size+1) (Es C (s1.heap.objs.size+1) s1.heap.objs.size dx) (by rw [hcomm]; exact AJ)
  have I4:L2.Inv X pins σ (An H1 dx (.xd [(name,v)])) s':=(hcomm ▸ I3).forget h3n
  obtain ⟨e2,sa2⟩:=sa.laid (o:=.xd [(name,v)]) h1d
  exact ⟨_,_,dx,rfl,I3.kIn _ _ hC,hT _ I3.kIn,ho,(h4 C [(name,d)] (some dx) σ ρ O _ _ (e1.trans e2) sa2 (h2.ext (e1.trans e2)) (.inr ⟨dx,_,rfl,AJ,.cons (iv.ext e2) .nil⟩) hR).2 hmk pins s' _ _ _ _ I4 h3n s0n ho rfl rfl rfl rfl rfl rfl⟩
end
end DL
namespace L2
open PySem PySem.Spec PyProof.Rows Builtin.ObjectAttr
section
variable {prog:Program} {w:World} {A:Around} {E:Value->Shared->Prop} {s:Shared} {K:PySem.W.Frag} {x C:Addr} {n:Str} {ox od:Obj} {u:Value}
theorem XY (T:Cg K C) (na:PySem.W.findIn K (.ref C) n=some none) (hl:PySem.W.lookIn n od=some (some u)):PySem.W.findObj K C (some od) n=some (.value u):=by
 obtain ⟨cd,hc,hd⟩:=PySem.W.any_some T.hd
 have ho:PySem.W.ownOf cd (some od) n=some (some u):=by unfold PySem.W.ownOf; rw [if_pos hd]; exact hl
 unfold PySem.W.findObj
 rw [hc,Option.bind_some,na,Option.bind_some]
 dsimp only
 rw [Option.bind_some,Option.bind_some,ho]
 rfl
theorem XS {tk:Tok} {P:Value->Shared->Prop} (X:K.In s.heap) (I:PySem.W.InstAt s.heap x ox C (some od)) (hf:PySem.W.findObj K C (some od) n=some (.value u)) (h:P u s) :
  wpAny (model prog w) A (Builtin.«object.__getattribute__» ⟨[.ref x,.str n tk],[]⟩) (λfin s'=>match fin with | .done (.ret v)=>P v s' | _=>False) E s:=by
 have LT:=I.type (M:=model prog w)
 have LF:=PySem.W.looks_find (M:=model prog w) X I hf
 obtain ⟨hh,gg,d,t,os⟩:=s
 unfold Builtin.«object.__getattribute__» slotArgs
 refine wpAny_bind (wpAny_bind (wpAny_pure (wpAny_bind (wpAny_pure (wpAny_pure ?_)))))
 exact wpAny_bind (wpAny_pure (wpAny_bind (LT.at (wpAny_bind (LF.at (wpAny_pure h))))))
theorem XX {b:Bool} {Q:Value->Shared->Prop} (T:Cg K C) (X:K.In s.heap) (I:PySem.W.InstAt s.heap x ox C (some od)) (na:PySem.W.findIn K (.ref C) n=some none) (hl:PySem.W.lookIn n od=some (some u)) (hu:PySem.W.handedIn u=true) (h:Q u { s with toks:=s.toks+1 }) :
  wpAny (model prog w) A (getAttr (.ref x) n b) Q E s:=by
 have LT:=I.type (M:=model prog w)
 have LG:=PySem.W.looks_findIn (M:=model prog w) X T.ga
 have LH:=PySem.W.looks_findIn (M:=model prog w) X T.hk
 unfold getAttr getAttrBy
 refine wpAny_bind (wpAny_mkText (wpAny_holding (wpAny_bind (LT.at (wpAny_bind (LG.at ?_))))))
 show wpAny _ _ (getAttrByItsOwn _ _ _ _ _ _) _ _ _
 unfold getAttrByItsOwn
 refine wpAny_bind (LH.at (wpAny_bind (wpAny_attempt (wpAny_holding ?_))))
 have e0:∀ o nv,callGetattribute o nv (.builtin "BaseException.__getattribute__") b=boundAndCalled (.builtin "BaseException.__getattribute__") o nv:=λo nv=>by cases b <;> rfl
 rw [e0]
 unfold boundAndCalled
 rw [F.excAttr_ValueError.ga.bind]
 refine wpAny_bind (wpAny_pure (wpAny_call (codeAny_call_builtin F.excAttr_ValueError.ga.plain F.entry_bexc_ga (P6 T X LT (wpAny_mono (XS (s:={ s with toks:=s.toks+1 }) (P:=λv s'=>v=u/\s'={ s with toks:=s.toks+1 }) X I (XY T na hl) ⟨rfl,rfl⟩) (λfin s' z=>?_) λ_ _ z=>z)))))
 rcases fin with (v | _ | _ | _) | _ <;> first | exact z.elim | skip
 obtain ⟨rfl,rfl⟩:=z
 exact PySem.W.handed_on hu h
end
end L2
namespace DL
open PySem PySem.Spec PyProof.Rows L2
section
variable {X:Cx} {ρ:Am} {O:Ad} {e:Expr} {d:D} {pos:Pos} {f:Str} {C:Addr} {q:Nat} {fs:List (Str×D)}
theorem IL (he:Ac X ρ O e (.ptr q)) {hx':Option Addr} (hq:O[q]?=some (some (.exc C fs hx'))) (T:Cg X.K C) (na:PySem.W.findIn X.K (.ref C) f=some none) (hl:fs.lookup f=some d) (hb:attributeBase e f X.env (eval e X.env)=eval e X.env:=by rfl) :
  Ac X ρ O (.Attribute e f pos) d:=λG pins s σ H Q I ⟨h1,h2,h3⟩=>by
 refine QZ hb (Ao (he G pins s σ H (λv H'=>∃ G',Ag G G'/\SA X.K G' H' O/\Is X.K G' (.ptr q) v) I ⟨h1,h2,λv G' H' e1 s1 i1=>⟨G',e1,s1,i1⟩⟩) λu s1 ⟨y,H1,I1,ry,G1,e1,sa1,i1⟩=>?_)
 cases i1 with
 | ptr _ ha=>
  obtain ⟨a,g1,g2,ob,g3,⟨g4,ws,g5⟩,g6,_⟩:=sa1.mt q _ hq
  cases Option.some.inj (ha.symm.trans g1)
  obtain rfl:u=Value.ref _:=ry
  rcases g6 with z | ⟨dx,vs,k1,k2,k3⟩
  ·subst z; cases hl
  obtain ⟨v,l,iv⟩:=k3.look hl
  obtain ⟨ho,_⟩:=I1.hok _ _ g3
  obtain ⟨mA,n1,r1⟩:=I1.hok dx _ (sa1.sub _ _ k2)
  obtain ⟨od,hod,hlk⟩:=Pl n1
  obtain ⟨u',hu,ru⟩:=BX.some_of (v:=v) (o:=mA f) (by rw [<- l]; exact r1 f)
  have J:PySem.W.InstAt s1.heap _ ob C (some od):=⟨ho,g4,by obtain ⟨c0,d0,dt,sl⟩:=ob; subst g5; rfl,by rw [k1]; exact hod⟩
  exact XX T I1.kIn J na (by rw [hlk,hu]) (PC ru) ⟨v,H1,I1.tok _,ru,h3 v G1 H1 e1 sa1 iv⟩
theorem NC {K:PySem.W.Frag} {h:Heap} {Cb:Addr} (X:K.In h) (q:PySem.W.excIn K Cb B7 "ValueError.__new__" = true):OwnTail h B7 (.ref Cb::B7):=by
 obtain ⟨tl,N,nm,q,bs,hdct,sn,sub,ab,col,dd,k0,k1,k2,k3,k5,mN,hC,hN,hni,T⟩:=(P5 X q).obj
 exact .own hC hN hni .base
end
abbrev Bi.good (sp:Bi):A7:=λds O R=>sp ds O R λ_ _ _=>False
section
variable {P:Program} {w:World} {K:PySem.W.Frag} {mg:Str->Option Value} {base:Heap} {C:Addr} {k:Nat} {x m:Str} {sp:Bi}
theorem Ms {f:Addr} {fd:FuncData} {ps:List Str} (F:AI P w K mg base (Bk P w) k f fd ps (BC K sp)):AI P w K mg base BM k f fd ps (Cc K sp.good):=by
 have tr:∀ {vs:List V} {H:Hp} {Q:VK} {E:XK},Cc K sp.good vs H Q E->BC K sp vs H Q (λ_ _ _=>False):=λ⟨G,O,ds,R,h1,h2,h3,h4⟩=>⟨G,O,ds,R,_,h1,h2,h3,h4,λ_ _ _ _ _ _ _ _ _ z=>z⟩
 refine ⟨λvs H Q E h=>F.len vs H Q _ (tr h),λA outer s H args us vs Q E hr h0 hb r h=>codeAny_mono (F.run A outer s H args us vs Q _ hr h0 hb r (tr h)) λr s' z=>?_⟩
 match r,z with
 | .error e,z=>obtain ⟨_,_,_,_,_,_,_,z⟩:=z; exact z.elim
 | .ok (.ret u),z=>exact z
theorem A1.ok (F:A1 P w K mg base k x sp):AE P w K mg base k x sp.good:=let ⟨f,fd,ps,h1,h2⟩:=F.ex; ⟨f,fd,ps,Ms h1,h2⟩
theorem Bu.ok (F:Bu P w K mg base C k m sp):DF P w K mg base C k m sp.good:=let ⟨f,fd,ps,h1,h2⟩:=F.ex; ⟨⟨f,fd,ps,Ms h1,h2⟩,F.cls⟩
theorem Jl.ok (F:Jl P w K mg base C k x sp):Rb P w K mg base C k x sp.good:=let ⟨f,fd,ps,h1,h2⟩:=F.ex; ⟨⟨f,fd,ps,Ms h1,h2⟩,F.at_⟩
end
end DL
namespace L2
open PySem PySem.Spec PyProof.Rows
end L2
namespace DL
open PySem PySem.Spec PyProof.Rows L2
section
variable {X:Cx} {O:Ad}
end
section
variable {X:Cx} {mk:Prop} {ρ:Am} {O:Ad} {P:A2} {RX:XC} {pos:Pos}
theorem Jz {tg iter:Expr} {body:List Stmt} {xs:List D} (hi:Cn X ρ O tg iter xs) (inv:Nat->Am->Ad->Prop) (h0:inv 0 ρ O)
  (hs:∀ i x ρ' O',xs[i]?=some x->inv i ρ' O'->∃ ρ1,Tg X tg x ρ' ρ1/\Dn X mk ρ1 O' body { P with nx:=inv (i+1),ct:=inv (i+1),bk:=P.nx } RX) (hd:∀ ρ' O',inv xs.length ρ' O'->P.nx ρ' O')
  (hp:PassesOwn (model X.prog X.w) X.A X.env X.xe:=by exact PassesOwn.leaving) (hc:X.calm=true:=by rfl) (hf:∀ x,foldedSetIterable iter X.env x=pure x:=by intro _; rfl):DG X mk ρ O (.For tg iter body [] pos) P RX:=λG=>
 PS.imp (OD hp hc (hi G) (g:=λv σ H Q=>∃ G1 ρ1 ρ2 x,Tg X tg x ρ1 ρ2/\Is X.K G1 x v/\Bj G1.g H/\Ar X.K G1 σ ρ1/\∀ σ',Ar X.K G1 σ' ρ2->Q σ' H) (λpins s σ H v u Q I r ⟨G1,ρ1,ρ2,x,q,q'⟩=>q G1 pins s σ H v u Q I r q')
  (tb:=λE σ H=>∃ G1 ρ1 O1 P1,SA X.K G1 H O1/\Ar X.K G1 σ ρ1/\Dn X mk ρ1 O1 body P1 RX/\Cs X.K G1 P1 E/\Dq X mk G1 RX) (λpins s σ H E I ⟨G1,ρ1,O1,P1,q1,q2,q3,q4,q5⟩=>q3 G1 pins s σ H E I ⟨q1,q2,q4,q5⟩) hf) λE σ H ⟨q1,q2,q3,q5⟩=>by
  refine ⟨q1,q2,λJ G1 H1 e1 s1 Y=>?_⟩
  refine ⟨λi m σ H=>∃ G2 ρ2 O2,Ag G1 G2/\SA X.K G2 H O2/\Ar X.K G2 σ ρ2/\inv i ρ2 O2/\i<=xs.length/\m=xs.length-i,⟨_,G1,ρ,O,Ag.refl _,s1,q2.ext e1,h0,Nat.zero_le _,rfl⟩,?_⟩
  rintro i m σ2 H2 ⟨G2,ρ2,O2,e2,s2,n2,v2,l2,rfl⟩
  by_cases hlt:i<xs.length
  ·refine .inr ⟨Y.go i H2 (e2.g.trans s2.sub) hlt,λσ' H'=>∃ G3 ρ3 O3,Ag G1 G3/\SA X.K G3 H' O3/\Ar X.K G3 σ' ρ3/\inv (i+1) ρ3 O3,λσ' H' ⟨G3,ρ3,O3,e3,s3,n3,v3⟩=>⟨xs.length-(i+1),by omega,G3,ρ3,O3,e3,s3,n3,v3,hlt,rfl⟩,λv H3 y=>?_⟩
   obtain ⟨x,G3,hx,e3,s3,i3⟩:=Y.yld i v H2 H3 G2 O2 e2 s2 y hlt
   obtain ⟨ρ3,t3,b3⟩:=hs i x ρ2 O2 hx v2
   have e13:Ag G1 G3:=e2.trans e3
   refine ⟨G3,ρ2,ρ3,x,t3,i3,s3.sub,n2.ext e3,λσ' n'=>⟨G3,ρ3,O2,_,s3,n',b3,⟨λσ4 ρ4 O4 G4 H4 e4 s4 n4 q=>⟨G4,ρ4,O4,e13.trans e4,s4,n4,q⟩,λv d O4 G4 H4 e4 s4 i4 r=>q3.rt v d O4 G4 H4 (e1.trans (e13.trans e4)) s4 i4 r,
    λσ4 ρ4 O4 G4 H4 e4 s4 n4 q=>q3.nx σ4 ρ4 O4 G4 H4 (e1.trans (e13.trans e4)) s4 n4 q,λσ4 ρ4 O4 G4 H4 e4 s4 n4 q=>⟨G4,ρ4,O4,e13.trans e4,s4,n4,q⟩⟩,q5.ext (e1.trans e13)⟩⟩
  ·have ei:i=xs.length:=by omega
   subst ei
   exact .inl ⟨Y.stop _ H2 (e2.g.trans s2.sub) (Nat.le_refl _),q3.nx σ2 ρ2 O2 G2 H2 (e1.trans e2) s2 n2 (hd _ _ v2)⟩
end
section
variable {X:Cx} {O:Ad} {da db ea eb:D} {k:Nat} {v:Value}
end
section
variable {X:Cx} {ρ:Am} {O:Ad} {value o ix:Expr} {P:A2} {pos tpos:Pos} {q j:Nat} {i:Int} {xs:List D}
end
end DL
namespace L2
open PySem PySem.Spec PyProof.Rows
theorem PP {α:Type} (a:Array α):∀ (k:Nat) (acc:Array α),((List.replicate k a).foldl (·++·) acc).size=acc.size+k*a.size
 | 0,acc=>by simp
 | k+1,acc=>by
  rw [List.replicate_succ,List.foldl_cons,PP a k,Array.size_append,Nat.succ_mul]
  omega
end L2
namespace DL
open PySem PySem.Spec PyProof.Rows L2
theorem MQ:∀ {bs:List Bool} {us:List Value},Aq (bs.map V.bl) us->us=bs.map Value.bool
 | [],_,.nil=>rfl
 | b::bs,_,.cons r t=>by cases r; rw [MQ t]; rfl
theorem KU {h:Heap}:∀ bs:List Bool,ReadsAll h (bs.map Value.bool) (bs.map PyData.bool) []
 | []=>.nil
 | b::bs=>ReadsAll.cons (as:=[]) (.bool b) (KU bs)
theorem Qz (k:Bool):∀ bs:List Bool,countIn (.bool k) (bs.map PyData.bool)=((bs.count k:Nat):Int)
 | []=>rfl
 | b::bs=>by
  rw [List.map_cons,countIn,Qz k bs,List.count_cons]
  cases b <;> cases k <;> simp [same] <;> omega
section
variable {X:Cx} {ρ:Am} {O:Ad} {a e:Expr} {d:D}
def Um (K:PySem.W.Frag):V->List V->Hp->VK->Prop:=λx vs H Q=>∃ (p:Addr) (bs:List Bool) (k:Bool),x=.ref p/\vs=[.bl k]/\A0 K H p (bs.map V.bl)/\Q (.int ((bs.count k:Nat):Int)) H
theorem Wt:Jk X "list.count" (Um X.K):=by
 intro pins s σ H x vs v us Q I rx rv h
 obtain ⟨p,bs,k,rfl,rfl,hq,q⟩:=h
 cases rx
 obtain ⟨u,rfl,ru⟩:=rv.one
 cases ru
 obtain ⟨its,r,pl,hz⟩:=I.list hq
 have e:=MQ r
 subst e
 refine count_list_bools pl.isList (KU (h:=s.heap) bs) ?_ ?_
 ·rw [List.all_map]; exact List.all_eq_true.mpr λ_ _=>rfl
 ·rw [Qz]
  exact ⟨.int _,H,I.tok _,⟨_,rfl⟩,q⟩
theorem IN {k:Bool} {bs:List Bool} {apos cpos:Pos} (ho:Ac X ρ O a d) (hl:LV O d (bs.map D.bl)) (he:Ac X ρ O e (.bl k))
  (hbase:attributeBase a ("count" : Str) X.env (eval a X.env)=eval a X.env:=by rfl) (hline:(apos.endLine==cpos.line)=true:=by rfl) (hst:starEach [e] X.env=[(false,eval e X.env)]:=by rfl) :
  Ac X ρ O (.Call (.Attribute a ("count" : Str) apos) [e] [] cpos) (.int ((bs.count k:Nat):Int)):=λG=>
 PE.imp (FV PySem.F.plainAttrs_list PySem.F.slot_list_count PySem.F.type_list_count Wt (ho G)
  (Dx (te:=λσ H Q=>∃ G1,SA X.K G1 H O/\Ar X.K G1 σ ρ/\∀ v G' H',Ag G1 G'->SA X.K G' H' O->Is X.K G' (.bl k) v->Q v H') (λpins s σ H Q I ⟨G1,q⟩=>he G1 pins s σ H Q I q) Ez hst) hbase
  (by rw [hst]; rfl) hline hst (by rfl)) λσ H Q ⟨q1,q2,q3⟩=>⟨q1,q2,λv G1 H1 e1 s1 i1=>by
   obtain ⟨p,vs,rfl,g1,g2⟩:=hl.sq s1 i1
   have:=Aj.toBls g2
   subst this
   refine ⟨.inl ⟨rfl,_,g1⟩,G1,s1,q2.ext e1,λw G2 H2 e2 s2 i2=>?_⟩
   cases i2
   obtain ⟨p2,vs2,h2,g3,g4⟩:=hl.sq s2 (i1.ext e2)
   cases h2
   have:=Aj.toBls g4
   subst this
   exact ⟨p,bs,k,rfl,rfl,g3,q3 _ G2 H2 (e1.trans e2) s2 (.int _)⟩⟩
end
section
variable {X:Cx} {ρ:Am} {O:Ad} {elt tg iter:Expr} {ifs:List Expr} {scope:Scope} {pos:Pos} {xs:List D} {zs:List (Option D)}
end
section
variable {X:Cx} {ρ:Am} {O:Ad} {P:A2} {pos:Pos}
variable {α:Type} {ps:List α} {f g:α->D} {h:α->Option D} {tg iter elt:Expr} {ifs:List Expr} {scope:Scope}
end
section
variable {P:Program} {w:World} {K:PySem.W.Frag} {mg:Str->Option Value} {base:Heap}
end
section
variable {prog:Program} {w:World} {A:Around} {E:Value->Shared->Prop} {s:Shared}
end
section
variable {X:Cx} {O:Ad}
end
section
variable {X:Cx} {mk:Prop} {ρ:Am} {O:Ad} {value o:Expr} {RX:XC} {pos pos':Pos} {f:Str} {P:A2} {C:Addr} {q:Nat} {fs:List (Str×D)}
end
end DL
namespace DL
open PySem PySem.Spec PyProof.Rows L2 PySem.SeqAt PySem.MeetsSeq
section
variable {X:Cx} {ρ:Am} {O:Ad} {a e:Expr} {d:D}
theorem Xm {α:Type} [BEq α] [LawfulBEq α] {xs:List α} {k:α} (h:k∈xs):∃ hl:xs.idxOf k<xs.length,xs[xs.idxOf k]=k/\∀ m (hm:m<xs.length),m<xs.idxOf k->(xs[m]==k)=false:=by
 have hl:=List.idxOf_lt_length_iff.mpr h
 refine ⟨hl,List.getElem_idxOf hl,λm hm hlt=>?_⟩
 have:=List.not_of_lt_findIdx (p:=λx=>x==k) (xs:=xs) (show m<xs.findIdx (λx=>x==k) from hlt)
 simpa using this
def Uk (K:PySem.W.Frag):V->List V->Hp->VK->Prop:=λx vs H Q=>∃ (p:Addr) (bs:List Bool) (k:Bool),x=.ref p/\vs=[.bl k]/\A0 K H p (bs.map V.bl)/\k∈bs/\Q (.int ((bs.idxOf k:Nat):Int)) H
theorem Ws:Jk X "list.index" (Uk X.K):=by
 intro pins s σ H x vs v us Q I rx rv h
 obtain ⟨p,bs,k,rfl,rfl,hq,hk,q⟩:=h
 cases rx
 obtain ⟨u,rfl,ru⟩:=rv.one
 cases ru
 obtain ⟨its,r,pl,hz⟩:=I.list hq
 have e:=MQ r
 subst e
 have hn:=sizeLine_eq
 rw [List.length_map] at hz
 obtain ⟨⟨cls,dd,data,sl⟩,ho,hc,n,hd⟩:=pl.isList
 simp only at hc hd
 subst hc hd
 obtain ⟨h1,h2,h3⟩:=Xm hk
 have ha:(bs.map PyData.bool).all Shape.bool.has=true:=by rw [List.all_map]; exact List.all_eq_true.mpr λ_ _=>rfl
 refine call_meets PySem.F.slot_list_index ⟨_,ho,rfl⟩ PySem.F.entry_list_index (PySem.F.args_list_index_2 _ _)
  (list_indexAt p (bs.map Value.bool).toArray n dd sl (.bool k) (isBoolOf k) (bs.idxOf k) (by simpa using h1) wF ?_ ?_) ⟨ho,λy hy=>eq_isBoolOf k (KU (h:=s.heap) bs) ha y (by simpa using hy) _ _,⟨.int _,H,I.tok _,⟨_,rfl⟩,q⟩⟩
 ·show isBoolOf k ((bs.map Value.bool)[bs.idxOf k]'(by rw [List.length_map]; exact h1))=true
  rw [List.getElem_map,h2]
  simp [isBoolOf]
 ·intro j hjs hlt
  show isBoolOf k ((bs.map Value.bool)[j]'(by simpa using hjs))=false
  rw [List.getElem_map]
  exact h3 j _ hlt
theorem II {k:Bool} {bs:List Bool} {apos cpos:Pos} (ho:Ac X ρ O a d) (hl:LV O d (bs.map D.bl)) (he:Ac X ρ O e (.bl k)) (hk:k∈bs)
  (hbase:attributeBase a ("index" : Str) X.env (eval a X.env)=eval a X.env:=by rfl) (hline:(apos.endLine==cpos.line)=true:=by rfl) (hst:starEach [e] X.env=[(false,eval e X.env)]:=by rfl) :
  Ac X ρ O (.Call (.Attribute a ("index" : Str) apos) [e] [] cpos) (.int ((bs.idxOf k:Nat):Int)):=λG=>
 PE.imp (FV PySem.F.plainAttrs_list PySem.F.slot_list_index PySem.F.type_list_index Ws (ho G)
  (Dx (te:=λσ H Q=>∃ G1,SA X.K G1 H O/\Ar X.K G1 σ ρ/\∀ v G' H',Ag G1 G'->SA X.K G' H' O->Is X.K G' (.bl k) v->Q v H') (λpins s σ H Q I ⟨G1,q⟩=>he G1 pins s σ H Q I q) Ez hst) hbase
  (by rw [hst]; rfl) hline hst (by rfl)) λσ H Q ⟨q1,q2,q3⟩=>⟨q1,q2,λv G1 H1 e1 s1 i1=>by
   obtain ⟨p,vs,rfl,g1,g2⟩:=hl.sq s1 i1
   have:=Aj.toBls g2
   subst this
   refine ⟨.inl ⟨rfl,_,g1⟩,G1,s1,q2.ext e1,λw G2 H2 e2 s2 i2=>?_⟩
   cases i2
   obtain ⟨p2,vs2,h2,g3,g4⟩:=hl.sq s2 (i1.ext e2)
   cases h2
   have:=Aj.toBls g4
   subst this
   exact ⟨p,bs,k,rfl,rfl,g3,hk,q3 _ G2 H2 (e1.trans e2) s2 (.int _)⟩⟩
end
end DL
namespace DL
open PySem PySem.Spec PyProof.Rows L2 PySem.W
section
variable {prog:Program} {w:World} {A:Around} {s:Shared} {E:Value->Shared->Prop} {it:Addr} {Ty:String}
theorem Zj {Q:Value->Shared->Prop} (hT:s.TypeIs (.ref it) Ty) (nt:(Value.type Ty==Value.type "tuple")=false)
  (hc:wpAny (model prog w) A.in1.in1 (collect (.ref it)) (λits s1=>its.length<=sizeLine/\Q (.ref s1.heap.objs.size) { s1 with heap:=s1.heap.push { cls:=.type "tuple",data:=.seq its.toArray } }) E s) :
  wpAny (model prog w) A (call (.type "tuple") [.ref it]) Q E s:=by
 refine callType_codes (Q₁:=λobj s₁=>s₁.TypeIs obj "tuple" /\ Q obj s₁) F.called_tuple (F.typeCall_tuple_1 _) F.entry_object_init ?_ λobj s₁ h₁=>⟨h₁.1,F.args_object_init_2 obj _,object_init_meets F.called_tuple.init.lookup F.called_tuple.made wE prog w A.in1 _ s₁ ⟨h₁.1,rfl,h₁.2⟩⟩
 refine codeAny_of_tree ?_
 show wpAny _ A.in1.in1 (do checkBuiltinCall "tuple.__new__" ⟨[.type "tuple",.ref it],[]⟩; again (.builtin "tuple.__new__" ⟨[.type "tuple",.ref it],[]⟩)) _ _ s
 refine wpAny_bind (wpAny_of_eq (F.newCall_tuple_1 _) (wpAny_pure ⟨plainId_quiet F.plain_tuple_new _,Fo F.plain_tuple_new F.entry_tuple_new ?_⟩))
 have h1:=sub_tuple_self
 have h2:=init_tuple_lookup
 have h3:=madeHere_tuple
 have cr:∀ (Q':List Value->Shared->Prop) (E':Value->Shared->Prop),(∀ e s',E e s'->E' e s')->(∀ its s1,its.length<=sizeLine/\Q (.ref s1.heap.objs.size) { s1 with heap:=s1.heap.push { cls:=.type "tuple",data:=.seq its.toArray } }->Q' its s1)->wpAny (model prog w) A.in1.in1 (collect (.ref it)) Q' E' s:=λQ' E' b a=>wpAny_mono hc a b
 wp_walk using wpAny_typeOf hT,cr _ _ (λe s' z=>z)
 intro its s1 ⟨hz,q⟩
 refine wpAny_bind (wpAny_pure ?_)
 refine wpAny_bind (wpAny_newObj_type (wpAny_pure ⟨⟨_,Heap.get?_push_size _ rfl,rfl⟩,q⟩) (by show its.toArray.size<=sizeLine; rw [List.size_toArray]; exact hz))
end
section
variable {prog:Program} {w:World} {A:Around} {s:Shared} {E:Value->Shared->Prop} {it l:Addr} {i:Int}
end
section
variable {X:Cx} {ρ:Am} {O:Ad} {a:Expr} {pos p pos2 p2:Pos} {xs:List D}
end
end DL
namespace L2
open PySem PySem.Spec PyProof.Rows
section
variable {X:Cx} {tg a b c:Expr} {p pos:Pos}
end
end L2
namespace DL
open PySem PySem.Spec PyProof.Rows L2
section
variable {X:Cx} {ρ:Am} {O:Ad} {a b c:Expr} {p pos:Pos} {P:A2} {st:Stmt} {AK:List Stmt}
end
section
variable {X:Cx} {ρ:Am} {O:Ad} {a b e:Expr} {pos:Pos} {P:A2} {d da db ea eb:D} {k:Nat} {xs:List D}
theorem M2 (e:D):∀ xs:List D,(CG xs).any (λz=>PyData.eqv z (CH e))=xs.any λz=>CM z e
 | []=>rfl
 | z::zs=>by show (PyData.eqv (CH z) (CH e)||(CG zs).any _)=(CM z e||zs.any _); rw [M2 e zs]; rfl
theorem Y8 (hr:AR k X.A) (ha:RD O da ea) (pa:B0 ea=true) (px:Cu xs=true) (hd:min (D0 xs) (El ea)<=60) (hb:RD O db (.lst xs)):AX X O (compareOp .NotIn) da db (.bl (!xs.any λy=>CM y ea)):=λG pins s σ H x y v u Q I rx ry ⟨h1,h2,h3,h4⟩=>by
 obtain ⟨as,ra⟩:=ha.reads I h1 h2 rx pa
 obtain ⟨bs,rb⟩:=hb.reads I h1 h3 ry px
 have hu:=hr.units
 refine PySem.SeqAt.notIn_list_reads (xs:=CG xs) rb ra (FU _ px) (GQ _ pa) (by rw [Hh,Ga]; omega) ?_
 rw [M2]
 exact ⟨.bl _,H,I,rfl,h4 _ G H (Ag.refl _) h1 (.bl _)⟩
end
def Nf (x:Str):It:=⟨λi _=>i<x.cps.size,λi H v H'=>H'=H/\∃ c,x.cps[i]?=some c/\v=.str ⟨#[c]⟩,λi _=>x.cps.size<=i⟩
theorem RW {P:Program} {w:World} {K:PySem.W.Frag} {tg:Expr} (it:Addr) (x:Str) (t:Tok) (ty:String) (hty:ty = "str_ascii_iterator" \/ ty = "str_iterator"):D3 P w K tg (Nf x) [it] it (λi h=>h.IsStrIter it ty x t i) where
 mem:=by simp
 obj:=λi h st b hb=>by
  have e:b=it:=by simpa using hb
  subst e
  obtain ⟨o,e,c,d⟩:=st
  exact ⟨o,e,λv z=>by rw [d] at z; cases z⟩
 keep:=λi h h' st k=>let ⟨o,ho,r⟩:=st; ⟨o,k it (by simp) o ho,r⟩
 item:=by
  intro X hP hw hK hc i pins s σ H E I hf st hg
  subst hP hw hK
  have hg:i<x.cps.size:=hg
  have hx:x.cps[i]?=some x.cps[i]:=by simp [hg]
  have fin:∀ (h':Heap) (tk:Nat) (u:Tok),h'.IsStrIter it ty x t (i+1)->Heap.SameBut it s.heap h'->∃ v,some (Value.str ⟨#[x.cps[i]]⟩ u)=some v /\
    wpAny (model X.prog X.w) X.A (letOwnedTupleGo tg (.ref it) v) (λ_ s2=>∃ y H',Inv X pins σ H' s2/\Aw y v/\(Nf x).yld i H y H'/\s2.heap.IsStrIter it ty x t (i+1)/\∀ b∈[it],H' b=none) E { s with heap:=h',toks:=tk }:=λh' tk u st' sb=>by
   have I1:Inv X pins σ H { s with heap:=h',toks:=tk }:=Eo I hf λc o hc e=>(sb.2 c (λz=>hc (by simp [z]))).trans e
   obtain ⟨o,e1,c1,d1⟩:=id st'
   exact ⟨_,rfl,G6 (s:={ s with heap:=h',toks:=tk }) e1 c1 d1 (by rcases hty with rfl | rfl <;> decide) ⟨.str ⟨#[x.cps[i]]⟩,H,I1,⟨_,rfl⟩,⟨rfl,_,hx,rfl⟩,st',λb hb=>(hf b hb).1⟩⟩
  rcases hty with rfl | rfl
  ·exact wpAny_pyNext_ascii_item st hx λh' st' sb=>fin h' _ _ st' sb
  ·exact wpAny_pyNext_wide_item st hx λh' st' sb=>fin h' _ _ st' sb
 done:=by
  intro X hP hw hK hc i pins s σ H E I hf st hg
  subst hP hw hK
  have hg:x.cps.size<=i:=hg
  have hx:x.cps[i]?=none:=by simp; omega
  rcases hty with rfl | rfl
  ·exact wpAny_pyNext_ascii_end (I.ok.hd hc) st hx λh' eb=>⟨rfl,Eo (t':=s.toks) I hf λc o hc e=>eb c o (λz=>hc (by simp [z])) e⟩
  ·exact wpAny_pyNext_wide_end (I.ok.hd hc) st hx λh' eb=>⟨rfl,Eo (t':=s.toks) I hf λc o hc e=>eb c o (λz=>hc (by simp [z])) e⟩
 self:=λ_ _ _ _ _ st h=>by
  rcases hty with rfl | rfl
  ·exact wpAny_pyIter_striter_ascii st h
  ·exact wpAny_pyIter_striter_wide st h
section
variable {X:Cx} {ρ:Am} {O:Ad} {a b e:Expr} {pos p:Pos} {d:D} {x y:Str}
def GE (c:Nat):D:=.str ⟨#[c]⟩
theorem WZ {K:PySem.W.Frag} {G:Wd}:C6 K G (Nf x) (x.cps.toList.map GE) where
 go:=λi H _ hi=>show i<x.cps.size by simpa using hi
 stop:=λi H _ hi=>show x.cps.size<=i by simpa using hi
 yld:=λi v H H' G2 O2 e s y hi=>by
  obtain ⟨rfl,c,hc,rfl⟩:=y
  exact ⟨GE c,G2,by rw [List.getElem?_map]; simp [hc],Ag.refl _,s,.str _⟩
theorem Qo {tg:Expr} (h:Ac X ρ O e (.str x)):Cn X ρ O tg e (x.cps.toList.map GE):=λG pins s σ H R I ⟨h1,h2,h3⟩=>
 Ao (h G pins s σ H (λv H'=>∃ G',Ag G G'/\SA X.K G' H' O/\Is X.K G' (.str x) v) I ⟨h1,h2,λv G' H' e s i=>⟨G',e,s,i⟩⟩) λu s1 ⟨v,H1,I1,r,G1,e1,sa1,i1⟩=>by
  cases i1
  obtain ⟨t,rfl⟩:=(show ∃ t,u=Value.str x t from r)
  have fin:∀ (ty:String),(ty = "str_ascii_iterator" \/ ty = "str_iterator")->Ji X pins σ tg R (.ref s1.heap.objs.size) { s1 with heap:=s1.heap.push { cls:=.type ty,data:=.fields #[.str x t,.int ((0:Nat):Int) 0] } }:=λty hty=>
   ⟨s1.heap.objs.size,[s1.heap.objs.size],_,_,H1,rfl,I1.kept (t':=s1.toks) λ_ _ e=>Heap.get?_push_of_some _ e,RW _ x t ty hty,⟨_,Heap.get?_push_size _ rfl,rfl,rfl⟩,λb hb=>by
    have hb':s1.heap.objs.size<=b:=by cases List.mem_singleton.mp hb; exact Nat.le_refl _
    exact I1.fpOk hb' (I1.hok.fresh hb'),h3 _ G1 H1 e1 sa1 WZ⟩
  cases ha:x.cps.all (· < 128)
  ·exact wpAny_pyIter_wide ha (fin _ (.inr rfl))
  ·exact wpAny_pyIter_ascii ha (fin _ (.inl rfl))
theorem Df (hz:x.length+y.length<=sizeLine):AX X O (binaryOp .Add) (.str x) (.str y) (.str (x++y)):=.of Vg λG v u H Q s h1 h2 k=>by
 cases h1; cases h2; exact ⟨x,y,rfl,rfl,hz,k _ G H (Ag.refl _) s (.str _)⟩
theorem Bs:AX X O (compareOp .Eq) (.str x) (.str y) (.bl (x==y)):=.of OT λG v u H Q s h1 h2 k=>by
 cases h1; cases h2; exact ⟨rfl,by rw [IS]; exact k _ G H (Ag.refl _) s (.bl _)⟩
theorem IT:AX X O (compareOp .NotEq) (.str x) (.str y) (.bl (!(x==y))):=.of OS λG v u H Q s h1 h2 k=>by
 cases h1; cases h2; exact ⟨rfl,by rw [IS]; exact k _ G H (Ag.refl _) s (.bl _)⟩
theorem QC {c:Nat}:AX X O (compareOp .In) (GE c) (.str y) (.bl (decide (c∈y.cps.toList))):=.of Vc λG v u H Q s h1 h2 k=>by
 cases h1; cases h2
 refine ⟨_,y,rfl,rfl,?_⟩
 rw [StrLaws.found_one]
 exact k _ G H (Ag.refl _) s (.bl _)
theorem IW (hz:x.length<=sizeLine):BY X O (.builtin "len") [.str x] (.int x.length):=.of Zm λG vs H Q s is k=>by
 cases is with | cons i r=>cases r; cases i; exact ⟨x,rfl,hz,k _ G H (Ag.refl _) s (.int _)⟩
theorem C3 {i:Int} (h:-(2 ^ 62)<i/\i<2 ^ 62):BY X O (.type "str") [.int i] (.str (Str.ofString (toString i))):=λG pins s σ H xs us Q I r ⟨h1,h2,h3⟩=>by
 cases h2 with
 | cons i2 r2=>
  cases r2
  cases i2
  obtain ⟨u,rfl,t,rfl⟩:=Ds r
  refine PySem.P.str_of_int ?_ ⟨.str _,H,I.tok _,⟨_,rfl⟩,h3 _ G H (Ag.refl _) h1 (.str _)⟩
  have:i.natAbs<2 ^ 62:=by omega
  by_cases h0:i.natAbs=0
  ·rw [h0]; decide
  ·exact (Nat.log2_lt h0).mpr (Nat.lt_of_lt_of_le (show i.natAbs<2 ^ 62 by omega) (Nat.pow_le_pow_right wE wE))
theorem Zu {n:Int} (h:PySem.intText? x=some n) (hl:x.length<=640):BY X O (.type "int") [.str x] (.int n):=λG pins s σ H xs us Q I r ⟨h1,h2,h3⟩=>by
 cases h2 with
 | cons i2 r2=>
  cases r2
  cases i2
  obtain ⟨u,rfl,t,rfl⟩:=Ds r
  exact PySem.W.KIN.call_text h hl ⟨.int _,H,I.tok _,⟨_,rfl⟩,h3 _ G H (Ag.refl _) h1 (.int _)⟩
theorem Qf {i c:Nat} (ha:Ac X ρ O a (.str x)) (hb:Ac X ρ O b (.int (i:Nat))) (hi:x.cps[i]?=some c) (hz:x.length<=sizeLine) (hs:Q8 b:=by intro _ _; rfl):Ac X ρ O (.Subscript a b pos) (GE c):=λG=>
 PE.imp (UU (ha G) (tb:=λσ H Q=>∃ G1,SA X.K G1 H O/\Ar X.K G1 σ ρ/\∀ v G' H',Ag G1 G'->SA X.K G' H' O->Is X.K G' (.int (i:Nat)) v->Q v H') (λpins s σ H Q I ⟨G1,q⟩=>hb G1 pins s σ H Q I q) hs) λσ H Q ⟨q1,q2,q3⟩=>⟨q1,q2,λv G1 H1 e1 s1 i1=>⟨G1,s1,q2.ext e1,λw G2 H2 e2 s2 i2=>by
  cases i1; cases i2
  have hl:i<x.length:=(Array.getElem?_eq_some_iff.mp hi).1
  have hn:=sizeLine_eq
  exact ⟨x,_,c,rfl,rfl,by omega,by omega,by omega,hi,q3 _ G2 H2 (e1.trans e2) s2 (.str _)⟩⟩⟩
end
theorem Nt:∀ l:List (Str×Tok),Aq ((l.map (·.1)).map V.str) (strValues l)
 | []=>.nil
 | (y,k)::l=>.cons ⟨k,rfl⟩ (Nt l)
theorem Aj.strs {K:PySem.W.Frag} {G:Wd}:∀ {ys:List Str},Aj K G (ys.map D.str) (ys.map V.str)
 | []=>.nil
 | y::ys=>.cons (.str y) Aj.strs
section
variable {X:Cx} {ρ:Am} {O:Ad} {a b e:Expr} {pos p:Pos} {d:D} {x y sep:Str}
def Ue:V->List V->Hp->VK->Prop:=λx vs H Q=>∃ t y:Str,x=.str t/\vs=[.str y]/\(y.length==0)=false/\t.length<=1000000/\∀ l,H l=none->Q (.ref l) (An H l (.lst ((Txt.split t y).map V.str)))
theorem Wq:Jk X "str.split" Ue:=by
 intro pins s σ H x vs v us Q I rx rv h
 obtain ⟨z,y,rfl,rfl,hy,hz,q⟩:=h
 obtain ⟨t,rfl⟩:=rx
 obtain ⟨u,rfl,ru⟩:=rv.one
 obtain ⟨tu,rfl⟩:=ru
 have hn:=sizeLine_eq
 have hle:=split_le z y
 have fin:∀ (l:List (Str×Tok)) (tk:Nat),l.map (·.1)=Txt.split z y->EP X pins σ Q (.ref s.heap.objs.size) { s with heap:=s.heap.push { cls:=.type "list",data:=.seq (strValues l).toArray },toks:=tk }:=λl tk e=>by
  have hl:l.length=(Txt.split z y).length:=by rw [<- e,List.length_map]
  refine ⟨.ref s.heap.objs.size,An H s.heap.objs.size (.lst ((Txt.split z y).map V.str)),I.laid (λb o e=>Heap.get?_push_of_some _ e) (Nat.le_refl _) ⟨by rw [List.length_map]; omega,strValues l,0,by rw [<- e]; exact Nt l,Heap.get?_push_size _ rfl⟩,rfl,q _ (I.hok.fresh (Nat.le_refl _))⟩
 cases h1:(decide (z.length<y.length)||decide (Builtin.Str.strKind z<Builtin.Str.strKind y))
 ·cases hf:(Builtin.Str.occurrences z y 0 z.length (z.length+1)).isEmpty
  ·have es:Txt.split z y=Builtin.Str.partsBetween z (Builtin.Str.occurrences z y 0 z.length (z.length+1)) y.length:=by
    unfold Txt.split
    rw [if_neg (by rw [h1]; exact Bool.false_ne_true),if_neg (by rw [hf]; exact Bool.false_ne_true)]
   refine call_meets PySem.F.slot_str_split (typeIs_str _ _ _) PySem.F.entry_str_split (PySem.F.args_str_split_2 _ _) (meets_str_split_sep z y t tu h1 hy hf wF (by rw [<- es]; omega)) ?_
   show wants _ _ _ { s with toks:=_,heap:=s.heap.push { cls:=.type "list",data:=.seq (strsFrom s.toks _).toArray } }
   rw [strsFrom_eq]
   exact fin _ _ ((numbered_texts _ _).trans es.symm)
  ·have es:Txt.split z y=[z]:=by
    unfold Txt.split
    rw [if_neg (by rw [h1]; exact Bool.false_ne_true),if_pos hf]
   exact call_meets PySem.F.slot_str_split (typeIs_str _ _ _) PySem.F.entry_str_split (PySem.F.args_str_split_2 _ _) (meets_str_split_not_found z y t tu h1 hy hf) (fin [(z,t)] s.toks es.symm)
 ·have es:Txt.split z y=[z]:=by
   unfold Txt.split
   rw [if_pos h1]
  exact call_meets PySem.F.slot_str_split (typeIs_str _ _ _) PySem.F.entry_str_split (PySem.F.args_str_split_2 _ _) (meets_str_split_cannot_occur z y t tu h1) (fin [(z,t)] s.toks es.symm)
theorem X8 {apos cpos:Pos} (ho:Ac X ρ O a (.str x)) (he:Ac X ρ O e (.str y)) (hy:(y.length==0)=false) (hz:x.length<=1000000)
  (hbase:attributeBase a ("split" : Str) X.env (eval a X.env)=eval a X.env:=by rfl) (hline:(apos.endLine==cpos.line)=true:=by rfl) (hst:starEach [e] X.env=[(false,eval e X.env)]:=by rfl) :
  Ac X ρ O (.Call (.Attribute a ("split" : Str) apos) [e] [] cpos) (.lst ((Txt.split x y).map D.str)):=λG=>
 PE.imp (FV PySem.F.plainAttrs_str PySem.F.slot_str_split PySem.F.type_str_split Wq (ho G)
  (Dx (te:=λσ H Q=>∃ G1,SA X.K G1 H O/\Ar X.K G1 σ ρ/\∀ v G' H',Ag G1 G'->SA X.K G' H' O->Is X.K G' (.str y) v->Q v H') (λpins s σ H Q I ⟨G1,q⟩=>he G1 pins s σ H Q I q) Ez hst) hbase
  (by rw [hst]; rfl) hline hst (by rfl)) λσ H Q ⟨q1,q2,q3⟩=>⟨q1,q2,λv G1 H1 e1 s1 i1=>by
   cases i1
   refine ⟨rfl,G1,s1,q2.ext e1,λw G2 H2 e2 s2 i2=>?_⟩
   cases i2
   refine ⟨x,y,rfl,rfl,hy,hz,λl hl=>?_⟩
   obtain ⟨e3,s3⟩:=s2.laid (o:=.lst ((Txt.split x y).map V.str)) hl
   exact q3 _ _ _ (e1.trans (e2.trans e3)) s3 (.lst AJ Aj.strs)⟩
end
theorem Iv (c:Nat):∀ (w:Str) (ws:List Str),(Str.join ⟨#[c]⟩ (w::ws)).cps.toList=w.cps.toList++(ws.map λv=>c::v.cps.toList).flatten
 | w,[]=>by show w.cps.toList=w.cps.toList++[]; rw [List.append_nil]
 | w,v::ws=>by
  show (w++⟨#[c]⟩++Str.join ⟨#[c]⟩ (v::ws)).cps.toList=_
  rw [Str.cps_append,Str.cps_append,Array.toList_append,Array.toList_append,Iv c v ws,List.map_cons,List.flatten_cons]
  simp
theorem MA {c:Nat}:∀ {a b:List Nat} {x y:List (List Nat)},c∉a->c∉b->(∀ v∈x,c∉v)->(∀ v∈y,c∉v)->a++(x.map λv=>c::v).flatten=b++(y.map λv=>c::v).flatten->a=b/\x=y
 | [],[],[],[],_,_,_,_,_=>⟨rfl,rfl⟩
 | [],[],[],v::y,_,_,_,_,h=>by simp at h
 | [],[],v::x,[],_,_,_,_,h=>by simp at h
 | [],[],v::x,u::y,_,_,hx,hy,h=>by
  have h:v++(x.map λv=>c::v).flatten=u++(y.map λv=>c::v).flatten:=by simpa using h
  obtain ⟨e1,e2⟩:=MA (hx v List.mem_cons_self) (hy u List.mem_cons_self) (λz hz=>hx z (List.mem_cons_of_mem _ hz)) (λz hz=>hy z (List.mem_cons_of_mem _ hz)) h
  exact ⟨rfl,by rw [e1,e2]⟩
 | [],q::b,[],y,_,_,_,_,h=>by simp at h
 | [],q::b,v::x,y,_,hb,_,_,h=>by
  simp at h
  exact absurd (h.1 ▸ List.mem_cons_self) hb
 | p::a,[],x,[],_,_,_,_,h=>by simp at h
 | p::a,[],x,v::y,ha,_,_,_,h=>by
  simp at h
  exact absurd (h.1 ▸ List.mem_cons_self) ha
 | p::a,q::b,x,y,ha,hb,hx,hy,h=>by
  have h1:p=q/\a++(x.map λv=>c::v).flatten=b++(y.map λv=>c::v).flatten:=by simpa using h
  obtain ⟨e1,e2⟩:=MA (λz=>ha (List.mem_cons_of_mem _ z)) (λz=>hb (List.mem_cons_of_mem _ z)) hx hy h1.2
  exact ⟨by rw [h1.1,e1],e2⟩
theorem SS (c:Nat) (w:Str) (ws:List Str) (h:∀ v∈w::ws,c∉v.cps.toList):Txt.split (Str.join ⟨#[c]⟩ (w::ws)) ⟨#[c]⟩=w::ws:=by
 have e:=StrLaws.join_split (Str.join ⟨#[c]⟩ (w::ws)) ⟨#[c]⟩
 have f:=StrLaws.split_free (Str.join ⟨#[c]⟩ (w::ws)) c
 have p:=split_pos (Str.join ⟨#[c]⟩ (w::ws)) ⟨#[c]⟩
 generalize Txt.split (Str.join ⟨#[c]⟩ (w::ws)) ⟨#[c]⟩=vs at e f p
 cases vs with
 | nil=>simp at p
 | cons v vs=>
  have e2:=congrArg (λs:Str=>s.cps.toList) e
  rw [Iv,Iv] at e2
  have m:∀ l:List Str,(l.map λv=>c::v.cps.toList)=(l.map λv=>v.cps.toList).map λv=>c::v:=λl=>by rw [List.map_map]; rfl
  rw [m,m] at e2
  obtain ⟨e3,e4⟩:=MA (f v List.mem_cons_self) (h w List.mem_cons_self) (λz hz=>by obtain ⟨u,hu,rfl⟩:=List.mem_map.mp hz; exact f u (List.mem_cons_of_mem _ hu)) (λz hz=>by obtain ⟨u,hu,rfl⟩:=List.mem_map.mp hz; exact h u (List.mem_cons_of_mem _ hu)) e2
  have inj:∀ a b:Str,a.cps.toList=b.cps.toList->a=b:=λa b z=>Str.ext' (Array.toList_inj.mp z)
  have inj2:∀ {a b:List Str},(a.map λv=>v.cps.toList)=(b.map λv=>v.cps.toList)->a=b:=λ{a}=>by
   induction a with
   | nil=>intro b z; cases b with
    | nil=>rfl
    | cons _ _=>simp at z
   | cons u a ih=>intro b z; cases b with
    | nil=>simp at z
    | cons u' b=>
     simp only [List.map_cons,List.cons.injEq] at z
     rw [inj _ _ z.1,ih z.2]
  rw [inj _ _ e3,inj2 e4]
section
variable {X:Cx} {ρ:Am} {O:Ad} {pos:Pos} {x y:Str}
theorem Qg {t:Tok} (hm:X.mg x=some (.str y t)) (hg:Gl X x:=by rfl) (hd:(x==("__debug__" : Str))=false:=by decide):Ac X ρ O (.Name x pos) (.str y):=λG=>
 PE.imp (K8 (v:=.str y) hg hm ⟨t,rfl⟩ hd) λσ H Q ⟨h1,h2,h3⟩=>h3 _ G H (Ag.refl _) h1 (.str y)
end
end DL
namespace L2
open PySem PySem.Spec PyProof.Rows
section
variable {prog:Program} {w:World} {A:Around} {E:Value->Shared->Prop}
end
end L2
namespace DL
open PySem PySem.Spec PyProof.Rows L2
section
variable {X:Cx} {ρ ρ1:Am} {O:Ad} {e a b:Expr} {es:List Expr} {d da:D} {ds xs:List D} {R:D->Ad->Prop} {P:A2} {pos p:Pos} {x:Str} {q:Nat} {v:Value}
end
def kD:Ak->D
 | .inl i=>.int i
 | .inr x=>.str x
theorem F1 {K:PySem.W.Frag} {G:Wd} {k:Ak} {v:V} (h:Is K G (kD k) v):v=kV k:=by
 cases k with
 | inl i=>cases h; rfl
 | inr x=>cases h; rfl
theorem Po (K:PySem.W.Frag) (G:Wd) (k:Ak):Is K G (kD k) (kV k):=by
 cases k with
 | inl i=>exact .int i
 | inr x=>exact .str x
def DV (O:Ad) (d:D) (ks:List Ak) (xs:List D):Prop:=d=.dct ks xs\/∃ n,d=.ptr n/\O[n]?=some (some (.dct ks xs))
theorem DV.rd {K:PySem.W.Frag} {G:Wd} {H:Hp} {O:Ad} {d:D} {v:V} {ks:List Ak} {xs:List D} (h:DV O d ks xs) (s:SA K G H O) (i:Is K G d v):∃ p vs,v=.ref p/\Rd H p (.dK (ks.zip vs))/\ks.length=vs.length/\Aj K G xs vs:=by
 rcases h with rfl | ⟨n,rfl,h⟩
 ·cases i with
  | dct h hl r=>exact ⟨_,_,rfl,.inr ⟨_,s.sub _ _ h⟩,hl,r⟩
 ·cases i with
  | ptr _ ha=>
   obtain ⟨a,g0,_,vs,g1,g2,g3⟩:=s.mt n _ h
   cases Option.some.inj (ha.symm.trans g0)
   exact ⟨_,vs,rfl,.inl g1,g2,g3⟩
def Bf {α:Type} (ks:List Ak) (xs:List α) (k:Ak):Option α:=((ks.zip xs).find? λp=>decide (p.1=k)).map (·.2)
theorem Gh {K:PySem.W.Frag} {G:Wd} {k:Ak}:∀ {ks:List Ak} {xs:List D} {vs:List V},Aj K G xs vs->(∀ d,Bf ks xs k=some d->∃ v,B4 (ks.zip vs) k=some v/\Is K G d v)/\(Bf ks xs k=none->B4 (ks.zip vs) k=none)
 | [],_,_,_=>⟨(λd h=>by cases h),λ_=>rfl⟩
 | _::_,_,_,.nil=>⟨(λd h=>by cases h),λ_=>rfl⟩
 | a::ks,_,_,.cons (d:=x) (v:=v) h r=>by
  have ih:=Gh (k:=k) (ks:=ks) r
  by_cases e:a=k
  ·have e1:∀ (l:List D),Bf (a::ks) (x::l) k=some x:=λl=>by unfold Bf; simp [List.find?_cons,e]
   have e2:∀ (l:List V),B4 ((a::ks).zip (v::l)) k=some v:=λl=>by unfold B4; simp [List.find?_cons,e]
   rw [e1,e2]
   exact ⟨(λd z=>by cases z; exact ⟨v,rfl,h⟩),(λz=>by cases z)⟩
  ·have e1:∀ (l:List D),Bf (a::ks) (x::l) k=Bf ks l k:=λl=>by unfold Bf; simp [List.find?_cons,e]
   have e2:∀ (l:List V),B4 ((a::ks).zip (v::l)) k=B4 (ks.zip l) k:=λl=>by unfold B4; simp [List.find?_cons,e]
   rw [e1,e2]
   exact ih
def EE (ks:List Ak) (k:Ak):Bool:=ks.any λa=>decide (a=k)
def Fc (ks:List Ak) (k:Ak):List Ak:=if EE ks k=true then ks else ks++[k]
def DN {α:Type} (ks:List Ak) (xs:List α) (k:Ak) (y:α):List α:=if EE ks k=true then (ks.zip xs).map λp=>if p.1=k then y else p.2 else xs++[y]
theorem Q4 {α:Type} (k:Ak):∀ {ks:List Ak} {xs:List α},ks.length=xs.length->((ks.zip xs).any λp=>decide (p.1=k))=EE ks k
 | [],[],_=>rfl
 | a::ks,x::xs,h=>by
  have ih:=Q4 (α:=α) k (ks:=ks) (xs:=xs) (by simpa using h)
  unfold EE at ih ⊢
  rw [List.zip_cons_cons,List.any_cons,List.any_cons,ih]
theorem Ru {k:Ak} {y:V}:∀ {ks:List Ak} {vs:List V},ks.length=vs.length->CY (ks.zip vs) k y=(Fc ks k).zip (DN ks vs k y):=λ{ks vs} h=>by
 unfold CY Fc DN
 rw [Q4 k h]
 by_cases e:EE ks k=true
 ·rw [if_pos e,if_pos e,if_pos e]
  clear e
  induction ks generalizing vs with
  | nil=>rfl
  | cons a ks ih=>
   match vs,h with
   | v::vs,h=>
    rw [List.zip_cons_cons,List.map_cons,List.map_cons,List.zip_cons_cons,ih (by simpa using h)]
    congr 1
    split <;> rfl
 ·rw [if_neg e,if_neg e,if_neg e,List.zip_append h]
  rfl
theorem Us {α:Type} {ks:List Ak} {xs:List α} {k:Ak} {y:α} (h:ks.length=xs.length):(Fc ks k).length=(DN ks xs k y).length:=by
 unfold Fc DN
 split
 ·rw [List.length_map,List.length_zip]; omega
 ·simp [h]
theorem Pv {K:PySem.W.Frag} {G:Wd} {k:Ak} {y:D} {w:V} (hy:Is K G y w):∀ {ks:List Ak} {xs:List D} {vs:List V},Aj K G xs vs->Aj K G ((ks.zip xs).map λp=>if p.1=k then y else p.2) ((ks.zip vs).map λp=>if p.1=k then w else p.2)
 | [],_,_,_=>.nil
 | _::_,_,_,.nil=>.nil
 | a::ks,_,_,.cons (d:=x) (v:=v) h r=>by
  rw [List.zip_cons_cons,List.zip_cons_cons,List.map_cons,List.map_cons]
  refine .cons ?_ (Pv hy r)
  show Is K G (if a=k then y else x) (if a=k then w else v)
  split
  ·exact hy
  ·exact h
theorem Xa {K:PySem.W.Frag} {G:Wd} {k:Ak} {y:D} {w:V} (hy:Is K G y w) {ks:List Ak} {xs:List D} {vs:List V} (r:Aj K G xs vs):Aj K G (DN ks xs k y) (DN ks vs k w):=by
 unfold DN
 split
 ·exact Pv hy r
 ·exact r.append (.cons hy .nil)
theorem Q2 {K:PySem.W.Frag} {G:Wd} {k:Ak} {ks:List Ak} {xs:List D} {vs:List V} (r:Aj K G xs vs):(B4 (ks.zip vs) k).isSome=(Bf ks xs k).isSome:=by
 obtain ⟨z1,z2⟩:=Gh (k:=k) (ks:=ks) r
 cases z:Bf ks xs k with
 | none=>rw [z2 z]; rfl
 | some d=>obtain ⟨w,z3,_⟩:=z1 d z; rw [z3]; rfl
def Cj (ks:List Ak) (k:Ak):List Ak:=ks.filter λa=>decide (a≠k)
def BZ {α:Type} (ks:List Ak) (xs:List α) (k:Ak):List α:=((ks.zip xs).filter λp=>decide (p.1≠k)).map (·.2)
theorem Nl {k:Ak}:∀ {ks:List Ak} {vs:List V},ks.length=vs.length->Fl (ks.zip vs) k=(Cj ks k).zip (BZ ks vs k)/\(Cj ks k).length=(BZ ks vs k).length
 | [],[],_=>⟨rfl,rfl⟩
 | a::ks,v::vs,h=>by
  obtain ⟨i1,i2⟩:=Nl (k:=k) (ks:=ks) (vs:=vs) (by simpa using h)
  unfold Fl Cj BZ at *
  by_cases e:a=k
  ·subst e
   simp only [List.zip_cons_cons,List.filter_cons,ne_eq,not_true_eq_false,decide_false,Bool.false_eq_true,if_false]
   exact ⟨i1,i2⟩
  ·simp only [List.zip_cons_cons,List.filter_cons,ne_eq,e,not_false_eq_true,decide_true,if_true,List.map_cons,List.length_cons]
   exact ⟨congrArg (List.cons (a,v)) i1,congrArg (·+1) i2⟩
theorem Xb {K:PySem.W.Frag} {G:Wd} {k:Ak} {ks:List Ak} {xs:List D} {vs:List V} (r:Aj K G xs vs):Aj K G (BZ ks xs k) (BZ ks vs k):=by
 unfold BZ
 induction ks generalizing xs vs with
 | nil=>exact .nil
 | cons a ks ih=>
  cases r with
  | nil=>exact .nil
  | cons h r=>
   rw [List.zip_cons_cons,List.zip_cons_cons,List.filter_cons,List.filter_cons]
   by_cases e:a=k
   ·rw [if_neg (by simp [e]),if_neg (by simp [e])]; exact ih r
   ·rw [if_pos (by simp [e]),if_pos (by simp [e])]; exact .cons h (ih r)
section
variable {X:Cx} {ρ:Am} {O:Ad} {e a b c:Expr} {d da db y:D} {ks:List Ak} {xs:List D} {k:Ak} {j q:Nat} {R:D->Ad->Prop} {P:A2} {pos apos cpos tpos:Pos}
theorem IM (h:R (.ptr O.length) (O++[some (.dct [] [])])):Ev X ρ O (.Dict [] [] pos) R:=λG=>PE.imp UY λσ H Q ⟨h1,h2,h3⟩ p hp=>by
 obtain ⟨e2,s2⟩:=h1.new (o:=.dK []) (m:=.dct [] []) hp ⟨[],AJ,rfl,.nil⟩
 exact h3 _ _ _ _ _ e2 s2 (.ptr _ (by rw [<- h1.len,List.getElem?_append_right (Nat.le_refl _),Nat.sub_self]; rfl)) h
theorem IV (hr:AR j X.A) (hd:DV O db ks xs):AX X O (compareOp .In) (kD k) db (.bl (Bf ks xs k).isSome):=λG pins s σ H x y v u Q I rx ry ⟨h1,h2,h3,h4⟩=>by
 obtain ⟨p,vs,rfl,g1,g2,g3⟩:=hd.rd h1 h3
 obtain rfl:=F1 h2
 cases ry
 have hu:=hr.units
 refine YQ wF I (.inl ⟨_,k,g1,rfl,rfl⟩) rx λs' I'=>⟨.bl _,H,I',rfl,?_⟩
 rw [Q2 g3]
 exact h4 _ G H (Ag.refl _) h1 (.bl _)
theorem Y7 (hr:AR j X.A) (hd:DV O db ks xs):AX X O (compareOp .NotIn) (kD k) db (.bl (!(Bf ks xs k).isSome)):=λG pins s σ H x y v u Q I rx ry ⟨h1,h2,h3,h4⟩=>by
 obtain ⟨p,vs,rfl,g1,g2,g3⟩:=hd.rd h1 h3
 obtain rfl:=F1 h2
 cases ry
 have hu:=hr.units
 refine YO wF I (.inl ⟨_,k,g1,rfl,rfl⟩) rx λs' I'=>⟨.bl _,H,I',rfl,?_⟩
 rw [Q2 g3]
 exact h4 _ G H (Ag.refl _) h1 (.bl _)
theorem Qi (hr:AR j X.A) (ha:Ac X ρ O a da) (hd:DV O da ks xs) (hb:Ac X ρ O b (kD k)) (hk:Bf ks xs k=some d) (hs:M7 b:=by intro _ _; rfl):Ac X ρ O (.Subscript a b pos) d:=λG=>
 PE.imp (U0 (by have:=hr.units; omega) (ha G) (ty:=λσ H Q=>∃ G1,SA X.K G1 H O/\Ar X.K G1 σ ρ/\∀ v G' H',Ag G1 G'->SA X.K G' H' O->Is X.K G' (kD k) v->Q v H') (λpins s σ H Q I ⟨G1,q⟩=>hb G1 pins s σ H Q I q) hs) λσ H Q ⟨h1,h2,h3⟩=>
  ⟨h1,h2,λv G1 H1 e1 s1 i1=>⟨G1,s1,h2.ext e1,λu G2 H2 e2 s2 i2=>by
   obtain ⟨p,vs,rfl,g1,g2,g3⟩:=hd.rd s2 (i1.ext e2)
   obtain rfl:=F1 i2
   obtain ⟨w,z1,z2⟩:=(Gh (k:=k) (ks:=ks) g3).1 d hk
   exact ⟨p,w,rfl,.inl ⟨_,k,g1,rfl,z1.symm⟩,h3 w G2 H2 (e1.trans e2) s2 z2⟩⟩⟩
theorem Yk (hr:AR j X.A) (ha:Ac X ρ O a da) (hd:DV O da ks xs) (hb:Ac X ρ O b (kD k)) (m:M1 X a "get" apos b cpos:=by exact ⟨rfl,rfl,rfl,rfl⟩):Ac X ρ O (.Call (.Attribute a "get" apos) [b] [] cpos) ((Bf ks xs k).getD .non):=λG=>
 PE.imp (UZ (by have:=hr.units; omega) (ha G) (ty:=λσ H Q=>∃ G1,SA X.K G1 H O/\Ar X.K G1 σ ρ/\∀ v G' H',Ag G1 G'->SA X.K G' H' O->Is X.K G' (kD k) v->Q v H') (λpins s σ H Q I ⟨G1,q⟩=>hb G1 pins s σ H Q I q) m) λσ H Q ⟨h1,h2,h3⟩=>
  ⟨h1,h2,λv G1 H1 e1 s1 i1=>by
   obtain ⟨p,vs,rfl,g1,g2,g3⟩:=hd.rd s1 i1
   refine ⟨p,rfl,.inl ⟨_,g1⟩,G1,s1,h2.ext e1,λu G2 H2 e2 s2 i2=>?_⟩
   obtain ⟨p',vs',e',g1,g2,g3⟩:=hd.rd s2 (i1.ext e2)
   cases e'
   obtain rfl:=F1 i2
   refine ⟨_,.inl ⟨_,k,g1,rfl,rfl⟩,?_⟩
   obtain ⟨z1,z2⟩:=Gh (k:=k) (ks:=ks) g3
   cases z:Bf ks xs k with
   | none=>rw [z2 z]; exact h3 _ G2 H2 (e1.trans e2) s2 (by rw [z]; exact .non)
   | some d=>obtain ⟨w,z3,z4⟩:=z1 d z; rw [z3]; exact h3 _ G2 H2 (e1.trans e2) s2 (by rw [z]; exact z4)⟩
theorem Hw (hr:AR j X.A) (hv:Ac X ρ O e y) (ha:Ac X ρ O a (.ptr q)) (hq:O[q]?=some (some (.dct ks xs))) (hb:Ac X ρ O b (kD k)) (hz:ks.length<sizeLine) (h:P.nx ρ (O.set q (some (.dct (Fc ks k) (DN ks xs k y)))))
  (hs:swapsWith e (some (.Subscript a b tpos)) pos.line X.env=pure false:=by rfl):Ex X ρ O (.Assign [.Subscript a b tpos] e pos) P:=λG=>
 PS.imp (OE (by have:=hr.units; omega) (td:=λσ H Q=>∃ G1,SA X.K G1 H O/\Ar X.K G1 σ ρ/\∀ v G' H',Ag G1 G'->SA X.K G' H' O->Is X.K G' (.ptr q) v->Q v H') (λpins s σ H Q I ⟨G1,z⟩=>ha G1 pins s σ H Q I z)
  (ty:=λσ H Q=>∃ G1,SA X.K G1 H O/\Ar X.K G1 σ ρ/\∀ v G' H',Ag G1 G'->SA X.K G' H' O->Is X.K G' (kD k) v->Q v H') (λpins s σ H Q I ⟨G1,z⟩=>hb G1 pins s σ H Q I z) (hv G) hs) λE σ H ⟨q1,q2,q3⟩=>
  ⟨q1,q2,λv G1 H1 e1 s1 i1=>⟨G1,s1,q2.ext e1,λu G2 H2 e2 s2 i2=>⟨G2,s2,q2.ext (e1.trans e2),λt G3 H3 e3 s3 i3=>by
   cases i2 with
   | ptr _ ha2=>
   obtain ⟨a3,g0,g1,vs,g2,g4,g5⟩:=s3.mt q _ hq
   cases Option.some.inj ((e3.at ha2).symm.trans g0)
   obtain rfl:=F1 i3
   refine ⟨_,_,rfl,.k g2 (by rw [List.length_zip]; omega),?_⟩
   rw [Ru g4]
   exact q3.nx σ ρ _ G3 _ (e1.trans (e2.trans e3)) (s3.put (m':=.dct _ _) hq g0 ⟨_,AJ,Us g4,Xa (i1.ext (e2.trans e3)) g5⟩) (q2.ext (e1.trans (e2.trans e3))) h⟩⟩⟩
theorem RG (ha:Ac X ρ O a (.ptr q)) (hq:O[q]?=some (some (.dct ks xs))) (hb:Ac X ρ O b (kD k)) (hk:Bf ks xs k=some y) (h:P.nx ρ (O.set q (some (.dct (Cj ks k) (BZ ks xs k)))))
  (m:M1 X a "pop" apos b cpos:=by exact ⟨rfl,rfl,rfl,rfl⟩) (hsw:swapsWith (.Call (.Attribute a "pop" apos) [b] [] cpos) none pos.line X.env=pure false:=by rfl):Ex X ρ O (.Expr (.Call (.Attribute a "pop" apos) [b] [] cpos) pos) P:=λG=>
 PS.imp (FT (UX (ha G) (ty:=λσ H Q=>∃ G1,SA X.K G1 H O/\Ar X.K G1 σ ρ/\∀ v G' H',Ag G1 G'->SA X.K G' H' O->Is X.K G' (kD k) v->Q v H') (λpins s σ H Q I ⟨G1,z⟩=>hb G1 pins s σ H Q I z) m) hsw) λE σ H ⟨q1,q2,q3⟩=>
  ⟨q1,q2,λv G1 H1 e1 s1 i1=>by
   cases i1 with
   | ptr _ ha1=>
   obtain ⟨a2,g0,g1,vs,g2,g4,g5⟩:=s1.mt q _ hq
   cases Option.some.inj (ha1.symm.trans g0)
   refine ⟨_,rfl,.inl ⟨_,.inl g2⟩,G1,s1,q2.ext e1,λu G2 H2 e2 s2 i2=>?_⟩
   obtain ⟨a3,f0,f1,vs',f2,f4,f5⟩:=s2.mt q _ hq
   cases Option.some.inj ((e2.at g0).symm.trans f0)
   obtain rfl:=F1 i2
   obtain ⟨w,z1,z2⟩:=(Gh (k:=k) (ks:=ks) f5).1 y hk
   refine ⟨_,k,w,f2,rfl,z1,?_⟩
   obtain ⟨p1,p2⟩:=Nl (k:=k) f4
   rw [p1]
   exact q3.nx σ ρ _ G2 _ (e1.trans e2) (s2.put (m':=.dct _ _) hq f0 ⟨_,AJ,p2,Xb f5⟩) (q2.ext (e1.trans e2)) h⟩
theorem Yl {p:Pos} (hm:X.mg "dict" = none) (ha:Ac X ρ O a da) (hd:DV O da ks xs) (h:R (.ptr O.length) (O++[some (.dct ks xs)])) (hg:Gl X "dict" := by rfl) (he:starEach [a] X.env=[(false,eval a X.env)]:=by rfl) (hpl:(backTo pos (starEach [] X.env)).any (·.1)=false:=by rfl) :
  Ev X ρ O (.Call (.Name "dict" p) [a] [] pos) R:=λG=>
 PE.imp (K9 (T := "dict") (r:=λvs H Q=>∃ p' kvs,vs=[.ref p']/\Rd H p' (.dK kvs)/\∀ l,H l=none->Q (.ref l) (An H l (.dK kvs))) (λpins s σ H vs us Q I r ⟨p',kvs,ev,g,z⟩=>by
   subst ev
   obtain ⟨u,rfl,ru⟩:=r.one
   cases ru
   exact YT I g λl s' hl I'=>⟨.ref l,_,I',rfl,z l hl⟩) hg hm (by first | rfl | decide +kernel) (Ab ha Ae he G) wE wE he hpl) λσ H Q ⟨q1,q2,q3⟩=>⟨q1,q2,λvs G1 H1 e1 s1 i1=>by
   cases i1 with
   | cons i1 r1=>
   cases r1
   obtain ⟨p',vs,rfl,g1,g2,g3⟩:=hd.rd s1 i1
   refine ⟨p',_,rfl,g1,λl hl=>?_⟩
   have e0:Ag G1 ⟨G1.g,G1.l++[l]⟩:=⟨Bj.refl _,[l],rfl⟩
   obtain ⟨e2,s2⟩:=s1.new (o:=.dK (ks.zip vs)) (m:=.dct ks xs) hl ⟨vs,AJ,g2,g3.ext e0⟩
   exact q3 _ _ _ _ _ (e1.trans e2) s2 (.ptr _ (by rw [<- s1.len,List.getElem?_append_right (Nat.le_refl _),Nat.sub_self]; rfl)) h⟩
end
theorem Ml {P:Program} {w:World} {k:Ak} {v:Value} (h:(Ba P w).is k v=true):Aw (kV k) v:=by
 rcases DS h with ⟨i,t,rfl,rfl⟩ | ⟨x,t,rfl,rfl⟩
 ·exact ⟨t,rfl⟩
 ·exact ⟨t,rfl⟩
def Itk (a:Addr) (ob:Obj) (kvs:List (Ak×V)):It:=⟨λi H=>H a=some (.frz ob (.dK kvs))/\i<kvs.length,λi H x H'=>H'=H/\∃ k v,kvs[i]?=some (k,v)/\x=kV k,λi H=>H a=some (.frz ob (.dK kvs))/\kvs.length<=i⟩
theorem IF {X:Cx} {pins:List (Addr×Obj)} {σ:L2.St} {H:Hp} {s:Shared} {a:Addr} {ob:Obj} {kvs:List (Ak×V)} {es:Array DictEntry} {ep:Nat} (I:L2.Inv X pins σ H s) (hH:H a=some (.frz ob (.dK kvs))) (he:ob.data=.dict es ep) :
  (a==sysModules)=false/\∃ vs,KV kvs vs/\s.heap.DictAt (Ba X.prog X.w) a vs ep:=by
 obtain ⟨h0,_,hd,vs,rel,o,es',ep',g,g1,g2,g3⟩:=(show Bn X.prog X.w H s.heap a (.frz ob (.dK kvs)) from I.hok a _ hH)
 cases Option.some.inj (h0.symm.trans g)
 rw [he] at g2
 cases g2
 exact ⟨hd,vs,rel,ob,es,h0,g1,he,g3⟩
theorem Mh {kvs:List (Ak×V)} {vs:List (Ak×Value)} (r:KV kvs vs) {i:Nat} {k:Ak} {v:V} (h:kvs[i]?=some (k,v)):∃ u,vs[i]?=some (k,u)/\Aw v u:=by
 induction kvs generalizing vs i with
 | nil=>cases h
 | cons p kvs ih=>
  cases r with
  | cons q r=>
   cases i with
   | zero=>
    cases Option.some.inj h
    rename_i qv qs
    obtain ⟨qk,qu⟩:=qv
    obtain ⟨q1,q2⟩:=q
    have q1:k=qk:=q1
    subst q1
    exact ⟨qu,rfl,q2⟩
   | succ i=>exact ih r (by simpa using h)
theorem R0 {P:Program} {w:World} {K:PySem.W.Frag} {tg:Expr} (a it:Addr) (ob:Obj) (kvs:List (Ak×V)) (es:Array DictEntry) (ep:Nat) (he:ob.data=.dict es ep):D3 P w K tg (Itk a ob kvs) [it] it (λi h=>h.IsKeyIter it a i kvs.length ep) where
 mem:=by simp
 obj:=λi h st b hb=>by
  have e:b=it:=by simpa using hb
  subst e
  obtain ⟨o,e,c,d⟩:=st
  exact ⟨o,e,λv z=>by rw [d] at z; cases z⟩
 keep:=λi h h' st k=>let ⟨o,ho,r⟩:=st; ⟨o,k it (by simp) o ho,r⟩
 item:=by
  intro X hP hw hK hc i pins s σ H E I hf st ⟨hH,hi⟩
  subst hP hw hK
  obtain ⟨hd,vs,rel,at_⟩:=IF I hH he
  have hx:kvs[i]?=some (kvs[i].1,kvs[i].2):=List.getElem?_eq_getElem hi
  obtain ⟨u,hu,_⟩:=Mh rel hx
  have hl:kvs.length=vs.length:=rel.length
  refine wpAny_pyNext_dict_item (hl ▸ st) at_ hu λkey h' hk st' sb=>?_
  have I1:L2.Inv X pins σ H { s with heap:=h',toks:=s.toks }:=Eo I hf λc o hc e=>(sb.2 c (λz=>hc (by simp [z]))).trans e
  obtain ⟨o,e1,c1,d1⟩:=id st'
  exact ⟨key,rfl,G6 (s:={ s with heap:=h' }) e1 c1 d1 wE ⟨kV kvs[i].1,H,I1,Ml hk,⟨rfl,_,_,hx,rfl⟩,hl ▸ st',λb hb=>(hf b hb).1⟩⟩
 done:=by
  intro X hP hw hK hc i pins s σ H E I hf st ⟨hH,hi⟩
  subst hP hw hK
  obtain ⟨hd,vs,rel,at_⟩:=IF I hH he
  have hl:kvs.length=vs.length:=rel.length
  exact wpAny_pyNext_dict_end (I.ok.hd hc) (hl ▸ st) at_ (List.getElem?_eq_none wF) λh' eb=>⟨rfl,Eo (t':=s.toks) I hf λc o hc e=>eb c o (λz=>hc (by simp [z])) e⟩
 self:=λ_ _ _ _ _ st h=>wpAny_pyIter_keyiter st h
section
variable {X:Cx} {ρ:Am} {O:Ad} {a b e:Expr} {pos p:Pos} {d:D} {ks:List Ak} {xs:List D}
theorem W8 {K:PySem.W.Frag} {G:Wd} {a:Addr} {ob:Obj} {vs:List V} (h:G.g a=some (.frz ob (.dK (ks.zip vs)))) (hl:ks.length=vs.length):C6 K G (Itk a ob (ks.zip vs)) (ks.map kD) where
 go:=λi H e hi=>⟨e _ _ h,by rw [List.length_zip]; rw [List.length_map] at hi; omega⟩
 stop:=λi H e hi=>⟨e _ _ h,by rw [List.length_zip]; rw [List.length_map] at hi; omega⟩
 yld:=λi v H H' G2 O2 e s y hi=>by
  obtain ⟨rfl,k,u,hk,rfl⟩:=y
  have z:ks[i]?=some k:=by
   rw [List.length_map] at hi
   rw [List.getElem?_eq_getElem (by rw [List.length_zip]; omega),List.getElem_zip] at hk
   cases Option.some.inj hk
   exact List.getElem?_eq_getElem hi
  exact ⟨kD k,G2,by rw [List.getElem?_map,z]; rfl,Ag.refl _,s,Po K G2 k⟩
theorem YB {tg:Expr} (h:Ac X ρ O e (.dct ks xs)):Cn X ρ O tg e (ks.map kD):=λG pins s σ H R I ⟨h1,h2,h3⟩=>
 Ao (h G pins s σ H (λv H'=>∃ G',Ag G G'/\SA X.K G' H' O/\Is X.K G' (.dct ks xs) v) I ⟨h1,h2,λv G' H' e s i=>⟨G',e,s,i⟩⟩) λu s1 ⟨v,H1,I1,r,G1,e1,sa1,i1⟩=>by
  cases i1 with
  | @dct a _ _ vs ob g hl rs=>
  cases r
  have hH:=sa1.sub _ _ g
  obtain ⟨h0,_,hd,us,rel,o,es,ep,g0,g1,g2,g3⟩:=(show Bn X.prog X.w H1 s1.heap a (.frz ob (.dK (ks.zip vs))) from I1.hok a _ hH)
  cases Option.some.inj (h0.symm.trans g0)
  have hlen:(ks.zip vs).length=us.length:=rel.length
  refine wpAny_pyIter_dict (knd:=Ba X.prog X.w) hd (⟨ob,es,h0,g1,g2,g3⟩:s1.heap.DictAt _ a us ep) ?_
  exact ⟨s1.heap.objs.size,[s1.heap.objs.size],_,_,H1,rfl,I1.kept (t':=s1.toks) λ_ _ e=>Heap.get?_push_of_some _ e,R0 a _ ob (ks.zip vs) es ep g2,⟨_,Heap.get?_push_size _ rfl,rfl,by rw [hlen]; rfl⟩,λb hb=>by
   have hb':s1.heap.objs.size<=b:=by cases List.mem_singleton.mp hb; exact Nat.le_refl _
   exact I1.fpOk hb' (I1.hok.fresh hb'),h3 _ G1 H1 e1 sa1 (W8 g hl)⟩
end
theorem Yw:entryFor table "dict_itemiterator.__iter__" = some Builtin.«dict_keyiterator.__iter__»:=
 entryFor_alias (id' := "dict_keyiterator.__iter__") (by kernel_rfl) rfl wD (by kernel_rfl)
def Iti (a:Addr) (ob:Obj) (kvs:List (Ak×V)):It:=⟨λi H=>H a=some (.frz ob (.dK kvs))/\i<kvs.length,λi H x H'=>∃ T k v,H T=none/\kvs[i]?=some (k,v)/\H'=An H T (.tup [kV k,v])/\x=.ref T,λi H=>H a=some (.frz ob (.dK kvs))/\kvs.length<=i⟩
theorem R1 {P:Program} {w:World} {K:PySem.W.Frag} {elts:List Expr} {x1:Nat} {tp:Pos} (a it:Addr) (ob:Obj) (kvs:List (Ak×V)) (es:Array DictEntry) (ep:Nat) (he:ob.data=.dict es ep) :
  D3 P w K (.Tuple elts x1 tp) (Iti a ob kvs) [it] it (λi h=>∃ ok ov,IsItemIter h it a i kvs.length ep ok ov) where
 mem:=by simp
 obj:=λi h st b hb=>by
  have e:b=it:=by simpa using hb
  subst e
  obtain ⟨ok,ov,e⟩:=st
  exact ⟨_,e,λv z=>by cases z⟩
 keep:=λi h h' st k=>let ⟨ok,ov,e⟩:=st; ⟨ok,ov,k it (by simp) _ e⟩
 item:=by
  intro X hP hw hK hc i pins s σ H E I hf st ⟨hH,hi⟩
  subst hP hw hK
  obtain ⟨ok,ov,st⟩:=st
  obtain ⟨hd,vs,rel,at_⟩:=IF I hH he
  have hx:kvs[i]?=some (kvs[i].1,kvs[i].2):=List.getElem?_eq_getElem hi
  obtain ⟨u,hu,ru⟩:=Mh rel hx
  have hl:kvs.length=vs.length:=rel.length
  have hTn:s.heap.objs.size≠it:=λz=>Nat.lt_irrefl _ (by have:=Heap.lt_size st; rw [<- z] at this; exact this)
  refine wpAny_pyNext_items_item (hl ▸ st) at_ hu λkey h1 hk out tup sz keep=>⟨_,rfl,wpAny_letOwnedTupleGo_items (s:={ s with heap:=h1 }) out λh2 hit2 sb2=>?_⟩
  have Iz:L2.Inv X pins σ H { s with heap:=h2,toks:=s.toks }:=Eo I hf λc o hc e=>(sb2.2 c (λz=>hc (by simp [z]))).trans (keep c o (λz=>hc (by simp [z])) e)
  have fr:H s.heap.objs.size=none:=I.hok.fresh (Nat.le_refl _)
  refine ⟨.ref s.heap.objs.size,An H s.heap.objs.size (.tup [kV kvs[i].1,kvs[i].2]),?_,rfl,⟨_,_,_,fr,hx,rfl,rfl⟩,⟨key,u,hl ▸ hit2⟩,λc hb=>?_⟩
  ·refine Ri Iz (I.fpOk (Nat.le_refl _) fr) I.sz ⟨show 2<=sizeLine by decide,[key,u],.cons (Ml hk) (.cons ru .nil),?_⟩
   exact ⟨_,(sb2.2 _ hTn).trans tup,rfl,rfl,_,rfl⟩
  ·have e:c=it:=by simpa using hb
   rw [e,As (Ne.symm hTn)]
   exact (hf it (by simp)).1
 done:=by
  intro X hP hw hK hc i pins s σ H E I hf st ⟨hH,hi⟩
  subst hP hw hK
  obtain ⟨ok,ov,st⟩:=st
  obtain ⟨hd,vs,rel,at_⟩:=IF I hH he
  have hl:kvs.length=vs.length:=rel.length
  exact wpAny_pyNext_items_end (I.ok.hd hc) (hl ▸ st) at_ (List.getElem?_eq_none wF) λh' eb=>⟨rfl,Eo (t':=s.toks) I hf λc o hc e=>eb c o (λz=>hc (by simp [z])) e⟩
 self:=λA i s Q E st h=>by
  obtain ⟨ok,ov,st⟩:=st
  exact OQ ⟨_,st,rfl⟩ F.slot_dict_itemiterator_iter Yw (F.args_dict_itemiterator_iter_1 _) F.slot_dict_itemiterator_next (wpAny_pure ⟨rfl,rfl⟩) h
section
variable {X:Cx} {ρ:Am} {O:Ad} {a b e:Expr} {elts:List Expr} {x1:Nat} {pos p tp apos cpos:Pos} {d:D} {ks:List Ak} {xs:List D}
theorem W9 {K:PySem.W.Frag} {G:Wd} {a:Addr} {ob:Obj} {vs:List V} (h:G.g a=some (.frz ob (.dK (ks.zip vs)))) (hl:ks.length=vs.length) (r:Aj K G xs vs):C6 K G (Iti a ob (ks.zip vs)) ((ks.zip xs).map λp=>.tup [kD p.1,p.2]) where
 go:=λi H e hi=>⟨e _ _ h,by have:=r.length; rw [List.length_map,List.length_zip] at hi; rw [List.length_zip]; omega⟩
 stop:=λi H e hi=>⟨e _ _ h,by have:=r.length; rw [List.length_map,List.length_zip] at hi; rw [List.length_zip]; omega⟩
 yld:=λi v H H' G2 O2 e s y hi=>by
  obtain ⟨T,k,u,hT,hk,rfl,rfl⟩:=y
  have hrl:=r.length
  rw [List.length_map,List.length_zip] at hi
  have hz:ks[i]?=some k/\vs[i]?=some u:=by
   rw [List.getElem?_eq_getElem (by rw [List.length_zip]; omega),List.getElem_zip] at hk
   cases Option.some.inj hk
   exact ⟨List.getElem?_eq_getElem wF,List.getElem?_eq_getElem wF⟩
  obtain ⟨x,hx,ix⟩:=r.getV hz.2
  obtain ⟨e3,s3⟩:=s.laid (o:=.tup [kV k,u]) hT
  refine ⟨.tup [kD k,x],_,?_,e3,s3,.tup (Bm.of AJ) (.cons (Po _ _ k) (.cons (ix.ext (e.trans e3)) .nil))⟩
  have z2:(ks.zip xs)[i]?=some (k,x):=by
   rw [List.getElem?_eq_getElem (by rw [List.length_zip]; omega),List.getElem_zip]
   rw [List.getElem?_eq_getElem wF] at hz hx
   have:=hz.1
   rw [Option.some.inj hz.1,Option.some.inj hx]
  rw [List.getElem?_map,z2]; rfl
theorem YA (h:Ac X ρ O a (.dct ks xs)) (hbase:attributeBase a ("items" : Str) X.env (eval a X.env)=eval a X.env:=by rfl) (hline:(apos.endLine==cpos.line)=true:=by rfl) :
  Cn X ρ O (.Tuple elts x1 tp) (.Call (.Attribute a ("items" : Str) apos) [] [] cpos) ((ks.zip xs).map λp=>.tup [kD p.1,p.2]):=λG pins s σ H R I ⟨h1,h2,h3⟩=>by
 refine wpAny_Call_method0_late hbase hline (Ao (h G pins s σ H (λv H'=>∃ G',Ag G G'/\SA X.K G' H' O/\Is X.K G' (.dct ks xs) v) I ⟨h1,h2,λv G' H' e s i=>⟨G',e,s,i⟩⟩) λu s1 ⟨v,H1,I1,r,G1,e1,sa1,i1⟩=>?_)
 cases i1 with
 | @dct a _ _ vs ob g hl rs=>
 cases r
 have hH:=sa1.sub _ _ g
 obtain ⟨h0,_,hd,us,rel,o,es,ep,g0,g1,g2,g3⟩:=(show Bn X.prog X.w H1 s1.heap a (.frz ob (.dK (ks.zip vs))) from I1.hok a _ hH)
 cases Option.some.inj (h0.symm.trans g0)
 have at_:s1.heap.DictAt (Ba X.prog X.w) a us ep:=⟨ob,es,h0,g1,g2,g3⟩
 have hlen:(ks.zip vs).length=us.length:=rel.length
 refine ⟨"dict","dict.items",PySem.F.plainAttrs_dict,PySem.F.slot_dict_items,PySem.F.type_dict_items,at_.dictOf.typeIs,λb q=>by cases q; exact ⟨ob,h0,g1.2.1⟩,Calls.callWith_builtin rfl (PySem.evalArgs_none ?_)⟩
 refine call_meetsIn PySem.F.slot_dict_items at_.dictOf.typeIs PySem.F.entry_dict_items (PySem.F.args_dict_items_1 _) (meets_dict_items (Ba X.prog X.w) a hd) ⟨⟨_,at_.dictOf⟩,?_⟩
 have I2:=I1.kept (t':=s1.toks) (h':=s1.heap.push { cls:=.type "dict_items",data:=.fields #[.ref a] }) λ_ _ e=>Heap.get?_push_of_some _ e
 refine wpAny_pyIter_items (knd:=Ba X.prog X.w) ⟨_,Heap.get?_push_size _ rfl,rfl,rfl⟩ (at_.push _) ?_
 exact ⟨_,[_],_,_,H1,rfl,I2.kept (t':=s1.toks) λ_ _ e=>Heap.get?_push_of_some _ e,R1 a _ ob (ks.zip vs) es ep g2,⟨.none,.none,by rw [hlen]; exact Heap.get?_push_size _ rfl⟩,λb hb=>by
  cases List.mem_singleton.mp hb
  exact I2.fpOk (Nat.le_refl _) (I2.hok.fresh (Nat.le_refl _)),h3 _ G1 H1 e1 sa1 (W9 g hl rs)⟩
end
theorem Q0D {X:Cx} {pins:List (Addr×Obj)} {σ:L2.St} {H:Hp} {s:Shared} {p:Addr} {u o:HO} (I:L2.Inv X pins σ H s) (h:H p=some u) (n1:∀ xs,u≠.tup xs) (n2:∀ y,u≠.own y) (n3:∀ ps,u≠.tbl ps) (n4:∀ ob u',X.H₀ p≠some (.frz ob u')) (n5:∀ xs,X.H₀ p≠some (.tup xs)) (n6:∀ ps,X.H₀ p≠some (.tbl ps))
  (ok:∀ H',Bn X.prog X.w H' s.heap p o):L2.Inv X pins σ (An H p o) s:=by
 have ne:∀ b,H b=none->b≠p:=λb z e=>by rw [e,h] at z; cases z
 refine ⟨I.ok,I.os,I.bare,⟨I.base.keep,I.base.slot,λb ob q n hb=>?_,I.base.there,λb xs q=>?_,λb ob u' q=>?_,λb ps q=>?_⟩,I.loc,I.cell,by rw [As (ne _ I.free)]; exact I.free,λx c q=>by rw [As (ne _ (I.freeC x c q))]; exact I.freeC x c q,λq hq=>?_,λb v q=>?_,I.len⟩
 ·have z:=I.base.free b ob q n hb
  rw [As (ne _ z)]; exact z
 ·rw [As (λe=>n5 xs (by rw [<- e]; exact q))]; exact I.base.tups b xs q
 ·rw [As (λe=>n4 ob u' (by rw [<- e]; exact q))]; exact I.base.frzs b ob u' q
 ·rw [As (λe=>n6 ps (by rw [<- e]; exact q))]; exact I.base.tbls b ps q
 ·obtain ⟨q1,q2,q3⟩:=I.pin q hq
  exact ⟨q1,by rw [As (ne _ q2)]; exact q2,q3⟩
 ·by_cases e:b=p
  ·subst e
   rw [AJ] at q
   cases q
   exact ok _
  ·rw [As e] at q
   exact (I.hok b v q).stay (λc w _ r=>r) (λc r=>by rw [As (λe=>n2 _ (Option.some.inj (h.symm.trans (e ▸ r))))]; exact r) λc xs r=>by rw [As (λe=>n1 _ (Option.some.inj (h.symm.trans (e ▸ r))))]; exact r
theorem YH {X:Cx} {pins:List (Addr×Obj)} {σ:L2.St} {H:Hp} {s:Shared} {p:Addr} {kvs:List (Ak×V)} (I:L2.Inv X pins σ H s) (h:H p=some (.dK kvs)):(∀ ob u',X.H₀ p≠some (.frz ob u'))/\(∀ xs,X.H₀ p≠some (.tup xs))/\∀ ps,X.H₀ p≠some (.tbl ps):=
 ⟨(λob u' z=>by have:=I.base.frzs _ _ _ z; rw [h] at this; cases this),(λxs z=>by have:=I.base.tups _ _ z; rw [h] at this; cases this),(λps z=>by obtain ⟨m,this⟩:=I.base.tbls _ _ z; rw [h] at this; cases this)⟩
theorem Rk {X:Cx} {pins:List (Addr×Obj)} {σ:L2.St} {H:Hp} {s:Shared} {p:Addr} {kvs:List (Ak×V)} (I:L2.Inv X pins σ H s) (h:H p=some (.dK kvs)):∃ ob,L2.Inv X pins σ (An H p (.frz ob (.dK kvs))) s:=by
 obtain ⟨z,y,vs,r,ob,es,ep,e,c⟩:=(show Bn X.prog X.w H s.heap p (.dK kvs) from I.hok p _ h)
 obtain ⟨a1,a2,a3⟩:=YH I h
 exact ⟨ob,Q0D I h (by intro _ z; cases z) (by intro _ z; cases z) (by intro _ z; cases z) a1 a2 a3 λH'=>⟨e,z,y,vs,r,ob,es,ep,e,c⟩⟩
theorem SA.frzD {K:PySem.W.Frag} {G:Wd} {H:Hp} {O:Ad} {n:Nat} {ks:List Ak} {xs:List D} (s:SA K G H O) (h:O[n]?=some (some (.dct ks xs))):∃ p vs,G.l[n]?=some p/\H p=some (.dK (ks.zip vs))/\ks.length=vs.length/\Aj K G xs vs /\
  ∀ ob,Ag G ⟨An G.g p (.frz ob (.dK (ks.zip vs))),G.l⟩/\SA K ⟨An G.g p (.frz ob (.dK (ks.zip vs))),G.l⟩ (An H p (.frz ob (.dK (ks.zip vs)))) (O.set n none)/\Is K ⟨An G.g p (.frz ob (.dK (ks.zip vs))),G.l⟩ (.dct ks xs) (.ref p):=by
 obtain ⟨p,hp,g,vs,h1,hl,r⟩:=s.mt n _ h
 refine ⟨p,vs,hp,h1,hl,r,λob=>?_⟩
 have e:Ag G ⟨An G.g p (.frz ob (.dK (ks.zip vs))),G.l⟩:=⟨Fb g,[],(List.append_nil _).symm⟩
 refine ⟨e,⟨λb u q=>?_,by simp [s.len],s.nd,λb hb=>?_,λk m hq=>?_⟩,.dct AJ hl (r.ext e)⟩
 ·by_cases hb:b=p
  ·subst hb
   have q:An G.g b _ b=some u:=q
   rw [AJ] at q ⊢; exact q
  ·have q:An G.g p _ b=some u:=q
   rw [As hb] at q ⊢; exact s.sub b u q
 ·by_cases hb':b=p
  ·subst hb'; exact ⟨_,AJ⟩
  ·obtain ⟨u,q⟩:=s.liv b hb; exact ⟨u,by rw [As hb']; exact q⟩
 ·by_cases hkn:n=k
  ·subst hkn
   rw [List.getElem?_set_self (List.getElem?_eq_some_iff.mp h).1] at hq
   cases hq
  ·rw [List.getElem?_set_ne hkn] at hq
   obtain ⟨b,g1,g2,g3⟩:=s.mt k m hq
   have ne:b≠p:=by
    rintro rfl
    exact hkn ((List.getElem?_inj (List.getElem?_eq_some_iff.mp hp).1 s.nd).mp (hp.trans g1.symm))
   exact ⟨b,g1,by show An G.g p _ b=none; rw [As ne]; exact g2,g3.ext e (As ne)⟩
theorem SA.word {K:PySem.W.Frag} {G:Wd} {H:Hp} {O:Ad} {n:Nat} {m m':MO} (s:SA K G H O) (h:O[n]?=some (some m)) (r:∀ p,G.l[n]?=some p->D4 K G H p m->D4 K G H p m'):SA K G H (O.set n (some m')):=by
 refine ⟨s.sub,by rw [List.length_set]; exact s.len,s.nd,s.liv,λk m2 hk=>?_⟩
 by_cases hkn:n=k
 ·subst hkn
  rw [List.getElem?_set_self (List.getElem?_eq_some_iff.mp h).1] at hk
  cases hk
  obtain ⟨a,h1,h2,h3⟩:=s.mt n m h
  exact ⟨a,h1,h2,r a h1 h3⟩
 ·rw [List.getElem?_set_ne hkn] at hk
  exact s.mt k m2 hk
theorem A4.re {K:PySem.W.Frag} {G:Wd} {f:Str} {d d':D}:∀ {fs:List (Str×D)} {vs:List (Str×V)},A4 K G fs vs->fs.lookup f=some d->(∀ v,Is K G d v->Is K G d' v)->A4 K G (BN f d' fs) vs
 | _,_,.nil,h,_=>by cases h
 | _,_,.cons (f:=g) (d:=x) (fs:=r) h q,hl,k=>by
  unfold BN
  by_cases e:g=f
  ·subst e
   rw [if_pos rfl]
   rw [List.lookup_cons,beq_self_eq_true] at hl
   cases Option.some.inj hl
   exact .cons (k _ h) q
  ·rw [if_neg e]
   rw [List.lookup_cons,show (f==g)=false from beq_eq_false_iff_ne.mpr (Ne.symm e)] at hl
   exact .cons h (A4.re q hl k)
mutual
def CT (n:Nat) (e:D):D->D
 | .ptr m=>if m=n then e else .ptr m
 | .tup xs=>.tup (GI n e xs)
 | .non=>.non | .bl b=>.bl b | .int i=>.int i | .str x=>.str x | .lst xs=>.lst xs | .scr xs=>.scr xs | .ty t=>.ty t | .fn a=>.fn a | .dct ks xs=>.dct ks xs
def GI (n:Nat) (e:D):List D->List D
 | []=>[]
 | x::xs=>CT n e x::GI n e xs
end
mutual
theorem Is.sb {K:PySem.W.Frag} {G:Wd} {n:Nat} {e:D} {p:Addr} (hp:G.l[n]?=some p) (he:Is K G e (.ref p)):∀ {d:D} {v:V},Is K G d v->Is K G (CT n e d) v
 | _,_,.non=>by simp only [CT]; exact .non
 | _,_,.bl b=>by simp only [CT]; exact .bl b
 | _,_,.int i=>by simp only [CT]; exact .int i
 | _,_,.str x=>by simp only [CT]; exact .str x
 | _,_,.tup h r=>by simp only [CT]; exact .tup h (Aj.sb hp he r)
 | _,_,.lst h r=>by simp only [CT]; exact .lst h r
 | _,_,.scr h r=>by simp only [CT]; exact .scr h r
 | _,_,.ptr m h=>by
  simp only [CT]
  split
  ·rename_i z
   subst z
   cases Option.some.inj (hp.symm.trans h)
   exact he
  ·exact .ptr m h
 | _,_,.ty t=>by simp only [CT]; exact .ty t
 | _,_,.fn a=>by simp only [CT]; exact .fn a
 | _,_,.dct h hl r=>by simp only [CT]; exact .dct h hl r
theorem Aj.sb {K:PySem.W.Frag} {G:Wd} {n:Nat} {e:D} {p:Addr} (hp:G.l[n]?=some p) (he:Is K G e (.ref p)):∀ {ds:List D} {vs:List V},Aj K G ds vs->Aj K G (GI n e ds) vs
 | _,_,.nil=>by simp only [GI]; exact .nil
 | _,_,.cons h r=>by simp only [GI]; exact .cons (Is.sb hp he h) (Aj.sb hp he r)
end
section
variable {X:Cx} {ρ:Am} {O:Ad} {AK:List Stmt} {P:A2} {n q:Nat} {ks:List Ak} {xs:List D} {d:D} {C:Addr} {fs:List (Str×D)} {f:Str}
theorem Ar.keepAt {K:PySem.W.Frag} {G:Wd} {σ:L2.St} {i:Nat} {d d':D} (h:Ar K G σ ρ) (hd:ρ[i]?=some (some d)) (h':∀ v,Is K G d v->Is K G d' v):Ar K G σ (ρ.set i (some d')):=by
 refine ⟨by rw [List.length_set]; exact h.len,λj e hj=>?_⟩
 by_cases e':i=j
 ·subst e'
  rw [List.getElem?_set_self (List.getElem?_eq_some_iff.mp hd).1] at hj
  cases hj
  obtain ⟨v,z1,z2⟩:=h.get i d hd
  exact ⟨v,z1,h' v z2⟩
 ·rw [List.getElem?_set_ne e'] at hj
  exact h.get j e hj
theorem Nn (i:Nat) (h1:ρ[i]?=some (some d)) (h2:O[n]?=some (some (.dct ks xs))) (h:Exs X (ρ.set i (some (CT n (.dct ks xs) d))) (O.set n none) AK P):Exs X ρ O AK P:=λG pins s σ H E I ⟨q1,q2,q3⟩=>by
 obtain ⟨p,vs,hp,g1,hl,r,z⟩:=q1.frzD h2
 obtain ⟨ob,I'⟩:=Rk I g1
 obtain ⟨e,s',i'⟩:=z ob
 exact h _ pins s σ _ E I' ⟨s',(q2.ext e).keepAt h1 λv iv=>Is.sb (G:=⟨An G.g p (.frz ob (.dK (ks.zip vs))),G.l⟩) hp i' iv,q3.ext e⟩
theorem RA (h1:O[q]?=some (some (.ins C fs))) (hf:fs.lookup f=some (.ptr n)) (h2:O[n]?=some (some (.dct ks xs))) (h:Exs X ρ ((O.set n none).set q (some (.ins C (BN f (.dct ks xs) fs)))) AK P):Exs X ρ O AK P:=λG pins s σ H E I ⟨q1,q2,q3⟩=>by
 obtain ⟨p,vs,hp,g1,hl,r,z⟩:=q1.frzD h2
 obtain ⟨ob,I'⟩:=Rk I g1
 obtain ⟨e,s',i'⟩:=z ob
 refine h _ pins s σ _ E I' ⟨?_,q2.ext e,q3.ext e⟩
 have hnq:n≠q:=by rintro rfl; rw [h1] at h2; cases h2
 have h1':(O.set n none)[q]?=some (some (.ins C fs)):=by rw [List.getElem?_set_ne hnq]; exact h1
 exact s'.word h1' λa f0 ⟨dx,ws,f2,f3⟩=>⟨dx,ws,f2,f3.re hf λv k2=>by
  cases k2 with
  | ptr _ ha=>
   cases Option.some.inj (hp.symm.trans ha)
   exact i'⟩
end
end DL
namespace DL
open PySem PySem.Spec PyProof.Rows L2 PySem.W
section
variable {prog:Program} {w:World} {A:Around} {s:Shared} {E:Value->Shared->Prop} {T:String} {r d:Addr} {n:Nat} {P:Nat->Value->Prop} {OK:Heap->Prop}
theorem QA {Q:List Value->Shared->Prop} (K:KdlSrc prog w T r d n P OK) (hh:A.handled=none) (hok:OK s.heap) (hn:n<=sizeLine) (hQ:∀ h' tk (acc:Array Value),(∀ b o,s.heap.get? b=some o->h'.get? b=some o)->ItemsOf P acc n->Q acc.toList { s with heap:=h',toks:=tk }) :
  wpAny (model prog w) A (collect (.ref r)) Q E s:=by
 have hT:=K.type s hok
 have lt:=K.there _ hok
 have kp:∀ h',(∀ b o,s.heap.get? b=some o->h'.get? b=some o)->OK h':=λh' k=>K.keep _ _ hok λb _ o e=>k b o e
 obtain ⟨h,g,dd,tk,os⟩:=s
 have hT2:=hT
 obtain ⟨o,ho,hc⟩:=hT
 have nl:=K.notList
 have nt:=K.notTuple
 dsimp only at lt kp hok hQ
 wp_walk
 refine Fo F.plain_proto_collect F.entry_proto_collect ?_
 wp_walk
 have up:∀ b u,h.get? b=some u->(h.push { cls:=.type "list",data:=.seq #[] }).get? b=some u:=λb u e=>Heap.get?_push_of_some _ e
 have own:(h.push { cls:=.type "list",data:=.seq #[] }).get? h.objs.size=some { cls:=.type "list",data:=.seq #[] }:=Heap.get?_push_size _ rfl
 refine ⟨plainId_quiet F.plain_list_iadd _,Fo F.plain_list_iadd F.entry_list_iadd ?_⟩
 unfold Builtin.«list.__iadd__» slotArgs
 refine wpAny_bind (wpAny_bind (wpAny_pure (wpAny_bind (wpAny_pure (wpAny_pure ?_)))))
 show wpAny _ _ (Builtin.List.listExtendWith (.ref h.objs.size) (.ref r) (.ref h.objs.size)) _ _ _
 refine wpAny_mono (kdl_extend (A:=A) (R:=?kR) (s:=⟨h.push { cls:=.type "list",data:=.seq #[] },g,dd,tk,os⟩) K hh (kp _ up) h.objs.size (Nat.ne_of_gt lt.1) (Nat.ne_of_gt lt.2) _ 0 own ?kg hn) ?ka ?kb
 case ka=>
  intro fin s' z
  cases fin
  rotate_left
  ·exact z
  ·exact z
 case kb=>intro e s' z; exact z
 case kg=>
  intro h' tk' acc c' k1 k2 k3
  exact wpAny_bind (wpAny_load k2 (wpAny_pure (hQ h' tk' acc (λb u e=>k1 b u (Nat.ne_of_lt (Heap.lt_size e)) (up b u e)) k3)))
end
theorem JB:∀ {ks:List Ak} {us:List V} {vs:List (Ak×Value)},KV (ks.zip us) vs->ks.length=us.length->Aq us (vs.map (·.2))
 | [],[],_,.nil,_=>.nil
 | k::ks,u::us,_,.cons q r,h=>.cons q.2 (JB r (by simpa using h))
theorem Mj {P:Program} {w:World}:∀ {ks:List Ak} {us:List V} {vs:List (Ak×Value)} {ws:List Value},KV (ks.zip us) vs->ks.length=us.length->ws.length=vs.length->(∀ (i:Nat) (v:Value),ws[i]?=some v->∃ k x,vs[i]?=some (k,x)/\(Ba P w).is k v=true)->Aq (ks.map kV) ws
 | [],[],_,[],.nil,_,_,_=>.nil
 | k::ks,u::us,(k2,x2)::_,w1::ws,.cons q r,h,hl,hp=>by
  refine .cons ?_ (Mj r (by simpa using h) (by simpa using hl) λi v e=>hp (i+1) v (by simpa using e))
  obtain ⟨k',x,e,z⟩:=hp 0 w1 rfl
  cases Option.some.inj e
  have h3:k=k2:=q.1
  subst h3
  exact Ml z
 | [],[],_,_::_,.nil,_,hl,_=>by cases hl
 | _::_,_::_,_,[],.cons _ _,_,hl,_=>by cases hl
section
variable {X:Cx} {ρ:Am} {O:Ad} {a b e:Expr} {pos p apos cpos:Pos} {d da:D} {ks:List Ak} {xs:List D} {R:D->Ad->Prop}
def ZK (X:Cx) (pins:List (Addr×Obj)) (σ:L2.St) (O:Ad) (ks:List Ak) (xs:List D) (G:Wd) (u:Value) (s:Shared):Prop:=
 ∃ (v q:Addr) (us:List V) (vs:List (Ak×Value)) (ep:Nat) (H:Hp) (G1:Wd),u=.ref v/\L2.Inv X pins σ H s/\Ag G G1/\SA X.K G1 H O/\Aj X.K G1 xs us/\ks.length=us.length/\KV (ks.zip us) vs/\(ks.zip us).length<=sizeLine/\s.heap.IsValuesView v q/\s.heap.DictAt (Ba X.prog X.w) q vs ep
theorem P8 (ha:Ac X ρ O a da) (hd:DV O da ks xs) (hbase:attributeBase a ("values" : Str) X.env (eval a X.env)=eval a X.env:=by rfl) (hline:(apos.endLine==cpos.line)=true:=by rfl) {G:Wd} {pins:List (Addr×Obj)} {s:Shared} {σ:L2.St} {H:Hp} (I:L2.Inv X pins σ H s) (h1:SA X.K G H O) (h2:Ar X.K G σ ρ) :
  wpAny (model X.prog X.w) X.A (eval (.Call (.Attribute a ("values" : Str) apos) [] [] cpos) X.env) (ZK X pins σ O ks xs G) X.xe s:=by
 refine wpAny_Call_method0_late hbase hline (Ao (ha G pins s σ H (λv H'=>∃ G',Ag G G'/\SA X.K G' H' O/\Is X.K G' da v) I ⟨h1,h2,λv G' H' e s i=>⟨G',e,s,i⟩⟩) λu s1 ⟨v,H1,I1,r,G1,e1,sa1,i1⟩=>?_)
 obtain ⟨q,us,rfl,g1,g2,g3⟩:=hd.rd sa1 i1
 cases r
 obtain ⟨hz,hq,vs,rel,dd⟩:=C1 I1.hok g1
 obtain ⟨ep,at_⟩:=dd.dictAt
 obtain ⟨ob,es,h0,w1,w2⟩:=id at_
 refine ⟨"dict","dict.values",PySem.F.plainAttrs_dict,PySem.F.slot_dict_values,PySem.F.type_dict_values,dd.typeIs,λb q=>by cases q; exact ⟨ob,h0,w1.2.1⟩,Calls.callWith_builtin rfl (PySem.evalArgs_none ?_)⟩
 refine call_meetsIn PySem.F.slot_dict_values dd.typeIs PySem.F.entry_dict_values (PySem.F.args_dict_values_1 _) (meets_dict_values (Ba X.prog X.w) q hq) ⟨⟨_,dd⟩,?_⟩
 exact ⟨_,q,us,vs,ep,H1,G1,rfl,I1.kept (t':=s1.toks) λ_ _ e=>Heap.get?_push_of_some _ e,e1,sa1,g3,g2,rel,hz,⟨_,Heap.get?_push_size _ rfl,rfl,rfl⟩,at_.push _⟩
theorem X6 (ha:Ac X ρ O a da) (hd:DV O da ks xs) (hm:X.mg "tuple" = none) (hbase:attributeBase a ("values" : Str) X.env (eval a X.env)=eval a X.env:=by rfl) (hline:(apos.endLine==cpos.line)=true:=by rfl) (hc:X.calm=true:=by rfl) (hg:Gl X "tuple" := by rfl)
  (hs:starEach [.Call (.Attribute a ("values" : Str) apos) [] [] cpos] X.env=[(false,eval (.Call (.Attribute a ("values" : Str) apos) [] [] cpos) X.env)]:=by rfl):Ac X ρ O (.Call (.Name "tuple" p) [.Call (.Attribute a ("values" : Str) apos) [] [] cpos] [] pos) (.tup xs):=λG pins s σ H Q I ⟨h1,h2,h3⟩=>by
 refine wpAny_Call_Name_kw (DA I hg hm (by first | rfl | decide +kernel) ?_ wE wE)
 refine PyProof.Rows.callWith_type1 ?_ (by rw [hs]; rfl) rfl
 rw [hs]
 show wpAny _ _ (spliced ((false,_)::backTo pos [])) _ _ s
 refine Calls.spliced_cons (Ao (P8 ha hd hbase hline I h1 h2) λu s1 ⟨v,q,us,vs,ep,H1,G1,eu,I1,e1,sa1,is1,hl,rel,hz,vw,at_⟩=>Calls.spliced_nil ?_)
 subst eu
 have hlen:vs.length=(ks.zip us).length:=rel.length.symm
 refine Zj vw.typeIs wE (QA (kdl_values (knd:=Ba X.prog X.w)) (I.ok.hd hc) ⟨vw,at_⟩ (by rw [hlen]; exact hz) λh' tk acc kp it=>?_)
 have ev:acc.toList=vs.map (·.2):=kdl_vals_eq _ (by rw [Array.length_toList]; exact it.1) λj v e=>it.2 j v (by rw [<- Array.getElem?_toList]; exact e)
 have hz2:acc.toList.length<=sizeLine:=by rw [ev,List.length_map,hlen]; exact hz
 refine ⟨hz2,?_⟩
 have I2:L2.Inv X pins σ H1 { s1 with heap:=h',toks:=tk }:=I1.kept kp
 have fr:H1 h'.objs.size=none:=I2.hok.fresh (Nat.le_refl _)
 obtain ⟨e3,s3⟩:=sa1.laid (o:=.tup us) fr
 refine ⟨.ref h'.objs.size,_,I2.laid (t':=tk) (λb o e=>Heap.get?_push_of_some _ e) (Nat.le_refl _) ?_,rfl,h3 _ _ _ (e1.trans e3) s3 (.tup (Bm.of AJ) (is1.ext e3))⟩
 have vv:Aq us acc.toList:=by rw [ev]; exact JB rel hl
 exact ⟨by rw [vv.length]; exact hz2,acc.toList,vv,En.new _ _⟩
theorem Qe (ha:Ac X ρ O a da) (hd:DV O da ks xs) (hm:X.mg "list" = none) (hbase:attributeBase a ("values" : Str) X.env (eval a X.env)=eval a X.env:=by rfl) (hline:(apos.endLine==cpos.line)=true:=by rfl) (hc:X.calm=true:=by rfl) (hg:Gl X "list" := by rfl)
  (hs:starEach [.Call (.Attribute a ("values" : Str) apos) [] [] cpos] X.env=[(false,eval (.Call (.Attribute a ("values" : Str) apos) [] [] cpos) X.env)]:=by rfl):Ac X ρ O (.Call (.Name "list" p) [.Call (.Attribute a ("values" : Str) apos) [] [] cpos] [] pos) (.lst xs):=λG pins s σ H Q I ⟨h1,h2,h3⟩=>by
 refine wpAny_Call_Name_kw (DA I hg hm (by first | rfl | decide +kernel) ?_ wE wE)
 refine PyProof.Rows.callWith_type1 ?_ (by rw [hs]; rfl) rfl
 rw [hs]
 show wpAny _ _ (spliced ((false,_)::backTo pos [])) _ _ s
 refine Calls.spliced_cons (Ao (P8 ha hd hbase hline I h1 h2) λu s1 ⟨v,q,us,vs,ep,H1,G1,eu,I1,e1,sa1,is1,hl,rel,hz,vw,at_⟩=>Calls.spliced_nil ?_)
 subst eu
 have hlen:vs.length=(ks.zip us).length:=rel.length.symm
 refine kdl_call (kdl_values (knd:=Ba X.prog X.w)) (I.ok.hd hc) ⟨vw,at_⟩ (by rw [hlen]; exact hz) λh' tk acc c' kp own it=>?_
 have ev:acc.toList=vs.map (·.2):=kdl_vals_eq _ (by rw [Array.length_toList]; exact it.1) λj v e=>it.2 j v (by rw [<- Array.getElem?_toList]; exact e)
 have fr:H1 s1.heap.objs.size=none:=I1.hok.fresh (Nat.le_refl _)
 obtain ⟨e3,s3⟩:=sa1.laid (o:=.lst us) fr
 have vv:Aq us acc.toList:=by rw [ev]; exact JB rel hl
 refine ⟨.ref s1.heap.objs.size,An H1 s1.heap.objs.size (.lst us),I1.laid (t':=tk) (λb o e=>kp b o e) (Nat.le_refl _) ⟨by rw [vv.length,ev,List.length_map,hlen]; exact hz,acc.toList,c',vv,by rw [Array.toArray_toList]; exact own⟩,rfl,h3 _ _ _ (e1.trans e3) s3 (.lst AJ (is1.ext e3))⟩
end
def Cd (x y:Str):Bool:=decide (x.cps.toList<y.cps.toList)
theorem NL {x y:Str} (h:x.cps.toList=y.cps.toList):x=y:=by
 cases x; cases y
 have:=Array.toList_inj.mp h
 cases this
 rfl
theorem GR:Dm Cd:=⟨λa=>decide_eq_false (List.lt_irrefl _),λa b c h1 h2=>decide_eq_true (List.lt_trans (of_decide_eq_true h1) (of_decide_eq_true h2)),λa b h1 h2=>by
 have h1:=of_decide_eq_false h1
 have h2:=of_decide_eq_false h2
 exact NL (List.le_antisymm (List.not_lt.mp h2) (List.not_lt.mp h1))⟩
instance:Inhabited Str:=⟨⟨#[]⟩⟩
theorem QE {X:Cx}:Hs X Cd D.str:=λA G H pins σ s s' O ps vs its I sa is va h2 up=>by
 have e1:=is.length
 have e2:=va.length
 rw [List.length_map] at e1
 have at':∀ i,i<ps.length->∃ t,its.getD i Value.none=.str (ps.getD i default) t:=λi hi=>by
  obtain ⟨v,hv,iv⟩:=is.get (i:=i) (d:=.str ps[i]) (by simp [hi])
  obtain ⟨u,hu,ru⟩:=va.get hv
  cases iv
  obtain ⟨t,rfl⟩:=ru
  exact ⟨t,by rw [List.getD_eq_getElem?_getD,hu,ID hi]; rfl⟩
 refine ⟨oneType',λE Q hq=>kas_kind (T:=.type "str") wF (λv hv=>?_) wE wE hq,λi j C hi hj hC=>?_⟩
 ·obtain ⟨i,hi,rfl⟩:=List.mem_iff_getElem.mp hv
  obtain ⟨t,e⟩:=at' i wF
  rw [ID hi] at e
  rw [e]
  exact .now
 ·obtain ⟨t,ei⟩:=at' i wF
  obtain ⟨u,ej⟩:=at' j wF
  rw [ei,ej,keyLt'_oneType]
  refine oneLt_str ?_
  have:=KW GR.irr GR.tr GR.tot (Ja (show i<ps.length by omega) default) (Ja (show j<ps.length by omega) default)
  rw [this] at hC
  exact hC
section
variable {X:Cx} {ρ:Am} {O:Ad} {e:Expr} {pos p:Pos} {da:D} {ps:List Str} {xs:List D}
theorem Iw {K:PySem.W.Frag} {G:Wd}:∀ {ps:List Str},Aj K G (ps.map D.str) (ps.map V.str)
 | []=>.nil
 | x::ps=>.cons (.str x) Iw
theorem Qb (ha:Ac X ρ O e da) (hd:DV O da (ps.map Sum.inr) xs) (h64:ps.length<64) (hm:X.mg "sorted" = none) (hc:X.calm=true:=by rfl) (hg:Gl X "sorted" := by rfl) (hs:starEach [e] X.env=[(false,eval e X.env)]:=by rfl) :
  Ac X ρ O (.Call (.Name "sorted" p) [e] [] pos) (.lst ((Bh Cd ps).map D.str)):=λG pins s σ H Q I ⟨h1,h2,h3⟩=>by
 refine wpAny_Call_Name_kw (DA I hg hm boot_sorted ?_)
 refine PyProof.Rows.callWith_builtin1 ?_ (by rw [hs]; rfl) rfl
 rw [hs]
 show wpAny _ _ (spliced ((false,eval e X.env)::backTo pos [])) _ _ s
 refine Calls.spliced_cons (Ao (ha G pins s σ H (λv H1=>∃ G1,Ag G G1/\SA X.K G1 H1 O/\Is X.K G1 da v) I ⟨h1,h2,λv G' H' q1 q2 q3=>⟨G',q1,q2,q3⟩⟩) λu s1 ⟨v,H1,I1,r1,G1,e1,sa1,i1⟩=>Calls.spliced_nil ?_)
 obtain ⟨q,us,rfl,g1,g2,g3⟩:=hd.rd sa1 i1
 cases r1
 obtain ⟨hz,hq,vs,rel,dd⟩:=C1 I1.hok g1
 obtain ⟨ep,at_⟩:=dd.dictAt
 have hlen:vs.length=((ps.map Sum.inr).zip us).length:=rel.length.symm
 refine MK (QA (kdl_dict (knd:=Ba X.prog X.w) hq) (I1.ok.hd hc) at_ (by rw [hlen]; exact hz) λh' tk acc kp it=>?_)
 have vv:Aq (ps.map V.str) acc.toList:=by
  have:=Mj (P:=X.prog) (w:=X.w) rel g2 (by rw [Array.length_toList]; exact it.1) λi v e=>it.2 i v (by rw [<- Array.getElem?_toList]; exact e)
  rw [List.map_map] at this
  exact this
 exact JQ GR QE (I1.kept kp) sa1 Iw vv h64 λv G'' H'' q1 q2 q3=>h3 v G'' H'' (e1.trans q1) q2 q3
end
def Xc (x:Str):Value->Bool
 | .str y _=>y.cps.toList==x.cps.toList
 | _=>false
def Ug:V->List V->Hp->VK->Prop:=λv vs H Q=>∃ (l:Addr) (ps:List Str) (x:Str),v=.ref l/\vs=[.str x]/\H l=some (.lst (ps.map V.str))/\x∈ps/\Q .non (An H l (.lst ((ps.eraseIdx (ps.idxOf x)).map V.str)))
theorem Mu {α β:Type} (f:α->β):∀ (l:List α) (k:Nat),(l.map f).eraseIdx k=(l.eraseIdx k).map f
 | [],_=>rfl
 | _::_,0=>rfl
 | a::l,k+1=>by
  show f a::(l.map f).eraseIdx k=f a::(l.eraseIdx k).map f
  rw [Mu f l k]
theorem Xl {ps:List Str} {x:Str} {m:Nat} (h:m<ps.idxOf x) (hm:m<ps.length):ps[m]≠x:=λe=>by
 have:=List.not_of_lt_findIdx (p:=λy=>y==x) (xs:=ps) h
 rw [e] at this
 simp at this
theorem Wr {X:Cx}:MtM X "list.remove" Ug:=by
 intro pins s σ H x vs v us Q I rx rv h
 obtain ⟨l,ps,x,rfl,rfl,hH,hx,q⟩:=h
 cases rx
 obtain ⟨u,rfl,ru⟩:=rv.one
 obtain ⟨t,rfl⟩:=ru
 obtain ⟨z,its,n,r,hl,e⟩:=I.lstM hH
 rw [List.length_map] at z hl
 have at':∀ i (hi:i<its.length),∃ t,its[i]=.str (ps[i]'wF) t:=λi hi=>by
  obtain ⟨w,hw,rw'⟩:=r.get (i:=i) (x:=.str (ps[i]'wF)) (by rw [List.getElem?_map,List.getElem?_eq_getElem wF]; rfl)
  obtain ⟨t,rfl⟩:=rw'
  exact ⟨t,Option.some.inj ((List.getElem?_eq_getElem hi).symm.trans hw)⟩
 have hj:=List.idxOf_lt_length_of_mem hx
 refine call_meets F.slot_list_remove ⟨_,e,rfl⟩ F.entry_list_remove (F.args_list_remove_2 _ _) (MeetsSeq.list_remove l its.toArray n (.str x t) (Xc x) (λy hy=>?_) (ps.idxOf x) (by rw [List.size_toArray]; omega) ?_ (λm hm hlt=>?_) (by rw [List.size_toArray]; omega)) ⟨e,?_⟩
 ·obtain ⟨i,hi,rfl⟩:=List.mem_iff_getElem.mp (List.mem_toArray.mp hy)
  obtain ⟨t',e'⟩:=at' i hi
  rw [e']
  exact SeqRoads2.EqGives.str _ _ _ _
 ·rw [List.getElem_toArray]
  obtain ⟨t',e'⟩:=at' (ps.idxOf x) wF
  rw [e']
  rw [List.getElem_idxOf hj]
  exact beq_self_eq_true _
 ·rw [List.size_toArray] at hm
  rw [List.getElem_toArray]
  obtain ⟨t',e'⟩:=at' m hm
  rw [e']
  exact beq_eq_false_iff_ne.mpr λz=>Xl hlt wF (NL z)
 ·refine ⟨.non,_,I.lset (its':=its.eraseIdx (ps.idxOf x)) hH e ?_ (by rw [<- Mu]; exact r.eraseIdx _) ?_,rfl,q⟩
  ·show its.toArray.eraseIdxIfInBounds _=_
   rw [List.eraseIdxIfInBounds_toArray]
  ·rw [List.length_map]
   exact Nat.le_trans (List.length_eraseIdx_le _ _) z
theorem Pu {K:PySem.W.Frag} {G:Wd}:∀ {ps:List Str} {vs:List V},Aj K G (ps.map D.str) vs->vs=ps.map V.str
 | [],_,.nil=>rfl
 | x::ps,_,.cons h r=>by cases h; rw [Pu r]; rfl
section
variable {X:Cx} {ρ:Am} {O:Ad} {a e:Expr} {pos apos cpos:Pos} {q:Nat} {ps:List Str} {x:Str} {P:A2} {ks:List Ak} {xs:List D}
theorem RC (ho:Ac X ρ O a (.ptr q)) (hq:O[q]?=some (some (.lst (ps.map D.str)))) (he:Ac X ρ O e (.str x)) (hx:x∈ps) (h:P.nx ρ (O.set q (some (.lst ((ps.eraseIdx (ps.idxOf x)).map D.str)))))
  (hbase:attributeBase a ("remove" : Str) X.env (eval a X.env)=eval a X.env:=by rfl) (hline:(apos.endLine==cpos.line)=true:=by rfl) (hst:starEach [e] X.env=[(false,eval e X.env)]:=by rfl)
  (hsw:swapsWith (.Call (.Attribute a ("remove" : Str) apos) [e] [] cpos) none pos.line X.env=pure false:=by rfl):Ex X ρ O (.Expr (.Call (.Attribute a ("remove" : Str) apos) [e] [] cpos) pos) P:=λG=>
 PS.imp (FT (FV PySem.F.plainAttrs_list PySem.F.slot_list_remove PySem.F.type_list_remove Wr (ho G)
  (Dx (te:=λσ H Q=>∃ G1,SA X.K G1 H O/\Ar X.K G1 σ ρ/\∀ v G' H',Ag G1 G'->SA X.K G' H' O->Is X.K G' (.str x) v->Q v H') (λpins s σ H Q I ⟨G1,q⟩=>he G1 pins s σ H Q I q) Ez hst) hbase
  (by rw [hst]; rfl) hline hst (by rfl)) hsw) λE σ H ⟨q1,q2,q3⟩=>⟨q1,q2,λv G1 H1 e1 s1 i1=>by
   cases i1 with
   | ptr _ ha=>
   obtain ⟨a1,g0,g1,vs,g2,g3⟩:=s1.mt q _ hq
   obtain rfl:=Option.some.inj (ha.symm.trans g0)
   refine ⟨.inl ⟨rfl,vs,A0.of g2⟩,G1,s1,q2.ext e1,λw G2 H2 e2 s2 i2=>?_⟩
   obtain ⟨a2,g7,g4,us,g5,g6⟩:=s2.mt q _ hq
   obtain rfl:=Option.some.inj ((e2.at g0).symm.trans g7)
   cases i2
   obtain rfl:=Pu g6
   refine ⟨_,ps,x,rfl,rfl,g5,hx,?_⟩
   exact q3.nx σ ρ _ G2 _ (e1.trans e2) (s2.put (m':=.lst _) hq g7 ⟨_,AJ,Iw⟩) (q2.ext (e1.trans e2)) h⟩
end
section
variable {X:Cx} {ρ:Am} {O:Ad} {value o:Expr} {pos pos':Pos} {q:Nat} {C:Addr} {fs:List (Str×D)} {f:Str} {P:A2}
theorem RF (hv:Ev X ρ O value λd O'=>Ac X ρ O' o (.ptr q)/\O'[q]?=some (some (.ins C fs))/\P.nx ρ (O'.set q (some (.ins C (BN f d fs))))) (c:CF X.K C) (n:B8 X.K C f) (hz:fs.length<1000) (hs:swapsWith value (some (.Attribute o f pos')) pos.line X.env=pure false:=by rfl) :
  Ex X ρ O (.Assign [.Attribute o f pos'] value pos) P:=λG pins s σ H E I ⟨h1,h2,h3⟩=>by
 refine plainObj_wpAny_Assign_Attribute (Ao (hv G pins s σ H (λv H1=>∃ d O1 G1,Ag G G1/\SA X.K G1 H1 O1/\Is X.K G1 d v/\Ac X ρ O1 o (.ptr q)/\O1[q]?=some (some (.ins C fs))/\P.nx ρ (O1.set q (some (.ins C (BN f d fs))))) I ⟨h1,h2,λv d O' G' H' e s i r=>⟨d,O',G',e,s,i,r⟩⟩) λu s1 ⟨y,H1,I1,ry,d,O1,G1,e1,sa1,i1,ho,hq,h⟩=>
  Ao (ho G1 pins s1 σ H1 (λv H2=>∃ G2,Ag G1 G2/\SA X.K G2 H2 O1/\Is X.K G2 (.ptr q) v) I1 ⟨sa1,h2.ext e1,λv G' H' e s i=>⟨G',e,s,i⟩⟩) λov s2 ⟨x,H2,I2,rx,G2,e2,sa2,i2⟩=>?_) hs
 obtain ⟨a,dx,vs,rfl,g1,g2,g3⟩:=sa2.ins i2 hq
 obtain rfl:ov=Value.ref a:=rx
 refine Oi I2 g2 c n (by rw [<- g3.len]; exact hz) ry λs3 I3=>⟨σ,_,I3,?_⟩
 exact h3.nx σ ρ _ G2 _ (e1.trans e2) (sa2.put (m':=.ins C (BN f d fs)) hq g1 ⟨dx,_,AJ,g3.put (i1.ext e2)⟩) (h2.ext (e1.trans e2)) h
end
section
variable {X:Cx} {ρ:Am} {O:Ad} {e:Expr} {qs:List Str} {xs:List D}
theorem Qp {tg:Expr} (h:Ac X ρ O e (.dct (qs.map Sum.inr) xs)):Cn X ρ O tg e (qs.map D.str):=by
 have:=YB (tg:=tg) h
 rw [List.map_map] at this
 exact this
end
def BJ {α:Type} (ps:List Str) (ws:List α) (x:Str):Option α:=Bf (ps.map Sum.inr) ws (.inr x)
theorem Fs {α:Type} (p:Str) (ps:List Str) (w:α) (ws:List α) (x:Str):BJ (p::ps) (w::ws) x=if p=x then some w else BJ ps ws x:=by
 unfold BJ Bf
 by_cases e:p=x
 ·simp [List.find?_cons,e]
 ·have:¬ (Sum.inr p:Ak)=Sum.inr x:=λz=>e (Sum.inr.inj z)
  simp [List.find?_cons,e]
theorem MY {α β:Type} (f:α->β):∀ (ps:List Str) (ws:List α) (x:Str),BJ ps (ws.map f) x=(BJ ps ws x).map f
 | [],_,_=>rfl
 | _::_,[],_=>rfl
 | p::ps,w::ws,x=>by
  rw [List.map_cons,Fs,Fs,MY f ps ws x]
  split <;> rfl
theorem DB {α:Type}:∀ {ps:List Str} {ws:List α} {x:Str},ps.length=ws.length->x∈ps->∃ w,BJ ps ws x=some w/\w∈ws
 | p::ps,w::ws,x,hl,hx=>by
  rw [Fs]
  by_cases e:p=x
  ·rw [if_pos e]; exact ⟨w,rfl,List.mem_cons_self⟩
  ·rw [if_neg e]
   rcases List.mem_cons.mp hx with h | h
   ·exact absurd h.symm e
   ·obtain ⟨v,h1,h2⟩:=DB (ws:=ws) (by simpa using hl) h
    exact ⟨v,h1,List.mem_cons_of_mem _ h2⟩
 | [],_,_,_,hx=>by cases hx
theorem Gg {α:Type}:∀ {ps:List Str} {ws:List α} {x:Str},x∉ps->BJ ps ws x=none
 | [],_,_,_=>rfl
 | _::_,[],_,_=>rfl
 | p::ps,w::ws,x,h=>by
  have e:¬ p=x:=λe=>h (by rw [e]; exact List.mem_cons_self)
  rw [Fs,if_neg e]
  exact Gg λz=>h (List.mem_cons_of_mem _ z)
theorem Xt {ps:List Str} {x:Str}:EE (ps.map Sum.inr) (.inr x)=decide (x∈ps):=by
 induction ps with
 | nil=>simp [EE]
 | cons p ps ih=>
  unfold EE at ih ⊢
  rw [List.map_cons,List.any_cons,ih]
  by_cases e:p=x
  ·subst e; simp
  ·have:¬ (Sum.inr p:Ak)=Sum.inr x:=λz=>e (Sum.inr.inj z)
   rw [decide_eq_false this,Bool.false_or]
   simp [Ne.symm e]
theorem HX {α:Type} {ps:List Str} {ws:List α} {x:Str} {w:α} (h:x∉ps):Fc (ps.map Sum.inr) (.inr x)=(ps++[x]).map Sum.inr/\DN (ps.map Sum.inr) ws (.inr x) w=ws++[w]:=by
 unfold Fc DN
 rw [Xt,decide_eq_false h,if_neg Bool.false_ne_true,if_neg Bool.false_ne_true,List.map_append]
 exact ⟨rfl,rfl⟩
section
variable {X:Cx} {ρ:Am} {O:Ad}
theorem P9 {es:List Expr} {R:D->Ad->Prop} {x1:Nat} {pos:Pos} (h:FA X ρ O es λds O'=>ds.length<=sizeLine/\R (.tup ds) O'):Ev X ρ O (.Tuple es x1 pos) R:=λG=>
 PE.imp (OO (h G)) λσ H Q ⟨h1,h2,h3⟩=>⟨h1,h2,λvs ds O1 G1 H1 e1 s1 i1 r1=>⟨by rw [<- i1.length]; exact r1.1,λp hp=>by
  obtain ⟨e2,s2⟩:=s1.laid (o:=.tup vs) hp
  exact h3 _ _ _ _ _ (e1.trans e2) s2 (.tup (Bm.of AJ) (i1.ext e2)) r1.2⟩⟩
end
section
variable {X:Cx} {ρ:Am} {O:Ad} {a:Expr} {pos apos cpos:Pos} {q:Nat} {ks:List Ak} {xs:List D} {P:A2}
end
end DL
namespace L2
open PySem PySem.Spec PyProof.Rows
end L2
namespace DL
open PySem PySem.Spec PyProof.Rows L2
end DL
namespace DL
open PySem PySem.Spec PyProof.Rows L2 PySem.W
section
variable {X:Cx} {O:Ad} {da db ea:D} {k:Nat} {xs:List D}
theorem QD (hr:AR k X.A) (ha:RD O da ea) (pa:B0 ea=true) (px:Cu xs=true) (hd:min (D0 xs) (El ea)<=60) (hb:RD O db (.lst xs)):AX X O (compareOp .In) da db (.bl (xs.any λy=>CM y ea)):=λG pins s σ H x y v u Q I rx ry ⟨h1,h2,h3,h4⟩=>by
 obtain ⟨as,ra⟩:=ha.reads I h1 h2 rx pa
 obtain ⟨bs,rb⟩:=hb.reads I h1 h3 ry px
 have hu:=hr.units
 refine PySem.SeqAt.in_list_reads (xs:=CG xs) rb ra (FU _ px) (GQ _ pa) (by rw [Hh,Ga]; omega) ?_
 rw [M2]
 exact ⟨.bl _,H,I,rfl,h4 _ G H (Ag.refl _) h1 (.bl _)⟩
end
section
variable {X:Cx} {ρ:Am} {O:Ad} {a e:Expr} {pos apos cpos:Pos} {q:Nat} {xs:List D} {P:A2}
theorem RH (ho:Ac X ρ O a (.ptr q)) (he:Ev X ρ O e λd O'=>O'[q]?=some (some (.lst xs))/\P.nx ρ (O'.set q (some (.lst (xs++[d]))))) (hq:O[q]?=some (some (.lst xs))) (hz:xs.length<sizeLine)
  (hbase:attributeBase a ("append" : Str) X.env (eval a X.env)=eval a X.env:=by rfl) (hline:(apos.endLine==cpos.line)=true:=by rfl) (hst:starEach [e] X.env=[(false,eval e X.env)]:=by rfl)
  (hsw:swapsWith (.Call (.Attribute a ("append" : Str) apos) [e] [] cpos) none pos.line X.env=pure false:=by rfl):Ex X ρ O (.Expr (.Call (.Attribute a ("append" : Str) apos) [e] [] cpos) pos) P:=λG=>
 PS.imp (FT (FV PySem.F.plainAttrs_list PySem.F.slot_list_append PySem.F.type_list_append Pd (ho G)
  (Dx (te:=λσ H Q=>∃ G1,SA X.K G1 H O/\Ar X.K G1 σ ρ/\∀ v d O' G' H',Ag G1 G'->SA X.K G' H' O'->Is X.K G' d v->(O'[q]?=some (some (.lst xs))/\P.nx ρ (O'.set q (some (.lst (xs++[d])))))->Q v H') (λpins s σ H Q I ⟨G1,q⟩=>he G1 pins s σ H Q I q) Ez hst) hbase
  (by rw [hst]; rfl) hline hst (by rfl)) hsw) λE σ H ⟨q1,q2,q3⟩=>⟨q1,q2,λv G1 H1 e1 s1 i1=>by
   cases i1 with
   | ptr _ ha=>
   obtain ⟨a1,g0,g1,vs,g2,g3⟩:=s1.mt q _ hq
   obtain rfl:=Option.some.inj (ha.symm.trans g0)
   refine ⟨.inl ⟨rfl,vs,A0.of g2⟩,G1,s1,q2.ext e1,λw d O' G2 H2 e2 s2 i2 ⟨hq2,h⟩=>?_⟩
   obtain ⟨a2,g7,g4,us,g5,g6⟩:=s2.mt q _ hq2
   obtain rfl:=Option.some.inj ((e2.at g0).symm.trans g7)
   refine ⟨_,us,w,rfl,rfl,g5,by rw [<- g6.length]; exact hz,?_⟩
   exact q3.nx σ ρ _ G2 _ (e1.trans e2) (s2.put (m':=.lst (xs++[d])) hq2 g7 ⟨_,AJ,g6.append (.cons i2 .nil)⟩) (q2.ext (e1.trans e2)) h⟩
end
section
variable {X:Cx} {ρ:Am} {O:Ad} {e a b c:Expr} {body:List Stmt} {d da db:D} {xs:List D} {ks:List Ak} {ps:List Str} {R:D->Ad->Prop} {P:A2} {pos p:Pos} {j n:Nat}
theorem Mt {op:CmpOp} {Ra:D->Ad->Prop} (ha:Ev X ρ O a Ra) (hb:∀ da O1,Ra da O1->Ev X ρ O1 b λdb O2=>∃ d,AX X O2 (compareOp op) da db d/\R d O2) (hm:behindInMarks op b=false:=by first | exact Lg _ | (with_unfolding_all rfl)) :
  Ev X ρ O (.Compare a [op] [b] pos) R:=λG pins s σ H Q I ⟨h1,h2,h3⟩=>by
 refine wpAny_Compare1 (Ao (ha G pins s σ H _ I ⟨h1,h2,λv da O1 G1 H1 e1 s1 i1 r1=>(⟨G1,da,O1,e1,s1,i1,r1⟩:∃ G1 da O1,Ag G G1/\SA X.K G1 H1 O1/\Is X.K G1 da v/\Ra da O1)⟩) λv s1 ⟨x,H1,I1,r1,G1,da,O1,e1,sa1,i1,ra⟩=>?_) hm
 refine Ao (hb da O1 ra G1 pins s1 σ H1 _ I1 ⟨sa1,h2.ext e1,λu db O2 G2 H2 e2 s2 i2 r2=>(⟨G2,db,O2,e2,s2,i2,r2⟩:∃ G2 db O2,Ag G1 G2/\SA X.K G2 H2 O2/\Is X.K G2 db u/\∃ d,AX X O2 (compareOp op) da db d/\R d O2)⟩) λu s2 ⟨y,H2,I2,r2,G2,db,O2,e2,sa2,i2,d,ho,hR⟩=>?_
 exact ho G2 pins s2 σ H2 x y v u Q I2 r1 r2 ⟨sa2,i1.ext e2,i2,λw G3 H3 e3 s3 i3=>h3 w d O2 G3 H3 ((e1.trans e2).trans e3) s3 i3 hR⟩
end
def DW (O:Ad) (d:D) (ks:List Ak) (xs:List D):Prop:=DV O d ks xs\/∃ n ob vs,d=.ptr n/\O[n]?=some (some (.pin ob vs ks xs))
theorem DW.rd {K:PySem.W.Frag} {G:Wd} {H:Hp} {O:Ad} {d:D} {v:V} {ks:List Ak} {xs:List D} (h:DW O d ks xs) (s:SA K G H O) (i:Is K G d v):∃ p vs,v=.ref p/\Rd H p (.dK (ks.zip vs))/\ks.length=vs.length/\Aj K G xs vs:=by
 rcases h with h | ⟨n,ob,vs,rfl,h⟩
 ·exact h.rd s i
 ·cases i with
  | ptr _ ha=>
   obtain ⟨a,g0,_,g1,g2,g3⟩:=s.mt n _ h
   cases Option.some.inj (ha.symm.trans g0)
   exact ⟨_,vs,rfl,.inr ⟨_,g1⟩,g2,g3⟩
section
variable {X:Cx} {ρ:Am} {O:Ad} {e a b c iter tg:Expr} {st:Stmt} {body AK:List Stmt} {d da db:D} {xs:List D} {ks:List Ak} {k:Ak} {ob:Obj} {vs:List V} {ps:List Str} {R:D->Ad->Prop} {P:A2} {pos p:Pos} {j n:Nat}
end
theorem Q1 {α:Type}:∀ {ks:List Ak} {xs:List α} {i:Nat} {k:Ak} {x:α},ks.Nodup->ks[i]?=some k->xs[i]?=some x->Bf ks xs k=some x
 | [],_,_,_,_,_,h,_=>by simp at h
 | _::_,[],_,_,_,_,_,h=>by simp at h
 | a::ks,y::xs,0,k,x,nd,h1,h2=>by
  cases h1
  cases h2
  unfold Bf
  simp [List.find?_cons]
 | a::ks,y::xs,i+1,k,x,nd,h1,h2=>by
  rw [List.getElem?_cons_succ] at h1 h2
  have ne:¬ a=k:=λe=>(List.nodup_cons.mp nd).1 (e ▸ List.mem_of_getElem? h1)
  have e1:Bf (a::ks) (y::xs) k=Bf ks xs k:=by unfold Bf; simp [List.find?_cons,ne]
  rw [e1]
  exact Q1 (List.nodup_cons.mp nd).2 h1 h2
theorem Pz {A:Around} {s:Shared} {kb:List (Ak×Value)}:∀ {ka:List (Ak×Value)},(∀ p∈ka,∃ y,valueAt kb p.1=some y/\SeqAt.EqAt A s p.2 y true)->KeqHits A s kb ka true
 | [],_=>.nil
 | (k,v)::r,h=>by
  obtain ⟨y,h1,h2⟩:=h (k,v) List.mem_cons_self
  exact KeqHits.hit (e:=true) (b:=true) h1 h2 (Pz λp hp=>h p (List.mem_cons_of_mem _ hp))
section
variable {X:Cx} {O:Ad} {da db:D} {ks:List Ak} {ns:List Int} {j:Nat}
theorem YL {pins:List (Addr×Obj)} {σ:L2.St} {H:Hp} {s:Shared} {G:Wd} {x y:V} {v u:Value} (hd:DW O da ks (ns.map D.int)) (hb:DW O db ks (ns.map D.int)) (nd:ks.Nodup) (I:L2.Inv X pins σ H s) (sa:SA X.K G H O) (ia:Is X.K G da x) (ib:Is X.K G db y) (rx:Aw x v) (ry:Aw y u) :
  ∃ a b ka kb,v=.ref a/\u=.ref b/\(a==sysModules)=false/\(b==sysModules)=false/\s.heap.DictOf (Ba X.prog X.w) a ka/\s.heap.DictOf (Ba X.prog X.w) b kb/\ka.length=kb.length/\∀ A,KeqHits A s kb ka true:=by
 obtain ⟨p,vs,rfl,g1,g2,g3⟩:=hd.rd sa ia
 obtain ⟨q,us,rfl,k1,k2,k3⟩:=hb.rd sa ib
 cases rx
 cases ry
 obtain ⟨_,z1,wa,ra,d1⟩:=C1 I.hok g1
 obtain ⟨_,z2,wb,rb,d2⟩:=C1 I.hok k1
 refine ⟨p,q,wa,wb,rfl,rfl,z1,z2,d1,d2,by rw [<- ra.length,<- rb.length,List.length_zip,List.length_zip]; omega,λA=>Pz λe he=>?_⟩
 obtain ⟨i,hi⟩:=List.mem_iff_getElem?.mp he
 have hlt:i<(ks.zip vs).length:=by rw [ra.length]; exact (List.getElem?_eq_some_iff.mp hi).1
 have hlk:i<ks.length:=by rw [List.length_zip] at hlt; omega
 have hlv:i<vs.length:=by omega
 obtain ⟨u1,hu1,r1⟩:=Mh ra (i:=i) (k:=ks[i]) (v:=vs[i]) (by rw [List.getElem?_eq_getElem hlt,List.getElem_zip])
 rw [hi] at hu1
 cases Option.some.inj hu1
 obtain ⟨d,hd1,hd2⟩:=g3.getV (i:=i) (v:=vs[i]) (List.getElem?_eq_getElem hlv)
 rw [List.getElem?_map] at hd1
 obtain ⟨m,hm,rfl⟩:=Option.map_eq_some_iff.mp hd1
 have hat:=Q1 (xs:=ns.map D.int) nd (List.getElem?_eq_getElem hlk) (by rw [List.getElem?_map,hm]; rfl)
 obtain ⟨v2,hv2,i2⟩:=(Gh (k:=ks[i]) (ks:=ks) k3).1 _ hat
 obtain ⟨w2,hw2,r2⟩:=BX.some_of (v:=v2) (o:=valueAt wb ks[i]) (by rw [<- hv2]; exact rb.val _)
 generalize vs[i]=vv at hd2 r1
 cases hd2
 cases i2
 obtain ⟨t1,rfl⟩:=r1
 obtain ⟨t2,rfl⟩:=r2
 have:=SeqAt.EqAt.int_int (A:=A) (s:=s) m t1 m t2
 rw [beq_self_eq_true] at this
 exact ⟨_,hw2,this⟩
end
section
variable {X:Cx} {ρ:Am} {O:Ad} {a:Expr} {da:D} {xs:List D} {ks:List Ak} {pos:Pos}
end
mutual
def ndD:D->Bool
 | .dct _ _=>false
 | .tup xs=>Ii xs
 | .lst xs=>Ii xs
 | .scr xs=>Ii xs
 | .non=>true | .bl _=>true | .int _=>true | .str _=>true | .ptr _=>true | .ty _=>true | .fn _=>true
def Ii:List D->Bool
 | []=>true
 | x::xs=>ndD x&&Ii xs
end
section
variable {K:PySem.W.Frag} {G:Wd} {p:Addr} {ob:Obj} {kvs:List (Ak×V)}
end
section
variable {X:Cx} {ρ:Am} {O:Ad} {e a b:Expr} {d d0:D} {xs:List D} {ks:List Ak} {k:Ak} {R:D->Ad->Prop} {pos:Pos} {n:Nat}
end
section
variable {X:Cx} {ρ:Am} {O:Ad} {a b:Expr} {d da db:D} {ks:List Ak} {k:Ak} {ns:List Int} {R:D->Ad->Prop} {pos:Pos} {j:Nat}
end
section
variable {X:Cx} {ρ:Am} {O:Ad} {e a b:Expr} {d:D} {xs:List D} {ks:List Ak} {R:D->Ad->Prop} {RT:Bool->Ad->Prop} {pos:Pos} {n:Nat}
end
end DL
namespace L2
open PySem PySem.Spec PyProof.Rows
section
variable {M:Model} {A:Around} {E:Value->Shared->Prop} {s:Shared} {B:Heap} {l:List Env} {a:Addr} {cls a0:Value}
end
section
variable {CX:CS} {P:Program} {w:World} {K:PySem.W.Frag} {mg:Str->Option Value} {base:Heap} {N:List Str} {qual:Str} {scope:Scope} {f:Addr} {cd:Value} {A:Around} {outer:List Env} {s:Shared} {H:Hp} {E:XK}
end
end L2
namespace DL
open PySem PySem.Spec PyProof.Rows L2
section
variable {X:Cx} {N:List Str} {scope:Scope} {s2 s9 s10:Shared} {H2 H9 H':Hp} {fp:List Addr} {F:Value->Shared->Prop} {pins pinsY:List (Addr×Obj)} {σ σ9:L2.St} {a C:Addr} {od:Option Addr} {B:Heap} {Q:Value->Shared->Prop} {acc:Value}
end
section
variable {X:Cx} {ρ:Am} {O:Ad} {elt tg iter:Expr} {scope:Scope} {pos:Pos} {xs zs:List D} {RX:XC}
end
section
variable {X:Cx} {ρ:Am} {O:Ad} {e c elt tg iter:Expr} {scope:Scope} {pos p:Pos} {xs:List D} {RX:XC} {st:Stmt} {AK body orelse:List Stmt} {P:A2} {R:D->Ad->Prop}
end
section
variable {P:Program} {w:World} {K:PySem.W.Frag} {mg:Str->Option Value} {base:Heap}
end
section
variable {prog:Program} {w:World} {A:Around} {E:Value->Shared->Prop} {s:Shared}
end
section
variable {X:Cx} {O:Ad} {d:D} {q:Nat} {C ah:Addr} {fs:List (Str×D)}
end
end DL
namespace L2
open PySem PySem.Spec PyProof.Rows
def Bp (x:Str) (n:Int):Str:=⟨(List.replicate n.toNat x.cps).foldl (·++·) #[]⟩
theorem GM {x:Str} (hx:x.length=1) (n:Int):(Bp x n).length=n.toNat:=by
 show ((List.replicate n.toNat x.cps).foldl (·++·) #[]).size=_
 rw [PP]
 have:x.cps.size=1:=hx
 rw [this]
 simp
theorem PQ {α:Type} (a:Array α) (c:α):∀ (k:Nat) (acc:Array α),c∈((List.replicate k a).foldl (·++·) acc).toList->c∈acc.toList\/c∈a.toList
 | 0,acc,h=>.inl h
 | k+1,acc,h=>by
  rw [List.replicate_succ,List.foldl_cons] at h
  rcases PQ a c k _ h with h | h
  ·rw [Array.toList_append] at h
   exact List.mem_append.mp h
  ·exact .inr h
theorem Ou {x:Str} {n:Int} {c:Nat} (h:c∈(Bp x n).cps.toList):c∈x.cps.toList:=(PQ x.cps c n.toNat #[] h).resolve_left (by simp)
theorem U6 {X:Cx}:BL X (binaryOp .Mult) (λv y H Q=>∃ (x:Str) (n:Int),v=.str x/\y=.int n/\x.length=1/\(2<=n/\n<=10000)/\Q (.str (Bp x n)) H):=by
 intro pins s σ H x y v u Q I rx ry ⟨x',n,ex,ey,hl,hn,q⟩
 subst ex ey
 obtain ⟨t,rfl⟩:=(show ∃ t,v=Value.str x' t from rx)
 obtain ⟨t',rfl⟩:=(show ∃ t',u=Value.int n t' from ry)
 refine P.mul_str (by rw [decide_eq_false wF,decide_eq_false wF]; rfl) (λ_ _=>?_) (λ_ _=>?_) ?_
 ·rw [hl]
  have h:(1:Int)<=(2 ^ 63-1)/n:=(Int.le_ediv_iff_mul_le wF).mpr wF
  omega
 ·rw [hl]
  exact decide_eq_false (by rw [sizeLine_eq]; omega)
 ·rw [if_neg wF]
  rw [if_neg (by rw [hl]; simp; omega)]
  refine ⟨?_,⟨.str _,H,I.tok _,⟨_,rfl⟩,q⟩⟩
  have:=GM hl n
  show (Bp x' n).length<=_
  rw [this,sizeLine_eq]
  omega
end L2
namespace DL
open PySem PySem.Spec PyProof.Rows L2
theorem GV {X:Cx} {O:Ad} {x:Str} {n:Int} (hl:x.length=1) (hn:2<=n/\n<=10000):AX X O (binaryOp .Mult) (.str x) (.int n) (.str (Bp x n)):=.of U6 λG v u H Q s h1 h2 k=>by
 cases h1; cases h2
 exact ⟨x,n,rfl,rfl,hl,hn,k _ G H (Ag.refl _) s (.str _)⟩
section
variable {X:Cx} {ρ:Am} {O:Ad} {a b a2 b2:Expr} {d d2:D} {k k2:Ak} {R:D->Ad->Prop} {pos:Pos}
end
end DL
namespace DL
open PySem PySem.Spec PyProof.Rows L2 PySem.W
section
open PySem.AutoSeq1 (wpAny_loadPart')
open PySem.SeqAt PySem.MeetsSeq PySem.MeetsSeq2 PySem.MeetsSeq3 PySem.SeqRoads2
end
theorem R3 {prog:Program} {w:World} {A:Around} {E:Value->Shared->Prop} {s:Shared} {Q:Value->Shared->Prop} {l b:Addr} {us vs:Array Value} (hl:s.heap.IsTuple l us) (hb:s.heap.IsTuple b vs) (hz:us.size=vs.size) (hu:A.units<cLine)
  (he:∀ p∈us.toList.zip vs.toList,∀ (E:Value->Shared->Prop) (Q:Bool->Shared->Prop),Q true s->wpAny (model prog w) A.in1 (eqBool p.1 p.2) Q E s) (h:Q (.bool true) s):wpAny (model prog w) A (compareOp .Eq (.ref l) (.ref b)) Q E s:=by
 obtain ⟨⟨c1,d1,t1,l1⟩,g1,rfl,n1,rfl⟩:=hl
 obtain ⟨⟨c2,d2,t2,l2⟩,g2,rfl,n2,rfl⟩:=hb
 refine wpAny_richCompare_same_room (op:=.Eq) ⟨_,g1,rfl⟩ ⟨_,g2,rfl⟩ PySem.F.slot_tuple_eq (wpAny_call_entry PySem.F.slot_tuple_eq ⟨_,g1,rfl⟩ PySem.F.entry_tuple_eq ?_ (PySem.F.args_tuple_eq_2 _ _)) hu
 have f2:=PySem.AutoSeq1.sub_tuple_tuple
 wp_walk using PySem.AutoSeq1.wpAny_loadPart' g1,PySem.AutoSeq1.wpAny_loadPart' g2,wpAny_forIn_list _ (λAK b s'=>b.1=none/\s'=s/\∀ p∈AK,∀ (E:Value->Shared->Prop) (Q:Bool->Shared->Prop),Q true s->wpAny (model prog w) A.in1 (eqBool p.1 p.2) Q E s) _
 case turn=>
  rintro ⟨x,y⟩ AK b s' ⟨hb,rfl,hr⟩
  refine wpAny_bind (hr (x,y) List.mem_cons_self _ _ ?_)
  wp_walk
  exact ⟨rfl,rfl,λp hp=>hr p (List.mem_cons_of_mem _ hp)⟩
 case fin=>
  rintro ⟨b1,b2⟩ s' ⟨hb,rfl,_⟩
  cases hb
  wp_walk
  refine ⟨_,rfl,(by intro z; cases z),?_⟩
  have e:Builtin.Tuple.tupleCompareSizes .Eq us.size vs.size=.bool true:=by
   show Value.bool (us.size==vs.size)=_
   rw [hz,beq_self_eq_true]
  rw [e]
  exact h
 case h=>exact ⟨rfl,rfl,he⟩
section
variable {X:Cx} {ρ:Am} {O:Ad} {da db:D} {ks:List Ak} {ns:List Int} {j:Nat} {ts:List D}
end
end DL
namespace DL
open PySem PySem.Spec PyProof.Rows L2
section
variable {X:Cx} {ρ:Am} {O:Ad} {da ea:D} {xs:List D} {k:Nat} {es:List Expr} {R:D->Ad->Prop} {pos:Pos}
end
section
variable {P:Program} {w:World} {K:PySem.W.Frag} {mg:Str->Option Value} {base:Heap} {C:Addr} {j k:Nat} {x m:Str} {sp sp':A7}
end
section
variable {X:Cx} {mk:Prop} {ρ:Am} {O:Ad} {x y:Str} {f:Addr} {p pos:Pos} {e:Expr} {es:List Expr} {ds:List D} {R:D->Ad->Prop} {RX:XC}
end
end DL
set_option maxHeartbeats 2000000
namespace DL
open PySem PySem.Spec PyProof.Rows L2 PySem.W
section
variable {prog:Program} {w:World} {A:Around} {E:Value->Shared->Prop} {s:Shared} {n l1 l2 l3 i1 i2 i3:Nat} {k1 k2 k3:Bool} {xs ys zs:Array Value} {f0 f1 a b c v:Value}
end
section
variable {prog:Program} {w:World} {A:Around} {E:Value->Shared->Prop} {s:Shared} {n l1 l2 l3 i1 i2 i3 i:Nat} {k1 k2 k3:Bool} {xs ys zs:Array Value} {f0 f1 a b c v:Value}
end
section
variable {X:Cx} {ρ:Am} {O:Ad} {a b c:Expr} {da db dc:D} {pos p:Pos} {xs ys zs:List D}
end
end DL
set_option maxHeartbeats 1000000
namespace DL
open PySem PySem.Spec PyProof.Rows L2
section
variable {X:Cx} {ρ:Am} {O:Ad} {elt tg iter:Expr} {scope:Scope} {pos:Pos} {xs zs:List D}
end
section
variable {X:Cx} {ρ:Am} {O:Ad} {e:Expr} {es:List Expr} {R:D->Ad->Prop} {x:Str} {p pos:Pos}
end
section
variable {X:Cx} {ρ:Am} {O:Ad} {pos:Pos} {R:D->Ad->Prop}
variable {α:Type} {ps:List α} {f:α->D} {tg iter elt:Expr} {scope:Scope}
end
end DL
namespace DL
open PySem PySem.Spec PyProof.Rows L2 PySem.W
section
variable {X:Cx} {ρ:Am} {O:Ad} {e:Expr} {p p2 pos pos2:Pos}
variable {R:D->Ad->Prop}
end
section
variable {X:Cx} {ρ:Am} {O:Ad} {e a b c:Expr} {body:List Stmt} {d da db:D} {xs:List D} {ks:List Ak} {ps:List Str} {R:D->Ad->Prop} {P:A2} {pos p:Pos} {j n:Nat}
end
end DL
namespace DL
open PySem PySem.Spec PyProof.Rows L2
section
variable {X:Cx} {ρ:Am} {O:Ad} {e:Expr} {es:List Expr} {R:D->Ad->Prop} {x:Str} {C:Addr} {p pos:Pos}
end
section
variable {X:Cx} {ρ:Am} {O:Ad} {e a b:Expr} {d:D} {R:D->Ad->Prop} {pos p p2:Pos} {x:Str} {q:Nat} {C C2:Addr} {fs:List (Str×D)} {k:Bool}
theorem Yj {Ra:D->Ad->Prop} (ha:Ev X ρ O a Ra) (hb:∀ da O1,Ra da O1->∃ xs i d,da=.lst xs/\Ac X ρ O1 b (.int i)/\Bg xs i=some d/\R d O1) (hs:M5 b:=by intro _ _; rfl):Ev X ρ O (.Subscript a b pos) R:=λG pins s σ H Q I ⟨h1,h2,h3⟩=>
 Subscript_ (Ge (ta:=λσ H Q=>SA X.K G H O/\Ar X.K G σ ρ/\∀ v d O' G' H',Ag G G'->SA X.K G' H' O'->Is X.K G' d v->Ra d O'->Q v H') (ha G)
  (tb:=λσ H Q=>∃ G1 O1 i,Ac X ρ O1 b (.int i)/\SA X.K G1 H O1/\Ar X.K G1 σ ρ/\∀ v G' H',Ag G1 G'->SA X.K G' H' O1->Is X.K G' (.int i) v->Q v H') (λpins s σ H Q I ⟨G1,O1,i,hb,q⟩=>hb G1 pins s σ H Q I q) I
  (R:=λx y H2=>∃ G2 O1 xs i d,Ag G G2/\SA X.K G2 H2 O1/\Is X.K G2 (.lst xs) x/\Is X.K G2 (.int i) y/\Bg xs i=some d/\R d O1)
  ⟨h1,h2,λv da O1 G1 H1 e1 s1 i1 ra=>by
   obtain ⟨xs,i,d,rfl,hbb,hi,hR⟩:=hb da O1 ra
   exact ⟨G1,O1,i,hbb,s1,h2.ext e1,λu G2 H2 e2 s2 i2=>⟨G2,O1,xs,i,d,e1.trans e2,s2,i1.ext e2,i2,hi,hR⟩⟩⟩
  λv u s2 x y H2 I2 rx ry ⟨G2,O1,xs,i,d,e2,s2',i1,i2,hi,hR⟩=>by
   obtain ⟨p,vs,rfl,q,r⟩:=(show LV O1 (.lst xs) xs from Or.inl rfl).sq s2' i1
   cases i2
   obtain ⟨w,hw,iw⟩:=Mm r hi
   exact Pq a b pins s2 σ H2 _ _ v u Q I2 rx ry ⟨p,vs,i,w,rfl,rfl,q,hw,h3 w d O1 G2 H2 e2 s2' iw hR⟩ (hs _ _))
end
def Gk (X:Cx) (mk:Prop) (ρ:Am) (O:Ad) (es:List Expr) (R:List D->Ad->Prop) (RX:XC):Prop:=
 ∀ G,PA X es (λσ H Q=>SA X.K G H O/\Ar X.K G σ ρ/\(∀ vs ds O' G' H',Ag G G'->SA X.K G' H' O'->Aj X.K G' ds vs->R ds O'->Q vs H')/\Dq X mk G RX)
section
variable {X:Cx} {mk:Prop} {ρ:Am} {O:Ad} {e o:Expr} {es:List Expr} {d:D} {ds:List D} {R:D->Ad->Prop} {RX:XC} {pos p apos:Pos} {x m:Str} {P:A2} {C:Addr} {q:Nat} {fs:List (Str×D)}
theorem BB.ax {R:List D->Ad->Prop} (h:BB X ρ O es ds) (r:R ds O):Gk X mk ρ O es R RX:=λG=>PA.imp (h G) λσ H Q ⟨h1,h2,h3,_⟩=>⟨h1,h2,λvs G' H' e1 s1 i1=>h3 vs ds O G' H' e1 s1 i1 r⟩
theorem Ej {R:List D->Ad->Prop} (he:D5 X mk ρ O e (λd O1=>Gk X mk ρ O1 es (λds O2=>R (d::ds) O2) RX) RX) (hst:starEach (e::es) X.env=(false,eval e X.env)::starEach es X.env:=by rfl):Gk X mk ρ O (e::es) R RX:=λG=>
 PA.imp (Dx (he G) (t:=λσ H Q=>∃ G1 d O1,SA X.K G1 H O1/\Ar X.K G1 σ ρ/\(Gk X mk ρ O1 es (λds O2=>R (d::ds) O2) RX)/\(∀ vs ds O2 G' H',Ag G1 G'->SA X.K G' H' O2->Aj X.K G' ds vs->R (d::ds) O2->Q vs H')/\Dq X mk G1 RX) (λpos pins s σ H Q I ⟨G1,d,O1,q1,q2,q3,q4,q5⟩=>q3 G1 pos pins s σ H Q I ⟨q1,q2,q4,q5⟩) hst)
  λσ H Q ⟨h1,h2,h3,h4⟩=>⟨h1,h2,λv d O1 G1 H1 e1 s1 i1 r1=>⟨G1,d,O1,s1,h2.ext e1,r1,λvs ds O2 G2 H2 e2 s2 i2 r2=>h3 _ (d::ds) O2 G2 H2 (e1.trans e2) s2 (.cons (i1.ext e2) i2) r2,h4.ext e1⟩,h4⟩
theorem EU (h:D5 X mk ρ O e P.rt RX):DG X mk ρ O (.Return (some e) pos) P RX:=λG=>PS.imp (OC (h G)) λE σ H ⟨h1,h2,h3,h4⟩=>⟨h1,h2,λv d O' G' H' e1 s1 i1 r1=>h3.rt v d O' G' H' e1 s1 i1 r1,h4⟩
theorem Hd {k:Nat} {sp:Bi} {pl:Sem Bool} (M:Bu X.prog X.w X.K X.mg X.base C k m sp) (hr:AR k X.A) (ho:Ac X ρ O o (.ptr q)) (hq:O[q]?=some (some (.ins C fs))) (hno:fs.lookup m=none) (ha:Gk X mk ρ O (e::es) (λds O1=>sp (.ptr q::ds) O1 R λC fs O'=>RX C fs ρ O') RX)
  (hst:starEach (e::es) X.env=(false,eval e X.env)::starEach es X.env:=by rfl) (hpl:(backTo pos (starEach es X.env)).any (·.1)=false:=by rfl)
  (ht:eval (.Call (.Attribute o m apos) (e::es) [] pos) X.env=(do
   let ov <- eval o X.env
   standAt apos.atName
   let (f,first) <- holding [ov] (getMethod ov m pl)
   callWith pos f first (backTo pos (starEach (e::es) X.env)) (backToKw pos (keywordEach [] X.env))):=by rfl):D5 X mk ρ O (.Call (.Attribute o m apos) (e::es) [] pos) R RX:=λG pins s σ H Q I ⟨h1,h2,h3,h4⟩=>by
 obtain ⟨f,fd,ps,g1,g2,g3⟩:=M.ex
 refine PySem.W.methodCall_KW (pl:=pl) (Ao (ho G pins s σ H (λv H'=>∃ G',Ag G G'/\SA X.K G' H' O/\Is X.K G' (.ptr q) v) I ⟨h1,h2,λv G' H' e s i=>⟨G',e,s,i⟩⟩) λu s1 ⟨y,H1,I1,ry,G1,e1,sa1,i1⟩=>?_) ht
 obtain ⟨a,dx,vs,rfl,k1,k2,k3⟩:=sa1.ins i1 hq
 obtain rfl:u=Value.ref a:=ry
 refine IC I1 k2 M.cls g2 (k3.none hno) ?_
 refine PySem.W.callWith_K (first:=[.ref a]) (h₀:=X.base) I.ok.mod.kin g2.kp (Ao (ha G1 pos pins s1 σ H1 (λvs H'=>∃ G' ds O1,Ag G1 G'/\SA X.K G' H' O1/\Aj X.K G' ds vs/\sp (.ptr q::ds) O1 R λC fs O'=>RX C fs ρ O') I1 ⟨sa1,h2.ext e1,λvs ds O1 G' H' e1 s1 i1 r1=>⟨G',ds,O1,e1,s1,i1,r1⟩,h4.ext e1⟩) λus s2 ⟨ws,H2,I2,r,G2,ds,O1,e2,sa2,i2,hs⟩=>⟨I2.kIn,?_⟩) hst hpl
 have e12:=e1.trans e2
 refine KO (us:=.ref a::us) (vs:=.ref a::ws) (E:=Js X σ) g1 hr g3 I2 (.cons rfl r) ⟨G2,O1,.ptr q::ds,R,_,sa2,.cons (i1.ext e2) i2,hs,λv d O' G' H' e3 s3 i3 r3=>h3 v d O' G' H' (e12.trans e3) s3 i3 r3,λC fs od O' G' H' e3 s3 f3 r3=>?_⟩ λe s' hx=>JE (G:=G) (H':=H) I2 Mv hx
 intro C' hC
 cases hC
 exact (h4 _ fs od σ ρ O' G' H' (e12.trans e3) s3 (h2.ext (e12.trans e3)) f3 r3).1
theorem Qj {T:String} (hm:X.mg x=none) (ha:Gk X mk ρ O (e::es) (λds O1=>∃ d,BY X O1 (.type T) ds d/\R d O1) RX) (hg:Gl X x:=by rfl) (hv:bootBuiltins x=some (.type T):=by first | rfl | decide +kernel) (hn:x ≠ "__name__" := by decide) (hdb:(x==("__debug__" : Str))=false:=by decide)
  (he:starEach (e::es) X.env=(false,eval e X.env)::starEach es X.env:=by rfl) (hpl:(backTo pos (starEach es X.env)).any (·.1)=false:=by rfl):D5 X mk ρ O (.Call (.Name x p) (e::es) [] pos) R RX:=λG=>
 PE.imp (K9 (r:=λvs H Q=>∃ G1 O1 ds d,SA X.K G1 H O1/\Aj X.K G1 ds vs/\BY X O1 (.type T) ds d/\∀ w G' H',Ag G1 G'->SA X.K G' H' O1->Is X.K G' d w->Q w H') (λpins s σ H xs us Q I r ⟨G1,O1,ds,d,q1,q2,hc,q3⟩=>hc G1 pins s σ H xs us Q I r ⟨q1,q2,q3⟩) hg hm hv (ha G) hn hdb he hpl)
  λσ H Q ⟨h1,h2,h3,h4⟩=>⟨h1,h2,λvs ds O1 G1 H1 e1 s1 i1 ⟨d,hc,hR⟩=>⟨G1,O1,ds,d,s1,i1,hc,λw G2 H2 e2 s2 i2=>h3 w d O1 G2 H2 (e1.trans e2) s2 i2 hR⟩,h4⟩
theorem RI {j:Nat} {a b:Expr} {da db:D} {tpos:Pos} (hr:AR j X.A) (hv:D5 X mk ρ O e (λ_ _=>False) RX) (ha:Ac X ρ O a da) (hb:Ac X ρ O b db)
  (hs:swapsWith e (some (.Subscript a b tpos)) pos.line X.env=pure false:=by rfl):DG X mk ρ O (.Assign [.Subscript a b tpos] e pos) P RX:=λG=>
 PS.imp (OE (by have:=hr.units; omega) (ha G) (hb G) (hv G) hs) λE σ H ⟨q1,q2,q3,q4⟩=>⟨q1,q2,λv d O' G' H' e1 s1 i1 r=>r.elim,q4⟩
theorem V8 {xs ys:List D} (hq:O[q]?=some (some (.lst ys))) (hz:xs.length+ys.length<=sizeLine):AX X O (binaryOp .Add) (.lst xs) (.ptr q) (.lst (xs++ys)):=.of OU λG v u H Q s h1 h2 k=>by
 cases h1 with
 | lst g1 r1=>
  cases h2 with
  | ptr _ ha=>
   obtain ⟨a,g2,_,vs,h3,r2⟩:=s.mt q _ hq
   cases Option.some.inj (ha.symm.trans g2)
   refine ⟨_,_,_,_,rfl,rfl,s.sub _ _ g1,h3,by rw [<- r1.length,<- r2.length]; exact hz,λp hp=>?_⟩
   obtain ⟨e4,s4⟩:=s.laid (o:=.lst _) hp
   exact k _ _ _ e4 s4 (.lst AJ ((r1.append r2).ext e4))
end
end DL
namespace DL
open PySem PySem.Spec PyProof.Rows L2 PySem.W
section
variable {X:Cx} {ρ:Am} {O:Ad} {e:Expr} {pos p:Pos} {da:D} {ps:List Str} {xs:List D}
theorem Yg (ha:Ac X ρ O e da) (hd:DV O da (ps.map Sum.inr) xs) (hm:X.mg "list" = none) (hc:X.calm=true:=by rfl) (hg:Gl X "list" := by rfl) (hs:starEach [e] X.env=[(false,eval e X.env)]:=by rfl) :
  Ac X ρ O (.Call (.Name "list" p) [e] [] pos) (.lst (ps.map D.str)):=λG pins s σ H Q I ⟨h1,h2,h3⟩=>by
 refine wpAny_Call_Name_kw (DA I hg hm (by first | rfl | decide +kernel) ?_ wE wE)
 refine PyProof.Rows.callWith_type1 ?_ (by rw [hs]; rfl) rfl
 rw [hs]
 show wpAny _ _ (spliced ((false,eval e X.env)::backTo pos [])) _ _ s
 refine Calls.spliced_cons (Ao (ha G pins s σ H (λv H1=>∃ G1,Ag G G1/\SA X.K G1 H1 O/\Is X.K G1 da v) I ⟨h1,h2,λv G' H' q1 q2 q3=>⟨G',q1,q2,q3⟩⟩) λu s1 ⟨v,H1,I1,r1,G1,e1,sa1,i1⟩=>Calls.spliced_nil ?_)
 obtain ⟨q,us,rfl,g1,g2,g3⟩:=hd.rd sa1 i1
 cases r1
 obtain ⟨hz,hq,vs,rel,dd⟩:=C1 I1.hok g1
 obtain ⟨ep,at_⟩:=dd.dictAt
 have hlen:vs.length=((ps.map Sum.inr).zip us).length:=rel.length.symm
 refine kdl_call (kdl_dict (knd:=Ba X.prog X.w) hq) (I.ok.hd hc) at_ (by rw [hlen]; exact hz) λh' tk acc c' kp own it=>?_
 have vv:Aq (ps.map V.str) acc.toList:=by
  have:=Mj (P:=X.prog) (w:=X.w) rel g2 (by rw [Array.length_toList]; exact it.1) λi v e=>it.2 i v (by rw [<- Array.getElem?_toList]; exact e)
  rw [List.map_map] at this
  exact this
 have fr:H1 s1.heap.objs.size=none:=I1.hok.fresh (Nat.le_refl _)
 obtain ⟨e3,s3⟩:=sa1.laid (o:=.lst (ps.map V.str)) fr
 refine ⟨.ref s1.heap.objs.size,An H1 s1.heap.objs.size (.lst (ps.map V.str)),I1.laid (t':=tk) (λb o e=>kp b o e) (Nat.le_refl _) ⟨by rw [vv.length,Array.length_toList,it.1,hlen]; exact hz,acc.toList,c',vv,by rw [Array.toArray_toList]; exact own⟩,rfl,h3 _ _ _ (e1.trans e3) s3 (.lst AJ (Iw.ext e3))⟩
end
section
variable {X:Cx} {ρ:Am} {O:Ad} {a b:Expr} {d da db:D} {ks:List Ak} {k:Ak} {ns:List Int} {R:D->Ad->Prop} {pos:Pos} {j:Nat}
theorem Zb {m:Int} (hr:AR j X.A) (hd:DW O da ks (ns.map D.int)) (hb:DW O db ks (ns.map D.int)) (nd:ks.Nodup):AX X O (compareOp .Eq) (.tup [da,.int m]) (.tup [db,.int m]) (.bl true):=λG pins s σ H x y v u Q I rx ry ⟨h1,h2,h3,h4⟩=>by
 cases h2 with
 | tup ha ra=>
 cases h3 with
 | tup hb' rb=>
 cases rx
 cases ry
 obtain ⟨its,va,⟨o,g1,g2,n1,g3⟩,_⟩:=I.tuple (CW h1.sub ha)
 obtain ⟨jts,vb,⟨o2,k1,k2,n2,k3⟩,_⟩:=I.tuple (CW h1.sub hb')
 cases ra with
 | cons ia ra=>
 cases ra with
 | cons ia2 ra=>
 cases ra
 cases ia2
 cases rb with
 | cons ib rb=>
 cases rb with
 | cons ib2 rb=>
 cases rb
 cases ib2
 cases va with
 | cons r1 va=>
 cases va with
 | cons r2 va=>
 cases va
 cases vb with
 | cons s1 vb=>
 cases vb with
 | cons s2 vb=>
 cases vb
 obtain ⟨t,rfl⟩:=r2
 obtain ⟨t',rfl⟩:=s2
 have hu:=hr.un
 obtain ⟨pa,pb,ka,kb,rfl,rfl,z1,z2,d1,d2,hl,hh⟩:=YL hd hb nd I h1 ia ib r1 s1
 refine R3 ⟨o,g1,g2,n1,g3⟩ ⟨o2,k1,k2,n2,k3⟩ rfl wF (λp hp E Q hq=>?_) ⟨.bl true,H,I,rfl,h4 _ G H (Ag.refl _) h1 (.bl true)⟩
 have hp:p∈[(Value.ref pa,Value.ref pb),(Value.int m t,Value.int m t')]:=hp
 rcases List.mem_cons.mp hp with rfl | hp
 ·show wpAny _ _ (eqBool (.ref pa) (.ref pb)) _ _ _
  by_cases e:pa=pb
  ·subst e; exact SeqAt.EqAt.same (A:=X.A.in1) (.ref pa) _ _ _ _ hq
  ·unfold eqBool
   refine wpAny_holding (wpAny_ite_split (λhab=>absurd (by have:=eq_of_beq hab; injection this) e) λ_=>wpAny_bind ?_)
   refine keq_eq (r:=true) z1 z2 d1 d2 (by show X.A.units+1<_; omega) (λ_=>hh _) ?_
   rw [hl,beq_self_eq_true]
   exact wpAny_truthy_bool hq
 ·cases List.mem_singleton.mp hp
  have:=SeqAt.EqAt.int_int (A:=X.A.in1) (s:=s) m t m t'
  rw [beq_self_eq_true] at this
  exact this _ _ _ _ hq
end
end DL
set_option maxHeartbeats 4000000
namespace My
open PySem PySem.Spec PyProof.Rows L2 DL
def top (i:Nat):Stmt:=PySem.Challenge.pw_heedwise_k84_rows_told.main.body.getD i (.Pass ⟨0,0,0,0⟩)
abbrev FR:Stmt:=CK (top 2) 0
abbrev Q0m:List Str:=["self","number"]
theorem TK:AD Q0m ["self","number"] (Av FR):=by constructor <;> first | rfl | decide +kernel
abbrev FS:Stmt:=CK (top 3) 0
abbrev Q0n:List Str:=["self","number"]
theorem TL:AD Q0n ["self","number"] (Av FS):=by constructor <;> first | rfl | decide +kernel
abbrev Kl:Stmt:=top 9
abbrev Z9:List Str:=["value"]
theorem Ts:AD Z9 ["value"] (Av Kl):=by constructor <;> first | rfl | decide +kernel
abbrev J6:Stmt:=top 10
abbrev ZT:List Str:=["base","exponent","product","step"]
theorem HP:AD ZT ["base","exponent"] (Av J6):=by constructor <;> first | rfl | decide +kernel
abbrev Kp:Stmt:=top 11
abbrev Q0d:List Str:=["weights"]
theorem Tx:AD Q0d ["weights"] (Av Kp):=by constructor <;> first | rfl | decide +kernel
abbrev J8:Stmt:=top 12
abbrev ZV:List Str:=["numbers","weights","shares","whole","reached","number","share"]
theorem EZ:AD ZV ["numbers","weights"] (Av J8):=by constructor <;> first | rfl | decide +kernel
abbrev Km:Stmt:=top 14
abbrev Q0a:List Str:=["scale","value"]
theorem Tt:AD Q0a ["scale","value"] (Av Km):=by constructor <;> first | rfl | decide +kernel
abbrev Ky:Stmt:=top 15
abbrev Q0l:List Str:=["what","so"]
theorem TJ:AD Q0l ["what","so"] (Av Ky):=by constructor <;> first | rfl | decide +kernel
abbrev J2:Stmt:=top 17
abbrev ZP:List Str:=["keeper","own","off","kept"]
theorem Om:AD ZP ["keeper","own","off"] (Av J2):=by constructor <;> first | rfl | decide +kernel
abbrev J3:Stmt:=top 18
abbrev ZQ:List Str:=["keeper","own"]
theorem Tn:AD ZQ ["keeper","own"] (Av J3):=by constructor <;> first | rfl | decide +kernel
abbrev J4:Stmt:=top 19
abbrev ZR:List Str:=["keeper","own","what","so"]
theorem Tp:AD ZR ["keeper","own","what","so"] (Av J4):=by constructor <;> first | rfl | decide +kernel
abbrev Ko:Stmt:=top 22
abbrev Q0c:List Str:=["most","word"]
theorem Tv:AD Q0c ["most","word"] (Av Ko):=by constructor <;> first | rfl | decide +kernel
abbrev Kr:Stmt:=top 27
abbrev Q0e:List Str:=["what","value","least","most"]
theorem Tz:AD Q0e ["what","value","least","most"] (Av Kr):=by constructor <;> first | rfl | decide +kernel
abbrev Ku:Stmt:=top 28
abbrev Q0h:List Str:=["scale"]
theorem TC:AD Q0h ["scale"] (Av Ku):=by constructor <;> first | rfl | decide +kernel
abbrev Kx:Stmt:=top 29
abbrev Q0k:List Str:=["top","bottom"]
theorem TH:AD Q0k ["top","bottom"] (Av Kx):=by constructor <;> first | rfl | decide +kernel
abbrev Kn:Stmt:=top 33
abbrev Q0b:List Str:=["name"]
theorem Tu:AD Q0b ["name"] (Av Kn):=by constructor <;> first | rfl | decide +kernel
abbrev Kw:Stmt:=top 34
abbrev Q0j:List Str:=["name"]
theorem TF:AD Q0j ["name"] (Av Kw):=by constructor <;> first | rfl | decide +kernel
abbrev Ks:Stmt:=top 35
abbrev Q0f:List Str:=["tops","name"]
theorem TB:AD Q0f ["tops","name"] (Av Ks):=by constructor <;> first | rfl | decide +kernel
abbrev Kt:Stmt:=top 36
abbrev Q0g:List Str:=["tops","said","name"]
theorem JY:AD Q0g ["tops","said"] (Av Kt):=by constructor <;> first | rfl | decide +kernel
abbrev Kv:Stmt:=top 37
abbrev Q0i:List Str:=["scale","numbers"]
theorem TD:AD Q0i ["scale","numbers"] (Av Kv):=by constructor <;> first | rfl | decide +kernel
abbrev J1:Stmt:=top 38
abbrev ZO:List Str:=["row","words"]
theorem Ol:AD ZO ["row"] (Av J1):=by constructor <;> first | rfl | decide +kernel
abbrev J7:Stmt:=top 39
abbrev ZU:List Str:=["word"]
theorem Tq:AD ZU ["word"] (Av J7):=by constructor <;> first | rfl | decide +kernel
abbrev J5:Stmt:=top 40
abbrev ZS:List Str:=["words","said","name","word"]
theorem HN:AD ZS ["words"] (Av J5):=by constructor <;> first | rfl | decide +kernel
abbrev KN:Stmt:=CK (top 41) 0
abbrev Q0A:List Str:=["self","scale","top","bottom"]
theorem TY:AD Q0A ["self","scale","top","bottom"] (Av KN):=by constructor <;> first | rfl | decide +kernel
abbrev KL:Stmt:=CK (top 41) 1
abbrev Q0y:List Str:=["self","name"]
theorem TX:AD Q0y ["self","name"] (Av KL):=by constructor <;> first | rfl | decide +kernel
abbrev KJ:Stmt:=CK (top 41) 2
abbrev Q0w:List Str:=["self","name"]
theorem TV:AD Q0w ["self","name"] (Av KJ):=by constructor <;> first | rfl | decide +kernel
abbrev KA:Stmt:=CK (top 41) 3
abbrev Q0p:List Str:=["self"]
theorem TN:AD Q0p ["self"] (Av KA):=by constructor <;> first | rfl | decide +kernel
abbrev KK:Stmt:=CK (top 41) 4
abbrev Q0x:List Str:=["self"]
theorem TW:AD Q0x ["self"] (Av KK):=by constructor <;> first | rfl | decide +kernel
abbrev Kz:Stmt:=CK (top 41) 5
abbrev Q0o:List Str:=["self"]
theorem TM:AD Q0o ["self"] (Av Kz):=by constructor <;> first | rfl | decide +kernel
abbrev KH:Stmt:=CK (top 41) 6
abbrev Q0u:List Str:=["self","said"]
theorem TU:AD Q0u ["self","said"] (Av KH):=by constructor <;> first | rfl | decide +kernel
abbrev KM:Stmt:=CK (top 41) 7
abbrev Q0z:List Str:=["self","said","so","saying"]
theorem HS:AD Q0z ["self","said","so"] (Av KM):=by constructor <;> first | rfl | decide +kernel
abbrev KI:Stmt:=CK (top 41) 8
abbrev Q0v:List Str:=["self","said","so","own","behind","name","kept"]
theorem Fa:AD Q0v ["self","said","so"] (Av KI):=by constructor <;> first | rfl | decide +kernel
abbrev KG:Stmt:=CK (top 41) 9
abbrev Q0t:List Str:=["self","row","words"]
theorem JZ:AD Q0t ["self","row"] (Av KG):=by constructor <;> first | rfl | decide +kernel
abbrev KD:Stmt:=CK (top 41) 10
abbrev Q0s:List Str:=["self","name"]
theorem TR:AD Q0s ["self","name"] (Av KD):=by constructor <;> first | rfl | decide +kernel
abbrev KC:Stmt:=CK (top 41) 11
abbrev Q0r:List Str:=["self","name"]
theorem TQ:AD Q0r ["self","name"] (Av KC):=by constructor <;> first | rfl | decide +kernel
abbrev KB:Stmt:=CK (top 41) 12
abbrev Q0q:List Str:=["self","said","so","own"]
theorem HR:AD Q0q ["self","said","so"] (Av KB):=by constructor <;> first | rfl | decide +kernel
abbrev Kk:Stmt:=top 43
abbrev Z8:List Str:=["_law_script","_law_k"]
theorem Tr:AD Z8 ["_law_script","_law_k"] (Av Kk):=by constructor <;> first | rfl | decide +kernel
abbrev Ka:Stmt:=top 44
abbrev ZZ:List Str:=["_law_cell","_law_many","_law_found","_law_number","_law_k"]
theorem GG:AD ZZ ["_law_cell","_law_many"] (Av Ka):=by constructor <;> first | rfl | decide +kernel
abbrev Kc:Stmt:=top 45
abbrev Z1:List Str:=["_law_script","_law_scale","_law_bottom"]
theorem GH:AD Z1 ["_law_script"] (Av Kc):=by constructor <;> first | rfl | decide +kernel
abbrev Kj:Stmt:=top 46
abbrev Z7:List Str:=["_law_script","_law_first","_law_cell"]
theorem Oo:AD Z7 ["_law_script","_law_first"] (Av Kj):=by constructor <;> first | rfl | decide +kernel
abbrev Kg:Stmt:=top 47
abbrev Z4:List Str:=["_law_cell","_law_many","_law_letters","_law_size","_law_at","_law_names_here","_law_k","_law_name","_law_j","_law_step"]
theorem DJ:AD Z4 ["_law_cell","_law_many"] (Av Kg):=by constructor <;> first | rfl | decide +kernel
abbrev Kb:Stmt:=top 48
abbrev Z0:List Str:=["_law_there","_law_numbers","_law_scale","_law_said_here","_law_k"]
theorem JX:AD Z0 ["_law_there","_law_numbers","_law_scale"] (Av Kb):=by constructor <;> first | rfl | decide +kernel
abbrev Ki:Stmt:=top 49
abbrev Z6:List Str:=["_law_cells_here","_law_names_here","_law_scale","_law_deeds_here","_law_there","_law_ever","_law_cell","_law_numbers","_law_name"]
theorem Ew:AD Z6 ["_law_cells_here","_law_names_here","_law_scale"] (Av Ki):=by constructor <;> first | rfl | decide +kernel
abbrev Ke:Stmt:=top 50
abbrev Z2:List Str:=["_law_said_here","_law_turned","_law_words","_law_names_here","_law_name"]
theorem FP:AD Z2 ["_law_said_here","_law_turned"] (Av Ke):=by constructor <;> first | rfl | decide +kernel
abbrev Kh:Stmt:=top 51
abbrev Z5:List Str:=["_law_book","_law_other","_law_deed","_law_turned","_law_saying","_law_found"]
theorem HQ:AD Z5 ["_law_book","_law_other","_law_deed","_law_turned"] (Av Kh):=by constructor <;> first | rfl | decide +kernel
abbrev Kf:Stmt:=top 52
abbrev Z3:List Str:=["_law_cell","_law_one","_law_away","_law_scale","_law_some","_law_names_here","_law_turns","_law_due"]
theorem D8:AD Z3 ["_law_cell","_law_one","_law_away","_law_scale"] (Av Kf):=by constructor <;> first | rfl | decide +kernel
abbrev J9:Stmt:=top 53
abbrev ZY:List Str:=["_law_book","_law_row","_law_some","e"]
theorem Dw:AD ZY ["_law_book","_law_row"] (Av J9):=by constructor <;> first | rfl | decide +kernel
abbrev FQ:Stmt:=top 54
abbrev ZX:List Str:=["_law_script","_law_scale","_law_top","_law_bottom","_law_books","_law_names_here","_law_away","_law_deeds_here","_law_stop","_law_k","_law_row","_law_due"]
theorem Db:AD ZX ["_law_script"] (Av FQ):=by constructor <;> first | rfl | decide +kernel
structure Cr (K:PySem.W.Frag) (mg:Str->Option Value) (CK0 CK1 CK5 CK3 CK2 CK7 CK4 CK6:Addr):Prop where
 b_len:mg "len" = none
 b_tuple:mg "tuple" = none
 b_list:mg "list" = none
 b_sum:mg "sum" = none
 b_zip:mg "zip" = none
 b_sorted:mg "sorted" = none
 b_range:mg "range" = none
 b_isinstance:mg "isinstance" = none
 b_int:mg "int" = none
 b_bool:mg "bool" = none
 b_str:mg "str" = none
 b_dict:mg "dict" = none
 b_all:mg "all" = none
 b_abs:mg "abs" = none
 g_MOST_SCALE:∃ t,mg "MOST_SCALE" = some (.int 10 t)
 g_MOST_BOTTOM:∃ t,mg "MOST_BOTTOM" = some (.int 100 t)
 g_LETTERS:∃ t,mg "LETTERS" = some (.str "abcdefghijklmnopqrstuvwxyz" t)
 g_MOST_LETTERS:∃ t,mg "MOST_LETTERS" = some (.int 8 t)
 g_FIGURES:∃ t,mg "FIGURES" = some (.str "0123456789" t)
 g_MOST_FIGURES:∃ t,mg "MOST_FIGURES" = some (.int 60 t)
 c_Book:Rq K CK0
 m_Book:mg "Book" = some (.ref CK0)
 n_Book_scale:B8 K CK0 "scale"
 n_Book_top:B8 K CK0 "top"
 n_Book_bottom:B8 K CK0 "bottom"
 n_Book_tops:B8 K CK0 "tops"
 n_Book_under:B8 K CK0 "under"
 n_Book_came:B8 K CK0 "came"
 m_HeedError:mg "HeedError" = some (.ref CK1)
 e_HeedError:PySem.W.excIn K CK1 B7 "ValueError.__new__" = true
 m_NoTurn:mg "NoTurn" = some (.ref CK5)
 t_NoTurn:Cg K CK5
 n_NoTurn_number:PySem.W.findIn K (.ref CK5) "number" = some none
 x_NoTurn_HeedError:PySem.W.exmOne K (.ref CK5) (.ref CK1)=some true
 i_NoTurn_NoRow:PySem.W.kitOne K (.ref CK5) (.ref CK3)=some false
 i_NoTurn_NoName:PySem.W.kitOne K (.ref CK5) (.ref CK2)=some false
 i_NoTurn_NoTurn:PySem.W.kitOne K (.ref CK5) (.ref CK5)=some true
 i_NoTurn_Twice:PySem.W.kitOne K (.ref CK5) (.ref CK7)=some false
 i_NoTurn_NoRule:PySem.W.kitOne K (.ref CK5) (.ref CK4)=some false
 i_NoTurn_NoWay:PySem.W.kitOne K (.ref CK5) (.ref CK6)=some false
 m_NoRow:mg "NoRow" = some (.ref CK3)
 t_NoRow:Cg K CK3
 n_NoRow_number:PySem.W.findIn K (.ref CK3) "number" = some none
 x_NoRow_HeedError:PySem.W.exmOne K (.ref CK3) (.ref CK1)=some true
 i_NoRow_NoRow:PySem.W.kitOne K (.ref CK3) (.ref CK3)=some true
 i_NoRow_NoName:PySem.W.kitOne K (.ref CK3) (.ref CK2)=some false
 i_NoRow_NoTurn:PySem.W.kitOne K (.ref CK3) (.ref CK5)=some false
 i_NoRow_Twice:PySem.W.kitOne K (.ref CK3) (.ref CK7)=some false
 i_NoRow_NoRule:PySem.W.kitOne K (.ref CK3) (.ref CK4)=some false
 i_NoRow_NoWay:PySem.W.kitOne K (.ref CK3) (.ref CK6)=some false
 m_NoName:mg "NoName" = some (.ref CK2)
 e_NoName:PySem.W.excIn K CK2 B7 "ValueError.__new__" = true
 t_NoName:Cg K CK2
 x_NoName_HeedError:PySem.W.exmOne K (.ref CK2) (.ref CK1)=some true
 i_NoName_NoRow:PySem.W.kitOne K (.ref CK2) (.ref CK3)=some false
 i_NoName_NoName:PySem.W.kitOne K (.ref CK2) (.ref CK2)=some true
 i_NoName_NoTurn:PySem.W.kitOne K (.ref CK2) (.ref CK5)=some false
 i_NoName_Twice:PySem.W.kitOne K (.ref CK2) (.ref CK7)=some false
 i_NoName_NoRule:PySem.W.kitOne K (.ref CK2) (.ref CK4)=some false
 i_NoName_NoWay:PySem.W.kitOne K (.ref CK2) (.ref CK6)=some false
 m_Twice:mg "Twice" = some (.ref CK7)
 e_Twice:PySem.W.excIn K CK7 B7 "ValueError.__new__" = true
 t_Twice:Cg K CK7
 x_Twice_HeedError:PySem.W.exmOne K (.ref CK7) (.ref CK1)=some true
 i_Twice_NoRow:PySem.W.kitOne K (.ref CK7) (.ref CK3)=some false
 i_Twice_NoName:PySem.W.kitOne K (.ref CK7) (.ref CK2)=some false
 i_Twice_NoTurn:PySem.W.kitOne K (.ref CK7) (.ref CK5)=some false
 i_Twice_Twice:PySem.W.kitOne K (.ref CK7) (.ref CK7)=some true
 i_Twice_NoRule:PySem.W.kitOne K (.ref CK7) (.ref CK4)=some false
 i_Twice_NoWay:PySem.W.kitOne K (.ref CK7) (.ref CK6)=some false
 m_NoRule:mg "NoRule" = some (.ref CK4)
 e_NoRule:PySem.W.excIn K CK4 B7 "ValueError.__new__" = true
 t_NoRule:Cg K CK4
 m_NoWay:mg "NoWay" = some (.ref CK6)
def A5 (ws:List Int):List Int:=if ws.sum=0 then ws.map (λ_=>1) else ws
theorem QB (ws:List Int):(A5 ws).length=ws.length:=by unfold A5; split <;> simp
def CC (ws:List Int):Prop:=∀ w∈ws,0<=w
theorem MC {ws:List Int} (h:CC ws):CC (A5 ws):=by
 unfold A5
 split
 ·intro w hw
  obtain ⟨_,_,rfl⟩:=List.mem_map.mp hw
  decide
 ·exact h
def go (W:Int):Int->List (Int×Int)->Int
 | _,[]=>0
 | r,p::l=>if W<=2*(r+p.2) then p.1 else go W (r+p.2) l
def CJ (ns ws:List Int):Int:=go (A5 ws).sum 0 (Bh Br (ns.zip (A5 ws)))
def Gi (ns ws:List Int):Prop:=ns.length=ws.length/\ws.length<=63/\CC ws
def Oa:List D->D->Prop:=λds d=>∃ ws:List Int,ds=[.tup (ws.map D.int)]/\ws.length<=63/\d=.lst ((A5 ws).map D.int)
def N6:List D->D->Prop:=λds d=>∃ ns ws:List Int,ds=[.tup (ns.map D.int),.tup (ws.map D.int)]/\Gi ns ws/\d=.int (CJ ns ws)
def EI (ns:List Int) (k:Int):Int:=(ns[k.toNat]?).getD 0
def HG:List D->D->Prop:=λds d=>∃ (ns:List Int) (k:Int),ds=[.scr (ns.map D.int),.int k]/\0<=k/\d=.int (EI ns k)
def Dk (f:Int) (ns ws:List Int):Int:=sm (λq=>if q.1<f then q.2 else 0) (ns.zip ws)
def there (f:Int) (ns ws:List Int):Int:=sm (λq=>if q.1=f then q.2 else 0) (ns.zip ws)
def HU (f:Int) (ns ws:List Int):Bool:=if ns=[] then decide (f=0) else (decide (f∈ns)&&(decide (2*Dk f ns (A5 ws)<(A5 ws).sum)&&decide ((A5 ws).sum<=2*(Dk f ns (A5 ws)+there f ns (A5 ws)))))
theorem PH (W:Int):∀ (L:List (Int×Int)) (r:Int),2*r<W->W<=2*(r+sm (λq=>q.2) L)->∃ A p B,L=A++p::B/\2*(r+sm (λq=>q.2) A)<W/\W<=2*(r+sm (λq=>q.2) A+p.2)/\go W r L=p.1
 | [],r,h1,h2=>by exfalso; unfold sm at h2; omega
 | p::L,r,h1,h2=>by
  unfold go
  by_cases h:W<=2*(r+p.2)
  ·rw [if_pos h]
   refine ⟨[],p,L,rfl,?_,?_,rfl⟩
   ·show 2*(r+0)<W; omega
   ·show W<=2*(r+0+p.2); omega
  ·rw [if_neg h]
   have h2:W<=2*(r+(p.2+sm (λq=>q.2) L)):=h2
   obtain ⟨A,q,B,e1,e2,e3,e4⟩:=PH W L (r+p.2) wF wF
   refine ⟨p::A,q,B,by rw [e1]; rfl,?_,?_,e4⟩
   ·show 2*(r+(p.2+sm (λq=>q.2) A))<W; omega
   ·show W<=2*(r+(p.2+sm (λq=>q.2) A)+q.2); omega
theorem SG {ws:List Int} (h:CC ws):0<=ws.sum:=by
 rw [SE]; exact JR λa ha=>h a ha
theorem Y6 {ws:List Int} (h:CC ws) (hn:ws≠[]):0<(A5 ws).sum:=by
 unfold A5
 split
 ·cases ws with
  | nil=>exact absurd rfl hn
  | cons a l=>
   rw [List.map_cons,List.sum_cons]
   have:0<=(l.map λ_=>(1:Int)).sum:=by rw [HK]; exact JR λ_ _=>by decide
   omega
 ·have:=SG h
  omega
theorem Ot {ns ws:List Int} (h:Gi ns ws):HU (CJ ns ws) ns ws=true:=by
 obtain ⟨h1,h2,h3⟩:=h
 unfold HU
 by_cases hn:ns=[]
 ·rw [if_pos hn]
  subst hn
  have e:CJ [] ws=0:=by unfold CJ Bh; simp [go]
  exact decide_eq_true e
 ·rw [if_neg hn]
  have hw:ws≠[]:=by
   intro e; apply hn
   rw [e] at h1
   exact List.eq_nil_of_length_eq_zero h1
  have hp:=Y6 h3 hw
  have hc:=MC h3
  have hl:ns.length=(A5 ws).length:=by rw [QB]; exact h1
  unfold CJ Dk there
  generalize A5 ws=cs at hp hc hl
  have pm:=Dv Br (ns.zip cs)
  have pw:=NR GS (ns.zip cs)
  have hs:sm (λq:Int×Int=>q.2) (Bh Br (ns.zip cs))=cs.sum:=by rw [EX pm,S7 hl]
  obtain ⟨A,p,B,e1,e2,e3,e4⟩:=PH cs.sum (Bh Br (ns.zip cs)) 0 wF (by rw [hs]; omega)
  rw [e4]
  have nn:∀ q∈Bh Br (ns.zip cs),0<=q.2:=λq hq=>hc _ (List.of_mem_zip (pm.mem_iff.mp hq)).2
  rw [<- EX (g:=λq:Int×Int=>if q.1<p.1 then q.2 else 0) pm,<- EX (g:=λq:Int×Int=>if q.1=p.1 then q.2 else 0) pm]
  have hm:p.1∈ns:=(List.of_mem_zip (pm.mem_iff.mp (by rw [e1]; exact List.mem_append_right _ List.mem_cons_self):(p.1,p.2)∈ns.zip cs)).1
  rw [e1] at pw nn ⊢
  have pA:∀ q∈A,q.1<=p.1:=λq hq=>by
   have:=(List.pairwise_append.mp pw).2.2 q hq p List.mem_cons_self
   simp [Br] at this
   omega
  have pB:∀ q∈B,p.1<=q.1:=λq hq=>by
   have:=(List.pairwise_cons.mp (List.pairwise_append.mp pw).2.1).1 q hq
   simp [Br] at this
   omega
  have b1:sm (λq:Int×Int=>if q.1<p.1 then q.2 else 0) (A++p::B)<=sm (λq=>q.2) A:=by
   rw [JT]
   have z:sm (λq:Int×Int=>if q.1<p.1 then q.2 else 0) (p::B)=0:=by
    rw [Og (h:=λ_=>0),Od]
    intro a ha
    rcases List.mem_cons.mp ha with rfl | ha
    ·exact if_neg wF
    ·exact if_neg (by have:=pB a ha; omega)
   rw [z]
   have:=JS (l:=A) (g:=λq:Int×Int=>if q.1<p.1 then q.2 else 0) (h:=λq=>q.2) λa ha=>by
    have:=nn a (List.mem_append_left _ ha)
    try dsimp only
    split <;> omega
   omega
  have b2:sm (λq=>q.2) A+p.2<=sm (λq:Int×Int=>if q.1<p.1 then q.2 else 0) (A++p::B)+sm (λq:Int×Int=>if q.1=p.1 then q.2 else 0) (A++p::B):=by
   rw [<- Oh,JT]
   have z:p.2<=sm (λq:Int×Int=>(if q.1<p.1 then q.2 else 0)+(if q.1=p.1 then q.2 else 0)) (p::B):=by
    show p.2<=((if p.1<p.1 then p.2 else 0)+(if p.1=p.1 then p.2 else 0))+sm _ B
    rw [if_neg wF,if_pos rfl]
    have:=JR (l:=B) (g:=λq:Int×Int=>(if q.1<p.1 then q.2 else 0)+(if q.1=p.1 then q.2 else 0)) λa ha=>by
     have:=nn a (List.mem_append_right _ (List.mem_cons_of_mem _ ha))
     try dsimp only
     split <;> split <;> omega
    omega
   have:=Og (l:=A) (g:=λq:Int×Int=>q.2) (h:=λq=>(if q.1<p.1 then q.2 else 0)+(if q.1=p.1 then q.2 else 0)) λa ha=>by
    have:=pA a ha
    try dsimp only
    split <;> split <;> omega
   omega
  rw [decide_eq_true hm,decide_eq_true wF,decide_eq_true wF]
  rfl
theorem Pi {ns ws:List Int} (h:Gi ns ws) (hn:ns≠[]):2*Dk (CJ ns ws) ns (A5 ws)<(A5 ws).sum/\(A5 ws).sum<=2*(Dk (CJ ns ws) ns (A5 ws)+there (CJ ns ws) ns (A5 ws)):=by
 have h:=Ot h
 unfold HU at h
 rw [if_neg hn,Bool.and_eq_true,Bool.and_eq_true] at h
 exact ⟨of_decide_eq_true h.2.1,of_decide_eq_true h.2.2⟩
def od:Option Int->D
 | none=>.non
 | some i=>.int i
def ab (i:Int):Int:=if i<0 then -i else i
def chg:Option Int->Int->Int
 | none,_=>0
 | some w,z=>ab (w-z)
def TZ (said:List (Option Int)) (k:Nat):Option Int:=(said[k]?).getD none
def ax (said:List (Option Int)):List Nat:=(List.range said.length).filter λk=>(TZ said k).isSome
theorem IZ {ws:List Int} {k:Nat} (h:k<ws.length):Bg (ws.map D.int) (k:Int)=some (.int (ws.getD k 0)):=by
 refine C5 ?_
 rw [List.getElem?_map,List.getElem?_eq_getElem h]
 simp [List.getD,h]
def Ie (s:Int):Option Int->Bool
 | none=>false
 | some i=>decide (0<=i)&&decide (i<=s)
theorem Dd {f g:Str} {d x:D} {r:List (Str×D)} (h:(g=f)->False):BN f d ((g,x)::r)=(g,x)::BN f d r:=by
 show (if g=f then (g,d)::r else (g,x)::BN f d r)=_
 rw [if_neg h]
theorem KY {f:Str} {d x:D} {r:List (Str×D)}:BN f d ((f,x)::r)=(f,d)::r:=by
 show (if f=f then (f,d)::r else (f,x)::BN f d r)=_
 rw [if_pos rfl]
def f3 (m s t:Int):List (Str×D):=[("many",.int m),("scale",.int s),("top",.int t)]
def f4 (m s t b:Int):List (Str×D):=[("many",.int m),("scale",.int s),("top",.int t),("bottom",.int b)]
def f5 (m s t b:Int) (d:D):List (Str×D):=[("many",.int m),("scale",.int s),("top",.int t),("bottom",.int b),("tops",d)]
theorem Ee {f:Str} {d:D} {r:List (Str×D)}:List.lookup f ((f,d)::r)=some d:=by rw [List.lookup_cons,beq_self_eq_true]
theorem Bw {f g:Str} {d:D} {r:List (Str×D)} (h:(f==g)=false):List.lookup f ((g,d)::r)=List.lookup f r:=by rw [List.lookup_cons,h]
section
variable (m s t b u:Int) (ws:List Int)
end
theorem Da {O:Ad} {q:Nat} {x y:Option MO} (h:O[q]?=some x):(O.set q y)[q]?=some y:=by
 have:=(List.getElem?_eq_some_iff.mp h).1
 rw [List.getElem?_set_self this]
def JM:List D->D->Prop:=λds d=>∃ b n:Int,ds=[.int b,.int n]/\(0<=b/\b<=1000)/\(0<=n/\n<=60000)/\d=.int (b ^ n.toNat)
theorem OI {a b:Int} (h0:0<=a) (h:a<=b):∀ n:Nat,a ^ n<=b ^ n
 | 0=>by simp
 | n+1=>by
  rw [Int.pow_succ,Int.pow_succ]
  exact Int.mul_le_mul (OI h0 h n) h h0 (Int.pow_nonneg (Int.le_trans h0 h))
theorem S6 {a:Int} (h0:0<=a) (h:a<256) (n:Nat):0<=a ^ n/\a ^ n<2 ^ (8*n+1):=by
 refine ⟨Int.pow_nonneg h0,?_⟩
 have h1:a ^ n<=256 ^ n:=OI h0 (Int.le_of_lt h) n
 have h2:(2:Int) ^ (8*n+1)=256 ^ n*2:=by rw [Int.pow_succ,Int.pow_mul]; rfl
 have h3:(0:Int)<256 ^ n:=Int.pow_pos wE
 rw [h2]
 omega
def JP:List D->D->Prop:=λds d=>∃ (w:Option Int) (z:Int),ds=[od w,.int z]/\d=.int (chg w z)
def tA (t b sc own off:Int):Int:=t ^ off.toNat*b ^ (sc-off).toNat*2*b ^ own.toNat
def tS (t b sc own:Int):Int:=b ^ sc.toNat*(b ^ own.toNat+t ^ own.toNat)
def tF (t b sc own so:Int):Option Int->Int
 | none=>tS t b sc own
 | some x=>tA t b sc own (ab (x-so))
structure C9 (sc t b:Int):Prop where
 s1:1<=sc
 s2:sc<=10
 t0:0<=t
 tb:t<b
 b2:b<=100
structure DD (n:Nat) (ws:List Int) (u:Int):Prop where
 w:∀ x∈ws,0<=x/\x<2 ^ (250*(n+1))
 u0:0<=u
 u1:u<2 ^ (250*(n+1))
theorem EA {x y:Int} {a c:Nat} (x0:0<=x) (x1:x<2 ^ a) (y0:0<=y) (y1:y<2 ^ c):0<=x*y/\x*y<2 ^ (a+c):=by
 refine ⟨Int.mul_nonneg x0 y0,?_⟩
 rw [Int.pow_add]
 by_cases h:y=0
 ·subst h
  rw [Int.mul_zero]
  exact Int.mul_pos (Int.pow_pos wE) (Int.pow_pos wE)
 ·have h1:x*y<2 ^ a*y:=Int.mul_lt_mul_of_pos_right x1 wF
  have h2:2 ^ a*y<=2 ^ a*2 ^ c:=Int.mul_le_mul_of_nonneg_left (Int.le_of_lt y1) (Int.pow_nonneg wE)
  omega
theorem La {x:Int} {a c:Nat} (h:x<2 ^ a) (hc:a<=c):x<2 ^ c:=by
 obtain ⟨d,rfl⟩:=Nat.exists_eq_add_of_le hc
 have h1:(1:Int)<=2 ^ d:=Int.pow_pos wE
 have h2:(0:Int)<=2 ^ a:=Int.pow_nonneg wE
 have:=Int.mul_le_mul_of_nonneg_left h1 h2
 rw [Int.pow_add]
 omega
theorem Dc {x:Int} {e:Int} (h0:0<=x) (h1:x<=100) (he:e<=10):0<=x ^ e.toNat/\x ^ e.toNat<2 ^ 81:=by
 have:=S6 h0 (show x<256 by omega) e.toNat
 exact ⟨this.1,La this.2 wF⟩
theorem SD {sc t b own off:Int} (h:C9 sc t b) (ho:own<=sc) (hf:0<=off/\off<=sc):0<=tA t b sc own off/\tA t b sc own off<2 ^ 250:=by
 have:=h.s1; have:=h.s2; have:=h.t0; have:=h.tb; have:=h.b2
 have a1:=Dc (x:=t) (e:=off) h.t0 wF wF
 have a2:=Dc (x:=b) (e:=sc-off) wF wF wF
 have a3:=Dc (x:=b) (e:=own) wF wF wF
 have b1:=EA a1.1 a1.2 a2.1 a2.2
 have b2:=EA (c:=2) b1.1 b1.2 (show (0:Int)<=2 by decide) wE
 have b3:=EA b2.1 b2.2 a3.1 a3.2
 exact ⟨b3.1,La b3.2 wE⟩
theorem JF {sc t b own:Int} (h:C9 sc t b) (ho:own<=sc):0<=tS t b sc own/\tS t b sc own<2 ^ 250:=by
 have:=h.s1; have:=h.s2; have:=h.t0; have:=h.tb; have:=h.b2
 have a1:=Dc (x:=b) (e:=sc) wF wF wF
 have a2:=Dc (x:=b) (e:=own) wF wF wF
 have a3:=Dc (x:=t) (e:=own) h.t0 wF wF
 have e:(2:Int) ^ 82=2 ^ 81+2 ^ 81:=by decide
 have b1:=EA (y:=b ^ own.toNat+t ^ own.toNat) (c:=82) a1.1 a1.2 wF (by rw [e]; omega)
 exact ⟨b1.1,La b1.2 wE⟩
theorem OX {s x:Int} (h:Ie s (some x)=true):0<=x/\x<=s:=by
 have h:(decide (0<=x)&&decide (x<=s))=true:=h
 rw [Bool.and_eq_true] at h
 exact ⟨of_decide_eq_true h.1,of_decide_eq_true h.2⟩
theorem Hl {s x so:Int} (h:0<=x/\x<=s) (hs:0<=so/\so<=s):0<=ab (x-so)/\ab (x-so)<=s:=by
 unfold ab
 split <;> omega
theorem NG {sc t b own so:Int} {w:Option Int} (h:C9 sc t b) (ho:own<=sc) (hs:0<=so/\so<=sc) (hw:w=none\/Ie sc w=true):0<=tF t b sc own so w/\tF t b sc own so w<2 ^ 250:=by
 cases w with
 | none=>exact JF h ho
 | some x=>
  rcases hw with hw | hw
  ·cases hw
  ·exact SD h ho (Hl (OX hw) hs)
def ED:List Nat:=(Str.ofString "abcdefghijklmnopqrstuvwxyz").cps.toList
structure AN (x:Str):Prop where
 l1:1<=x.length
 l2:x.length<=8
 al:∀ c∈x.cps.toList,c∈ED
def AM (sc t b:Int) (n:Nat) (u c:Int):List (Str×D):=[("scale",.int sc),("top",.int t),("bottom",.int b),("tops",.ptr n),("under",.int u),("came",.int c)]
section
variable (sc t b:Int) (n:Nat) (u c:Int)
theorem IX:(AM sc t b n u c).lookup ("scale" : Str)=some (.int sc):=Ee
theorem C4:(AM sc t b n u c).lookup ("tops" : Str)=some (.ptr n):=by unfold AM; rw [Bw wD,Bw wD,Bw wD,Ee]
theorem QJ:(AM sc t b n u c).lookup ("under" : Str)=some (.int u):=by unfold AM; rw [Bw wD,Bw wD,Bw wD,Bw wD,Ee]
theorem QK:(AM sc t b n u c).lookup ("came" : Str)=some (.int c):=by unfold AM; rw [Bw wD,Bw wD,Bw wD,Bw wD,Bw wD,Ee]
theorem AW {f:Str} (h:([("scale" : Str),"top","bottom","tops","under","came"].all λg=>!(f==g))=true):(AM sc t b n u c).lookup f=none:=by
 simp only [List.all_cons,List.all_nil,Bool.and_true,Bool.and_eq_true,Bool.not_eq_true'] at h
 obtain ⟨h1,h2,h3,h4,h5,h6⟩:=h
 unfold AM
 rw [Bw h1,Bw h2,Bw h3,Bw h4,Bw h5,Bw h6]
 rfl
theorem Zw (c':Int):BN "came" (.int c') (AM sc t b n u c)=AM sc t b n u c':=by
 unfold AM
 rw [Dd wD,Dd wD,Dd wD,Dd wD,Dd wD,KY]
end
structure AY (C:Addr) (O:Ad) (q n:Nat) (sc t b:Int) (ps:List Str) (ws:List Int) (u c:Int):Prop where
 q:O[q]?=some (some (.ins C (AM sc t b n u c)))
 n:O[n]?=some (some (.dct (ps.map Sum.inr) (ws.map D.int)))
 l:ps.length=ws.length
 nd:ps.Nodup
theorem Cm {O Y:Ad} {q:Nat} {m:Option MO} (h:O[q]?=some m):(O++Y)[q]?=some m:=by
 rw [List.getElem?_append_left (List.getElem?_eq_some_iff.mp h).1,h]
theorem Eu {O Y:Ad} {q:Nat} {m n:Option MO} (h:O[q]?=some m):(O++Y).set q n=O.set q n++Y:=by
 rw [List.set_append_left _ _ (List.getElem?_eq_some_iff.mp h).1]
theorem Jb {ps:List Str} {ws:List Int} {x:Str} {w:Int} (h:BJ ps ws x=some w):Bf (ps.map Sum.inr) (ws.map D.int) (.inr x)=some (.int w):=by
 show BJ ps (ws.map D.int) x=_
 rw [MY,h]; rfl
theorem MU {ps:List Str} {ws:List Int} {x:Str} (hl:ps.length=ws.length) (hx:x∈ps):(Bf (ps.map Sum.inr) (ws.map D.int) (.inr x)).isSome=true:=by
 obtain ⟨w,h,_⟩:=DB hl hx
 rw [Jb h]; rfl
structure CD (sc:Int) (ps qs:List Str) (ys:List Int):Prop where
 l:qs.length=ys.length
 nd:qs.Nodup
 sub:∀ x∈qs,x∈ps
 on:∀ y∈ys,0<=y/\y<=sc
 nm:∀ x∈qs,AN x
 le:qs.length<=60
def AG (ps:List Str) (ws:List Int) (x:Str):Int:=(BJ ps ws x).getD 0
def AS (ps:List Str) (ws:List Int) (qs:List Str) (ys:List Int):Int:=CJ ys (qs.map (AG ps ws))
def SX (C:Addr):A7:=λds O R=>∃ (q n:Nat) (sc t b u c:Int) (ps:List Str) (ws:List Int) (x:Str),ds=[.ptr q,.str x]/\AY C O q n sc t b ps ws u c/\AN x/\x∉ps/\ps.length<100/\R .non ((O.set n (some (.dct ((ps++[x]).map Sum.inr) ((ws++[u]).map D.int)))).set q (some (.ins C (AM sc t b n u (c+1)))))
def SW (C:Addr):A7:=λds O R=>∃ (q n:Nat) (sc t b u c:Int) (ps:List Str) (ws:List Int) (x:Str),ds=[.ptr q,.str x]/\AY C O q n sc t b ps ws u c/\AN x/\x∈ps/\R .non (O.set n (some (.dct (Cj (ps.map Sum.inr) (.inr x)) (BZ (ps.map Sum.inr) (ws.map D.int) (.inr x)))))
def HC (C:Addr):A7:=λds O R=>∃ (q n:Nat) (sc t b u c:Int) (ps:List Str) (ws:List Int),ds=[.ptr q]/\AY C O q n sc t b ps ws u c/\ps.length<64/\R (.tup ((Bh Cd ps).map D.str)) O
def HF (C:Addr):A7:=λds O R=>∃ (q n:Nat) (sc t b u c:Int) (ps:List Str) (ws:List Int),ds=[.ptr q]/\AY C O q n sc t b ps ws u c/\R (.int c) O
def NV (C:Addr):A7:=λds O R=>∃ (q n:Nat) (sc t b u c:Int) (ps:List Str) (ws:List Int),ds=[.ptr q]/\AY C O q n sc t b ps ws u c/\R (.tup [.ptr O.length,.int u]) (O++[some (MO.dct (ps.map Sum.inr) (ws.map D.int))])
def SU (C:Addr):A7:=λds O R=>∃ (q n:Nat) (sc t b u c:Int) (ps qs:List Str) (ws ys:List Int),ds=[.ptr q,.dct (qs.map Sum.inr) (ys.map D.int)]/\AY C O q n sc t b ps ws u c/\CC ws/\CD sc ps qs ys/\R (.int (AS ps ws qs ys)) O
def BV (sc t b:Int) (n:D) (u c:Int):List (Str×D):=[("scale",.int sc),("top",.int t),("bottom",.int b),("tops",n),("under",.int u),("came",.int c)]
section
variable (sc t b:Int) (n:D) (u c:Int)
theorem QU:(BV sc t b n u c).lookup ("scale" : Str)=some (.int sc):=Ee
theorem QT:(BV sc t b n u c).lookup ("top" : Str)=some (.int t):=by unfold BV; rw [Bw wD,Ee]
theorem QV:(BV sc t b n u c).lookup ("bottom" : Str)=some (.int b):=by unfold BV; rw [Bw wD,Bw wD,Ee]
theorem Zy:(BV sc t b n u c).lookup ("tops" : Str)=some (n):=by unfold BV; rw [Bw wD,Bw wD,Bw wD,Ee]
theorem Zx:(BV sc t b n u c).lookup ("under" : Str)=some (.int u):=by unfold BV; rw [Bw wD,Bw wD,Bw wD,Bw wD,Ee]
theorem Qr (n':D):BN "tops" (n') (BV sc t b n u c)=BV sc t b n' u c:=by
 unfold BV
 rw [Dd wD,Dd wD,Dd wD,KY]
theorem YG (u':Int):BN "under" (.int u') (BV sc t b n u c)=BV sc t b n u' c:=by
 unfold BV
 rw [Dd wD,Dd wD,Dd wD,Dd wD,KY]
end
structure Jm (C:Addr) (O:Ad) (q:Nat) (fs:List (Str×D)) (sc t b:Int):Prop where
 q:O[q]?=some (some (.ins C fs))
 sc:fs.lookup ("scale" : Str)=some (.int sc)
 t:fs.lookup ("top" : Str)=some (.int t)
 b:fs.lookup ("bottom" : Str)=some (.int b)
def N0 (C:Addr):A7:=λds O R=>∃ (q:Nat) (fs:List (Str×D)) (sc t b own off:Int),ds=[.ptr q,.int own,.int off]/\Jm C O q fs sc t b/\C9 sc t b/\(0<=own/\own<=sc)/\(0<=off/\off<=sc)/\R (.int (tA t b sc own off)) O
def NX (C:Addr):A7:=λds O R=>∃ (q:Nat) (fs:List (Str×D)) (sc t b own:Int),ds=[.ptr q,.int own]/\Jm C O q fs sc t b/\C9 sc t b/\(0<=own/\own<=sc)/\R (.int (tS t b sc own)) O
def NY (C:Addr):A7:=λds O R=>∃ (q:Nat) (fs:List (Str×D)) (sc t b own so:Int) (w:Option Int),ds=[.ptr q,.int own,od w,.int so]/\Jm C O q fs sc t b/\C9 sc t b/\(0<=own/\own<=sc)/\(0<=so/\so<=sc)/\(w=none\/Ie sc w=true)/\R (.int (tF t b sc own so w)) O
theorem Ny {sc:Int} {ps qs:List Str} {ws ys:List Int} (hs:CD sc ps qs ys) (hl:ps.length=ws.length) (hw:CC ws):Gi ys (qs.map (AG ps ws)):=by
 have h1:=hs.l
 have h2:=hs.le
 refine ⟨by rw [List.length_map]; omega,by rw [List.length_map]; omega,λw hw2=>?_⟩
 obtain ⟨x,hx,rfl⟩:=List.mem_map.mp hw2
 obtain ⟨w,h1,h2⟩:=DB hl (hs.sub x hx)
 unfold AG
 rw [h1]
 exact hw w h2
theorem Io {sc:Int} {ps qs:List Str} {ws ys:List Int} (hs:CD sc ps qs ys) (h0:0<=sc) (hl:ps.length=ws.length) (hw:CC ws):0<=AS ps ws qs ys/\AS ps ws qs ys<=sc:=by
 have hr:=Ot (Ny hs hl hw)
 unfold AS
 unfold HU at hr
 by_cases hn:ys=[]
 ·rw [if_pos hn] at hr
  rw [of_decide_eq_true hr]
  omega
 ·rw [if_neg hn,Bool.and_eq_true] at hr
  exact hs.on _ (of_decide_eq_true hr.1)
def SY (C:Addr):A7:=λds O R=>∃ (q n:Nat) (sc t b u c so:Int) (ps qs:List Str) (ws ys:List Int),ds=[.ptr q,.dct (qs.map Sum.inr) (ys.map D.int),.int so]/\AY C O q n sc t b ps ws u c/\CC ws/\CD sc ps qs ys/\(0<=so/\so<=sc)/\R (.int (ab (AS ps ws qs ys-so))) O
def Bz (t b sc own so:Int) (ps:List Str) (ws:List Int) (qs:List Str) (ys:List Int):List Int:=(ps.zip ws).map λp=>p.2*tF t b sc own so (BJ qs ys p.1)
def SV (C:Addr):A7:=λds O R=>∃ (q n k:Nat) (sc t b u c so:Int) (ps qs:List Str) (ws ys:List Int),ds=[.ptr q,.dct (qs.map Sum.inr) (ys.map D.int),.int so]/\AY C O q n sc t b ps ws u c/\C9 sc t b/\k<=1000/\DD k ws u/\CD sc ps qs ys/\(0<=so/\so<=sc)/\ps.length<=60 /\
 R .non ((O.set n none).set q (some (.ins C (AM sc t b O.length (u*tS t b sc (ab (AS ps ws qs ys-so))) c)))++[some (MO.dct (ps.map Sum.inr) ((Bz t b sc (ab (AS ps ws qs ys-so)) so ps ws qs ys).map D.int))])
theorem V7 (qs:List Str) (ys:List Int) (x:Str):(Bf (qs.map Sum.inr) (ys.map D.int) (.inr x)).getD .non=od (BJ qs ys x):=by
 show (BJ qs (ys.map D.int) x).getD .non=_
 rw [MY]
 cases BJ qs ys x <;> rfl
theorem Q0 {sc:Int} {ps qs:List Str} {ys:List Int} (hs:CD sc ps qs ys) (x:Str):BJ qs ys x=none\/Ie sc (BJ qs ys x)=true:=by
 by_cases hx:x∈qs
 ·obtain ⟨y,h1,h2⟩:=DB hs.l hx
  rw [h1]
  right
  show (decide (0<=y)&&decide (y<=sc))=true
  rw [decide_eq_true (hs.on y h2).1,decide_eq_true (hs.on y h2).2]; rfl
 ·exact .inl (Gg hx)
def DI (x:Int) (k:Nat):Int:=(x*x+48271*x+7*(k:Int)+3)%2305843009213693951
def run (k:Nat) (x:Int):Nat->List Int
 | 0=>[]
 | n+1=>DI x k::run (k+1) (DI x k) n
theorem Os:∀ (n k:Nat) (x:Int),(run k x n).length=n
 | 0,_,_=>rfl
 | n+1,k,x=>by unfold run; rw [List.length_cons,Os n]
def Ch (c:Int) (n:Nat):List Int:=(run 0 (c%2305843009213693951) (n+1)).drop 1
theorem JG (c:Int) (n:Nat):(Ch c n).length=n:=by unfold Ch; rw [List.length_drop,Os]; omega
def JI:List D->D->Prop:=λds d=>∃ (c:Int) (n:Nat),ds=[.int c,.int (n:Nat)]/\n<=200/\d=.lst ((Ch c n).map D.int)
def OF:List D->Prop:=λds=>∃ ns:List Int,ds=[.scr (ns.map D.int)]
def Ow:List D->D->Prop:=λ_ d=>∃ sc t b:Int,d=.tup [.int sc,.int t,.int b]/\C9 sc t b
def OG:List D->Prop:=λds=>∃ (c:Int) (m:Nat),ds=[.int c,.int (m:Nat)]/\m<=10
structure Ni (sc:Int) (ths qs:List Str) (ys:List Int):Prop where
 l:qs.length=ys.length
 nd:qs.Nodup
 sub:∀ x∈qs,x∈ths
 on:∀ y∈ys,0<=y/\y<=sc
theorem Pj {O Y:Ad} {d:D} {xs:List D} (h:LV O d xs):LV (O++Y) d xs:=by
 rcases h with h | h | ⟨n,h1,h2⟩
 ·exact .inl h
 ·exact .inr (.inl h)
 ·exact .inr (.inr ⟨n,h1,Cm h2⟩)
theorem Ij {x:Str} (h:AN x):PyData.strOk x=true:=by
 unfold PyData.strOk
 rw [<- Array.all_toList,List.all_eq_true]
 intro c hc
 have:∀ c∈ED,c<0x110000:=by decide +kernel
 exact decide_eq_true (this c (h.al c hc))
theorem eqS (a b:Str):CM (.str a) (.str b)=decide (a=b):=by
 show PyData.eqv (.str a) (.str b)=_
 by_cases e:a=b
 ·subst e; simp [PyData.eqv]
 ·simp [PyData.eqv,e]
theorem Hk (l:List Str) (x:Str):((l.map D.str).any λy=>CM y (.str x))=decide (x∈l):=by
 induction l with
 | nil=>simp
 | cons a l ih=>
  rw [List.map_cons,List.any_cons,ih,eqS]
  by_cases e:a=x
  ·subst e; simp
  ·simp [e,Ne.symm e]
inductive AU where
 | come (x:Str) | go (x:Str) | turn (qs:List Str) (ys:List Int) (so:Int)
def dD:AU->D
 | .come x=>.tup [.str "come",.str x]
 | .go x=>.tup [.str "go",.str x]
 | .turn qs ys so=>.tup [.str "turn",.dct (qs.map Sum.inr) (ys.map D.int),.int so]
def Et (s:List Str×Nat):AU->List Str×Nat
 | .come x=>(s.1++[x],s.2+1)
 | .go x=>(s.1.eraseIdx (s.1.idxOf x),s.2)
 | .turn _ _ _=>s
def AT (L:List AU):List Str×Nat:=L.foldl Et ([],0)
theorem Du (L:List AU) (d:AU):AT (L++[d])=Et (AT L) d:=by unfold AT; rw [List.foldl_append]; rfl
def Ju (sc:Int) (s:List Str×Nat):AU->Prop
 | .come x=>AN x/\x∉s.1/\s.2<20
 | .go x=>AN x/\x∈s.1
 | .turn qs ys so=>Ni sc s.1 qs ys/\(0<=so/\so<=sc)
def Hr (sc:Int) (L:List AU):Prop:=∀ (i:Nat) (d:AU),L[i]?=some d->Ju sc (AT (L.take i)) d
theorem Hr.snoc {sc:Int} {L:List AU} {d:AU} (h:Hr sc L) (hd:Ju sc (AT L) d):Hr sc (L++[d]):=λi e he=>by
 by_cases hi:i<L.length
 ·rw [List.getElem?_append_left hi] at he
  rw [List.take_append_of_le_length wF]
  exact h i e he
 ·have hi2:i=L.length:=by
   have:=(List.getElem?_eq_some_iff.mp he).1
   rw [List.length_append] at this
   have:i<L.length+1:=this
   omega
  subst hi2
  rw [List.getElem?_append_right (Nat.le_refl _),Nat.sub_self] at he
  cases Option.some.inj he
  rw [List.take_append_of_le_length (Nat.le_refl _),List.take_length]
  exact hd
structure Fv (s:List Str×Nat):Prop where
 nd:s.1.Nodup
 nm:∀ x∈s.1,AN x
 le:s.1.length<=s.2
 l20:s.2<=20
theorem Fv.step {sc:Int} {s:List Str×Nat} {d:AU} (h:Fv s) (hd:Ju sc s d):Fv (Et s d):=by
 cases d with
 | come x=>
  obtain ⟨h1,h2,h3⟩:=hd
  refine ⟨List.nodup_append.mpr ⟨h.nd,List.nodup_cons.mpr ⟨List.not_mem_nil,List.nodup_nil⟩,λa ha b hb=>by rw [List.mem_singleton] at hb; subst hb; rintro rfl; exact h2 ha⟩,λy hy=>?_,?_,?_⟩
  ·rcases List.mem_append.mp hy with hy | hy
   ·exact h.nm y hy
   ·cases List.mem_singleton.mp hy; exact h1
  ·show (s.1++[x]).length<=s.2+1
   rw [List.length_append]
   have:=h.le
   show s.1.length+1<=_
   omega
  ·show s.2+1<=20; omega
 | go x=>exact ⟨h.nd.sublist (List.eraseIdx_sublist ..),λy hy=>h.nm y (List.mem_of_mem_eraseIdx hy),Nat.le_trans (List.length_eraseIdx_le ..) h.le,h.l20⟩
 | turn qs ys so=>exact h
theorem YU (d:AU):GW (dD d)=true:=by
 cases d with
 | come x=>rfl
 | go x=>rfl
 | turn qs ys so=>show (DO (ys.map D.int)&&(true&&true))=true; rw [Lf]; rfl
theorem K5 {l:List Str} (h:∀ x∈l,AN x):Cu (l.map D.str)=true:=OM λx hx=>Ij (h x hx)
theorem Hg:∀ l:List Str,D0 (l.map D.str)<=0
 | []=>Nat.le_refl _
 | x::l=>by show max 0 (D0 (l.map D.str))<=0; have:=Hg l; omega
theorem Ir:∀ {l m:List Str},l.Nodup->(∀ x∈l,x∈m)->l.length<=m.length
 | [],_,_,_=>Nat.zero_le _
 | a::l,m,h,hs=>by
  obtain ⟨h1,h2⟩:=List.nodup_cons.mp h
  have ha:a∈m:=hs a List.mem_cons_self
  have:=Ir (l:=l) (m:=m.erase a) h2 λx hx=>(List.mem_erase_of_ne (λe=>h1 (by rw [<- e]; exact hx))).mpr (hs x (List.mem_cons_of_mem _ hx))
  rw [List.length_erase_of_mem ha] at this
  have:=List.length_pos_of_mem ha
  rw [List.length_cons]
  omega
theorem WI (k:Nat) (h:k<26):∃ c,(Str.ofString "abcdefghijklmnopqrstuvwxyz").cps[k]?=some c/\c∈ED:=by
 have hs:(Str.ofString "abcdefghijklmnopqrstuvwxyz").cps.size=26:=by decide +kernel
 refine ⟨_,Array.getElem?_eq_getElem (by rw [hs]; exact h),?_⟩
 unfold ED
 rw [<- Array.getElem_toList]
 exact List.getElem_mem _
theorem F5 {O:Ad} {i j:Nat} {y m:Option MO} (hne:i≠j) (h:O[j]?=some m):(O.set i y)[j]?=some m:=by rw [List.getElem?_set_ne hne]; exact h
theorem MV {O:Ad} {i j:Nat} {m n:Option MO} (h1:O[i]?=some m) (h2:O[j]?=some n) (h:m≠n):i≠j:=λe=>by subst e; rw [h1] at h2; exact h (Option.some.inj h2)
theorem MW {O:Ad} {i:Nat} {m:Option MO} (h:O[i]?=some m):i<O.length:=(List.getElem?_eq_some_iff.mp h).1
section
variable {C:Addr} {O O':Ad} {q n e q2 n2 k:Nat} {sc t b u:Int} {ps:List Str} {ws:List Int}
theorem AY.set {c:Int} {i:Nat} {y:Option MO} (h:AY C O q n sc t b ps ws u c) (h1:i≠q) (h2:i≠n):AY C (O.set i y) q n sc t b ps ws u c:=⟨F5 h1 h.q,F5 h2 h.n,h.l,h.nd⟩
theorem AY.app {c:Int} (h:AY C O q n sc t b ps ws u c) (Y:Ad):AY C (O++Y) q n sc t b ps ws u c:=⟨Cm h.q,Cm h.n,h.l,h.nd⟩
theorem AY.ne {c:Int} (h:AY C O q n sc t b ps ws u c):n≠q:=MV h.n h.q (by intro z; cases z)
theorem Nr {ws:List Int} {u:Int} {k:Nat} (h:DD k ws u):DD (k+1) ws u:=by
 have:(2:Int) ^ (250*(k+1))<=2 ^ (250*(k+1+1)):=by
  rw [show 250*(k+1+1)=250*(k+1)+250 by omega,Int.pow_add]
  have h1:(0:Int)<=2 ^ (250*(k+1)):=Int.pow_nonneg wE
  have h2:(1:Int)<=2 ^ 250:=by decide +kernel
  have:=Int.mul_le_mul_of_nonneg_left h2 h1
  rw [Int.mul_one] at this
  exact this
 exact ⟨λx hx=>⟨(h.w x hx).1,Int.lt_of_lt_of_le (h.w x hx).2 this⟩,h.u0,Int.lt_of_lt_of_le h.u1 this⟩
theorem RO {ws:List Int} {u:Int} {k:Nat} (h:DD k ws u):DD k (ws++[u]) u:=⟨λx hx=>by
 rcases List.mem_append.mp hx with hx | hx
 ·exact h.w x hx
 ·cases List.mem_singleton.mp hx; exact ⟨h.u0,h.u1⟩,h.u0,h.u1⟩
theorem RN {ws:List Int} {u:Int} {k i:Nat} (h:DD k ws u):DD k (ws.eraseIdx i) u:=⟨λx hx=>h.w x (List.mem_of_mem_eraseIdx hx),h.u0,h.u1⟩
theorem RM {own so:Int} {qs:List Str} {ys:List Int} (hf:C9 sc t b) (hw:DD k ws u) (hs:CD sc ps qs ys) (hso:0<=so/\so<=sc) (hd:0<=own/\own<=sc):DD (k+1) (Bz t b sc own so ps ws qs ys) (u*tS t b sc own):=by
 have e:250*(k+1+1)=250*(k+1)+250:=by omega
 have h1:=JF (own:=own) hf hd.2
 have h2:=EA hw.u0 hw.u1 h1.1 h1.2
 refine ⟨λx hx=>?_,h2.1,by rw [e]; exact h2.2⟩
 obtain ⟨p,hp,rfl⟩:=List.mem_map.mp hx
 have h3:=hw.w _ (List.of_mem_zip hp).2
 have h4:=NG (own:=own) hf hd.2 hso (Q0 hs p.1)
 have h5:=EA h3.1 h3.2 h4.1 h4.2
 exact ⟨h5.1,by rw [e]; exact h5.2⟩
theorem Wi {own so:Int} {qs:List Str} {ys:List Int} (hl:ps.length=ws.length):ps.length=(Bz t b sc own so ps ws qs ys).length:=by
 unfold Bz
 rw [List.length_map,List.length_zip]; omega
theorem MS {c:Int} {x:Str} (h:AY C O q n sc t b ps ws u c) (hx:x∉ps):AY C ((O.set n (some (.dct ((ps++[x]).map Sum.inr) ((ws++[u]).map D.int)))).set q (some (.ins C (AM sc t b n u (c+1))))) q n sc t b (ps++[x]) (ws++[u]) u (c+1):=
 ⟨Da (F5 h.ne h.q),F5 (Ne.symm h.ne) (Da h.n),by rw [List.length_append,List.length_append,h.l]; rfl,List.nodup_append.mpr ⟨h.nd,List.nodup_cons.mpr ⟨List.not_mem_nil,List.nodup_nil⟩,λa ha b hb=>by rw [List.mem_singleton] at hb; subst hb; rintro rfl; exact hx ha⟩⟩
theorem QL {c u':Int} {ws':List Int} (h:AY C O q n sc t b ps ws u c) (hl:ps.length=ws'.length):AY C ((O.set n none).set q (some (.ins C (AM sc t b O.length u' c)))++[some (MO.dct (ps.map Sum.inr) (ws'.map D.int))]) q O.length sc t b ps ws' u' c:=by
 have hL:((O.set n none).set q (some (.ins C (AM sc t b O.length u' c)))).length=O.length:=by rw [List.length_set,List.length_set]
 refine ⟨Cm (Da (F5 h.ne h.q)),?_,hl,h.nd⟩
 rw [List.getElem?_append_right wF,hL,Nat.sub_self]
 rfl
end
theorem OJ {α:Type}:∀ {ps:List Str} {xs:List α} {x:Str},ps.length=xs.length->x∉ps->Cj (ps.map Sum.inr) (.inr x)=ps.map Sum.inr/\BZ (ps.map Sum.inr) xs (.inr x)=xs
 | [],[],_,_,_=>⟨rfl,rfl⟩
 | a::ps,y::xs,x,hl,hn=>by
  obtain ⟨i1,i2⟩:=OJ (ps:=ps) (xs:=xs) (x:=x) (by simpa using hl) (λh=>hn (List.mem_cons_of_mem _ h))
  have e:¬ a=x:=λe=>hn (by rw [e]; exact List.mem_cons_self)
  constructor
  ·unfold Cj at *
   rw [List.map_cons,List.filter_cons_of_pos (by simp [e]),i1]
  ·unfold BZ at *
   rw [List.map_cons,List.zip_cons_cons,List.filter_cons_of_pos (by simp [e]),List.map_cons,i2]
theorem OL {α:Type}:∀ {ps:List Str} {xs:List α} {x:Str},ps.length=xs.length->ps.Nodup->x∈ps->Cj (ps.map Sum.inr) (.inr x)=(ps.eraseIdx (ps.idxOf x)).map Sum.inr/\BZ (ps.map Sum.inr) xs (.inr x)=xs.eraseIdx (ps.idxOf x)
 | [],_,_,_,_,h=>by cases h
 | a::ps,y::xs,x,hl,hn,hx=>by
  obtain ⟨h1,h2⟩:=List.nodup_cons.mp hn
  have hl':ps.length=xs.length:=by simpa using hl
  by_cases e:a=x
  ·subst e
   obtain ⟨p1,p2⟩:=OJ (ps:=ps) (xs:=xs) (x:=a) hl' h1
   have i0:(a::ps).idxOf a=0:=by simp [List.idxOf_cons]
   rw [i0,List.eraseIdx_cons_zero,List.eraseIdx_cons_zero]
   constructor
   ·unfold Cj at *
    rw [List.map_cons,List.filter_cons_of_neg (by simp),p1]
   ·unfold BZ at *
    rw [List.map_cons,List.zip_cons_cons,List.filter_cons_of_neg (by simp),p2]
  ·obtain ⟨p1,p2⟩:=OL (ps:=ps) (xs:=xs) (x:=x) hl' h2 ((List.mem_cons.mp hx).resolve_left λz=>e z.symm)
   have i0:(a::ps).idxOf x=ps.idxOf x+1:=by rw [List.idxOf_cons,show (a==x)=false from beq_eq_false_iff_ne.mpr e]; rfl
   rw [i0,List.eraseIdx_cons_succ,List.eraseIdx_cons_succ]
   constructor
   ·unfold Cj at *
    rw [List.map_cons,List.filter_cons_of_pos (by simp [e]),p1,List.map_cons]
   ·unfold BZ at *
    rw [List.map_cons,List.zip_cons_cons,List.filter_cons_of_pos (by simp [e]),List.map_cons,p2]
theorem Yu {α β:Type} {l:List α} {m:List β} {i:Nat} (h:l.length=m.length):(l.eraseIdx i).length=(m.eraseIdx i).length:=by
 rw [List.length_eraseIdx,List.length_eraseIdx,h]
theorem MR {C:Addr} {O:Ad} {q n:Nat} {sc t b u c:Int} {ps:List Str} {ws:List Int} {x:Str} (h:AY C O q n sc t b ps ws u c) (hx:x∈ps):AY C (O.set n (some (.dct (Cj (ps.map Sum.inr) (.inr x)) (BZ (ps.map Sum.inr) (ws.map D.int) (.inr x))))) q n sc t b (ps.eraseIdx (ps.idxOf x)) (ws.eraseIdx (ps.idxOf x)) u c:=by
 obtain ⟨p1,p2⟩:=OL (xs:=ws.map D.int) (by rw [List.length_map]; exact h.l) h.nd hx
 refine ⟨F5 h.ne h.q,?_,Yu h.l,h.nd.sublist (List.eraseIdx_sublist ..)⟩
 rw [Da h.n,p1,p2,Mu]
section
variable {C:Addr} {O O':Ad} {q n k:Nat} {sc t b u:Int} {s:List Str×Nat} {ws:List Int}
end
theorem Mw {sc:Int} {L:List AU} (h:Hr sc L):∀ i,Fv (AT (L.take i))
 | 0=>⟨List.nodup_nil,(λx hx=>by cases hx),Nat.le_refl _,by show 0<=20; decide⟩
 | i+1=>by
  cases hd:L[i]? with
  | none=>rw [List.take_succ,hd]; show Fv (AT (L.take i++[])); rw [List.append_nil]; exact Mw h i
  | some d=>rw [List.take_succ,hd]; show Fv (AT (L.take i++[d])); rw [Du]; exact (Mw h i).step (h i d hd)
inductive Ov where
 | n | i (v:Int) | b (t:Bool) | s (x:Str) | t (xs:List D) | l (xs:List D)
def ov:Ov->D
 | .n=>.non | .i v=>.int v | .b t=>.bl t | .s x=>.str x | .t xs=>.tup xs | .l xs=>.lst xs
def Iy:Ov->Bool
 | .i _=>true
 | _=>false
def De (s:Int):Ov->Bool
 | .i v=>decide (0<=v)&&decide (v<=s)
 | _=>false
theorem O5 {b:Bool} (h:(!b)=true):b=false:=by cases b <;> first | rfl | cases h
theorem O7 {b:Bool} (h:(!b)=false):b=true:=by cases b <;> first | rfl | cases h
theorem OY (v:Ov):GT (ov v)=true:=by cases v <;> rfl
def JN:List D->D->Prop:=λds d=>∃ v:Ov,ds=[ov v]/\d=.bl (Iy v)
def N3:List D->D->Prop:=λds d=>∃ (s:Int) (v:Ov),ds=[.int s,ov v]/\d=.bl (De s v)
def Dg:Ov->Int->Int->Bool
 | .i n,l,h=>decide (l<=n)&&decide (n<=h)
 | _,_,_=>false
theorem IB {v:Ov} {l h:Int} (e:Dg v l h=true):∃ n,v=.i n/\l<=n/\n<=h:=by
 cases v with
 | i n=>
  simp only [Dg,Bool.and_eq_true,decide_eq_true_eq] at e
  exact ⟨n,rfl,e.1,e.2⟩
 | _=>cases e
abbrev ND:Str := " is no whole number that may stand there"
def Sh (x:Str):Prop:=(Str.empty++x++ND).length<=sizeLine/\x.length<=sizeLine/\(Str.empty++x).length<=sizeLine
theorem JU {x:Str} {n:Nat} (h:((Str.empty++x++ND).length,x.length,(Str.empty++x).length)=(n+40,n,n)) (hn:n<=20):Sh x:=by
 simp only [Prod.mk.injEq] at h
 obtain ⟨h1,h2,h3⟩:=h
 unfold Sh
 rw [sizeLine_eq]
 omega
theorem Th:Sh "scale" := JU (n:=5) wD wE
def HB (CK4:Addr):Bi:=λds O R RX=>∃ (x:Str) (v:Ov) (l h:Int),ds=[.str x,ov v,.int l,.int h]/\Sh x/\(Dg v l h=true->R .non O)/\(Dg v l h=false->RX CK4 [] O)
theorem Tf:Sh "top" := JU (n:=3) wD wE
theorem Ti:Sh "bottom" := JU (n:=6) wD wE
def JK (CK4:Addr):Bi:=λds O R RX=>∃ v:Ov,ds=[ov v]/\(Dg v 1 10=true->R .non O)/\(Dg v 1 10=false->RX CK4 [] O)
def Mf:Ov->Int
 | .i n=>n-1
 | _=>0
def DT (t b:Ov):Bool:=Dg b 1 100&&Dg t 0 (Mf b)
theorem XH {t b:Ov} (h:DT t b=true):∃ x y:Int,t=.i x/\b=.i y/\(0<=x/\x<y/\y<=100):=by
 unfold DT at h
 rw [Bool.and_eq_true] at h
 obtain ⟨y,rfl,h1⟩:=IB h.1
 obtain ⟨x,rfl,h2⟩:=IB h.2
 have h3:x<=y-1:=h2.2
 exact ⟨x,y,rfl,rfl,h2.1,by omega,h1.2⟩
theorem XG (x y:Int):(decide (0<=x)&&(decide (x<y)&&decide (y<=100)))=DT (.i x) (.i y):=by
 show _=((decide (1<=y)&&decide (y<=100))&&(decide (0<=x)&&decide (x<=y-1)))
 rw [Bool.eq_iff_iff]
 simp only [Bool.and_eq_true,decide_eq_true_eq]
 omega
def JO (CK4:Addr):Bi:=λds O R RX=>∃ t b:Ov,ds=[ov t,ov b]/\(DT t b=true->R .non O)/\(DT t b=false->RX CK4 [] O)
def DP (x:Str):Bool:=(decide (1<=(x.length:Int))&&decide ((x.length:Int)<=8))&&(x.cps.toList.map λc=>decide (c∈ED)).all id
def Fd:Ov->Bool
 | .s x=>DP x
 | _=>false
def Jh:Ov->Prop
 | .s x=>x.length<=1000
 | _=>True
theorem Wc {x:Str} (h:DP x=true):AN x:=by
 unfold DP at h
 rw [Bool.and_eq_true,Bool.and_eq_true,decide_eq_true_eq,decide_eq_true_eq,List.all_map,List.all_eq_true] at h
 exact ⟨by omega,by omega,λc hc=>of_decide_eq_true (h.2 c hc)⟩
theorem FW {x:Str} (h:AN x):DP x=true:=by
 have l1:=h.l1
 have l2:=h.l2
 unfold DP
 rw [decide_eq_true wF,decide_eq_true wF,List.all_map]
 exact List.all_eq_true.mpr λc hc=>decide_eq_true (h.al c hc)
def N5:List D->D->Prop:=λds d=>∃ v:Ov,ds=[ov v]/\Jh v/\d=.bl (Fd v)
def GB (CK2:Addr):Bi:=λds O R RX=>∃ v:Ov,ds=[ov v]/\Jh v/\(Fd v=true->R .non O)/\(Fd v=false->RX CK2 [] O)
def HH (CK2:Addr):Bi:=λds O R RX=>∃ (da:D) (ks:List Ak) (xs:List D) (x:Str),ds=[da,.str x]/\DV O da ks xs/\x.length<=1000/\((Bf ks xs (.inr x)).isSome=true->R .non O)/\((Bf ks xs (.inr x)).isSome=false->RX CK2 [] O)
def Fw (ps qs:List Str):Prop:=∀ x∈qs,AN x/\x∈ps
def JJ (CK2:Addr):Bi:=λds O R RX=>∃ (da:D) (ps qs:List Str) (ws:List Int) (zs:List D),ds=[da,.dct (qs.map Sum.inr) zs]/\DV O da (ps.map Sum.inr) (ws.map D.int)/\ps.length=ws.length/\qs.length<=60/\(∀ x∈qs,x.length<=1000)/\(Fw ps qs->R .non O)/\(¬ Fw ps qs->RX CK2 [] O)
def HI (CK5:Addr):Bi:=λds O R RX=>∃ (s:Int) (vs:List Ov),ds=[.int s,.lst (vs.map ov)]/\vs.length<=60/\((∀ v∈vs,De s v=true)->R .non O)/\(¬ (∀ v∈vs,De s v=true)->RX CK5 [("number",.int 0)] O)
theorem G0 {ps:List Str} {ws:List Int} {x:Str} (hl:ps.length=ws.length):(Bf (ps.map Sum.inr) (ws.map D.int) (.inr x)).isSome=decide (x∈ps):=by
 by_cases h:x∈ps
 ·rw [MU hl h,decide_eq_true h]
 ·rw [decide_eq_false h]
  show (BJ ps (ws.map D.int) x).isSome=false
  rw [Gg h]; rfl
def HE (C CK4:Addr):Bi:=λds O R RX=>∃ (q:Nat) (s0 t0 b0:Ov),ds=[.ptr q,ov s0,ov t0,ov b0]/\O[q]?=some (some (.ins C []))/\(∀ sc t b:Int,s0=.i sc->t0=.i t->b0=.i b->C9 sc t b->R .non ((O++[some (MO.dct [] [])]).set q (some (.ins C (AM sc t b O.length 1 0)))))/\((Dg s0 1 10&&DT t0 b0)=false->RX CK4 [] O)
def Gz (C CK2 CK7:Addr):Bi:=λds O R RX=>SX C ds O R\/(∃ (q n:Nat) (sc t b u c:Int) (ps:List Str) (ws:List Int) (v:Ov),ds=[.ptr q,ov v]/\AY C O q n sc t b ps ws u c/\Jh v/\Fd v=false/\RX CK2 [] O) \/
 ∃ (q n:Nat) (sc t b u c:Int) (ps:List Str) (ws:List Int) (x:Str),ds=[.ptr q,.str x]/\AY C O q n sc t b ps ws u c/\AN x/\x∈ps/\RX CK7 [] O
def Gy (C CK2:Addr):Bi:=λds O R RX=>SW C ds O R\/(∃ (q n:Nat) (sc t b u c:Int) (ps:List Str) (ws:List Int) (v:Ov),ds=[.ptr q,ov v]/\AY C O q n sc t b ps ws u c/\Jh v/\Fd v=false/\RX CK2 [] O) \/
 ∃ (q n:Nat) (sc t b u c:Int) (ps:List Str) (ws:List Int) (x:Str),ds=[.ptr q,.str x]/\AY C O q n sc t b ps ws u c/\AN x/\x∉ps/\RX CK2 [] O
def Gm (C CK2 CK5:Addr) (q:Nat) (ps qs:List Str) (vs:List Ov) (sc:Int) (O:Ad) (RX:XR):Prop:=qs.length<=60/\qs.length=vs.length/\(∀ x∈qs,x.length<=1000)/\((¬ Fw ps qs/\RX CK2 [] O)\/(Fw ps qs/\¬ (∀ v∈vs,De sc v=true)/\RX CK5 [("number",.int 0)] O))
def FN (C CK2 CK5:Addr):Bi:=λds O R RX=>SU C ds O R\/∃ (q n:Nat) (sc t b u c:Int) (ps qs:List Str) (ws:List Int) (vs:List Ov),ds=[.ptr q,.dct (qs.map Sum.inr) (vs.map ov)]/\AY C O q n sc t b ps ws u c/\Gm C CK2 CK5 q ps qs vs sc O RX
def HJ (C CK2 CK5:Addr):List D->Ad->XR->Prop:=λds O RX=>(∃ (q n:Nat) (sc t b u c:Int) (ps qs:List Str) (ws:List Int) (vs:List Ov) (y:Ov),ds=[.ptr q,.dct (qs.map Sum.inr) (vs.map ov),ov y]/\AY C O q n sc t b ps ws u c/\Gm C CK2 CK5 q ps qs vs sc O RX) \/
 ∃ (q n:Nat) (sc t b u c:Int) (ps qs:List Str) (ws ys:List Int) (y:Ov),ds=[.ptr q,.dct (qs.map Sum.inr) (ys.map D.int),ov y]/\AY C O q n sc t b ps ws u c/\CC ws/\CD sc ps qs ys/\De sc y=false/\RX CK5 [("number",.int 0)] O
def GA (C CK2 CK5:Addr):Bi:=λds O R RX=>SY C ds O R\/HJ C CK2 CK5 ds O RX
def Gx (C CK2 CK5:Addr):Bi:=λds O R RX=>SV C ds O R\/HJ C CK2 CK5 ds O RX
theorem IA (ys:List Int):(ys.map Ov.i).map ov=ys.map D.int:=by rw [List.map_map]; rfl
theorem OW {sc:Int} {ys:List Int} (h:∀ y∈ys,0<=y/\y<=sc):∀ v∈ys.map Ov.i,De sc v=true:=λv hv=>by
 obtain ⟨y,hy,rfl⟩:=List.mem_map.mp hv
 show (decide (0<=y)&&decide (y<=sc))=true
 rw [decide_eq_true (h y hy).1,decide_eq_true (h y hy).2]; rfl
abbrev sgS (c:Nat):Str:=⟨#[c]⟩
def nS (i:Int):Str:=Str.ofString (toString i)
def Fi:List Nat:=(Str.ofString "0123456789").cps.toList
def BG (most:Int) (x:Str):Bool:=if (decide ((x.length:Int)=0)||decide (most<(x.length:Int)))=true then false else if (!((x.cps.toList.map λc=>decide (c∈Fi)).all id))=true then false else (!(sgS ((x.cps[0]?).getD 0) == "0")||decide ((x.length:Int)=1))
def Bx (x:Str):Int:=(PySem.intText? x).getD 0
theorem XO {most:Int} {x:Str} (h:BG most x=true):(x.length:Int)≠0/\(x.length:Int)<=most/\∀ c∈x.cps.toList,c∈Fi:=by
 unfold BG at h
 split at h
 ·cases h
 ·rename_i h1
  rw [Bool.or_eq_true,decide_eq_true_eq,decide_eq_true_eq] at h1
  split at h
  ·cases h
  ·rename_i h2
   refine ⟨λz=>h1 (.inl z),Int.not_lt.mp λz=>h1 (.inr z),λc hc=>?_⟩
   have h3:(x.cps.toList.map λc=>decide (c∈Fi)).all id=true:=by
    cases e:(x.cps.toList.map λc=>decide (c∈Fi)).all id with
    | true=>rfl
    | false=>rw [e] at h2; exact absurd rfl h2
   rw [List.all_map,List.all_eq_true] at h3
   exact of_decide_eq_true (h3 c hc)
theorem P3 {most:Int} {x:Str} (h:BG most x=true) (hm:most<=600):PySem.intText? x=some (Bx x)/\x.length<=640:=by
 obtain ⟨h1,h2,h3⟩:=XO h
 have hd:∀ c∈Fi,48<=c/\c<=57:=by decide +kernel
 have hne:x.cps.toList≠[]:=λe=>h1 (by
  have:x.cps.size=0:=by rw [<- Array.length_toList,e]; rfl
  show ((x.cps.size:Nat):Int)=0
  omega)
 have e:=PySem.intText_digits (x:=x) (λc hc=>hd c (h3 c hc)) hne wF
 refine ⟨?_,by omega⟩
 unfold Bx
 rw [e]
 rfl
def N7:List D->D->Prop:=λds d=>∃ (most:Int) (x:Str),ds=[.int most,.str x]/\x.length<=1000000/\d=.bl (BG most x)
theorem NK {x y:Str} (h:x.cps.toList=y.cps.toList):x=y:=by
 cases x; cases y
 exact congrArg Str.mk (Array.toList_inj.mp h)
theorem CQ (x y:Str):(x++y).cps.toList=x.cps.toList++y.cps.toList:=Array.toList_append ..
structure DC (x:Str) (W:List Str):Prop where
 sp:Txt.split x " " = W
 len:x.length<=6000
 ok:∀ w∈W,w.length<=6000/\PyData.strOk w=true
 ct:W.length<=100
theorem PZ {l:List Nat}:∀ {L:List (List Nat)},l∈L->l.length<=L.flatten.length
 | [],h=>by cases h
 | a::L,h=>by
  rw [List.flatten_cons,List.length_append]
  rcases List.mem_cons.mp h with rfl | h
  ·omega
  ·have:=PZ h; omega
theorem Hy {x w0:Str} {W:List Str} (e:x.cps.toList=w0.cps.toList++(W.map λv=>32::v.cps.toList).flatten) (hl:x.length<=6000) (hc:W.length<=99) (hs:∀ v∈w0::W,32∉v.cps.toList/\PyData.strOk v=true):DC x (w0::W):=by
 have es:((" " : Str))=⟨#[32]⟩:=by decide +kernel
 have ex:x=Str.join ⟨#[32]⟩ (w0::W):=NK (by rw [e,Iv])
 have hx:x.length=(w0.cps.toList++(W.map λv=>32::v.cps.toList).flatten).length:=by rw [<- e,Array.length_toList]; rfl
 refine ⟨?_,hl,λw hw=>⟨?_,(hs w hw).2⟩,by rw [List.length_cons]; omega⟩
 ·rw [ex,es]
  exact SS 32 w0 W λv hv=>(hs v hv).1
 ·rw [List.length_append] at hx
  rcases List.mem_cons.mp hw with rfl | hw
  ·have:w.length=w.cps.toList.length:=by rw [Array.length_toList]; rfl
   omega
  ·have h1:=PZ (l:=32::w.cps.toList) (L:=W.map λv=>32::v.cps.toList) (List.mem_map.mpr ⟨w,hw,rfl⟩)
   have:w.length=w.cps.toList.length:=by rw [Array.length_toList]; rfl
   rw [List.length_cons] at h1
   omega
def C8 (W:List Str):Prop:=W.length%2=0/\(AH W 0).Nodup/\∀ v∈AH W 1,BG 60 v=true
def Rs (E V:List Str):Prop:=∃ (k:Nat) (x v:Str),E[k]?=some x/\V[k]?=some v/\(x∈E.take k\/BG 60 v=false)
def ER (W:List Str):Prop:=W.length%2=1\/(W.length%2=0/\Rs (AH W 0) (AH W 1))
def JH (C:Addr):Bi:=λds O R RX=>∃ (x:Str) (W:List Str),ds=[.str x]/\DC x W/\(("" : Str)∉W->R (.lst (W.map D.str)) O)/\(("" : Str)∈W->RX C [("number",.int 0)] O)
def HD (C:Addr):Bi:=λds O R RX=>∃ x:Str,ds=[.str x]/\x.length<=6000/\(BG 60 x=true->R (.int (Bx x)) O)/\(BG 60 x=false->RX C [("number",.int 0)] O)
def JL (C:Addr):Bi:=λds O R RX=>∃ W:List Str,ds=[.lst (W.map D.str)]/\(∀ w∈W,w.length<=6000)/\W.length<=100/\((C8 W/\∀ Y,R (.dct ((AH W 0).map Sum.inr) (((AH W 1).map Bx).map D.int)) (O++Y))\/(ER W/\∀ Y,RX C [("number",.int 0)] (O++Y)))
theorem NM (W:List Str) (h:W.length%2=0):(AH W 0).length=W.length/2/\(AH W 1).length=W.length/2:=by
 match W,h with
 | [],_=>exact ⟨rfl,rfl⟩
 | [_],h=>simp at h
 | a::b::W,h=>
  have h':W.length%2=0:=by simp only [List.length_cons] at h; omega
  have ih:=NM W h'
  rw [(Co a b W).1,(Co a b W).2]
  simp only [List.length_cons]
  omega
theorem NN {W:List Str} {lo:Nat} {w:Str} (h:w∈AH W lo):w∈W:=by
 unfold AH at h
 obtain ⟨k,_,hk⟩:=List.mem_filterMap.mp h
 exact List.mem_of_getElem? hk
def Gv (C CK2 CK7:Addr):Bi:=λds O R RX=>(∃ (q n:Nat) (sc t b u c:Int) (ps:List Str) (ws:List Int) (x:Str),ds=[.ptr q,.str x]/\AY C O q n sc t b ps ws u c/\AN x/\x∉ps/\ps.length<100/\(0<=c/\c<=1000)/\R (.str (nS (c+1))) ((O.set n (some (.dct ((ps++[x]).map Sum.inr) ((ws++[u]).map D.int)))).set q (some (.ins C (AM sc t b n u (c+1)))))) \/
 (∃ (q n:Nat) (sc t b u c:Int) (ps:List Str) (ws:List Int) (x:Str),ds=[.ptr q,.str x]/\AY C O q n sc t b ps ws u c/\x.length<=1000/\DP x=false/\RX CK2 [] O) \/
 ∃ (q n:Nat) (sc t b u c:Int) (ps:List Str) (ws:List Int) (x:Str),ds=[.ptr q,.str x]/\AY C O q n sc t b ps ws u c/\AN x/\x∈ps/\RX CK7 [] O
def Gu (C CK2:Addr):Bi:=λds O R RX=>(∃ (q n:Nat) (sc t b u c:Int) (ps:List Str) (ws:List Int) (x:Str),ds=[.ptr q,.str x]/\AY C O q n sc t b ps ws u c/\AN x/\x∈ps/\ps.length<=60/\R (.str (nS (((ps.eraseIdx (ps.idxOf x)).length:Nat):Int))) (O.set n (some (.dct (Cj (ps.map Sum.inr) (.inr x)) (BZ (ps.map Sum.inr) (ws.map D.int) (.inr x)))))) \/
 ∃ (q n:Nat) (sc t b u c:Int) (ps:List Str) (ws:List Int) (x:Str),ds=[.ptr q,.str x]/\AY C O q n sc t b ps ws u c/\AN x/\x∉ps/\RX CK2 [] O
def PB (C:Addr) (O:Ad) (q n:Nat) (sc t b u c so:Int) (ps qs:List Str) (ws ys:List Int):Ad:=(O.set n none).set q (some (.ins C (AM sc t b O.length (u*tS t b sc (ab (AS ps ws qs ys-so))) c)))++[some (MO.dct (ps.map Sum.inr) ((Bz t b sc (ab (AS ps ws qs ys-so)) so ps ws qs ys).map D.int))]
def Gs (C CK2 CK5:Addr):Bi:=λds O R RX=>(∃ (q n k:Nat) (sc t b u c so:Int) (ps qs:List Str) (ws ys:List Int),ds=[.ptr q,.dct (qs.map Sum.inr) (ys.map D.int),.int so]/\AY C O q n sc t b ps ws u c/\C9 sc t b/\k<=1000/\DD k ws u/\CD sc ps qs ys/\(0<=so/\so<=sc)/\ps.length<=60/\R (.str (nS (ab (AS ps ws qs ys-so)))) (PB C O q n sc t b u c so ps qs ws ys))\/HJ C CK2 CK5 ds O RX
def M8 (w:Str) (W:List Str):Prop:=((w == "come")&&decide (W.length=1))=false/\((w == "go")&&decide (W.length=1))=false/\(w == "say")=false/\((w == "so")&&decide (0<W.length))=false
def Q0G (W:List Str):Prop:=("" : Str)∈W\/(("" : Str)∉W/\((∃ W',W=("say" : Str)::W'/\ER W')\/(∃ v W',W=("so" : Str)::v::W'/\(ER W'\/(C8 W'/\BG 60 v=false)))\/∃ w W',W=w::W'/\M8 w W'))
def Cv (W:List Str):List Str:=AH W 0
def Ca (W:List Str):List Int:=(AH W 1).map Bx
structure D6 where
 b:Addr
 row:Addr
 name:Addr
 turn:Addr
 twice:Addr
def FL (C:D6):Bi:=λds O R RX=>∃ (q n:Nat) (sc t b u c:Int) (ps:List Str) (ws:List Int) (x:Str) (W:List Str),ds=[.ptr q,.str x]/\AY C.b O q n sc t b ps ws u c/\DC x W/\(1<=sc/\sc<=10)/\(
 (Q0G W/\∀ Y,RX C.row [("number",.int 0)] (O++Y)) \/
 (∃ y,W=[("come" : Str),y]/\y≠("" : Str)/\Gv C.b C.name C.twice [.ptr q,.str y] O R RX) \/
 (∃ y,W=[("go" : Str),y]/\y≠("" : Str)/\Gu C.b C.name [.ptr q,.str y] O R RX) \/
 (∃ W',W=("say" : Str)::W'/\("" : Str)∉W/\C8 W'/\((CC ws/\CD sc ps (Cv W') (Ca W')/\∀ Y,R (.str (nS (AS ps ws (Cv W') (Ca W')))) (O++Y))\/∀ Y,Gm C.b C.name C.turn q ps (Cv W') ((Ca W').map Ov.i) sc (O++Y) RX)) \/
 ∃ v W',W=("so" : Str)::v::W'/\("" : Str)∉W/\C8 W'/\BG 60 v=true/\∀ Y,Gs C.b C.name C.turn [.ptr q,.dct ((Cv W').map Sum.inr) ((Ca W').map D.int),.int (Bx v)] (O++Y) R RX)
theorem Oe {cs ns:List Int} {a b:Int} (h:∀ p∈ns.zip cs,0<=p.2) (hl:a<b):Dk a ns cs+there a ns cs<=Dk b ns cs:=by
 unfold Dk there
 rw [<- Oh]
 exact JS λq hq=>by
  have:=h q hq
  try dsimp only
  split <;> split <;> split <;> omega
theorem Wz {ns ws:List Int} (h:Gi ns ws) (hn:ns≠[]) {m:Int} (h1:2*Dk m ns (A5 ws)<(A5 ws).sum) (h2:(A5 ws).sum<=2*(Dk m ns (A5 ws)+there m ns (A5 ws))):m=CJ ns ws:=by
 obtain ⟨g1,g2⟩:=Pi h hn
 have hc:=MC h.2.2
 have hm:∀ p∈ns.zip (A5 ws),0<=p.2:=λp hp=>hc _ (List.of_mem_zip hp).2
 rcases Int.lt_trichotomy m (CJ ns ws) with hl | hl | hl
 ·have:=Oe hm hl
  omega
 ·exact hl
 ·have:=Oe hm hl
  omega
def tot (ps:List (Int×Int)):Int:=sm (λq=>q.2) ps
def wt (z:Int) (q:Int×Int):Int:=if z=0 then 1 else q.2
def Lp (f z:Int) (q:Int×Int):Int:=if q.1<f then wt z q else 0
def MX (f z:Int) (q:Int×Int):Int:=if q.1=f then wt z q else 0
def EC (ps:List (Int×Int)):Int:=CJ (ps.map (·.1)) (ps.map (·.2))
def Fx (ps:List (Int×Int)):Prop:=ps.length<=63/\∀ q∈ps,0<=q.2
theorem Fx.two {ps:List (Int×Int)} (h:Fx ps):Gi (ps.map (·.1)) (ps.map (·.2)):=⟨by rw [List.length_map,List.length_map],by rw [List.length_map]; exact h.1,λw hw=>by
 obtain ⟨q,hq,rfl⟩:=List.mem_map.mp hw
 exact h.2 q hq⟩
theorem Jv (g:Int×Int->Int):∀ ps:List (Int×Int),(ps.map (·.1)).zip (ps.map g)=ps.map λq=>(q.1,g q)
 | []=>rfl
 | p::ps=>by rw [List.map_cons,List.map_cons,List.map_cons,List.zip_cons_cons,Jv g ps]
theorem MB (ps:List (Int×Int)):A5 (ps.map (·.2))=ps.map (wt (tot ps)):=by
 have e:(ps.map (·.2)).sum=tot ps:=HK _ _
 unfold A5
 rw [e]
 by_cases h:tot ps=0
 ·rw [if_pos h,List.map_map]
  apply List.map_congr_left
  intro q _
  show (1:Int)=wt (tot ps) q
  unfold wt
  rw [if_pos h]
 ·rw [if_neg h]
  apply List.map_congr_left
  intro q _
  unfold wt
  rw [if_neg h]
theorem IY (f:Int) (ps:List (Int×Int)):Dk f (ps.map (·.1)) (A5 (ps.map (·.2)))=sm (Lp f (tot ps)) ps:=by
 unfold Dk
 rw [MB,Jv,Of]
 rfl
theorem Nz (f:Int) (ps:List (Int×Int)):there f (ps.map (·.1)) (A5 (ps.map (·.2)))=sm (MX f (tot ps)) ps:=by
 unfold there
 rw [MB,Jv,Of]
 rfl
theorem Hx (ps:List (Int×Int)):(A5 (ps.map (·.2))).sum=sm (wt (tot ps)) ps:=by rw [MB,HK]
theorem WB {ps qs:List (Int×Int)} (hp:Fx ps) (hq:Fx qs) (np:ps≠[]) (nq:qs≠[]) (c:Int) (hc:0<c) (h1:∀ f,sm (Lp f (tot qs)) qs=c*sm (Lp f (tot ps)) ps) (h2:∀ f,sm (MX f (tot qs)) qs=c*sm (MX f (tot ps)) ps) (h3:sm (wt (tot qs)) qs=c*sm (wt (tot ps)) ps):EC qs=EC ps:=by
 obtain ⟨g1,g2⟩:=Pi hq.two (by intro e; exact nq (List.map_eq_nil_iff.mp e))
 show EC qs=CJ (ps.map (·.1)) (ps.map (·.2))
 have e:CJ (qs.map (·.1)) (qs.map (·.2))=EC qs:=rfl
 rw [e] at g1 g2
 rw [IY,Hx,h1,h3] at g1
 rw [IY,Nz,Hx,h1,h2,h3,<- Int.mul_add] at g2
 refine Wz hp.two (by intro e; exact np (List.map_eq_nil_iff.mp e)) ?_ ?_
 ·rw [IY,Hx]
  refine Int.lt_of_mul_lt_mul_left (a:=c) ?_ wF
  rw [<- Int.mul_assoc,Int.mul_comm c 2,Int.mul_assoc]
  exact g1
 ·rw [IY,Nz,Hx]
  refine Int.le_of_mul_le_mul_left (a:=c) ?_ hc
  rw [<- Int.mul_assoc,Int.mul_comm c 2,Int.mul_assoc]
  exact g2
theorem WC {ps qs:List (Int×Int)} (hp:Fx ps) (h:qs.Perm ps):Fx qs/\EC qs=EC ps:=by
 have hq:Fx qs:=⟨by rw [h.length_eq]; exact hp.1,λq hq=>hp.2 q (h.mem_iff.mp hq)⟩
 refine ⟨hq,?_⟩
 by_cases n:ps=[]
 ·subst n
  rw [h.eq_nil]
 ·have et:tot qs=tot ps:=EX h
  refine WB hp hq n (λe=>n (by rw [e] at h; exact h.symm.eq_nil)) 1 wE (λf=>?_) (λf=>?_) ?_
  ·rw [et,EX h,Int.one_mul]
  ·rw [et,EX h,Int.one_mul]
  ·rw [et,EX h,Int.one_mul]
def Ct (f:Str->Int) (L:List Str):Str:=L.foldl (λw x=>w ++ " " ++ x ++ " " ++ nS (f x)) ""
def BD (f:Str->Int):List Str->List Str
 | []=>[]
 | x::L=>x::nS (f x)::BD f L
theorem Uw (f:Str->Int) (L:List Str) (x:Str):Ct f (L++[x])=Ct f L ++ " " ++ x ++ " " ++ nS (f x):=by unfold Ct; rw [List.foldl_append]; rfl
theorem ST:((" " : Str)).cps.toList=[32]:=by decide +kernel
theorem OH (f:Str->Int):∀ (L:List Str) (acc:Str),(L.foldl (λw x=>w ++ " " ++ x ++ " " ++ nS (f x)) acc).cps.toList=acc.cps.toList++((BD f L).map λv=>32::v.cps.toList).flatten
 | [],acc=>(List.append_nil _).symm
 | x::L,acc=>by
  rw [List.foldl_cons,OH f L,CQ,CQ,CQ,CQ,ST]
  show _=_++((x::nS (f x)::BD f L).map λv=>32::v.cps.toList).flatten
  simp [List.append_assoc]
theorem K2 (f:Str->Int) (L:List Str):(Ct f L).cps.toList=((BD f L).map λv=>32::v.cps.toList).flatten:=by
 unfold Ct
 rw [OH,show (("" : Str)).cps.toList=[] by decide +kernel]
 rfl
theorem G8 (f:Str->Int):∀ L:List Str,(BD f L).length=2*L.length
 | []=>rfl
 | x::L=>by show (BD f L).length+1+1=_; rw [G8 f L,List.length_cons]; omega
theorem P0 (f:Str->Int):∀ L:List Str,AH (BD f L) 0=L/\AH (BD f L) 1=L.map λx=>nS (f x)
 | []=>⟨by simp [AH,BD],by simp [AH,BD]⟩
 | x::L=>by
  have ih:=P0 f L
  show AH (x::nS (f x)::BD f L) 0=_/\AH (x::nS (f x)::BD f L) 1=_
  rw [(Co _ _ _).1,(Co _ _ _).2,ih.1,ih.2]
  exact ⟨rfl,rfl⟩
theorem P2 {f:Str->Int} {w:Str}:∀ {L:List Str},w∈BD f L->∃ x∈L,w=x\/w=nS (f x)
 | [],h=>by cases h
 | x::L,h=>by
  rcases List.mem_cons.mp h with h | h
  ·exact ⟨x,List.mem_cons_self,.inl h⟩
  rcases List.mem_cons.mp h with h | h
  ·exact ⟨x,List.mem_cons_self,.inr h⟩
  obtain ⟨y,hy,e⟩:=P2 h
  exact ⟨y,List.mem_cons_of_mem _ hy,e⟩
theorem Wp:∀ k:Nat,k<=11->BG 60 (nS k)=true:=by decide +kernel
theorem Wm:∀ k:Nat,k<=11->Bx (nS k)=(k:Nat):=by decide +kernel
theorem Wo:∀ k:Nat,k<=11->32∉(nS k).cps.toList/\PyData.strOk (nS k)=true/\(nS k).length<=2/\nS k ≠ "" := by decide +kernel
theorem S4 {i:Int} (h:0<=i/\i<=11):∃ k:Nat,i=(k:Nat)/\k<=11:=by
 obtain ⟨k,rfl⟩:=Int.eq_ofNat_of_zero_le h.1
 exact ⟨k,rfl,by omega⟩
theorem EB {i:Int} (h:0<=i/\i<=11):BG 60 (nS i)=true/\Bx (nS i)=i/\32∉(nS i).cps.toList/\PyData.strOk (nS i)=true/\(nS i).length<=2/\nS i ≠ "" := by
 obtain ⟨k,rfl,hk⟩:=S4 h
 exact ⟨Wp k hk,Wm k hk,Wo k hk⟩
theorem FX {x:Str} (h:AN x):32∉x.cps.toList/\PyData.strOk x=true/\x ≠ "" /\ x.length<=8:=by
 refine ⟨λz=>absurd (h.al 32 z) wD,Ij h,λz=>?_,h.l2⟩
 have:=h.l1
 rw [z] at this
 exact absurd this wD
theorem IG {f:Str->Int} {L:List Str} (h1:∀ x∈L,AN x) (h2:∀ x∈L,0<=f x/\f x<=11):∀ w∈BD f L,(32∉w.cps.toList/\PyData.strOk w=true)/\w ≠ "" /\ w.length<=8:=λw hw=>by
 obtain ⟨x,hx,rfl | rfl⟩:=P2 hw
 ·have:=FX (h1 _ hx)
  exact ⟨⟨this.1,this.2.1⟩,this.2.2.1,this.2.2.2⟩
 ·have:=EB (h2 x hx)
  exact ⟨⟨this.2.2.1,this.2.2.2.1⟩,this.2.2.2.2.2,by have:=this.2.2.2.2.1; omega⟩
theorem XL {f:Str->Int} {L:List Str} (nd:L.Nodup) (h2:∀ x∈L,0<=f x/\f x<=11):C8 (BD f L)/\Cv (BD f L)=L/\Ca (BD f L)=L.map f:=by
 obtain ⟨e0,e1⟩:=P0 f L
 refine ⟨⟨by rw [G8]; omega,by rw [e0]; exact nd,λv hv=>?_⟩,e0,?_⟩
 ·rw [e1] at hv
  obtain ⟨x,hx,rfl⟩:=List.mem_map.mp hv
  exact (EB (h2 x hx)).1
 ·unfold Ca
  rw [e1,List.map_map]
  exact List.map_congr_left λx hx=>(EB (h2 x hx)).2.1
theorem XJ {W:List Str} (h:∀ w∈W,w.length<=8):(W.map λv=>32::v.cps.toList).flatten.length<=9*W.length:=by
 induction W with
 | nil=>exact Nat.le_refl _
 | cons w W ih=>
  have h1:=ih λv hv=>h v (List.mem_cons_of_mem _ hv)
  have h2:=h w List.mem_cons_self
  have h3:w.cps.toList.length=w.length:=by rw [Array.length_toList]; rfl
  rw [List.map_cons,List.flatten_cons,List.length_append,List.length_cons,List.length_cons]
  omega
theorem HY {f:Str->Int} {L:List Str} (h1:∀ x∈L,AN x) (h2:∀ x∈L,0<=f x/\f x<=11):(Ct f L).length<=18*L.length:=by
 have h:=XJ (W:=BD f L) λw hw=>(IG h1 h2 w hw).2.2
 rw [<- K2,G8,Array.length_toList] at h
 have:(Ct f L).length=(Ct f L).cps.size:=rfl
 omega
theorem RL {f:Str->Int} {L:List Str} (h1:∀ x∈L,AN x) (h2:∀ x∈L,0<=f x/\f x<=11) (hl:L.length<=40):DC (("say" : Str)++Ct f L) (("say" : Str)::BD f L):=by
 have hp:=HY h1 h2
 refine Hy ?_ ?_ ?_ λv hv=>?_
 ·rw [CQ,K2]
 ·have e:(("say" : Str)).length=3:=by decide +kernel
  rw [Str.length_append,e]; omega
 ·rw [G8]; omega
 ·rcases List.mem_cons.mp hv with rfl | hv
  ·decide +kernel
  ·exact (IG h1 h2 v hv).1
theorem RK {f:Str->Int} {L:List Str} {so:Int} (h1:∀ x∈L,AN x) (h2:∀ x∈L,0<=f x/\f x<=11) (hs:0<=so/\so<=11) (hl:L.length<=40):DC (("so " : Str)++nS so++Ct f L) (("so" : Str)::nS so::BD f L):=by
 have hp:=HY h1 h2
 have hn:=EB hs
 refine Hy ?_ ?_ ?_ λv hv=>?_
 ·rw [CQ,CQ,K2,show (("so " : Str)).cps.toList=(("so" : Str)).cps.toList++[32] by decide +kernel]
  simp [List.append_assoc]
 ·have e:(("so " : Str)).length=3:=by decide +kernel
  rw [Str.length_append,Str.length_append,e]; omega
 ·rw [List.length_cons,G8]; omega
 ·rcases List.mem_cons.mp hv with rfl | hv
  ·decide +kernel
  rcases List.mem_cons.mp hv with rfl | hv
  ·exact ⟨hn.2.2.1,hn.2.2.2.1⟩
  ·exact (IG h1 h2 v hv).1
theorem JA {w:Str} {z x:Str} (e:z.cps.toList=w.cps.toList++[32]) (hw:32∉w.cps.toList/\PyData.strOk w=true) (hx:32∉x.cps.toList/\PyData.strOk x=true) (hl:z.length+x.length<=6000):DC (z++x) [w,x]:=by
 refine Hy ?_ (by rw [Str.length_append]; exact hl) (by show 1<=99; decide) λv hv=>?_
 ·rw [CQ,e]; simp
 ·rcases List.mem_cons.mp hv with rfl | hv
  ·exact hw
  ·rw [List.mem_singleton.mp hv]; exact hx
theorem O8 {f:Str->Int} {L:List Str} (h1:∀ x∈L,AN x) (h2:∀ x∈L,0<=f x/\f x<=11):("" : Str)∉BD f L:=λz=>(IG h1 h2 _ z).2.1 rfl
theorem Nq {sc:Int} {ps qs:List Str} {ys:List Int} (hs:CD sc ps qs ys) (h0:0<=sc) (x:Str):0<=AG qs ys x/\AG qs ys x<=sc:=by
 unfold AG
 by_cases hx:x∈qs
 ·obtain ⟨y,h1,h2⟩:=DB hs.l hx
  rw [h1]; exact hs.on y h2
 ·rw [Gg hx]; exact ⟨Int.le_refl _,h0⟩
theorem ZC {qs L:List Str} {ys:List Int} (hl:qs.length=ys.length) (hp:L.Perm qs) (x:Str):BJ L (L.map (AG qs ys)) x=BJ qs ys x:=by
 have h1:∀ M:List Str,BJ M (M.map (AG qs ys)) x=if x∈M then some (AG qs ys x) else none:=λM=>by
  induction M with
  | nil=>rfl
  | cons a M ih=>
   rw [List.map_cons,Fs,ih]
   by_cases e:a=x
   ·subst e; simp
   ·by_cases h:x∈M
    ·rw [if_neg e,if_pos h,if_pos (List.mem_cons_of_mem _ h)]
    ·rw [if_neg e,if_neg h,if_neg (λz=>by rcases List.mem_cons.mp z with z | z; exact e z.symm; exact h z)]
 rw [h1]
 by_cases hx:x∈qs
 ·rw [if_pos (hp.mem_iff.mpr hx)]
  obtain ⟨y,h2,_⟩:=DB hl hx
  unfold AG
  rw [h2]; rfl
 ·rw [if_neg (λz=>hx (hp.mem_iff.mp z)),Gg hx]
theorem Wh {t b sc own so:Int} {ps qs L:List Str} {ws ys:List Int} (hl:qs.length=ys.length) (hp:L.Perm qs):Bz t b sc own so ps ws L (L.map (AG qs ys))=Bz t b sc own so ps ws qs ys:=by
 unfold Bz
 exact List.map_congr_left λp _=>by rw [ZC hl hp]
theorem T0 {sc:Int} {ps qs L:List Str} {ys:List Int} (hs:CD sc ps qs ys) (h0:0<=sc) (hp:L.Perm qs):CD sc ps L (L.map (AG qs ys)):=
 ⟨by rw [List.length_map],(hp.nodup_iff).mpr hs.nd,λx hx=>hs.sub x (hp.mem_iff.mp hx),λy hy=>by
  obtain ⟨x,_,rfl⟩:=List.mem_map.mp hy
  exact Nq hs h0 x,λx hx=>hs.nm x (hp.mem_iff.mp hx),by rw [hp.length_eq]; exact hs.le⟩
theorem Np:∀ {ps:List Str} {ws:List Int},ps.length=ws.length->ps.Nodup->ps.map (AG ps ws)=ws
 | [],[],_,_=>rfl
 | p::ps,w::ws,hl,hn=>by
  obtain ⟨h1,h2⟩:=List.nodup_cons.mp hn
  have ih:=Np (ps:=ps) (ws:=ws) (by simpa using hl) h2
  have e:ps.map (AG (p::ps) (w::ws))=ps.map (AG ps ws):=List.map_congr_left λx hx=>by
   unfold AG
   rw [Fs,if_neg (λz=>h1 (by rw [z]; exact hx))]
  rw [List.map_cons,e,ih]
  unfold AG
  rw [Fs,if_pos rfl]
  rfl
theorem WA {sc:Int} {ps qs L:List Str} {ws ys:List Int} (hs:CD sc ps qs ys) (hl:ps.length=ws.length) (hw:CC ws) (hp:L.Perm qs):AS ps ws L (L.map (AG qs ys))=AS ps ws qs ys:=by
 have e:∀ M:List Str,AS ps ws M (M.map (AG qs ys))=EC (M.map λx=>(AG qs ys x,AG ps ws x)):=λM=>by
  unfold AS EC
  rw [List.map_map,List.map_map]
  rfl
 have e2:AS ps ws qs ys=AS ps ws qs (qs.map (AG qs ys)):=by rw [Np hs.l hs.nd]
 rw [e2,e,e]
 refine (WC ⟨?_,λq hq=>?_⟩ (hp.map _)).2
 ·rw [List.length_map]; have:=hs.le; omega
 ·obtain ⟨x,hx,rfl⟩:=List.mem_map.mp hq
  obtain ⟨w,h1,h2⟩:=DB hl (hs.sub x hx)
  show 0<=AG ps ws x
  unfold AG
  rw [h1]
  exact hw w h2
def BS (tn:Bool) (qs:List Str):List Str:=if tn then (Bh Cd qs).reverse else Bh Cd qs
theorem OR (tn:Bool) (qs:List Str):(BS tn qs).Perm qs:=by
 unfold BS
 split
 ·exact (List.reverse_perm _).trans (Dv Cd qs)
 ·exact Dv Cd qs
def N2:A7:=λds O R=>∃ (qs:List Str) (ys:List Int) (tn:Bool),ds=[.dct (qs.map Sum.inr) (ys.map D.int),.bl tn]/\qs.length=ys.length/\(∀ x∈qs,AN x)/\(∀ y∈ys,0<=y/\y<=11)/\qs.length<=40/\R (.str (Ct (AG qs ys) (BS tn qs))) O
structure Kq (l:Nat) (O O':Ad):Prop where
 le:l<=O'.length
 o:∀ j,j<l->O'[j]?=O[j]?
theorem Kq.set {l i:Nat} {O O':Ad} {y:Option MO} (h:Kq l O O') (hi:l<=i):Kq l O (O'.set i y):=⟨by rw [List.length_set]; exact h.le,λj hj=>by rw [List.getElem?_set_ne wF]; exact h.o j hj⟩
theorem Kq.app {l:Nat} {O O' Y:Ad} (h:Kq l O O'):Kq l O (O'++Y):=⟨by rw [List.length_append]; have:=h.le; omega,λj hj=>by rw [List.getElem?_append_left (by have:=h.le; omega)]; exact h.o j hj⟩
theorem Kq.trans {l:Nat} {O O1 O2:Ad} (h:Kq l O O1) (h2:Kq l O1 O2):Kq l O O2:=⟨h2.le,λj hj=>(h2.o j hj).trans (h.o j hj)⟩
theorem Kq.up {l:Nat} {O O1 O':Ad} (h:Kq l O1 O') (hu:∃ Y,O1=O++Y) (hl:O.length<=l):∃ Y,O'=O++Y:=by
 obtain ⟨Y,rfl⟩:=hu
 refine ⟨O'.drop O.length,List.ext_getElem? λj=>?_⟩
 by_cases hj:j<O.length
 ·rw [h.o j wF,List.getElem?_append_left hj,List.getElem?_append_left hj]
 ·rw [List.getElem?_append_right wF,List.getElem?_drop,show O.length+(j-O.length)=j by omega]
structure Tw (C:Addr) (O:Ad) (l q1 n1 q2 n2:Nat) (sc t b:Int) (s:List Str×Nat) (ws:List Int) (u:Int) (k:Nat):Prop where
 B1:AY C O q1 n1 sc t b s.1 ws u ((s.2:Nat):Int)
 B2:AY C O q2 n2 sc t b s.1 ws u ((s.2:Nat):Int)
 qq:q1≠q2
 nn:n1≠n2
 l1:l<=q1
 l2:l<=q2
 l3:l<=n1
 l4:l<=n2
 w:DD k ws u
structure Q6 (s:List Str×Nat):Prop where
 nd:s.1.Nodup
 nm:∀ x∈s.1,AN x
 le:s.1.length<=21
 ev:s.2<=100
def D84 (sc:Int) (s:List Str×Nat):AU->Prop
 | .come x=>AN x/\x∉s.1
 | .go x=>AN x/\x∈s.1
 | .turn qs ys so=>Ni sc s.1 qs ys/\(0<=so/\so<=sc)
def N8 (C:Addr):A7:=λds O R=>∃ (l q1 n1 q2 n2 k:Nat) (sc t b u:Int) (s:List Str×Nat) (ws:List Int) (d:AU) (tn:Bool),ds=[.ptr q1,.ptr q2,dD d,.bl tn]/\Tw C O l q1 n1 q2 n2 sc t b s ws u k/\C9 sc t b/\k<=900/\Q6 s/\D84 sc s d/\∀ O' n1' n2' ws' u',Kq l O O'->Tw C O' l q1 n1' q2 n2' sc t b (Et s d) ws' u' (k+1)->R (.bl true) O'
theorem Tw.app {C:Addr} {O Y:Ad} {l q1 n1 q2 n2 k:Nat} {sc t b u:Int} {s:List Str×Nat} {ws:List Int} (h:Tw C O l q1 n1 q2 n2 sc t b s ws u k):Tw C (O++Y) l q1 n1 q2 n2 sc t b s ws u k:=⟨h.B1.app Y,h.B2.app Y,h.qq,h.nn,h.l1,h.l2,h.l3,h.l4,h.w⟩
theorem Tw.lt {C:Addr} {O:Ad} {l q1 n1 q2 n2 k:Nat} {sc t b u:Int} {s:List Str×Nat} {ws:List Int} (h:Tw C O l q1 n1 q2 n2 sc t b s ws u k):Kq l O O:=⟨by have:=MW h.B1.q; have:=h.l1; omega,λ_ _=>rfl⟩
theorem Md:(("" : Str)).cps.toList=[]:=by decide +kernel
theorem Mc:(("come" : Str)).cps.toList=[99,111,109,101]:=by decide +kernel
theorem LY:(("come " : Str)).cps.toList=[99,111,109,101,32]:=by decide +kernel
theorem LE:((" 1" : Str)).cps.toList=[32,49]:=by decide +kernel
theorem Lw:(("1" : Str)).cps.toList=[49]:=by decide +kernel
theorem Lv:(("go" : Str)).cps.toList=[103,111]:=by decide +kernel
theorem Lu:(("go " : Str)).cps.toList=[103,111,32]:=by decide +kernel
theorem Ls:((" " : Str)).cps.toList=[32]:=by decide +kernel
theorem Lr:((" say" : Str)).cps.toList=[32,115,97,121]:=by decide +kernel
theorem Lq:(("say" : Str)).cps.toList=[115,97,121]:=by decide +kernel
theorem Mb:(("say " : Str)).cps.toList=[115,97,121,32]:=by decide +kernel
theorem Ma:(("Say" : Str)).cps.toList=[83,97,121]:=by decide +kernel
theorem L9:((" 1 " : Str)).cps.toList=[32,49,32]:=by decide +kernel
theorem L8:((" 01" : Str)).cps.toList=[32,48,49]:=by decide +kernel
theorem L7:(("01" : Str)).cps.toList=[48,49]:=by decide +kernel
theorem L6:((" -1" : Str)).cps.toList=[32,45,49]:=by decide +kernel
theorem L5:(("-1" : Str)).cps.toList=[45,49]:=by decide +kernel
theorem L4:((" +1" : Str)).cps.toList=[32,43,49]:=by decide +kernel
theorem L0:(("+1" : Str)).cps.toList=[43,49]:=by decide +kernel
theorem LZ:((" 0 " : Str)).cps.toList=[32,48,32]:=by decide +kernel
theorem LX:((" 0" : Str)).cps.toList=[32,48]:=by decide +kernel
theorem LW:(("0" : Str)).cps.toList=[48]:=by decide +kernel
theorem LU:(("so" : Str)).cps.toList=[115,111]:=by decide +kernel
theorem LR:(("so x" : Str)).cps.toList=[115,111,32,120]:=by decide +kernel
theorem LQ:(("x" : Str)).cps.toList=[120]:=by decide +kernel
theorem LP:(("so 0 " : Str)).cps.toList=[115,111,32,48,32]:=by decide +kernel
theorem LM:(("so 0  " : Str)).cps.toList=[115,111,32,48,32,32]:=by decide +kernel
theorem LL:(("leave " : Str)).cps.toList=[108,101,97,118,101,32]:=by decide +kernel
theorem LK:(("leave" : Str)).cps.toList=[108,101,97,118,101]:=by decide +kernel
theorem LJ:(("so " : Str)).cps.toList=[115,111,32]:=by decide +kernel
theorem LD:(("come A" : Str)).cps.toList=[99,111,109,101,32,65]:=by decide +kernel
theorem LC:(("A" : Str)).cps.toList=[65]:=by decide +kernel
theorem LA:(("say ab1 0" : Str)).cps.toList=[115,97,121,32,97,98,49,32,48]:=by decide +kernel
theorem Lz:(("ab1" : Str)).cps.toList=[97,98,49]:=by decide +kernel
theorem Ly:((" 9" : Str)).cps.toList=[32,57]:=by decide +kernel
theorem Lx:(("9" : Str)).cps.toList=[57]:=by decide +kernel
structure FE (C:D6) (O:Ad) (q n:Nat) (sc t b u c:Int) (ps:List Str) (ws:List Int) (one away:Str):Prop where
 B:AY C.b O q n sc t b ps ws u c
 sc:1<=sc/\sc<=10
 w:CC ws
 o1:AN one
 o2:one∈ps
 a1:AN away
 a2:away∉ps
def Ft (C:D6) (q:Nat) (O:Ad) (x:Str) (K:Addr) (fs:List (Str×D)):Prop:=∀ (R:D->Ad->Prop) (RX:XR),(∀ Y,RX K fs (O++Y))->FL C [.ptr q,.str x] O R RX
def CA (w:Str):Prop:=(32∉w.cps.toList/\PyData.strOk w=true)/\w.cps.toList.length<=5000
theorem T9 {c:Nat} {x:Str} {n:Int} (hx:x.cps.toList=[c]) (hc:c≠32/\c<0x110000) (hn:n<=5000):CA (Bp x n):=by
 have hl:x.length=1:=by show x.cps.size=1; rw [<- Array.length_toList,hx]; rfl
 refine ⟨⟨λz=>?_,?_⟩,?_⟩
 ·have:=Ou z
  rw [hx] at this
  exact hc.1 (List.mem_singleton.mp this).symm
 ·unfold PyData.strOk
  rw [<- Array.all_toList,List.all_eq_true]
  intro d hd
  have:=Ou hd
  rw [hx] at this
  rw [List.mem_singleton.mp this]
  exact decide_eq_true hc.2
 ·rw [Array.length_toList]
  show (Bp x n).length<=5000
  rw [GM hl]; omega
theorem GX {x:Str} (h:AN x):CA x/\x.cps.toList.length<=8:=by
 have:=FX h
 have h8:x.cps.toList.length<=8:=by rw [Array.length_toList]; exact this.2.2.2
 exact ⟨⟨⟨this.1,this.2.1⟩,by omega⟩,h8⟩
theorem Ld {sc:Int} (h:1<=sc/\sc<=10):CA (nS (sc+1))/\(nS (sc+1)).cps.toList.length<=2:=by
 have:=EB (i:=sc+1) ⟨by omega,by omega⟩
 have h8:(nS (sc+1)).cps.toList.length<=2:=by rw [Array.length_toList]; exact this.2.2.2.2.1
 exact ⟨⟨⟨this.2.2.1,this.2.2.2.1⟩,by omega⟩,h8⟩
theorem RJ {x y:Str} (hx:CA x) (hy:CA y) (hl:x.cps.toList.length+y.cps.toList.length<=5000):CA (x++y):=by
 refine ⟨⟨λz=>?_,?_⟩,by rw [CQ,List.length_append]; exact hl⟩
 ·rw [CQ] at z
  rcases List.mem_append.mp z with z | z
  ·exact hx.1.1 z
  ·exact hy.1.1 z
 ·have h1:=hx.1.2
  have h2:=hy.1.2
  unfold PyData.strOk at *
  rw [<- Array.all_toList,List.all_eq_true] at *
  intro c hc
  rw [CQ] at hc
  rcases List.mem_append.mp hc with hc | hc
  ·exact h1 c hc
  ·exact h2 c hc
theorem XM {x:Str} (h:60<x.length):BG 60 x=false:=by
 unfold BG
 rw [if_pos (by rw [decide_eq_true (show (60:Int)<((x.length:Nat):Int) by omega),Bool.or_true])]
theorem GZ (x:Str):x.length=x.cps.toList.length:=(Array.length_toList ..).symm
theorem fn {P:Str->Prop}:∀ v∈([]:List Str),P v:=λv h=>by cases h
theorem fs {P:Str->Prop} {w:Str} {W:List Str} (h:P w) (t:∀ v∈W,P v):∀ v∈w::W,P v:=λv hv=>by
 rcases List.mem_cons.mp hv with rfl | hv
 ·exact h
 ·exact t v hv
def Wn (w:Str):Prop:=CA w/\w ≠ ""
theorem fl {w:Str} {W:List Str} (t:∀ v∈W,Wn v) (h:Wn w:=by unfold Wn CA; decide +kernel):∀ v∈w::W,Wn v:=fs h t
theorem gl {w:Str} {W:List Str} (t:∀ v∈W,CA v) (h:CA w:=by unfold CA; decide +kernel):∀ v∈w::W,CA v:=fs h t
theorem Lk {W:List Str} (h:∀ v∈W,Wn v):("" : Str)∉W:=λz=>(h _ z).2 rfl
def Bd (W:List Str):Prop:=(∃ W',W=("say" : Str)::W'/\ER W')\/(∃ v W',W=("so" : Str)::v::W'/\(ER W'\/(C8 W'/\BG 60 v=false)))\/∃ w W',W=w::W'/\M8 w W'
def ncB (w:Str) (n:Nat):Bool:=!((w == "come")&&decide (n=1))&&(!((w == "go")&&decide (n=1))&&(!(w == "say")&&!((w == "so")&&decide (0<n))))
section
variable {C:D6} {O:Ad} {q n:Nat} {sc t b u c:Int} {ps:List Str} {ws:List Int} {one away x w y v v2:Str} {W:List Str}
theorem wM (hs:∀ v∈w::W,CA v) (e:x.cps.toList=w.cps.toList++(W.map λv=>32::v.cps.toList).flatten:=by simp only [CQ,Md,Mc,LY,LE,Lw,Lv,Lu,Ls,Lr,Lq,Mb,Ma,L9,L8,L7,L6,L5,L4,L0,LZ,LX,LW,LU,LR,LQ,LP,LM,LL,LK,LJ,LD,LC,LA,Lz,Ly,Lx,List.map_cons,List.map_nil,List.flatten_cons,List.flatten_nil,List.append_nil,List.cons_append,List.nil_append,List.append_assoc]) (hl:x.length<=6000:=by rw [GZ]; simp only [CQ,Md,Mc,LY,LE,Lw,Lv,Lu,Ls,Lr,Lq,Mb,Ma,L9,L8,L7,L6,L5,L4,L0,LZ,LX,LW,LU,LR,LQ,LP,LM,LL,LK,LJ,LD,LC,LA,Lz,Ly,Lx,List.length_append,List.length_cons,List.length_nil]; omega) (hc:W.length<=99:=by simp only [List.length_cons,List.length_nil]; omega):DC x (w::W):=Hy e hl hc λv hv=>(hs v hv).1
theorem wn (h:∀ v∈W,Wn v):∀ v∈W,CA v:=λv hv=>(h v hv).1
theorem eE (h:FE C O q n sc t b u c ps ws one away) (hW:DC x W) (hm:("" : Str)∈W:=by simp):Ft C q O x C.row [("number",.int 0)]:=λR RX hX=>⟨q,n,sc,t,b,u,c,ps,ws,x,W,rfl,h.B,hW,h.sc,.inl ⟨.inl hm,hX⟩⟩
theorem eR (h:FE C O q n sc t b u c ps ws one away) (hW:DC x W) (hs:∀ v∈W,Wn v) (hb:Bd W):Ft C q O x C.row [("number",.int 0)]:=λR RX hX=>⟨q,n,sc,t,b,u,c,ps,ws,x,W,rfl,h.B,hW,h.sc,.inl ⟨.inr ⟨Lk hs,hb⟩,hX⟩⟩
theorem eS (h:FE C O q n sc t b u c ps ws one away) (hW:DC x (("say" : Str)::W)) (hs:∀ v∈("say" : Str)::W,Wn v) (hG:C8 W) {K:Addr} {fs:List (Str×D)} (hb:∀ (RX:XR) (O':Ad),RX K fs O'->Gm C.b C.name C.turn q ps (Cv W) ((Ca W).map Ov.i) sc O' RX):Ft C q O x K fs:=λR RX hX=>⟨q,n,sc,t,b,u,c,ps,ws,x,_,rfl,h.B,hW,h.sc,.inr (.inr (.inr (.inl ⟨W,rfl,Lk hs,hG,.inr λY=>hb RX _ (hX Y)⟩)))⟩
theorem eO (h:FE C O q n sc t b u c ps ws one away) (hW:DC x (("so" : Str)::v::W)) (hs:∀ y∈("so" : Str)::v::W,Wn y) (hG:C8 W) (hv:BG 60 v=true) {K:Addr} {fs:List (Str×D)} (hb:∀ (RX:XR) (O':Ad),RX K fs O'->AY C.b O' q n sc t b ps ws u c->HJ C.b C.name C.turn [.ptr q,.dct ((Cv W).map Sum.inr) ((Ca W).map D.int),.int (Bx v)] O' RX):Ft C q O x K fs:=λR RX hX=>⟨q,n,sc,t,b,u,c,ps,ws,x,_,rfl,h.B,hW,h.sc,.inr (.inr (.inr (.inr ⟨v,W,rfl,Lk hs,hG,hv,λY=>.inr (hb RX _ (hX Y) (h.B.app Y))⟩)))⟩
theorem Lj {O':Ad} {RX:XR} {y v:Str} (hl:y.length<=1000) (hn:¬ Fw ps [y]) (hX:RX C.name [] O'):Gm C.b C.name C.turn q ps (Cv [y,v]) ((Ca [y,v]).map Ov.i) sc O' RX:=by
 have e0:Cv [y,v]=[y]:=by unfold Cv; rw [(Co _ _ _).1]; rfl
 have e1:Ca [y,v]=[Bx v]:=by unfold Ca; rw [(Co _ _ _).2]; rfl
 rw [e0,e1]
 exact ⟨by show 1<=60; decide,rfl,λz hz=>by rw [List.mem_singleton.mp hz]; exact hl,.inl ⟨hn,hX⟩⟩
theorem Li {O':Ad} {RX:XR} {y v:Str} (hy:AN y) (hin:y∈ps) (hv:sc<Bx v) (hX:RX C.turn [("number",.int 0)] O'):Gm C.b C.name C.turn q ps (Cv [y,v]) ((Ca [y,v]).map Ov.i) sc O' RX:=by
 have e0:Cv [y,v]=[y]:=by unfold Cv; rw [(Co _ _ _).1]; rfl
 have e1:Ca [y,v]=[Bx v]:=by unfold Ca; rw [(Co _ _ _).2]; rfl
 have hl:=hy.l2
 rw [e0,e1]
 refine ⟨by show 1<=60; decide,rfl,λz hz=>by rw [List.mem_singleton.mp hz]; omega,.inr ⟨λz hz=>by rw [List.mem_singleton.mp hz]; exact ⟨hy,hin⟩,λz=>?_,hX⟩⟩
 have:=z (.i (Bx v)) (List.mem_singleton.mpr rfl)
 have this:(decide (0<=Bx v)&&decide (Bx v<=sc))=true:=this
 rw [decide_eq_false (show ¬ Bx v<=sc by omega),Bool.and_false] at this
 cases this
theorem F6 {y v:Str} (hv:BG 60 v=true):C8 [y,v]:=by
 refine ⟨by simp,?_,λz hz=>?_⟩
 ·rw [(Co _ _ _).1]
  show ([y]:List Str).Nodup
  exact List.nodup_cons.mpr ⟨List.not_mem_nil,List.nodup_nil⟩
 ·rw [(Co _ _ _).2] at hz
  have hz:z∈[v]:=hz
  rw [List.mem_singleton.mp hz]; exact hv
theorem PF:C8 []:=⟨rfl,by show ([]:List Str).Nodup; exact List.nodup_nil,λz hz=>by have hz:z∈([]:List Str):=hz; cases hz⟩
theorem ZA (hv:BG 60 v=false):ER [y,v]:=.inr ⟨by simp,0,y,v,by rw [(Co _ _ _).1]; rfl,by rw [(Co _ _ _).2]; rfl,.inr hv⟩
theorem Zz:ER [y,v,y,v2]:=.inr ⟨by simp,1,y,v2,by rw [(Co _ _ _).1,(Co _ _ _).1]; rfl,by rw [(Co _ _ _).2,(Co _ _ _).2]; rfl,.inl (by rw [(Co _ _ _).1]; exact List.mem_cons_self)⟩
theorem O6 {y:Str} (h:y∉ps):¬ Fw ps [y]:=λz=>h (z y (List.mem_singleton.mpr rfl)).2
theorem Wa {y:Str} (h:DP y=false):¬ Fw ps [y]:=λz=>by
 have:=FW (z y (List.mem_singleton.mpr rfl)).1
 rw [h] at this
 cases this
theorem Fr (k:Nat) (hk:W.length=k:=by rfl) (h:ncB w k=true:=by decide +kernel):Bd (w::W):=by
 unfold ncB at h
 rw [Bool.and_eq_true,Bool.and_eq_true,Bool.and_eq_true,Bool.not_eq_true',Bool.not_eq_true',Bool.not_eq_true',Bool.not_eq_true'] at h
 refine .inr (.inr ⟨w,W,rfl,?_⟩)
 unfold M8
 rw [hk]
 exact h
theorem bSO (h:W.length%2=1:=by simp):Bd (("say" : Str)::W):=.inl ⟨W,rfl,.inl h⟩
theorem Hj (h:BG 60 v=false:=by decide +kernel):Bd [("say" : Str),y,v]:=.inl ⟨_,rfl,ZA h⟩
theorem bST:Bd [("say" : Str),y,v,y,v2]:=.inl ⟨_,rfl,Zz⟩
theorem bOF (h:BG 60 v=false:=by decide +kernel):Bd [("so" : Str),v]:=.inr (.inl ⟨v,[],rfl,.inr ⟨PF,h⟩⟩)
theorem bOO:Bd [("so" : Str),v,y]:=.inr (.inl ⟨v,[y],rfl,.inl (.inl (by simp))⟩)
theorem MT {n:Int} (hn:61<=n):BG 60 (Bp "9" n)=false:=XM (by rw [GM wD]; omega)
theorem GL {c:Nat} {x:Str} {n:Int} (hn:2<=n/\n<=5000) (hx:x.cps.toList=[c]:=by decide +kernel) (hc:c≠32/\c<0x110000:=by decide):Wn (Bp x n):=⟨T9 hx hc hn.2,λz=>by
 have h1:=congrArg Str.length z
 have hl:x.length=1:=by rw [GZ,hx]; rfl
 rw [GM hl,show (("" : Str)).length=0 by decide +kernel] at h1
 omega⟩
theorem Ey {x:Str} {n:Int} (hx:x.length=1:=by decide +kernel):(Bp x n).cps.toList.length=n.toNat:=by rw [<- GZ,GM hx]
theorem Zg (h1:CA x) (h2:Wn y) (hl:x.cps.toList.length+y.cps.toList.length<=5000):Wn (x++y):=⟨RJ h1 h2.1 hl,λz=>by
 have h3:=congrArg (λw:Str=>w.cps.toList.length) z
 have h4:y.cps.toList.length≠0:=λe=>h2.2 (NK (by rw [List.eq_nil_of_length_eq_zero e]; decide +kernel))
 have h3:(x++y).cps.toList.length=0:=h3
 rw [CQ,List.length_append] at h3
 omega⟩
theorem O9 (h:AN x):Wn x:=⟨(GX h).1,(FX h).2.2.1⟩
end
def EY (one away:Str) (sc:Int):List Str:=[("" : Str),("come" : Str),("come " : Str)++away++(" 1" : Str),("go" : Str),("go " : Str)++one++(" " : Str)++one,(" say" : Str),("say " : Str),("say " : Str)++one,("Say" : Str)]
def FO (one away:Str) (sc:Int):List Str:=[("say " : Str)++one++(" 1 " : Str)++one,("say " : Str)++one++(" 01" : Str),("say " : Str)++one++(" -1" : Str),("say " : Str)++one++(" +1" : Str)]
def GF (one away:Str) (sc:Int):List Str:=[("say " : Str)++one++(" 0 " : Str)++one++(" 0" : Str),("so" : Str),("so x" : Str),("so 0 " : Str)++one]
def HM (one away:Str) (sc:Int):List Str:=[("so 0  " : Str)++one++(" 0" : Str),("leave " : Str)++one,("come " : Str),("go " : Str),("say " : Str)++away++(" 0 " : Str)++away++(" 0" : Str)]
def JW (one away:Str) (sc:Int):List Str:=[("say " : Str)++one++(" " : Str)++(Bp "9" 61),("so " : Str)++(Bp "9" 61),("say " : Str)++one++(" " : Str)++(Bp "9" 5000)]
def JV (one away:Str) (sc:Int):List Str:=[("come A" : Str),("go " : Str)++away,("say " : Str)++away++(" 0" : Str),("so " : Str)++(nS (sc+1))++(" " : Str)++away++(" 0" : Str),("say ab1 0" : Str)]
def HL (one away:Str) (sc:Int):List Str:=[("say " : Str)++one++(" " : Str)++(nS (sc+1)),("so " : Str)++(nS (sc+1)),("so 0 " : Str)++one++(" 9" : Str)++(Bp "0" 59)]
def Tl (one away:Str) (sc:Int):List Str:=[("say " : Str)++one++(" " : Str)++(Bp "9" 60)]
def Jc (one away:Str) (sc:Int):List Str:=((((EY one away sc++FO one away sc)++GF one away sc)++HM one away sc)++JW one away sc)++JV one away sc++(HL one away sc++Tl one away sc)
def GJ (one away:Str) (sc:Int) (j:Nat):Str:=(Jc one away sc).getD j ""
def F9 (j:Nat):Str:=if j<25 then "row" else if j<30 then "name" else "turn"
def Hf (C:D6) (j:Nat):Addr×List (Str×D):=if j<25 then (C.row,[("number",.int 0)]) else if j<30 then (C.name,[]) else (C.turn,[("number",.int 0)])
theorem V6 {C:D6} {O:Ad} {q n:Nat} {sc t b u c:Int} {ps:List Str} {ws:List Int} {one away:Str} (h:FE C O q n sc t b u c ps ws one away) (j:Nat) (hj:j<34):Ft C q O (GJ one away sc j) (Hf C j).1 (Hf C j).2:=by
 have wo:=O9 h.o1
 have wa:=O9 h.a1
 have hsc:=h.sc
 have hn:=EB (i:=sc+1) ⟨by omega,by omega⟩
 have wn1:Wn (nS (sc+1)):=⟨(Ld h.sc).1,hn.2.2.2.2.2⟩
 have l1:=(GX h.o1).2
 have l2:=(GX h.a1).2
 have l3:=(Ld h.sc).2
 have l4:=h.a1.l2
 have r1:=Ey (x := "9") (n:=61)
 have r2:=Ey (x := "9") (n:=5000)
 have r3:=Ey (x := "9") (n:=60)
 have r4:=Ey (x := "0") (n:=59)
 have w9:Wn (("9" : Str)++Bp "0" 59):=Zg (by unfold CA; decide +kernel) (GL (c:=48) wE) (by rw [r4]; decide +kernel)
 match j,hj with
 | 0,_=>exact eE h (x:=("" : Str)) (W:=[("" : Str)]) (wM (gl fn))
 | 1,_=>exact let H:∀ v∈[("come" : Str)],Wn v:=(fl fn); eR h (x:=("come" : Str)) (wM (wn H)) H (Fr 0)
 | 2,_=>exact let H:∀ v∈[("come" : Str),away,("1" : Str)],Wn v:=(fl (fs wa (fl fn))); eR h (x:=("come " : Str)++away++(" 1" : Str)) (wM (wn H)) H (Fr 2)
 | 3,_=>exact let H:∀ v∈[("go" : Str)],Wn v:=(fl fn); eR h (x:=("go" : Str)) (wM (wn H)) H (Fr 0)
 | 4,_=>exact let H:∀ v∈[("go" : Str),one,one],Wn v:=(fl (fs wo (fs wo fn))); eR h (x:=("go " : Str)++one++(" " : Str)++one) (wM (wn H)) H (Fr 2)
 | 5,_=>exact eE h (x:=(" say" : Str)) (W:=[("" : Str),("say" : Str)]) (wM (gl (gl fn)))
 | 6,_=>exact eE h (x:=("say " : Str)) (W:=[("say" : Str),("" : Str)]) (wM (gl (gl fn)))
 | 7,_=>exact let H:∀ v∈[("say" : Str),one],Wn v:=(fl (fs wo fn)); eR h (x:=("say " : Str)++one) (wM (wn H)) H bSO
 | 8,_=>exact let H:∀ v∈[("Say" : Str)],Wn v:=(fl fn); eR h (x:=("Say" : Str)) (wM (wn H)) H (Fr 0)
 | 9,_=>exact let H:∀ v∈[("say" : Str),one,("1" : Str),one],Wn v:=(fl (fs wo (fl (fs wo fn)))); eR h (x:=("say " : Str)++one++(" 1 " : Str)++one) (wM (wn H)) H bSO
 | 10,_=>exact let H:∀ v∈[("say" : Str),one,("01" : Str)],Wn v:=(fl (fs wo (fl fn))); eR h (x:=("say " : Str)++one++(" 01" : Str)) (wM (wn H)) H Hj
 | 11,_=>exact let H:∀ v∈[("say" : Str),one,("-1" : Str)],Wn v:=(fl (fs wo (fl fn))); eR h (x:=("say " : Str)++one++(" -1" : Str)) (wM (wn H)) H Hj
 | 12,_=>exact let H:∀ v∈[("say" : Str),one,("+1" : Str)],Wn v:=(fl (fs wo (fl fn))); eR h (x:=("say " : Str)++one++(" +1" : Str)) (wM (wn H)) H Hj
 | 13,_=>exact let H:∀ v∈[("say" : Str),one,("0" : Str),one,("0" : Str)],Wn v:=(fl (fs wo (fl (fs wo (fl fn))))); eR h (x:=("say " : Str)++one++(" 0 " : Str)++one++(" 0" : Str)) (wM (wn H)) H bST
 | 14,_=>exact let H:∀ v∈[("so" : Str)],Wn v:=(fl fn); eR h (x:=("so" : Str)) (wM (wn H)) H (Fr 0)
 | 15,_=>exact let H:∀ v∈[("so" : Str),("x" : Str)],Wn v:=(fl (fl fn)); eR h (x:=("so x" : Str)) (wM (wn H)) H bOF
 | 16,_=>exact let H:∀ v∈[("so" : Str),("0" : Str),one],Wn v:=(fl (fl (fs wo fn))); eR h (x:=("so 0 " : Str)++one) (wM (wn H)) H bOO
 | 17,_=>exact eE h (x:=("so 0  " : Str)++one++(" 0" : Str)) (W:=[("so" : Str),("0" : Str),("" : Str),one,("0" : Str)]) (wM (gl (gl (gl (fs wo.1 (gl fn))))))
 | 18,_=>exact let H:∀ v∈[("leave" : Str),one],Wn v:=(fl (fs wo fn)); eR h (x:=("leave " : Str)++one) (wM (wn H)) H (Fr 1)
 | 19,_=>exact eE h (x:=("come " : Str)) (W:=[("come" : Str),("" : Str)]) (wM (gl (gl fn)))
 | 20,_=>exact eE h (x:=("go " : Str)) (W:=[("go" : Str),("" : Str)]) (wM (gl (gl fn)))
 | 21,_=>exact let H:∀ v∈[("say" : Str),away,("0" : Str),away,("0" : Str)],Wn v:=(fl (fs wa (fl (fs wa (fl fn))))); eR h (x:=("say " : Str)++away++(" 0 " : Str)++away++(" 0" : Str)) (wM (wn H)) H bST
 | 22,_=>exact let H:∀ v∈[("say" : Str),one,(Bp "9" 61)],Wn v:=(fl (fs wo (fs (GL (c:=57) wE) fn))); eR h (x:=("say " : Str)++one++(" " : Str)++(Bp "9" 61)) (wM (wn H)) H (Hj (MT wE))
 | 23,_=>exact let H:∀ v∈[("so" : Str),(Bp "9" 61)],Wn v:=(fl (fs (GL (c:=57) wE) fn)); eR h (x:=("so " : Str)++(Bp "9" 61)) (wM (wn H)) H (bOF (MT wE))
 | 24,_=>exact let H:∀ v∈[("say" : Str),one,(Bp "9" 5000)],Wn v:=(fl (fs wo (fs (GL (c:=57) wE) fn))); eR h (x:=("say " : Str)++one++(" " : Str)++(Bp "9" 5000)) (wM (wn H)) H (Hj (MT wE))
 | 25,_=>exact λR RX hX=>⟨q,n,sc,t,b,u,c,ps,ws,_,_,rfl,h.B,wM (x:=("come A" : Str)) (w:=("come" : Str)) (W:=[("A" : Str)]) (wn (fl (fl fn))),h.sc,.inr (.inl ⟨_,rfl,by decide +kernel,.inr (.inl ⟨q,n,sc,t,b,u,c,ps,ws,_,rfl,h.B,by decide +kernel,by decide +kernel,by have:=hX []; rw [List.append_nil] at this; exact this⟩)⟩)⟩
 | 26,_=>exact λR RX hX=>⟨q,n,sc,t,b,u,c,ps,ws,_,_,rfl,h.B,wM (x:=("go " : Str)++away) (w:=("go" : Str)) (W:=[away]) (wn (fl (fs wa fn))),h.sc,.inr (.inr (.inl ⟨_,rfl,wa.2,.inr ⟨q,n,sc,t,b,u,c,ps,ws,_,rfl,h.B,h.a1,h.a2,by have:=hX []; rw [List.append_nil] at this; exact this⟩⟩))⟩
 | 27,_=>exact let H:∀ v∈[("say" : Str),away,("0" : Str)],Wn v:=(fl (fs wa (fl fn))); eS h (x:=("say " : Str)++away++(" 0" : Str)) (wM (wn H)) H (F6 wD) λRX O' hX=>Lj wF (O6 h.a2) hX
 | 28,_=>exact let H:∀ v∈[("so" : Str),(nS (sc+1)),away,("0" : Str)],Wn v:=(fl (fs wn1 (fs wa (fl fn)))); eO h (x:=("so " : Str)++(nS (sc+1))++(" " : Str)++away++(" 0" : Str)) (wM (wn H)) H (F6 wD) hn.1 λRX O' hX hB=>.inl ⟨q,n,sc,t,b,u,c,ps,_,ws,(Ca _).map Ov.i,.i (Bx (nS (sc+1))),by rw [IA]; rfl,hB,Lj wF (O6 h.a2) hX⟩
 | 29,_=>exact let H:∀ v∈[("say" : Str),("ab1" : Str),("0" : Str)],Wn v:=(fl (fl (fl fn))); eS h (x:=("say ab1 0" : Str)) (wM (wn H)) H (F6 wD) λRX O' hX=>Lj wD (Wa wD) hX
 | 30,_=>exact let H:∀ v∈[("say" : Str),one,(nS (sc+1))],Wn v:=(fl (fs wo (fs wn1 fn))); eS h (x:=("say " : Str)++one++(" " : Str)++(nS (sc+1))) (wM (wn H)) H (F6 hn.1) λRX O' hX=>Li h.o1 h.o2 (by rw [hn.2.1]; omega) hX
 | 31,_=>exact let H:∀ v∈[("so" : Str),(nS (sc+1))],Wn v:=(fl (fs wn1 fn)); eO h (x:=("so " : Str)++(nS (sc+1))) (wM (wn H)) H PF hn.1 λRX O' hX hB=>.inr ⟨q,n,sc,t,b,u,c,ps,[],ws,[],.i (Bx (nS (sc+1))),rfl,hB,h.w,⟨rfl,List.nodup_nil,(λy hy=>by cases hy),(λy hy=>by cases hy),(λy hy=>by cases hy),by decide⟩,by
   rw [hn.2.1]
   show (decide (0<=sc+1)&&decide (sc+1<=sc))=false
   rw [decide_eq_false (show ¬ sc+1<=sc by omega),Bool.and_false],hX⟩
 | 32,_=>exact let H:∀ v∈[("so" : Str),("0" : Str),one,("9" : Str)++(Bp "0" 59)],Wn v:=(fl (fl (fs wo (fs w9 fn)))); eO h (x:=("so 0 " : Str)++one++(" 9" : Str)++(Bp "0" 59)) (wM (wn H)) H (F6 wD) wD λRX O' hX hB=>.inl ⟨q,n,sc,t,b,u,c,ps,_,ws,(Ca _).map Ov.i,.i (Bx "0"),by rw [IA]; rfl,hB,Li h.o1 h.o2 (Int.lt_of_le_of_lt h.sc.2 (show (10:Int)<Bx (("9" : Str)++Bp "0" 59) by decide +kernel)) hX⟩
 | 33,_=>exact let H:∀ v∈[("say" : Str),one,(Bp "9" 60)],Wn v:=(fl (fs wo (fs (GL (c:=57) wE) fn))); eS h (x:=("say " : Str)++one++(" " : Str)++(Bp "9" 60)) (wM (wn H)) H (F6 wD) λRX O' hX=>Li h.o1 h.o2 (Int.lt_of_le_of_lt h.sc.2 (show (10:Int)<Bx (Bp "9" 60) by decide +kernel)) hX
 | j+34,hj=>exact absurd hj wF
def D2 (ns:List Int) (f:Int):List Int:=if decide (EI ns 0/20%8=5)=true then Ch (EI ns 0/160) 60 else CO ns (some f) (some 63)
def Oc:List D->D->Prop:=λds d=>∃ (ns:List Int) (f:Int),ds=[.scr (ns.map D.int),.int f]/\d=.lst ((D2 ns f).map D.int)
theorem Zf {ns:List Int} (f:Int) (h:ns.length<=63):(D2 ns f).length<=62\/(D2 ns f).length<=ns.length:=by
 unfold D2
 split
 ·left; rw [JG]; decide
 ·right; exact YX _ _ _
def Ci (sc:Int) (l:List (Str×Int)):List (Str×Int):=l.filterMap λp=>if 0<p.2%4 then some (p.1,p.2/4%(sc+1)) else none
theorem J0 (sc:Int):∀ l:List (Str×Int),((Ci sc l).map (·.1)).Sublist (l.map (·.1))
 | []=>List.Sublist.slnil
 | p::l=>by
  have ih:=J0 sc l
  unfold Ci at *
  rw [List.filterMap_cons]
  by_cases h:0<p.2%4
  ·rw [if_pos h]
   exact ih.cons_cons _
  ·rw [if_neg h]
   exact ih.cons _
theorem T1 {sc:Int} {l:List (Str×Int)} (hs:1<=sc):∀ y∈(Ci sc l).map (·.2),0<=y/\y<=sc:=λy hy=>by
 obtain ⟨p,hp,rfl⟩:=List.mem_map.mp hy
 obtain ⟨r,_,hr⟩:=List.mem_filterMap.mp hp
 by_cases h:0<r.2%4
 ·rw [if_pos h] at hr
  cases hr
  have h1:=Int.emod_nonneg (r.2/4) (show sc+1≠0 by omega)
  have h2:=Int.emod_lt_of_pos (r.2/4) (show 0<sc+1 by omega)
  exact ⟨h1,by show r.2/4%(sc+1)<=sc; omega⟩
 ·rw [if_neg h] at hr; cases hr
theorem T2 {sc:Int} {ths:List Str} {ns:List Int} (hn:ths.Nodup) (hs:1<=sc) (hl:ths.length<=ns.length):Ni sc ths ((Ci sc (ths.zip ns)).map (·.1)) ((Ci sc (ths.zip ns)).map (·.2)):=by
 have h:=J0 sc (ths.zip ns)
 rw [show (ths.zip ns).map (·.1)=ths from List.map_fst_zip hl] at h
 exact ⟨by rw [List.length_map,List.length_map],hn.sublist h,λx hx=>h.subset hx,T1 hs⟩
theorem Op (sc:Int) (l:List (Str×Int)) (p:Str×Int):Ci sc (l++[p])=Ci sc l++(if 0<p.2%4 then [(p.1,p.2/4%(sc+1))] else []):=by
 unfold Ci
 rw [List.filterMap_append]
 by_cases h:0<p.2%4
 ·rw [if_pos h,List.filterMap_cons,if_pos h]; rfl
 ·rw [if_neg h,List.filterMap_cons,if_neg h]; rfl
def N1:A7:=λds O R=>∃ (ths:List Str) (nsL:List Int) (sc:Int) (da:D),ds=[da,.lst (nsL.map D.int),.int sc]/\LV O da (ths.map D.str)/\ths.Nodup/\ths.length<=nsL.length/\ths.length<=60/\1<=sc/\R (.dct (((Ci sc (ths.zip nsL)).map (·.1)).map Sum.inr) (((Ci sc (ths.zip nsL)).map (·.2)).map D.int)) O
def nX (nm:List Str) (c:Int):Str:=nm.getD ((Ch c 9).getD 1 0%6).toNat ""
def FI (sc:Int) (nm:List Str) (L:List AU) (c:Int):List AU:=
 if (Ch c 9).getD 0 0%8<3/\nX nm c∉(AT L).1/\(AT L).2<20 then L++[.come (nX nm c)]
 else if (Ch c 9).getD 0 0%8=3/\nX nm c∈(AT L).1 then L++[.go (nX nm c)]
 else L++[.turn ((Ci sc ((AT L).1.zip ((Ch c 9).drop 2))).map (·.1)) ((Ci sc ((AT L).1.zip ((Ch c 9).drop 2))).map (·.2)) ((Ch c 9).getD 8 0%(sc+1))]
def EH (sc:Int) (nm:List Str) (cs:List Int):List AU:=cs.foldl (FI sc nm) []
structure Gd (sc:Int) (nm:List Str) (L:List AU) (n:Nat):Prop where
 ds:Hr sc L
 st:Fv (AT L)
 sub:∀ y∈(AT L).1,y∈nm
 cm:∀ x,AU.come x∈L->x∈nm
 le:L.length<=n
theorem Pc {nm:List Str} (h6:nm.length=6) (c:Int):Bg (nm.map D.str) ((Ch c 9).getD 1 0%6)=some (.str (nX nm c))/\nX nm c∈nm:=by
 have hk:∃ k:Nat,(Ch c 9).getD 1 0%6=(k:Nat)/\k<6:=⟨((Ch c 9).getD 1 0%6).toNat,by omega,by omega⟩
 obtain ⟨k,ek,hk⟩:=hk
 unfold nX
 rw [ek,Int.toNat_natCast,List.getD_eq_getElem?_getD,List.getElem?_eq_getElem wF]
 exact ⟨C5 (by rw [List.getElem?_map,List.getElem?_eq_getElem wF]; rfl),List.getElem_mem _⟩
theorem Gd.put {sc:Int} {nm:List Str} {L:List AU} {n:Nat} {d:AU} (h:Gd sc nm L n) (hd:Ju sc (AT L) d) (hn:∀ x,d=.come x->x∈nm):Gd sc nm (L++[d]) (n+1):=by
 refine ⟨h.ds.snoc hd,by rw [Du]; exact h.st.step hd,λy hy=>?_,λx hx=>?_,by rw [List.length_append]; have:=h.le; show L.length+1<=n+1; omega⟩
 ·rw [Du] at hy
  cases d with
  | come x=>
   rcases List.mem_append.mp hy with hy | hy
   ·exact h.sub y hy
   ·rw [List.mem_singleton.mp hy]; exact hn x rfl
  | go x=>exact h.sub y (List.mem_of_mem_eraseIdx hy)
  | turn qs ys so=>exact h.sub y hy
 ·rcases List.mem_append.mp hx with hx | hx
  ·exact h.cm x hx
  ·exact hn x (List.mem_singleton.mp hx).symm
theorem Gd.step {sc:Int} {nm:List Str} {L:List AU} {n:Nat} (h:Gd sc nm L n) (hnm:∀ x∈nm,AN x) (h6:nm.length=6) (hs:1<=sc) (c:Int):Gd sc nm (FI sc nm L c) (n+1):=by
 have hx:=(Pc h6 c).2
 unfold FI
 by_cases h1:(Ch c 9).getD 0 0%8<3/\nX nm c∉(AT L).1/\(AT L).2<20
 ·rw [if_pos h1]
  exact h.put ⟨hnm _ hx,h1.2.1,h1.2.2⟩ λx e=>by cases e; exact hx
 rw [if_neg h1]
 by_cases h2:(Ch c 9).getD 0 0%8=3/\nX nm c∈(AT L).1
 ·rw [if_pos h2]
  exact h.put ⟨hnm _ hx,h2.2⟩ λx e=>by cases e
 rw [if_neg h2]
 have h7:(AT L).1.length<=6:=by rw [<- h6]; exact Ir h.st.nd h.sub
 refine h.put ⟨T2 h.st.nd hs (by rw [List.length_drop,JG]; omega),Int.emod_nonneg _ wF,?_⟩ λx e=>by cases e
 have:=Int.emod_lt_of_pos ((Ch c 9).getD 8 0) (show 0<sc+1 by omega)
 omega
theorem Xy (sc:Int) (nm:List Str):Gd sc nm [] 0:=⟨(λi d h=>by cases h),⟨List.nodup_nil,(λx hx=>by cases hx),Nat.le_refl _,by decide⟩,(λy hy=>by cases hy),(λx hx=>by cases hx),Nat.le_refl _⟩
theorem PK {sc:Int} {nm:List Str} (hnm:∀ x∈nm,AN x) (h6:nm.length=6) (hs:1<=sc):∀ (cs:List Int) (L:List AU) (n:Nat),Gd sc nm L n->Gd sc nm (cs.foldl (FI sc nm) L) (n+cs.length)
 | [],L,n,h=>h
 | c::cs,L,n,h=>by
  have:=PK hnm h6 hs cs _ _ (h.step hnm h6 hs c)
  rw [List.foldl_cons,List.length_cons,show n+(cs.length+1)=n+1+cs.length by omega]
  exact this
theorem PL {sc:Int} {nm:List Str} (hnm:∀ x∈nm,AN x) (h6:nm.length=6) (hs:1<=sc) (cs:List Int):Gd sc nm (EH sc nm cs) cs.length:=by
 have:=PK hnm h6 hs cs [] 0 (Xy sc nm)
 rw [Nat.zero_add] at this
 exact this
theorem YK {sc:Int} {nm:List Str} {cs:List Int} {i:Nat} {c:Int} (h:cs[i]?=some c):EH sc nm (cs.take (i+1))=FI sc nm (EH sc nm (cs.take i)) c:=by
 unfold EH
 rw [List.take_succ,h,List.foldl_append]
 rfl
def N9:A7:=λds O R=>∃ (cs:List Int) (nm:List Str) (sc:Int),ds=[.lst (cs.map D.int),.lst (nm.map D.str),.int sc]/\cs.length<=63/\nm.length=6/\(∀ x∈nm,AN x)/\1<=sc/\R (.lst ((EH sc nm cs).map dD)) O
def Jd:Str:=Str.ofString "abcdefghijklmnopqrstuvwxyz"
def Me (k:Int):Option Nat:=Jd.cps[k.toNat]?
theorem WH:∀ i:Nat,i<26->∀ j:Nat,j<26->Jd.cps[i]?=Jd.cps[j]?->i=j:=by decide +kernel
def Sg (c:Int) (k:Nat) (x:Str):Prop:=∃ a0:Nat,c/8%(1+c%8)=(a0:Nat)/\x.cps[a0]?=Me ((c/(64+7*((a0:Nat):Int)*(a0:Nat))+(k:Nat))%26)
theorem Sg.ne {c:Int} {i j:Nat} {x y:Str} (h1:Sg c i x) (h2:Sg c j y) (hi:i<26) (hj:j<26) (hn:i≠j):x≠y:=λe=>by
 subst e
 obtain ⟨a,ea,h1⟩:=h1
 obtain ⟨a',ea',h2⟩:=h2
 have:a=a':=by rw [ea] at ea'; omega
 subst this
 rw [h1] at h2
 generalize c/(64+7*((a:Nat):Int)*(a:Nat))=A at h2
 have:=WH ((A+(i:Nat))%26).toNat wF ((A+(j:Nat))%26).toNat wF h2
 omega
def KS:List D->D->Prop:=λds d=>∃ nm:List Str,d=.lst (nm.map D.str)/\(∀ c m,ds=[.int c,.int ((m:Nat):Int)]->nm.length=m)/\(∀ x∈nm,AN x)/\∀ c m,ds=[.int c,m]->∀ (k:Nat) (x:Str),nm[k]?=some x->Sg c k x
def FK (x:Str) (s:List Str×Nat):List Str×Nat:=(x::s.1,s.2+1)
def sF (x:Str) (L:List AU):Nat->List Str×Nat
 | 0=>([],0)
 | i+1=>FK x (AT (L.take i))
theorem SO {x:Str} {s:List Str×Nat} {d:AU} (h:∀ y,d=.go y->y≠x):Et (FK x s) d=FK x (Et s d):=by
 cases d with
 | come y=>rfl
 | turn qs ys so=>rfl
 | go y=>
  have hy:=h y rfl
  show ((x::s.1).eraseIdx ((x::s.1).idxOf y),s.2+1)=(x::s.1.eraseIdx (s.1.idxOf y),s.2+1)
  rw [List.idxOf_cons,show (x==y)=false from beq_eq_false_iff_ne.mpr (Ne.symm hy)]
  rfl
theorem EV {sc:Int} {nm:List Str} {L:List AU} {n:Nat} (h:Gd sc nm L n):∀ i,∀ y∈(AT (L.take i)).1,y∈nm
 | 0,y,hy=>by cases hy
 | i+1,y,hy=>by
  cases hd:L[i]? with
  | none=>rw [List.take_succ,hd] at hy; exact EV h i y (by simpa using hy)
  | some d=>
   rw [List.take_succ,hd] at hy
   have hy:y∈(AT (L.take i++[d])).1:=hy
   rw [Du] at hy
   cases d with
   | come x=>
    rcases List.mem_append.mp hy with hy | hy
    ·exact EV h i y hy
    ·rw [List.mem_singleton.mp hy]; exact h.cm x (List.mem_of_getElem? hd)
   | go x=>exact EV h i y (List.mem_of_mem_eraseIdx hy)
   | turn qs ys so=>exact EV h i y hy
theorem Oq {sc:Int} {nm:List Str} {L:List AU} {n:Nat} {x:Str} (h:Gd sc nm L n) (hx:AN x) (hn:x∉nm):∀ i,Q6 (sF x L i)
 | 0=>⟨List.nodup_nil,(λx hx=>by cases hx),Nat.zero_le _,Nat.zero_le _⟩
 | i+1=>by
  have hs:=Mw h.ds i
  have hsub:=EV h i
  refine ⟨List.nodup_cons.mpr ⟨λz=>hn (hsub x z),hs.nd⟩,λy hy=>?_,?_,?_⟩
  ·rcases List.mem_cons.mp hy with rfl | hy
   ·exact hx
   ·exact hs.nm y hy
  ·show (AT (L.take i)).1.length+1<=21
   have:=hs.le; have:=hs.l20; omega
  ·show (AT (L.take i)).2+1<=100
   have:=hs.l20; omega
theorem T3 {sc:Int} {nm:List Str} {L:List AU} {n i:Nat} {x:Str} {d:AU} (h:Gd sc nm L n) (hx:AN x) (hn:x∉nm) (hd:(AU.come x::L)[i]?=some d):D84 sc (sF x L i) d/\Et (sF x L i) d=sF x L (i+1):=by
 cases i with
 | zero=>
  cases hd
  exact ⟨⟨hx,List.not_mem_nil⟩,rfl⟩
 | succ j=>
  have hd:L[j]?=some d:=hd
  have hok:=h.ds j d hd
  have hsub:=EV h j
  have hne:∀ y,d=.go y->y≠x:=λy e=>by
   subst e
   exact λz=>hn (by rw [<- z]; exact hsub y hok.2)
  refine ⟨?_,?_⟩
  ·cases d with
   | come y=>exact ⟨hok.1,λz=>by
     rcases List.mem_cons.mp z with z | z
     ·exact hn (by rw [<- z]; exact h.cm y (List.mem_of_getElem? hd))
     ·exact hok.2.1 z⟩
   | go y=>exact ⟨hok.1,List.mem_cons_of_mem _ hok.2⟩
   | turn qs ys so=>exact ⟨⟨hok.1.l,hok.1.nd,λz hz=>List.mem_cons_of_mem _ (hok.1.sub z hz),hok.1.on⟩,hok.2⟩
  ·show Et (FK x (AT (L.take j))) d=FK x (AT (L.take (j+1)))
   rw [SO hne,List.take_succ,hd]
   show _=FK x (AT (L.take j++[d]))
   rw [Du]
def N4:A7:=λds O R=>∃ (cc sc:Int) (one away:Str),ds=[.int cc,.str one,.str away,.int sc]/\AN one/\AN away/\(1<=sc/\sc<=10)/\∀ (j:Nat) (Y:Ad),j<34->R (.tup [.str (GJ one away sc j),.str (F9 j)]) (O++Y)
theorem YD {c:Int} {j:Nat} (h:c%34=(j:Nat)) (hj:j<34):Bg [D.str "row",.str "name",.str "turn"] ((if decide (24<c%34) then 1 else 0)+(if decide (29<c%34) then 1 else 0))=some (.str (F9 j)):=by
 unfold F9
 rw [h]
 by_cases h1:j<25
 ·rw [if_pos h1,decide_eq_false (show ¬ (24:Int)<(j:Nat) by omega),decide_eq_false (show ¬ (29:Int)<(j:Nat) by omega)]; rfl
 ·rw [if_neg h1,decide_eq_true (show (24:Int)<(j:Nat) by omega)]
  by_cases h2:j<30
  ·rw [if_pos h2,decide_eq_false (show ¬ (29:Int)<(j:Nat) by omega)]; rfl
  ·rw [if_neg h2,decide_eq_true (show (29:Int)<(j:Nat) by omega)]; rfl
theorem T8 {one away:Str} {sc:Int} {j:Nat} (hj:j<34):Bg ((Jc one away sc).map D.str) ((j:Nat):Int)=some (.str (GJ one away sc j)):=by
 have hl:(Jc one away sc).length=34:=rfl
 unfold GJ
 refine C5 ?_
 rw [List.getElem?_map,List.getD_eq_getElem?_getD,List.getElem?_eq_getElem wF]
 rfl
def Kd (C:D6) (K:Addr) (fs:List (Str×D)) (nm:Str):Prop:=(K=C.row/\fs=[(("number" : Str),D.int 0)]/\nm = "row")\/(K=C.name/\fs=[]/\nm = "name")\/(K=C.turn/\fs=[(("number" : Str),D.int 0)]/\nm = "turn")\/(K=C.twice/\fs=[]/\nm = "twice")
theorem Yt (C:D6) (j:Nat):Kd C (Hf C j).1 (Hf C j).2 (F9 j):=by
 unfold Hf F9
 by_cases h1:j<25
 ·rw [if_pos h1,if_pos h1]; exact .inl ⟨rfl,rfl,rfl⟩
 rw [if_neg h1,if_neg h1]
 by_cases h2:j<30
 ·rw [if_pos h2,if_pos h2]; exact .inr (.inl ⟨rfl,rfl,rfl⟩)
 rw [if_neg h2,if_neg h2]
 exact .inr (.inr (.inl ⟨rfl,rfl,rfl⟩))
theorem Ys {C:D6} {O:Ad} {q n:Nat} {sc t b u c:Int} {ps:List Str} {ws:List Int} {one away:Str} (h:FE C O q n sc t b u c ps ws one away):Ft C q O (("come " : Str)++one) C.twice []:=λR RX hX=>by
 have hf:=FX h.o1
 have el:(("come " : Str)).length=5:=by decide +kernel
 exact ⟨q,n,sc,t,b,u,c,ps,ws,_,[("come" : Str),one],rfl,h.B,JA wD wD ⟨hf.1,hf.2.1⟩ (by have:=hf.2.2.2; omega),h.sc,.inr (.inl ⟨one,rfl,hf.2.2.1,.inr (.inr ⟨q,n,sc,t,b,u,c,ps,ws,one,rfl,h.B,h.o1,h.o2,by have:=hX []; rw [List.append_nil] at this; exact this⟩)⟩)⟩
def NW (C:D6):A7:=λds O R=>∃ (q n:Nat) (sc t b u c:Int) (ps:List Str) (ws:List Int) (x:Str) (K:Addr) (fs:List (Str×D)) (nm:Str),ds=[.ptr q,.str x]/\AY C.b O q n sc t b ps ws u c/\Ft C q O x K fs/\Kd C K fs nm/\R (.str nm) O
theorem oS {X:Cx} {O:Ad} {x y:Str} (hz:x.length+y.length<=sizeLine:=by rw [GZ,GZ,sizeLine_eq]; simp only [CQ,Md,Mc,LY,LE,Lw,Lv,Lu,Ls,Lr,Lq,Mb,Ma,L9,L8,L7,L6,L5,L4,L0,LZ,LX,LW,LU,LR,LQ,LP,LM,LL,LK,LJ,LD,LC,LA,Lz,Ly,Lx,List.length_append,List.length_cons,List.length_nil]; omega):AX X O (binaryOp .Add) (.str x) (.str y) (.str (x++y)):=Df hz
theorem SR {l:List Str} (h:∀ x∈l,AN x):Cu ((Bh Cd l).map D.str)=true:=K5 λx hx=>h x ((Dv Cd l).mem_iff.mp hx)
theorem Yv (l:List Str):CM (.tup (l.map D.str)) (.tup (l.map D.str))=true:=by
 have:CM (.tup (l.map D.str)) (.tup (l.map D.str))=decide (l=l):=Qm eqS l l
 rw [this,decide_eq_true rfl]
theorem Pe {sc t b:Int} (hf:C9 sc t b):(Dg (.i sc) 1 10&&DT (.i t) (.i b))=true:=by
 have z2:=XG t b
 rw [decide_eq_true hf.t0,decide_eq_true hf.tb,decide_eq_true hf.b2] at z2
 have e:Dg (.i sc) 1 10=true:=by show (decide (1<=sc)&&decide (sc<=10))=true; rw [decide_eq_true hf.s1,decide_eq_true hf.s2]; rfl
 rw [e]
 first | (rw [<- z2]; rfl) | (rw [z2]; rfl)
theorem Te {nm:List Str} (h:nm.length=6):∃ x0 x1 x2 x3 x4 x5,nm=[x0,x1,x2,x3,x4,x5]:=by
 match nm,h with
 | [x0,x1,x2,x3,x4,x5],_=>exact ⟨x0,x1,x2,x3,x4,x5,rfl⟩
seal Ac Ev BB Ex Exs Ax Cn D5 DG Dn
section
variable {P:Program} {w:World} {K:PySem.W.Frag} {mg:Str->Option Value} {base:Heap} {CK0 CK1 CK5 CK3 CK2 CK7 CK4 CK6:Addr} {f:Addr} {fd:FuncData} (T:Cr K mg CK0 CK1 CK5 CK3 CK2 CK7 CK4 CK6)
include T
theorem VQ (Fn:AB K "__init__" "NoTurn.__init__" FR f fd) (Z:EN K CK5 f "number"):AI P w K mg base BM 1 f fd ["self","number"] (EW CK5 "number"):=
 L2.okI Fn TK Z T.t_NoTurn rfl wE wE wE wE (by first | exact Or.inl rfl | exact Or.inr rfl) (by first | exact Or.inl rfl | exact Or.inr rfl) (λ_=>rfl)
theorem VR (Fn:AB K "__init__" "NoRow.__init__" FS f fd) (Z:EN K CK3 f "number"):AI P w K mg base BM 1 f fd ["self","number"] (EW CK3 "number"):=
 L2.okI Fn TL Z T.t_NoRow rfl wE wE wE wE (by first | exact Or.inl rfl | exact Or.inr rfl) (by first | exact Or.inl rfl | exact Or.inr rfl) (λ_=>rfl)
theorem VC (Fn:AB K "is_whole" "is_whole" Kl f fd) (hm:mg "is_whole" = some (.ref f)) (hb:Binds K fd ["value"] []):AE P w K mg base 1 "is_whole" (Bq JN):=by
 refine BT (k:=0) Fn Ts hm hb (λds O R h=>?_) (λcdv A outer s H E ds O R hr h=>?_)
 ·obtain ⟨_,⟨_,rfl,_⟩,_⟩:=h; rfl
 ·obtain ⟨d,⟨v,rfl,rfl⟩,hR⟩:=h
  refine Ah (AF (Ac.ev (IP (AQ T.b_isinstance (Ab (Aa 0) (Ab (Di T.b_int) Ae)) (Zs (OY v))) (λhbb=>(IH (Qc (AQ T.b_isinstance (Ab (Aa 0) (Ab (Di T.b_bool) Ae)) (ML (OY v))))))) ?_))
  have e:(F3 (ov v) "int" && !F3 (ov v) "bool")=Iy v:=by cases v <;> rfl
  rw [e]
  exact hR
theorem VH (Fn:AB K "check_within" "check_within" Kr f fd) (hm:mg "check_within" = some (.ref f)) (hb:Binds K fd ["what","value","least","most"] []) (ji:AE P w K mg base 1 "is_whole" (Bq JN)):A1 P w K mg base 2 "check_within" (HB CK4):=by
 refine ⟨f,fd,_,B5 (k:=1) Fn Tz (λds O R RX h=>?_) (λcdv A outer s H E ds O R RX hr h=>?_),hm,Fn.kp,hb⟩
 ·obtain ⟨_,_,_,_,rfl,_⟩:=h; rfl
 ·obtain ⟨x,v,l,u,rfl,⟨hx1,hx2,hx3⟩,h1,h2⟩:=h
  cases hw:Iy v with
  | false=>
   have e:Dg v l u=false:=by cases v <;> first | rfl | cases hw
   refine Ap (A9 (k:=true||false) (AO.t (Ce (k:=true) (l:=false) (Ax.cast (CL (BR (Bc ji (hr.mono wE) (Ab (Aa 1) Ae) ⟨v,rfl,rfl⟩))) (by rw [hw]; rfl)) (λhbb=>by cases hbb))) (λhk=>?_) (λhk=>by cases hk))
   exact Ap (Gn T.e_NoRule T.m_NoRule (Ab (IK (Aa 0) hx1 hx2 hx3) Ae) (h2 e) trivial)
  | true=>
   cases v <;> first | (cases hw; done) | skip
   rename_i n
   refine Ap (A9 (AO.t (Ce (CL (BR (Bc ji (hr.mono wE) (Ab (Aa 1) Ae) ⟨.i n,rfl,rfl⟩))) (λhbb=>(Dh (CL (Qk (Aa 2) (Aa 1) (Aa 3) Gc (λhbb=>Gc))))))) (λhk=>?_) (λhk=>A8 (A8 (h1 ?_))))
   ·refine Ap (Gn T.e_NoRule T.m_NoRule (Ab (IK (Aa 0) hx1 hx2 hx3) Ae) (h2 ?_) trivial)
    exact O5 (show (!(decide (l<=n)&&decide (n<=u)))=true from hk)
   ·exact O7 (show (!(decide (l<=n)&&decide (n<=u)))=false from hk)
theorem VL (Fn:AB K "check_scale" "check_scale" Ku f fd) (hm:mg "check_scale" = some (.ref f)) (hb:Binds K fd ["scale"] []) (jo:A1 P w K mg base 2 "check_within" (HB CK4)):A1 P w K mg base 3 "check_scale" (JK CK4):=by
 refine ⟨f,fd,_,B5 (k:=2) Fn TC (λds O R RX h=>?_) (λcdv A outer s H E ds O R RX hr h=>?_),hm,Fn.kp,hb⟩
 ·obtain ⟨_,rfl,_⟩:=h; rfl
 ·obtain ⟨v,rfl,h1,h2⟩:=h
  exact Ap (Bo (Be jo (hr.mono wE) (Ab Al (Ab (Aa 0) (Ab Af (Ab (IJ T.g_MOST_SCALE.choose_spec) Ae)))) ⟨"scale",v,1,10,rfl,Th,λe=>A8 (h1 e),λe=>h2 e⟩))
theorem VO (Fn:AB K "check_fraction" "check_fraction" Kx f fd) (hm:mg "check_fraction" = some (.ref f)) (hb:Binds K fd ["top","bottom"] []) (jo:A1 P w K mg base 2 "check_within" (HB CK4)):A1 P w K mg base 3 "check_fraction" (JO CK4):=by
 refine ⟨f,fd,_,B5 (k:=2) Fn TH (λds O R RX h=>?_) (λcdv A outer s H E ds O R RX hr h=>?_),hm,Fn.kp,hb⟩
 ·obtain ⟨_,_,rfl,_⟩:=h; rfl
 ·obtain ⟨t,b,rfl,h1,h2⟩:=h
  refine Ap (Bo (Be jo (hr.mono wE) (Ab Al (Ab (Aa 1) (Ab Af (Ab (IJ T.g_MOST_BOTTOM.choose_spec) Ae)))) ⟨"bottom",b,1,100,rfl,Ti,λe=>?_,λe=>h2 (by unfold DT; rw [e]; rfl)⟩))
  obtain ⟨n,rfl,hn⟩:=IB e
  exact Ap (Bo (Be jo (hr.mono wE) (Ab Al (Ab (Aa 0) (Ab Af (Ab (Ai (Aa 1) Af Ig) Ae)))) ⟨"top",t,0,n-1,rfl,Tf,λe'=>A8 (h1 (by unfold DT Mf; rw [e,e']; rfl)),λe'=>h2 (by unfold DT Mf; rw [e,e']; rfl)⟩))
theorem VD (Fn:AB K "is_on_scale" "is_on_scale" Km f fd) (hm:mg "is_on_scale" = some (.ref f)) (hb:Binds K fd ["scale","value"] []) (ji:AE P w K mg base 1 "is_whole" (Bq JN)):AE P w K mg base 2 "is_on_scale" (Bq N3):=by
 refine BT (k:=1) Fn Tt hm hb (λds O R h=>?_) (λcdv A outer s H E ds O R hr h=>?_)
 ·obtain ⟨_,⟨_,_,rfl,_⟩,_⟩:=h; rfl
 ·obtain ⟨d,⟨s,v,rfl,rfl⟩,hR⟩:=h
  cases hw:Iy v with
  | false=>
   have e:De s v=false:=by cases v <;> first | rfl | cases hw
   rw [e] at hR
   refine Ah (AF (Ac.ev (IP (k:=false) (l:=false) (Bc ji (hr.mono wE) (Ab (Aa 1) Ae) ⟨v,rfl,by rw [hw]⟩) (λhbb=>absurd hbb Bool.false_ne_true)) ?_))
   exact hR
  | true=>
   cases v <;> first | (cases hw; done) | skip
   rename_i i
   refine Ah (AF (Ac.ev (IP (Bc ji (hr.mono wE) (Ab (Aa 1) Ae) ⟨.i i,rfl,rfl⟩) (λhbb=>(IH (Yo Af (Aa 1) (Aa 0) Gc (λhbb=>Gc))))) ?_))
   exact hR
theorem VE (Fn:AB K "is_name" "is_name" Kn f fd) (hm:mg "is_name" = some (.ref f)) (hb:Binds K fd ["name"] []):AE P w K mg base 1 "is_name" (Bq N5):=by
 refine BT (k:=0) Fn Tu hm hb (λds O R h=>?_) (λcdv A outer s H E ds O R hr h=>?_)
 ·obtain ⟨_,⟨_,rfl,_⟩,_⟩:=h; rfl
 ·obtain ⟨d,⟨v,rfl,hv,rfl⟩,hR⟩:=h
  cases v with
  | s x=>
   have hv:x.length<=1000:=hv
   have hz:x.length<=sizeLine:=by rw [sizeLine_eq]; omega
   have hR:R (.bl (DP x)) O:=hR
   unfold DP at hR
   refine Ah (AZ (Ax.cast (k':=!(decide ((1:Int)<=(x.length:Nat))&&decide (((x.length:Nat):Int)<=8))) (AO.t (Ce (CL (BR (AQ T.b_isinstance (Ab (Aa 0) (Ab (Di T.b_str) Ae)) (EJ rfl)))) (λhbb=>(Dh (CL (Qk Af (AQ T.b_len (Ab (Aa 0) Ae) (IW hz)) (IJ T.g_MOST_LETTERS.choose_spec) Gc (λhbb=>Gc))))))) rfl) (λhk=>?_) (λhk=>Ay ?_))
   ·have e:(decide ((1:Int)<=(x.length:Nat))&&decide (((x.length:Nat):Int)<=8))=false:=by
     cases e:(decide ((1:Int)<=(x.length:Nat))&&decide (((x.length:Nat):Int)<=8)) with
     | false=>rfl
     | true=>rw [e] at hk; cases hk
    rw [e] at hR
    exact Ah (AF (Ac.ev Cy hR))
   ·have e:(decide ((1:Int)<=(x.length:Nat))&&decide (((x.length:Nat):Int)<=8))=true:=by
     cases e:(decide ((1:Int)<=(x.length:Nat))&&decide (((x.length:Nat):Int)<=8)) with
     | true=>rfl
     | false=>rw [e] at hk; cases hk
    rw [e,Bool.true_and] at hR
    exact Ah (AF (Ac.ev (AQ T.b_all (Ab (F7 (λc:Nat=>.bl (decide (c∈ED))) ["sign"] [] [] (Qo (Aa 0)) (by rw [Array.length_toList]; show x.length<=_; exact hz) (by exact λq hq s H fp=>⟨[some _],rfl,(Bv 0 (show List.Nodup (["sign"]:List Str) by decide +kernel)),⟨_,rfl,(Ei (Aa 0) (Qg T.g_LETTERS.choose_spec) QC)⟩⟩)) Ae) (MP (bs:=x.cps.toList.map λc=>decide (c∈ED)) (Or.inl (Or.inl (by rw [List.map_map]; rfl))))) hR))
  | n=>
   refine Ah (AZ (k:=true||false) (AO.t (Ce (k:=true) (l:=false) (Ax.cast (CL (BR (AQ T.b_isinstance (Ab (Aa 0) (Ab (Di T.b_str) Ae)) (EJ rfl)))) rfl) (λhbb=>by cases hbb))) (λ_=>?_) (λhk=>by cases hk))
   exact Ah (AF (Ac.ev Cy hR))
  | i z=>
   refine Ah (AZ (k:=true||false) (AO.t (Ce (k:=true) (l:=false) (Ax.cast (CL (BR (AQ T.b_isinstance (Ab (Aa 0) (Ab (Di T.b_str) Ae)) (EJ rfl)))) rfl) (λhbb=>by cases hbb))) (λ_=>?_) (λhk=>by cases hk))
   exact Ah (AF (Ac.ev Cy hR))
  | b z=>
   refine Ah (AZ (k:=true||false) (AO.t (Ce (k:=true) (l:=false) (Ax.cast (CL (BR (AQ T.b_isinstance (Ab (Aa 0) (Ab (Di T.b_str) Ae)) (EJ rfl)))) rfl) (λhbb=>by cases hbb))) (λ_=>?_) (λhk=>by cases hk))
   exact Ah (AF (Ac.ev Cy hR))
  | t z=>
   refine Ah (AZ (k:=true||false) (AO.t (Ce (k:=true) (l:=false) (Ax.cast (CL (BR (AQ T.b_isinstance (Ab (Aa 0) (Ab (Di T.b_str) Ae)) (EJ rfl)))) rfl) (λhbb=>by cases hbb))) (λ_=>?_) (λhk=>by cases hk))
   exact Ah (AF (Ac.ev Cy hR))
  | l z=>
   refine Ah (AZ (k:=true||false) (AO.t (Ce (k:=true) (l:=false) (Ax.cast (CL (BR (AQ T.b_isinstance (Ab (Aa 0) (Ab (Di T.b_str) Ae)) (EJ rfl)))) rfl) (λhbb=>by cases hbb))) (λ_=>?_) (λhk=>by cases hk))
   exact Ah (AF (Ac.ev Cy hR))
theorem VN (Fn:AB K "check_name" "check_name" Kw f fd) (hm:mg "check_name" = some (.ref f)) (hb:Binds K fd ["name"] []) (kj:AE P w K mg base 1 "is_name" (Bq N5)):A1 P w K mg base 2 "check_name" (GB CK2):=by
 refine ⟨f,fd,_,B5 (k:=1) Fn TF (λds O R RX h=>?_) (λcdv A outer s H E ds O R RX hr h=>?_),hm,Fn.kp,hb⟩
 ·obtain ⟨_,rfl,_⟩:=h; rfl
 ·obtain ⟨v,rfl,hv,h1,h2⟩:=h
  refine Ap (A9 (CL (BR (Bc kj (hr.mono wE) (Ab (Aa 0) Ae) ⟨v,rfl,hv,rfl⟩))) (λhk=>?_) (λhk=>A8 (A8 (h1 ?_))))
  ·refine Ap (Gn T.e_NoName T.m_NoName (Ab Al Ae) (h2 ?_) trivial)
   cases e:Fd v with
   | false=>rfl
   | true=>rw [e] at hk; cases hk
  ·cases e:Fd v with
   | true=>rfl
   | false=>rw [e] at hk; cases hk
theorem VI (Fn:AB K "check_there" "check_there" Ks f fd) (hm:mg "check_there" = some (.ref f)) (hb:Binds K fd ["tops","name"] []):A1 P w K mg base 1 "check_there" (HH CK2):=by
 refine ⟨f,fd,_,B5 (k:=0) Fn TB (λds O R RX h=>?_) (λcdv A outer s H E ds O R RX hr h=>?_),hm,Fn.kp,hb⟩
 ·obtain ⟨_,_,_,_,rfl,_⟩:=h; rfl
 ·obtain ⟨da,ks,xs,x,rfl,hd,hx,h1,h2⟩:=h
  have e0:Str.empty.length=0:=by decide +kernel
  have e1:((" is not there" : Str)).length=13:=by decide +kernel
  have hn:=sizeLine_eq
  refine Ap (A9 (Au (Aa 1) (Aa 0) (Y7 (k:=.inr x) hr hd)) (λhk=>?_) (λhk=>A8 (A8 (h1 ?_))))
  ·refine Ap (Gn T.e_NoName T.m_NoName (Ab (IK (Aa 1) (by rw [Str.length_append,Str.length_append,e0,e1]; omega) wF (by rw [Str.length_append,e0]; omega)) Ae) (h2 ?_) trivial)
   cases e:(Bf ks xs (.inr x)).isSome with
   | false=>rfl
   | true=>rw [e] at hk; cases hk
  ·cases e:(Bf ks xs (.inr x)).isSome with
   | true=>rfl
   | false=>rw [e] at hk; cases hk
theorem VJ (Fn:AB K "check_speakers" "check_speakers" Kt f fd) (hm:mg "check_speakers" = some (.ref f)) (hb:Binds K fd ["tops","said"] []) (jb:A1 P w K mg base 2 "check_name" (GB CK2)) (jp:A1 P w K mg base 1 "check_there" (HH CK2)):A1 P w K mg base 3 "check_speakers" (JJ CK2):=by
 refine ⟨f,fd,_,B5 (k:=2) Fn JY (λds O R RX h=>?_) (λcdv A outer s H E ds O R RX hr h=>?_),hm,Fn.kp,hb⟩
 ·obtain ⟨_,_,_,_,_,rfl,_⟩:=h; rfl
 ·obtain ⟨da,ps,qs,ws,zs,rfl,hd,hl,hle,hsm,h1,h2⟩:=h
  refine Ap (Jz (Qp (Aa 1)) (λi ρ O'=>O'=O/\(∀ j,j<i->∀ x,qs[j]?=some x->AN x)/\∃ v,ρ=[some da,some (.dct (qs.map Sum.inr) zs),v]) ⟨rfl,λj hj=>absurd hj (Nat.not_lt_zero j),_,rfl⟩ ?_ ?_)
  ·rintro i z ρ O' hz ⟨hO,hok,v,rfl⟩
   subst hO
   rw [List.getElem?_map] at hz
   cases hq:qs[i]? with
   | none=>rw [hq] at hz; cases hz
   | some x=>
    rw [hq] at hz
    cases hz
    have hx:=List.mem_of_getElem? hq
    refine ⟨_,Bv 2 JY.nd,?_⟩
    refine Ap (Bo (Be jb (hr.mono wE) (Ab (Aa 2) Ae) ⟨.s x,rfl,hsm x hx,λe=>A8 ⟨rfl,λj hj y hy=>?_,_,rfl⟩,λe=>h2 λz=>?_⟩))
    ·rcases Nat.lt_succ_iff_lt_or_eq.mp hj with h | h
     ·exact hok j h y hy
     ·subst h
      rw [hq] at hy
      cases hy
      exact Wc e
    ·have e:DP x=false:=e
     rw [FW (z x hx).1] at e
     cases e
  ·rintro ρ O' ⟨hO,hok,v,rfl⟩
   subst hO
   have hall:∀ x∈qs,AN x:=λx hx=>by
    obtain ⟨j,hj,e⟩:=List.getElem_of_mem hx
    exact hok j (by rw [List.length_map]; exact hj) x (by rw [List.getElem?_eq_getElem hj,e])
   refine Ap (Jz (Fj (Qb (Aa 1) (Or.inl rfl) wF T.b_sorted) (Or.inl rfl)) (λi ρ O''=>O''=O'/\(∀ j,j<i->∀ x,(Bh Cd qs)[j]?=some x->x∈ps)/\∃ v,ρ=[some da,some (.dct (qs.map Sum.inr) zs),v]) ⟨rfl,λj hj=>absurd hj (Nat.not_lt_zero j),_,rfl⟩ ?_ ?_)
   ·rintro i z ρ O2 hz ⟨hO,hok2,v,rfl⟩
    subst hO
    rw [List.getElem?_map] at hz
    cases hq:(Bh Cd qs)[i]? with
    | none=>rw [hq] at hz; cases hz
    | some x=>
     rw [hq] at hz
     cases hz
     have hx:=(Dv Cd qs).mem_iff.mp (List.mem_of_getElem? hq)
     refine ⟨_,Bv 2 JY.nd,?_⟩
     refine Ap (Bo (Be jp (hr.mono wE) (Ab (Aa 0) (Ab (Aa 2) Ae)) ⟨da,_,_,x,rfl,hd,hsm x hx,λe=>A8 ⟨rfl,λj hj y hy=>?_,_,rfl⟩,λe=>h2 λz=>?_⟩))
     ·rcases Nat.lt_succ_iff_lt_or_eq.mp hj with h | h
      ·exact hok2 j h y hy
      ·subst h
       rw [hq] at hy
       cases hy
       rw [G0 hl] at e
       exact of_decide_eq_true e
     ·rw [G0 hl,decide_eq_true (z x hx).2] at e
      cases e
   ·rintro ρ O2 ⟨hO,hok2,v,rfl⟩
    subst hO
    refine A8 (h1 λx hx=>⟨hall x hx,?_⟩)
    obtain ⟨j,hj,e⟩:=List.getElem_of_mem ((Dv Cd qs).mem_iff.mpr hx)
    exact hok2 j (by rw [List.length_map]; exact hj) x (by rw [List.getElem?_eq_getElem hj,e])
theorem VM (Fn:AB K "check_numbers" "check_numbers" Kv f fd) (hm:mg "check_numbers" = some (.ref f)) (hb:Binds K fd ["scale","numbers"] []) (kl:AE P w K mg base 2 "is_on_scale" (Bq N3)) (J_NoTurn:EM P w K mg base CK5 1 "NoTurn" "number"):A1 P w K mg base 3 "check_numbers" (HI CK5):=by
 refine ⟨f,fd,_,B5 (k:=2) Fn TD (λds O R RX h=>?_) (λcdv A outer s H E ds O R RX hr h=>?_),hm,Fn.kp,hb⟩
 ·obtain ⟨_,_,rfl,_⟩:=h; rfl
 ·obtain ⟨sc,vs,rfl,hl,h1,h2⟩:=h
  have ea:(vs.map λv=>De sc v).all id=true ↔ ∀ v∈vs,De sc v=true:=by rw [List.all_map,List.all_eq_true]; exact Iff.rfl
  refine Ap (A9 (CL (BR (AQ T.b_all (Ab (F7 (λv:Ov=>.bl (De sc v)) ["number"] ["scale"] [0] (Fj (Aa 1) wB) (by rw [sizeLine_eq]; omega) (by exact λq hq s H fp=>⟨[some _],rfl,(Bv 0 (show List.Nodup (["number","scale"]:List Str) by decide +kernel)),⟨_,rfl,(Bc kl (hr.mono wE) (Ab (Aa 1) (Ab (Aa 0) Ae)) ⟨sc,q,rfl,rfl⟩)⟩⟩)) Ae) (MP (bs:=vs.map λv=>De sc v) (Or.inl (Or.inl (by rw [List.map_map]; rfl))))))) (λhk=>?_) (λhk=>A8 (A8 (h1 ?_))))
  ·refine Ap (FH J_NoTurn (hr.mono wE) (Ab Af Ae) (h2 λz=>?_) trivial)
   rw [ea.mpr z] at hk
   cases hk
  ·refine ea.mp ?_
   cases e:(vs.map λv=>De sc v).all id with
   | true=>rfl
   | false=>rw [e] at hk; cases hk
theorem VG (Fn:AB K "counted" "counted" Kp f fd) (hm:mg "counted" = some (.ref f)) (hb:Binds K fd ["weights"] []):AE P w K mg base 1 "counted" (Bq Oa):=by
 refine BT (k:=0) Fn Tx hm hb (λds O R h=>?_) (λcdv A outer s H E ds O R hr h=>?_)
 ·obtain ⟨_,⟨_,rfl,_⟩,_⟩:=h; rfl
 ·obtain ⟨d,⟨ws,rfl,hl,rfl⟩,hR⟩:=h
  refine Ah (AZ (Au (AQ T.b_sum (Ab (Aa 0) Ae) (QH (by first | exact Or.inr rfl | exact Or.inl (Or.inl rfl) | exact Or.inl (Or.inr (Or.inl rfl)) | exact Or.inl (Or.inr (Or.inr ⟨_,rfl,by first | assumption | rfl⟩))))) Af BE) (λhk=>?_) (λhk=>?_))
  ·have hk:=of_decide_eq_true hk
   refine Ah (AF (Ac.ev (F7 (λ_=>.int 1) ["weight"] [] [] (Fj (Aa 0) wB) (by rw [sizeLine_eq]; omega) (by exact λq hq s H fp=>⟨[some _],rfl,(Bv 0 (show List.Nodup (["weight"]:List Str) by decide +kernel)),⟨_,rfl,Af⟩⟩)) ?_))
   unfold A5 at hR
   rw [if_pos hk,List.map_map] at hR
   exact hR
  ·have hk:=of_decide_eq_false hk
   refine Ay ?_
   refine Ah (AF (Ac.ev (Cf T.b_list (Ab (Aa 0) Ae) (Zr (by first | exact Or.inr rfl | exact Or.inl (Or.inl rfl) | exact Or.inl (Or.inr (Or.inl rfl)) | exact Or.inl (Or.inr (Or.inr ⟨_,rfl,by first | assumption | rfl⟩))))) ?_))
   unfold A5 at hR
   rw [if_neg hk] at hR
   exact hR
theorem Vp (Fn:AB K "middle" "middle" J8 f fd) (hm:mg "middle" = some (.ref f)) (hb:Binds K fd ["numbers","weights"] []) (km:AE P w K mg base 1 "counted" (Bq Oa)):AE P w K mg base 2 "middle" (Bq N6):=by
 refine BT (k:=1) Fn EZ hm hb (λds O R h=>?_) (λcdv A outer s H E ds O R hr h=>?_)
 ·obtain ⟨_,⟨_,_,rfl,_⟩,_⟩:=h; rfl
 ·obtain ⟨d,⟨ns,ws,rfl,⟨h1,h2,h3⟩,rfl⟩,hR⟩:=h
  refine Ah (AA 2 (Ac.ev (Bc km (hr.mono wE) (Ab (Aa 1) Ae) ⟨_,rfl,by assumption,rfl⟩) ?_) EZ.nd)
  have hc:=MC h3
  have hcl:=QB ws
  unfold CJ at hR
  generalize A5 ws=cs at hR hc hcl
  refine Ah (AA 3 (Ac.ev (AQ T.b_sum (Ab (Aa 2) Ae) (QH (by first | exact Or.inr rfl | exact Or.inl (Or.inl rfl) | exact Or.inl (Or.inr (Or.inl rfl)) | exact Or.inl (Or.inr (Or.inr ⟨_,rfl,by first | assumption | rfl⟩))))) ?_) EZ.nd)
  refine Ah (AA 4 (Ac.ev Af ?_) EZ.nd)
  have hz:(ns.zip cs).length<64:=by rw [List.length_zip]; omega
  have hsl:(Bh Br (ns.zip cs)).length<=63:=by rw [(Dv Br (ns.zip cs)).length_eq]; omega
  have hsm:∀ p∈Bh Br (ns.zip cs),0<=p.2:=λp hp=>hc _ (List.of_mem_zip ((Dv Br (ns.zip cs)).mem_iff.mp hp)).2
  refine Ah (DH (Fj (X9 GS (λY=>Zc) Wb (P4 (Aa 0) (Aa 2) wB wB T.b_zip) wF T.b_sorted) wB) (λi ρ O'=>∃ (r:Int) (u v:Option D),ρ=[some (.tup (ns.map D.int)),some (.tup (ws.map D.int)),some (.lst (cs.map D.int)),some (.int cs.sum),some (.int r),u,v]/\r=sm (λq=>q.2) ((Bh Br (ns.zip cs)).take i)/\go cs.sum 0 (Bh Br (ns.zip cs))=go cs.sum r ((Bh Br (ns.zip cs)).drop i)/\O'=O) ⟨0,_,_,rfl,rfl,rfl,rfl⟩ ?_ ?_)
  ·rintro i x ρ O' hx ⟨r,u,v,rfl,hr1,hg,rfl⟩
   rw [List.getElem?_map] at hx
   cases hp:(Bh Br (ns.zip cs))[i]? with
   | none=>rw [hp] at hx; cases hx
   | some p=>
    rw [hp] at hx
    cases hx
    refine ⟨_,Gq (Dt (Bv 5 EZ.nd) (Dt (Bv 6 EZ.nd) Gp)),?_⟩
    refine Ah (AA 4 (Ac.ev (Ai (Aa 4) (Aa 6) BU) ?_) EZ.nd)
    have h4:r+p.2=sm (λq=>q.2) ((Bh Br (ns.zip cs)).take (i+1)):=by rw [S8 hp,hr1]
    have hd:(Bh Br (ns.zip cs)).drop i=p::(Bh Br (ns.zip cs)).drop (i+1):=by
     obtain ⟨hi,e⟩:=List.getElem?_eq_some_iff.mp hp
     rw [List.drop_eq_getElem_cons hi,e]
    rw [hd] at hg
    refine Ah (AZ (Au (Ai Af (Aa 4) (CU (EQ.ok (Or.inl ⟨by decide,by decide⟩)))) (Aa 3) Za) (λhk=>?_) (λhk=>?_))
    ·have hk:=of_decide_eq_true hk
     refine Ah (AF (Ac.ev (Aa 5) ?_))
     rw [hg] at hR
     unfold go at hR
     rw [if_pos hk] at hR
     exact hR
    ·have hk:=of_decide_eq_false hk
     refine Ay (Ay ?_)
     refine ⟨_,_,_,rfl,h4,?_,rfl⟩
     rw [hg]
     conv=>lhs; unfold go
     rw [if_neg hk]
  ·rintro ρ O' ⟨r,u,v,rfl,hr1,hg,rfl⟩
   refine Ah (AF (Ac.ev Af ?_))
   rw [List.length_map,List.drop_of_length_le (Nat.le_refl _)] at hg
   rw [hg] at hR
   exact hR
theorem Vn (Fn:AB K "power" "power" J6 f fd) (hm:mg "power" = some (.ref f)) (hb:Binds K fd ["base","exponent"] []):AE P w K mg base 1 "power" (Bq JM):=by
 refine BT (k:=0) Fn HP hm hb (λds O R h=>?_) (λcdv A outer s H E ds O R hr h=>?_)
 ·obtain ⟨_,⟨_,_,rfl,_⟩,_⟩:=h; rfl
 ·obtain ⟨d,⟨b,n,rfl,hb,hn,rfl⟩,hR⟩:=h
  refine Ah (AA 2 (Ac.ev Af ?_) HP.nd)
  refine Ah (DH (F8 (Aa 1) T.b_range wC wC) (λi ρ O'=>∃ u,ρ=[some (.int b),some (.int n),some (.int (b ^ i)),u]/\O'=O) ⟨none,by rw [Int.pow_zero]; rfl,rfl⟩ ?_ ?_)
  ·rintro i x ρ O' hx ⟨u,rfl,rfl⟩
   refine ⟨_,Bv 3 HP.nd,?_⟩
   refine Ah (AA 2 (Ac.ev (Ai (Aa 2) (Aa 0) (CU (by first | assumption | exact EQ.ok (Or.inl ⟨by omega,by omega⟩) | exact EQ.ok (Or.inr ⟨by omega,by omega⟩)))) ?_) HP.nd)
   exact Ay ⟨_,by rw [Int.pow_succ]; rfl,rfl⟩
  ·rintro ρ O' ⟨u,rfl,rfl⟩
   rw [Ea]
   exact Ah (AF (Ac.ev (Aa 2) hR))
theorem VP (Fn:AB K "charge" "charge" Ky f fd) (hm:mg "charge" = some (.ref f)) (hb:Binds K fd ["what","so"] []):AE P w K mg base 1 "charge" (Bq JP):=by
 refine BT (k:=0) Fn TJ hm hb (λds O R h=>?_) (λcdv A outer s H E ds O R hr h=>?_)
 ·obtain ⟨_,⟨_,_,rfl,_⟩,_⟩:=h; rfl
 ·obtain ⟨d,⟨w,z,rfl,rfl⟩,hR⟩:=h
  cases w with
  | none=>
   refine Ah (AZ (Au (Aa 0) Hb IU) (λhk=>?_) (λhk=>?_))
   ·exact Ah (AF (Ac.ev Af hR))
   ·cases hk
  | some w=>
   refine Ah (AZ (Au (Aa 0) Hb IU) (λhk=>?_) (λhk=>?_))
   ·cases hk
   ·exact Ay (Ah (AF (Ac.ev (AQ T.b_abs (Ab (Ai (Aa 0) (Aa 1) Ig) Ae) QI) hR)))
theorem Vj (Fn:AB K "times_awake" "times_awake" J2 f fd) (hm:mg "times_awake" = some (.ref f)) (hb:Binds K fd ["keeper","own","off"] []) (jd:AE P w K mg base 1 "power" (Bq JM)):AE P w K mg base 2 "times_awake" (N0 CK0):=by
 refine BT (k:=1) Fn Om hm hb (λds O R h=>?_) (λcdv A outer s H E ds O R hr h=>?_)
 ·obtain ⟨_,_,_,_,_,_,_,rfl,_⟩:=h; rfl
 ·obtain ⟨q,fs,sc,t,b,own,off,rfl,hq,hf,ho,hof,hR⟩:=h
  have s1:=hf.s1; have s2:=hf.s2; have t0:=hf.t0; have tb:=hf.tb; have b2:=hf.b2
  have a1:=Dc (x:=t) (e:=off) hf.t0 wF wF
  have a2:=Dc (x:=b) (e:=sc-off) wF wF wF
  have a3:=Dc (x:=b) (e:=own) wF wF wF
  have c1:=EA a1.1 a1.2 a2.1 a2.2
  have c2:=EA (c:=2) c1.1 c1.2 (show (0:Int)<=2 by decide) wE
  refine Ah (AA 3 (Ac.ev (Ai (Bc jd (hr.mono wE) (Ab (Bl (Aa 0) hq.q T.c_Book.cls T.n_Book_top hq.t) (Ab (Aa 2) Ae)) ⟨_,_,rfl,⟨by omega,by omega⟩,⟨by omega,by omega⟩,rfl⟩) (Bc jd (hr.mono wE) (Ab (Bl (Aa 0) hq.q T.c_Book.cls T.n_Book_bottom hq.b) (Ab (Ai (Bl (Aa 0) hq.q T.c_Book.cls T.n_Book_scale hq.sc) (Aa 2) Ig) Ae)) ⟨_,_,rfl,⟨by omega,by omega⟩,⟨by omega,by omega⟩,rfl⟩) (CU (DQ a1.1 a1.2 a2.1 a2.2))) ?_) Om.nd)
  exact Ah (AF (Ac.ev (Ai (Ai (Aa 3) Af (CU (by first | assumption | exact EQ.ok (Or.inl ⟨by omega,by omega⟩) | exact EQ.ok (Or.inr ⟨by omega,by omega⟩)))) (Bc jd (hr.mono wE) (Ab (Bl (Aa 0) hq.q T.c_Book.cls T.n_Book_bottom hq.b) (Ab (Aa 1) Ae)) ⟨_,_,rfl,⟨by omega,by omega⟩,⟨by omega,by omega⟩,rfl⟩) (CU (DQ c2.1 c2.2 a3.1 a3.2))) hR))
theorem Vk (Fn:AB K "times_asleep" "times_asleep" J3 f fd) (hm:mg "times_asleep" = some (.ref f)) (hb:Binds K fd ["keeper","own"] []) (jd:AE P w K mg base 1 "power" (Bq JM)):AE P w K mg base 2 "times_asleep" (NX CK0):=by
 refine BT (k:=1) Fn Tn hm hb (λds O R h=>?_) (λcdv A outer s H E ds O R hr h=>?_)
 ·obtain ⟨_,_,_,_,_,_,rfl,_⟩:=h; rfl
 ·obtain ⟨q,fs,sc,t,b,own,rfl,hq,hf,ho,hR⟩:=h
  have s1:=hf.s1; have s2:=hf.s2; have t0:=hf.t0; have tb:=hf.tb; have b2:=hf.b2
  have a1:=Dc (x:=b) (e:=sc) wF wF wF
  have a2:=Dc (x:=b) (e:=own) wF wF wF
  have a3:=Dc (x:=t) (e:=own) hf.t0 wF wF
  have e82:(2:Int) ^ 82=2 ^ 81+2 ^ 81:=by decide
  exact Ah (AF (Ac.ev (Ai (Bc jd (hr.mono wE) (Ab (Bl (Aa 0) hq.q T.c_Book.cls T.n_Book_bottom hq.b) (Ab (Bl (Aa 0) hq.q T.c_Book.cls T.n_Book_scale hq.sc) Ae)) ⟨_,_,rfl,⟨by omega,by omega⟩,⟨by omega,by omega⟩,rfl⟩) (Ai (Bc jd (hr.mono wE) (Ab (Bl (Aa 0) hq.q T.c_Book.cls T.n_Book_bottom hq.b) (Ab (Aa 1) Ae)) ⟨_,_,rfl,⟨by omega,by omega⟩,⟨by omega,by omega⟩,rfl⟩) (Bc jd (hr.mono wE) (Ab (Bl (Aa 0) hq.q T.c_Book.cls T.n_Book_top hq.t) (Ab (Aa 1) Ae)) ⟨_,_,rfl,⟨by omega,by omega⟩,⟨by omega,by omega⟩,rfl⟩) BU) (CU (DQ (n:=82) a1.1 a1.2 wF (by rw [e82]; omega)))) hR))
theorem Vl (Fn:AB K "times" "times" J4 f fd) (hm:mg "times" = some (.ref f)) (hb:Binds K fd ["keeper","own","what","so"] []) (jt:AE P w K mg base 1 "charge" (Bq JP)) (kn:AE P w K mg base 2 "times_asleep" (NX CK0)) (ko:AE P w K mg base 2 "times_awake" (N0 CK0)):AE P w K mg base 3 "times" (NY CK0):=by
 refine BT (k:=2) Fn Tp hm hb (λds O R h=>?_) (λcdv A outer s H E ds O R hr h=>?_)
 ·obtain ⟨_,_,_,_,_,_,_,_,rfl,_⟩:=h; rfl
 ·obtain ⟨q,fs,sc,t,b,own,so,w,rfl,hq,hf,ho,hso,hw,hR⟩:=h
  cases w with
  | none=>
   refine Ah (AZ (Au (Aa 2) Hb IU) (λhk=>?_) (λhk=>by cases hk))
   exact Ah (AF (Ac.ev (Ev.evp (Cq kn (hr.mono wE) (Ab (Aa 0) (Ab (Aa 1) Ae)) ⟨q,fs,sc,t,b,own,rfl,hq,hf,ho,rfl,rfl⟩)) hR))
  | some x=>
   have hx:=OX (hw.resolve_left (λh=>by cases h))
   refine Ah (AZ (Au (Aa 2) Hb IU) (λhk=>by cases hk) (λhk=>Ay ?_))
   exact Ah (AF (Ac.ev (Ev.evp (Cq ko (hr.mono wE) (Ab (Aa 0) (Ab (Aa 1) (Ab (Bc jt (hr.mono wE) (Ab (Aa 2) (Ab (Aa 3) Ae)) ⟨some x,so,rfl,rfl⟩) Ae))) ⟨q,fs,sc,t,b,own,ab (x-so),rfl,hq,hf,ho,Hl hx hso,rfl,rfl⟩)) hR))
theorem V4 (Fn:AB K "__init__" "Book.__init__" KN f fd) (kt:A1 P w K mg base 3 "check_scale" (JK CK4)) (ku:A1 P w K mg base 3 "check_fraction" (JO CK4)):AI P w K mg base (Bk P w) 5 f fd ["self","scale","top","bottom"] (BC K (HE CK0 CK4)):=by
 refine B5 (k:=4) Fn TY (λds O R RX h=>?_) (λcdv A outer s H E ds O R RX hr h=>?_)
 ·obtain ⟨_,_,_,_,rfl,_⟩:=h; rfl
 ·obtain ⟨q,s0,t0,b0,rfl,hq,h1,h2⟩:=h
  refine Ap (Bo (Be kt (hr.mono wE) (Ab (Aa 1) Ae) ⟨s0,rfl,λe=>?_,λe=>h2 (by rw [e]; rfl)⟩))
  refine Ap (Bo (Be ku (hr.mono wE) (Ab (Aa 2) (Ab (Aa 3) Ae)) ⟨t0,b0,rfl,λe'=>?_,λe'=>h2 (by rw [e',Bool.and_false])⟩))
  obtain ⟨sc,rfl,hs⟩:=IB e
  obtain ⟨t,b,rfl,rfl,hb⟩:=XH e'
  have hR:=h1 sc t b rfl rfl rfl ⟨hs.1,hs.2,hb.1,hb.2.1,hb.2.2⟩
  refine Exs.x_ ?_
  show Exs _ [some (.ptr q),some (.int sc),some (.int t),some (.int b)] _ _ _
  refine Ah (Er (Aa 1) (Aa 0) hq T.c_Book.cls T.n_Book_scale wE ?_)
  refine Ah (Er (Aa 2) (Aa 0) (Da hq) T.c_Book.cls T.n_Book_top (by show 1<1000; decide) ?_)
  rw [List.set_set]
  refine Ah (Er (Aa 3) (Aa 0) (Da hq) T.c_Book.cls T.n_Book_bottom (by show 2<1000; decide) ?_)
  rw [List.set_set]
  have q3:=Da (y:=some (.ins CK0 (BN "bottom" (.int b) (BN "top" (.int t) (BN "scale" (.int sc) []))))) hq
  refine Ah (RF (IM ⟨(Aa 0),Cm q3,?_⟩) T.c_Book.cls T.n_Book_tops (by show 3<1000; decide))
  rw [List.length_set,Eu q3,List.set_set]
  have q4:∀ z,(O.set q (some z)++[some (MO.dct [] [])])[q]?=some (some z):=λz=>Cm (Da hq)
  refine Ah (Er Af (Aa 0) (q4 _) T.c_Book.cls T.n_Book_under (by show 4<1000; decide) ?_)
  rw [Eu (Da hq),List.set_set]
  refine Ah (Er Af (Aa 0) (q4 _) T.c_Book.cls T.n_Book_came (by show 5<1000; decide) ?_)
  rw [Eu (Da hq),List.set_set]
  refine Ay ?_
  rw [Eu hq] at hR
  exact hR
theorem V2 (Fn:AB K "come" "Book.come" KL f fd) (jb:A1 P w K mg base 2 "check_name" (GB CK2)):AI P w K mg base (Bk P w) 4 f fd ["self","name"] (BC K (Gz CK0 CK2 CK7)):=by
 refine B5 (k:=3) Fn TX (λds O R RX h=>?_) (λcdv A outer s H E ds O R RX hr h=>?_)
 ·rcases h with ⟨_,_,_,_,_,_,_,_,_,_,rfl,_⟩ | ⟨_,_,_,_,_,_,_,_,_,_,rfl,_⟩ | ⟨_,_,_,_,_,_,_,_,_,_,rfl,_⟩ <;> rfl
 ·rcases h with ⟨q,n,sc,t,b,u,c,ps,ws,x,rfl,hB,hx,hn,hz,hR⟩ | ⟨q,n,sc,t,b,u,c,ps,ws,v,rfl,hB,hv,hbad,hX⟩ | ⟨q,n,sc,t,b,u,c,ps,ws,x,rfl,hB,hx,hn,hX⟩
  ·refine Ap (Bo (Be jb (hr.mono wE) (Ab (Aa 1) Ae) ⟨.s x,rfl,(by have:=hx.l2; show x.length<=1000; omega),λ_=>?_,λz=>absurd ((FW hx).symm.trans z) wE⟩))
   refine Exs.x_ ?_
   refine Ah (AZ (Ax.cast (k':=false) (Au (Aa 1) (Bl (Aa 0) hB.q T.c_Book.cls T.n_Book_tops (C4 _ _ _ _ _ _)) (IV (k:=.inr x) hr (Or.inr ⟨n,rfl,hB.n⟩))) (by show (BJ ps (ws.map D.int) x).isSome=false; rw [Gg hn]; rfl)) (λhk=>by cases hk) (λ_=>Ay ?_))
   refine Ah (Hw (k:=.inr x) hr (Bl (Aa 0) hB.q T.c_Book.cls T.n_Book_under (QJ _ _ _ _ _ _)) (Bl (Aa 0) hB.q T.c_Book.cls T.n_Book_tops (C4 _ _ _ _ _ _)) hB.n (Aa 1) (by rw [sizeLine_eq,List.length_map]; omega) ?_)
   obtain ⟨p1,p2⟩:=HX (ws:=ws.map D.int) (w:=D.int u) hn
   rw [p1,p2]
   have hne:n≠q:=by intro e; have h1:=hB.q; have h2:=hB.n; rw [e,h1] at h2; cases h2
   have hq2:(O.set n (some (MO.dct ((ps++[x]).map Sum.inr) (ws.map D.int++[D.int u]))))[q]?=some (some (.ins CK0 (AM sc t b n u c))):=by rw [List.getElem?_set_ne hne]; exact hB.q
   refine Ah (Er (Ai (Bl (Aa 0) hq2 T.c_Book.cls T.n_Book_came (QK _ _ _ _ _ _)) Af BU) (Aa 0) hq2 T.c_Book.cls T.n_Book_came (by show 6<1000; decide) ?_)
   rw [Zw]
   refine Ay ?_
   have e:(ws++[u]).map D.int=ws.map D.int++[D.int u]:=List.map_append ..
   rw [e] at hR
   exact hR
  ·exact Ap (Bo (Be jb (hr.mono wE) (Ab (Aa 1) Ae) ⟨v,rfl,hv,λz=>absurd (hbad.symm.trans z) wE,λ_=>hX⟩))
  ·refine Ap (Bo (Be jb (hr.mono wE) (Ab (Aa 1) Ae) ⟨.s x,rfl,(by have:=hx.l2; show x.length<=1000; omega),λ_=>?_,λz=>absurd ((FW hx).symm.trans z) wE⟩))
   have e0:Str.empty.length=0:=by decide +kernel
   have e1:((" is there" : Str)).length=9:=by decide +kernel
   have hl2:=hx.l2
   have hsz:=sizeLine_eq
   refine Ap (A9 (Ax.cast (k':=true) (Au (Aa 1) (Bl (Aa 0) hB.q T.c_Book.cls T.n_Book_tops (C4 _ _ _ _ _ _)) (IV (k:=.inr x) hr (Or.inr ⟨n,rfl,hB.n⟩))) (MU hB.l hn)) (λ_=>?_) (λhk=>by cases hk))
   exact Ap (Gn T.e_Twice T.m_Twice (Ab (IK (Aa 1) (by rw [Str.length_append,Str.length_append,e0,e1]; omega) wF (by rw [Str.length_append,e0]; omega)) Ae) hX trivial)
theorem V0 (Fn:AB K "go" "Book.go" KJ f fd) (jb:A1 P w K mg base 2 "check_name" (GB CK2)) (jp:A1 P w K mg base 1 "check_there" (HH CK2)):AI P w K mg base (Bk P w) 4 f fd ["self","name"] (BC K (Gy CK0 CK2)):=by
 refine B5 (k:=3) Fn TV (λds O R RX h=>?_) (λcdv A outer s H E ds O R RX hr h=>?_)
 ·rcases h with ⟨_,_,_,_,_,_,_,_,_,_,rfl,_⟩ | ⟨_,_,_,_,_,_,_,_,_,_,rfl,_⟩ | ⟨_,_,_,_,_,_,_,_,_,_,rfl,_⟩ <;> rfl
 ·rcases h with ⟨q,n,sc,t,b,u,c,ps,ws,x,rfl,hB,hx,hn,hR⟩ | ⟨q,n,sc,t,b,u,c,ps,ws,v,rfl,hB,hv,hbad,hX⟩ | ⟨q,n,sc,t,b,u,c,ps,ws,x,rfl,hB,hx,hn,hX⟩
  ·refine Ap (Bo (Be jb (hr.mono wE) (Ab (Aa 1) Ae) ⟨.s x,rfl,(by have:=hx.l2; show x.length<=1000; omega),λ_=>?_,λz=>absurd ((FW hx).symm.trans z) wE⟩))
   refine Ap (Bo (Be jp (hr.mono wE) (Ab (Bl (Aa 0) hB.q T.c_Book.cls T.n_Book_tops (C4 _ _ _ _ _ _)) (Ab (Aa 1) Ae)) ⟨_,_,_,x,rfl,Or.inr ⟨n,rfl,hB.n⟩,(by have:=hx.l2; omega),λ_=>?_,λz=>absurd ((MU hB.l hn).symm.trans z) wE⟩))
   refine Exs.x_ ?_
   obtain ⟨w,hw,_⟩:=DB hB.l hn
   exact Ah (RG (k:=.inr x) (Bl (Aa 0) hB.q T.c_Book.cls T.n_Book_tops (C4 _ _ _ _ _ _)) hB.n (Aa 1) (Jb hw) (Ay hR))
  ·exact Ap (Bo (Be jb (hr.mono wE) (Ab (Aa 1) Ae) ⟨v,rfl,hv,λz=>absurd (hbad.symm.trans z) wE,λ_=>hX⟩))
  ·refine Ap (Bo (Be jb (hr.mono wE) (Ab (Aa 1) Ae) ⟨.s x,rfl,(by have:=hx.l2; show x.length<=1000; omega),λ_=>?_,λz=>absurd ((FW hx).symm.trans z) wE⟩))
   exact Ap (Bo (Be jp (hr.mono wE) (Ab (Bl (Aa 0) hB.q T.c_Book.cls T.n_Book_tops (C4 _ _ _ _ _ _)) (Ab (Aa 1) Ae)) ⟨_,_,_,x,rfl,Or.inr ⟨n,rfl,hB.n⟩,(by have:=hx.l2; omega),λz=>absurd (show (Bf (ps.map Sum.inr) (ws.map D.int) (.inr x)).isSome=false by rw [G0 hB.l,decide_eq_false hn]) (by rw [z]; decide),λ_=>hX⟩))
theorem VT (Fn:AB K "there" "Book.there" KA f fd)  : AI P w K mg base BM 1 f fd ["self"] (Cc K (HC CK0)):=by
 refine GU (k:=0) Fn TN (λds O R h=>?_) (λcdv A outer s H E ds O R hr h=>?_)
 ·obtain ⟨_,_,_,_,_,_,_,_,_,rfl,_⟩:=h; rfl
 ·obtain ⟨q,n,sc,t,b,u,c,ps,ws,rfl,hB,hl,hR⟩:=h
  exact Ah (AF (Ac.ev (Cf T.b_tuple (Ab (Qb (Bl (Aa 0) hB.q T.c_Book.cls T.n_Book_tops (C4 _ _ _ _ _ _)) (Or.inr ⟨n,rfl,hB.n⟩) hl T.b_sorted) Ae) (QG (Or.inl (Or.inl rfl)))) hR))
theorem V1 (Fn:AB K "ever" "Book.ever" KK f fd)  : AI P w K mg base BM 1 f fd ["self"] (Cc K (HF CK0)):=by
 refine GU (k:=0) Fn TW (λds O R h=>?_) (λcdv A outer s H E ds O R hr h=>?_)
 ·obtain ⟨_,_,_,_,_,_,_,_,_,rfl,_⟩:=h; rfl
 ·obtain ⟨q,n,sc,t,b,u,c,ps,ws,rfl,hB,hR⟩:=h
  exact Ah (AF (Ac.ev (Bl (Aa 0) hB.q T.c_Book.cls T.n_Book_came (QK _ _ _ _ _ _)) hR))
theorem VS (Fn:AB K "weights" "Book.weights" Kz f fd)  : AI P w K mg base BM 1 f fd ["self"] (Cc K (NV CK0)):=by
 refine GU (k:=0) Fn TM (λds O R h=>?_) (λcdv A outer s H E ds O R hr h=>?_)
 ·obtain ⟨_,_,_,_,_,_,_,_,_,rfl,_⟩:=h; rfl
 ·obtain ⟨q,n,sc,t,b,u,c,ps,ws,rfl,hB,hR⟩:=h
  have hq2:∀ Y,(O++Y)[q]?=some (some (.ins CK0 (AM sc t b n u c))):=λY=>Cm hB.q
  exact Ah (AF (P9 (He (Yl T.b_dict (Bl (Aa 0) hB.q T.c_Book.cls T.n_Book_tops (C4 _ _ _ _ _ _)) (Or.inr ⟨n,rfl,hB.n⟩) (BB.as (Ab (Bl (Aa 0) (hq2 _) T.c_Book.cls T.n_Book_under (QJ _ _ _ _ _ _)) Ae) ⟨by rw [sizeLine_eq]; show 2<=16777216; decide,hR⟩)))))
theorem VY (Fn:AB K "say" "Book.say" KH f fd) (jw:A1 P w K mg base 3 "check_speakers" (JJ CK2)) (jk:A1 P w K mg base 3 "check_numbers" (HI CK5)) (kx:AE P w K mg base 2 "middle" (Bq N6)):AI P w K mg base (Bk P w) 5 f fd ["self","said"] (BC K (FN CK0 CK2 CK5)):=by
 refine B5 (k:=4) Fn TU (λds O R RX h=>?_) (λcdv A outer s H E ds O R RX hr h=>?_)
 ·rcases h with ⟨_,_,_,_,_,_,_,_,_,_,_,rfl,_⟩ | ⟨_,_,_,_,_,_,_,_,_,_,_,rfl,_⟩ <;> rfl
 ·rcases h with ⟨jj,n,sc,t,b,u,c,ps,qs,ws,ys,rfl,hB,hw,hs,hR⟩ | ⟨jj,n,sc,t,b,u,c,ps,qs,ws,vs,rfl,hB,hle,hlv,hsm,hbad⟩
  ·have hle:=hs.le
   have hl:=hs.l
   have hdv:DV O (.ptr n) (ps.map Sum.inr) (ws.map D.int):=Or.inr ⟨n,rfl,hB.n⟩
   refine Ap (Bo (Be jw (hr.mono wE) (Ab (Bl (Aa 0) hB.q T.c_Book.cls T.n_Book_tops (C4 _ _ _ _ _ _)) (Ab (Aa 1) Ae)) ⟨_,ps,qs,ws,ys.map D.int,rfl,hdv,hB.l,hle,(λx hx=>by have:=(hs.nm x hx).l2; omega),λ_=>?_,λz=>absurd (λx hx=>⟨hs.nm x hx,hs.sub x hx⟩) z⟩))
   refine Ap (Bo (Be jk (hr.mono wE) (Ab (Bl (Aa 0) hB.q T.c_Book.cls T.n_Book_scale (IX _ _ _ _ _ _)) (Ab (Ac.cast (Qe (Aa 1) (Or.inl rfl) T.b_list) (congrArg D.lst (IA ys).symm)) Ae)) ⟨sc,ys.map Ov.i,rfl,by rw [List.length_map]; omega,λ_=>?_,λz=>absurd (OW hs.on) z⟩))
   refine Exs.x_ ?_
   have hA:∀ x∈qs,Bf (ps.map Sum.inr) (ws.map D.int) (.inr x)=some (.int (AG ps ws x)):=λx hx=>by
    obtain ⟨w,h1,_⟩:=DB hB.l (hs.sub x hx)
    unfold AG
    rw [h1]
    exact Jb h1
   have hT:=Ny hs hB.l hw
   have eM:(qs.map λx=>D.int (AG ps ws x))=(qs.map (AG ps ws)).map D.int:=by rw [List.map_map]; rfl
   refine Ah (AF (Ac.ev (Bc kx (hr.mono wE) (Ab (X6 (Aa 1) (Or.inl rfl) T.b_tuple) (Ab (Ac.cast (d':=.tup ((qs.map (AG ps ws)).map D.int)) (Cf T.b_tuple (Ab (F7 (λx:Str=>.int (AG ps ws x)) ["name"] ["self"] [0] (Qp (Aa 1)) (by rw [sizeLine_eq]; omega) (by exact λq hq s H fp=>⟨[some _],rfl,(Bv 0 (show List.Nodup (["name","self"]:List Str) by decide +kernel)),⟨_,rfl,(Qi hr (Bl (Aa 1) hB.q T.c_Book.cls T.n_Book_tops (C4 _ _ _ _ _ _)) hdv (Aa 0) (hA q hq))⟩⟩)) Ae) (QG (by first | exact Or.inr rfl | exact Or.inl (Or.inl rfl) | exact Or.inl (Or.inr (Or.inl rfl)) | exact Or.inl (Or.inr (Or.inr ⟨_,rfl,by first | assumption | rfl⟩))))) (congrArg D.tup eM)) Ae)) ⟨ys,_,rfl,hT,rfl⟩) hR))
  ·have hdv:DV O (.ptr n) (ps.map Sum.inr) (ws.map D.int):=Or.inr ⟨n,rfl,hB.n⟩
   rcases hbad with ⟨hb,hX⟩ | ⟨hS,hb,hX⟩
   ·exact Ap (Bo (Be jw (hr.mono wE) (Ab (Bl (Aa 0) hB.q T.c_Book.cls T.n_Book_tops (C4 _ _ _ _ _ _)) (Ab (Aa 1) Ae)) ⟨_,ps,qs,ws,vs.map ov,rfl,hdv,hB.l,hle,hsm,λz=>absurd z hb,λ_=>hX⟩))
   ·refine Ap (Bo (Be jw (hr.mono wE) (Ab (Bl (Aa 0) hB.q T.c_Book.cls T.n_Book_tops (C4 _ _ _ _ _ _)) (Ab (Aa 1) Ae)) ⟨_,ps,qs,ws,vs.map ov,rfl,hdv,hB.l,hle,hsm,λ_=>?_,λz=>absurd hS z⟩))
    exact Ap (Bo (Be jk (hr.mono wE) (Ab (Bl (Aa 0) hB.q T.c_Book.cls T.n_Book_scale (IX _ _ _ _ _ _)) (Ab (Qe (Aa 1) (Or.inl rfl) T.b_list) Ae)) ⟨sc,vs,rfl,by omega,λz=>absurd z hb,λ_=>hX⟩))
theorem V3 (Fn:AB K "charge_for" "Book.charge_for" KM f fd) (jt:AE P w K mg base 1 "charge" (Bq JP)) (jk:A1 P w K mg base 3 "check_numbers" (HI CK5)) (jc:Bu P w K mg base CK0 5 "say" (FN CK0 CK2 CK5)):AI P w K mg base (Bk P w) 7 f fd ["self","said","so"] (BC K (GA CK0 CK2 CK5)):=by
 refine B5 (k:=6) Fn HS (λds O R RX h=>?_) (λcdv A outer s H E ds O R RX hr h=>?_)
 ·rcases h with ⟨_,_,_,_,_,_,_,_,_,_,_,_,rfl,_⟩ | ⟨_,_,_,_,_,_,_,_,_,_,_,_,rfl,_⟩ | ⟨_,_,_,_,_,_,_,_,_,_,_,_,rfl,_⟩ <;> rfl
 ·rcases h with ⟨jj,n,sc,t,b,u,c,so,ps,qs,ws,ys,rfl,hB,hw,hs,hso,hR⟩ | ⟨jj,n,sc,t,b,u,c,ps,qs,ws,vs,y,rfl,hB,hbad⟩ | ⟨jj,n,sc,t,b,u,c,ps,qs,ws,ys,y,rfl,hB,hw,hs,hy,hX⟩
  ·refine Ap (Dr 3 (Cl jc (hr.mono wE) (Aa 0) hB.q (AW _ _ _ _ _ _ wD) (Ab (Aa 1) Ae) (.inl ⟨jj,n,sc,t,b,u,c,ps,qs,ws,ys,rfl,hB,hw,hs,?_⟩)) HS.nd)
   refine Ap (Bo (Be jk (hr.mono wE) (Ab (Bl (Aa 0) hB.q T.c_Book.cls T.n_Book_scale (IX _ _ _ _ _ _)) (Ab (BQ (Ab (Aa 2) Ae)) Ae)) ⟨sc,[.i so],rfl,(by show 1<=60; decide),λ_=>?_,λz=>absurd (OW (ys:=[so]) λy hy=>by cases List.mem_singleton.mp hy; exact hso) z⟩))
   exact Exs.x_ (Ah (AF (Ac.ev (Bc jt (hr.mono wE) (Ab (Aa 3) (Ab (Aa 2) Ae)) ⟨some (AS ps ws qs ys),so,rfl,rfl⟩) hR)))
  ·exact Ap (Dr 3 (Cl jc (hr.mono wE) (Aa 0) hB.q (AW _ _ _ _ _ _ wD) (Ab (Aa 1) Ae) (.inr ⟨jj,n,sc,t,b,u,c,ps,qs,ws,vs,rfl,hB,hbad⟩)) HS.nd)
  ·refine Ap (Dr 3 (Cl jc (hr.mono wE) (Aa 0) hB.q (AW _ _ _ _ _ _ wD) (Ab (Aa 1) Ae) (.inl ⟨jj,n,sc,t,b,u,c,ps,qs,ws,ys,rfl,hB,hw,hs,?_⟩)) HS.nd)
   exact Ap (Bo (Be jk (hr.mono wE) (Ab (Bl (Aa 0) hB.q T.c_Book.cls T.n_Book_scale (IX _ _ _ _ _ _)) (Ab (BQ (Ab (Aa 2) Ae)) Ae)) ⟨sc,[y],rfl,(by show 1<=60; decide),λz=>absurd (hy.symm.trans (z y (List.mem_singleton.mpr rfl))) wE,λ_=>hX⟩))
theorem VZ (Fn:AB K "hear" "Book.hear" KI f fd) (jy:AE P w K mg base 3 "times" (NY CK0)) (je:Bu P w K mg base CK0 7 "charge_for" (GA CK0 CK2 CK5)):AI P w K mg base (Bk P w) 9 f fd ["self","said","so"] (BC K (Gx CK0 CK2 CK5)):=by
 refine B5 (k:=8) Fn Fa (λds O R RX h=>?_) (λcdv A outer s H E ds O R RX hr h=>?_)
 ·rcases h with ⟨_,_,_,_,_,_,_,_,_,_,_,_,_,rfl,_⟩ | ⟨_,_,_,_,_,_,_,_,_,_,_,_,rfl,_⟩ | ⟨_,_,_,_,_,_,_,_,_,_,_,_,rfl,_⟩ <;> rfl
 ·rcases h with ⟨jj,n,k,sc,t,b,u,c,so,ps,qs,ws,ys,rfl,hB,hf,hk,hwo,hs,hso,h60,hR⟩ | h
  ·have s1:=hf.s1
   have h0:CC ws:=λw hw=>(hwo.w w hw).1
   have hd:=Hl (Io (ws:=ws) hs wF hB.l h0) hso
   refine Ap (Dr 3 (Cl je (hr.mono wE) (Aa 0) hB.q (AW _ _ _ _ _ _ wD) (Ab (Aa 1) (Ab (Aa 2) Ae)) (.inl ⟨jj,n,sc,t,b,u,c,so,ps,qs,ws,ys,rfl,hB,h0,hs,hso,?_⟩)) Fa.nd)
   refine Exs.x_ ?_
   generalize ab (AS ps ws qs ys-so)=own at hd hR
   have hne:n≠jj:=by intro e; have h1:=hB.q; have h2:=hB.n; rw [e,h1] at h2; cases h2
   have hlp:=hB.l
   refine Ah (AA 4 (IM ?_) Fa.nd)
   refine RA (Cm hB.q) (C4 _ _ _ _ _ _) (Cm hB.n) ?_
   have hj1:(O.set n none)[jj]?=some (some (.ins CK0 (AM sc t b n u c))):=by rw [List.getElem?_set_ne hne]; exact hB.q
   have eF:BN "tops" (.dct (ps.map Sum.inr) (ws.map D.int)) (AM sc t b n u c)=BV sc t b (.dct (ps.map Sum.inr) (ws.map D.int)) u c:=Qr sc t b (.ptr n) u c _
   rw [Eu hB.n,Eu hj1,eF]
   have hj2:=Da (y:=some (.ins CK0 (BV sc t b (.dct (ps.map Sum.inr) (ws.map D.int)) u c))) hj1
   have hln:O.length=((O.set n none).set jj (some (.ins CK0 (BV sc t b (.dct (ps.map Sum.inr) (ws.map D.int)) u c)))).length:=by rw [List.length_set,List.length_set]
   have hst:∀ d,(O.set n none).set jj (some (.ins CK0 d))=((O.set n none).set jj (some (.ins CK0 (BV sc t b (.dct (ps.map Sum.inr) (ws.map D.int)) u c)))).set jj (some (.ins CK0 d)):=λd=>by rw [List.set_set]
   rw [hst,hln] at hR
   rw [hln]
   generalize (O.set n none).set jj (some (.ins CK0 (BV sc t b (.dct (ps.map Sum.inr) (ws.map D.int)) u c)))=Ob at hj2 hR
   clear hln hst hj1
   have hkp:∀ Y,Jm CK0 (Ob++Y) jj (BV sc t b (.dct (ps.map Sum.inr) (ws.map D.int)) u c) sc t b:=λY=>⟨Cm hj2,QU _ _ _ _ _ _,QT _ _ _ _ _ _,QV _ _ _ _ _ _⟩
   have hnl:(Bz t b sc own so ps ws qs ys).length=ps.length:=by unfold Bz; rw [List.length_map,List.length_zip]; omega
   refine Ah (DH (hp:=PassesOwn.leaving) (YA (Bl (Aa 0) (Cm hj2) T.c_Book.cls T.n_Book_tops (Zy _ _ _ _ _ _))) (λi ρ O'=>∃ v5 v6:Option D,ρ=[some (.ptr jj),some (.dct (qs.map Sum.inr) (ys.map D.int)),some (.int so),some (.int own),some (.ptr Ob.length),v5,v6]/\O'=Ob++[some (.dct ((ps.take i).map Sum.inr) (((Bz t b sc own so ps ws qs ys).take i).map D.int))]) ⟨_,_,rfl,rfl⟩ ?_ ?_)
   ·rintro i z ρ O' hz ⟨v5,v6,rfl,rfl⟩
    have hi:i<ps.length:=by
     have:=(List.getElem?_eq_some_iff.mp hz).1
     rw [List.length_map,List.length_zip,List.length_map,List.length_map] at this
     omega
    have hzz:z=.tup [.str ps[i],.int (ws[i]'wF)]:=by
     rw [List.getElem?_map,List.getElem?_eq_getElem (by rw [List.length_zip,List.length_map,List.length_map]; omega),List.getElem_zip,List.getElem_map,List.getElem_map] at hz
     exact (Option.some.inj hz).symm
    subst hzz
    have hwi:=hwo.w ws[i] (List.getElem_mem _)
    have hnx:(Bz t b sc own so ps ws qs ys)[i]?=some (ws[i]*tF t b sc own so (BJ qs ys ps[i])):=by
     unfold Bz
     rw [List.getElem?_map,List.getElem?_eq_getElem (by rw [List.length_zip]; omega),List.getElem_zip]
     rfl
    have hnot:ps[i]∉ps.take i:=λhm=>by
     obtain ⟨j,hj,e⟩:=List.mem_iff_getElem.mp hm
     rw [List.getElem_take] at e
     rw [List.length_take] at hj
     have:=(List.getElem?_inj (show j<ps.length by omega) hB.nd).mp (show ps[j]?=ps[i]? by rw [List.getElem?_eq_getElem wF,List.getElem?_eq_getElem hi,e])
     omega
    have htk:ps.take (i+1)=ps.take i++[ps[i]]:=by rw [List.take_succ,List.getElem?_eq_getElem hi]; rfl
    have htn:(Bz t b sc own so ps ws qs ys).take (i+1)=(Bz t b sc own so ps ws qs ys).take i++[ws[i]*tF t b sc own so (BJ qs ys ps[i])]:=by rw [List.take_succ,hnx]; rfl
    have hon:=Q0 hs ps[i]
    have htf:=NG (own:=own) hf hd.2 hso hon
    refine ⟨_,Gq (Dt (Bv 5 Fa.nd) (Dt (Bv 6 Fa.nd) Gp)),?_⟩
    generalize ps[i]=x at hnot htk htn hon htf
    generalize ws[i]'wF=w at hwi htn
    refine Ah (Hw (k:=.inr x) hr (Ai (Aa 6) (Ev.evp (Cq jy (hr.mono wE) (Ab (Aa 0) (Ab (Aa 3) (Ab (Ac.cast (Yk (k:=.inr x) hr (Aa 1) (Or.inl rfl) (Aa 5)) (V7 qs ys x)) (Ab (Aa 2) Ae)))) ⟨jj,_,sc,t,b,own,so,BJ qs ys x,rfl,hkp _,hf,hd,hso,hon,rfl,rfl⟩)) (CU (DQ hwi.1 hwi.2 htf.1 htf.2 wF))) (Aa 4) AL (Aa 5) (by rw [sizeLine_eq,List.length_map,List.length_take]; omega) ?_)
    obtain ⟨p1,p2⟩:=HX (ws:=((Bz t b sc own so ps ws qs ys).take i).map D.int) (w:=D.int (w*tF t b sc own so (BJ qs ys x))) hnot
    rw [p1,p2,CI]
    refine Ay ⟨_,_,rfl,?_⟩
    rw [htk,htn,List.map_append (l₁:=(Bz t b sc own so ps ws qs ys).take i)]
    rfl
   ·rintro ρ O' ⟨v5,v6,rfl,rfl⟩
    rw [List.length_map,List.length_zip,List.length_map,List.length_map,show min ps.length ws.length=ps.length by omega,List.take_length,show ps.length=(Bz t b sc own so ps ws qs ys).length from hnl.symm,List.take_length]
    refine Ah (Er (Aa 4) (Aa 0) (Cm hj2) T.c_Book.cls T.n_Book_tops (by show 6<1000; decide) ?_)
    rw [Qr,Eu hj2]
    have hj3:=Da (y:=some (.ins CK0 (BV sc t b (.ptr Ob.length) u c))) hj2
    have hts:=JF (own:=own) hf hd.2
    refine Ah (Er (Ai (Bl (Aa 0) (Cm hj3) T.c_Book.cls T.n_Book_under (Zx _ _ _ _ _ _)) (Ev.evp (Cq jy (hr.mono wE) (Ab (Aa 0) (Ab (Aa 3) (Ab Hb (Ab (Aa 2) Ae)))) ⟨jj,_,sc,t,b,own,so,none,rfl,⟨Cm hj3,QU _ _ _ _ _ _,QT _ _ _ _ _ _,QV _ _ _ _ _ _⟩,hf,hd,hso,.inl rfl,rfl,rfl⟩)) (CU (DQ hwo.u0 hwo.u1 hts.1 hts.2 wF))) (Aa 0) (Cm hj3) T.c_Book.cls T.n_Book_under (by show 6<1000; decide) ?_)
    rw [YG,Eu hj3,List.set_set]
    exact Ay hR
  ·have h':=h
   rcases h with ⟨jj,n,sc,t,b,u,c,ps,qs,ws,vs,y,rfl,hB,hbad⟩ | ⟨jj,n,sc,t,b,u,c,ps,qs,ws,ys,y,rfl,hB,hw,hs,hy,hX⟩
   ·exact Ap (Dr 3 (Cl je (hr.mono wE) (Aa 0) hB.q (AW _ _ _ _ _ _ wD) (Ab (Aa 1) (Ab (Aa 2) Ae)) (.inr h')) Fa.nd)
   ·exact Ap (Dr 3 (Cl je (hr.mono wE) (Aa 0) hB.q (AW _ _ _ _ _ _ wD) (Ab (Aa 1) (Ab (Aa 2) Ae)) (.inr h')) Fa.nd)
theorem VF (Fn:AB K "is_in_figures" "is_in_figures" Ko f fd) (hm:mg "is_in_figures" = some (.ref f)) (hb:Binds K fd ["most","word"] []):AE P w K mg base 1 "is_in_figures" (Bq N7):=by
 refine BT (k:=0) Fn Tv hm hb (λds O R h=>?_) (λcdv A outer s H E ds O R hr h=>?_)
 ·obtain ⟨_,⟨_,_,rfl,_⟩,_⟩:=h; rfl
 ·obtain ⟨d,⟨most,x,rfl,hz,rfl⟩,hR⟩:=h
  have hn:=sizeLine_eq
  have hz':x.length<=sizeLine:=by omega
  unfold BG at hR
  refine Ah (AZ (AO.t (Ce (Au (AQ T.b_len (Ab (Aa 1) Ae) (IW hz')) Af BE) (λhbb=>(Dh (Au (AQ T.b_len (Ab (Aa 1) Ae) (IW hz')) (Aa 0) Fq))))) (λhk=>?_) (λhk=>Ay ?_))
  ·rw [if_pos hk] at hR
   exact Ah (AF (Ac.ev Cy hR))
  rw [if_neg (by rw [hk]; exact Bool.false_ne_true)] at hR
  refine Ah (AZ (CL (BR (AQ T.b_all (Ab (F7 (λc:Nat=>.bl (decide (c∈Fi))) ["sign"] [] [] (Qo (Aa 1)) (by rw [Array.length_toList]; show x.length<=_; exact hz') (by exact λq hq s H fp=>⟨[some _],rfl,(Bv 0 (show List.Nodup (["sign"]:List Str) by decide +kernel)),⟨_,rfl,(Ei (Aa 0) (Qg T.g_FIGURES.choose_spec) QC)⟩⟩)) Ae) (MP (bs:=x.cps.toList.map λc=>decide (c∈Fi)) (Or.inl (Or.inl (by rw [List.map_map]; rfl))))))) (λhk2=>?_) (λhk2=>Ay ?_))
  ·rw [if_pos hk2] at hR
   exact Ah (AF (Ac.ev Cy hR))
  rw [if_neg (by rw [hk2]; exact Bool.false_ne_true)] at hR
  have hp:0<x.cps.size:=by
   rw [Bool.or_eq_false_iff] at hk
   have:=of_decide_eq_false hk.1
   show 0<x.length
   omega
  have h0:x.cps[0]?=some ((x.cps[0]?).getD 0):=by rw [Array.getElem?_eq_getElem hp]; rfl
  generalize (x.cps[0]?).getD 0=c0 at hR h0
  exact Ah (AF (Ac.ev (Ye (Ei (Qf (i:=0) (Aa 1) Af h0 hz') Al IT) (λ_=>IH (Ei (AQ T.b_len (Ab (Aa 1) Ae) (IW hz')) Af BE))) hR))
theorem Vi (Fn:AB K "words_of" "words_of" J1 f fd) (hm:mg "words_of" = some (.ref f)) (hb:Binds K fd ["row"] []) (J_NoRow:EM P w K mg base CK3 1 "NoRow" "number"):A1 P w K mg base 3 "words_of" (JH CK3):=by
 refine ⟨f,fd,_,B5 (k:=2) Fn Ol (λds O R RX h=>?_) (λcdv A outer s H E ds O R RX hr h=>?_),hm,Fn.kp,hb⟩
 ·obtain ⟨_,_,rfl,_⟩:=h; rfl
 ·obtain ⟨x,W,rfl,hW,h1,h2⟩:=h
  refine Ap (Ex.x_ (AA 1 (Ac.ev (X8 (Aa 0) Al wD (by have:=hW.len; omega)) ?_) Ol.nd))
  rw [hW.sp]
  have hP:Cu (W.map D.str)=true:=OM λw hw=>(hW.ok w hw).2
  refine Ap (A9 (Ax.cast (k':=decide (("" : Str)∈W)) (Au Al (Aa 1) (QD hr (Or.inl rfl) (show B0 (.str "")=true by decide +kernel) hP (Nat.le_trans (Nat.min_le_left _ _) (Nat.le_trans (Hg _) wE)) (Or.inl rfl))) (Hk W "")) (λhk=>?_) (λhk=>A8 ?_))
  ·exact Ap (FH J_NoRow (hr.mono wE) (Ab Af Ae) (h2 (of_decide_eq_true hk)) trivial)
  ·exact Exs.x_ (Ah (AF (Ac.ev (Aa 1) (h1 (of_decide_eq_false hk)))))
theorem Vo (Fn:AB K "number_of" "number_of" J7 f fd) (hm:mg "number_of" = some (.ref f)) (hb:Binds K fd ["word"] []) (ky:AE P w K mg base 1 "is_in_figures" (Bq N7)) (J_NoRow:EM P w K mg base CK3 1 "NoRow" "number"):A1 P w K mg base 3 "number_of" (HD CK3):=by
 refine ⟨f,fd,_,B5 (k:=2) Fn Tq (λds O R RX h=>?_) (λcdv A outer s H E ds O R RX hr h=>?_),hm,Fn.kp,hb⟩
 ·obtain ⟨_,rfl,_⟩:=h; rfl
 ·obtain ⟨x,rfl,hl,h1,h2⟩:=h
  refine Ap (A9 (CL (BR (Bc ky (hr.mono wE) (Ab (IJ T.g_MOST_FIGURES.choose_spec) (Ab (Aa 0) Ae)) ⟨60,x,rfl,by omega,rfl⟩))) (λhk=>?_) (λhk=>A8 ?_))
  ·exact Ap (FH J_NoRow (hr.mono wE) (Ab Af Ae) (h2 (O5 hk)) trivial)
  ·have hf:=O7 hk
   exact Exs.x_ (Ah (AF (Ac.ev (Cf T.b_int (Ab (Aa 0) Ae) (Zu (P3 hf wE).1 (P3 hf wE).2)) (h1 hf))))
theorem Vm (Fn:AB K "said_of" "said_of" J5 f fd) (hm:mg "said_of" = some (.ref f)) (hb:Binds K fd ["words"] []) (jl:A1 P w K mg base 3 "number_of" (HD CK3)) (J_NoRow:EM P w K mg base CK3 1 "NoRow" "number"):A1 P w K mg base 5 "said_of" (JL CK3):=by
 refine ⟨f,fd,_,B5 (k:=4) Fn HN (λds O R RX h=>?_) (λcdv A outer s H E ds O R RX hr h=>?_),hm,Fn.kp,hb⟩
 ·obtain ⟨_,rfl,_⟩:=h; rfl
 ·obtain ⟨W,rfl,hw,hc,hk⟩:=h
  have hX:¬ C8 W->∀ Y,RX CK3 [("number",.int 0)] (O++Y):=λhn=>by
   rcases hk with ⟨g,_⟩ | ⟨_,hX⟩
   ·exact absurd g hn
   ·exact hX
  by_cases ho:W.length%2=1
  ·refine Ap (A9 (Ax.cast (k':=true) (Au (Ai (AQ T.b_len (Ab (Aa 0) Ae) (BH (by first | exact Or.inr rfl | exact Or.inl (Or.inl rfl) | exact Or.inl (Or.inr (Or.inl rfl)) | exact Or.inl (Or.inr (Or.inr ⟨_,rfl,by first | assumption | rfl⟩))))) Af (BF wC)) Af BE) (decide_eq_true (by rw [List.length_map]; omega))) (λ_=>?_) (λhk=>by cases hk))
   refine Ap (FH J_NoRow (hr.mono wE) (Ab Af Ae) ?_ trivial)
   have:=hX (λg=>by have:=g.1; omega) []
   rw [List.append_nil] at this
   exact this
  refine Ap (A9 (Ax.cast (k':=false) (Au (Ai (AQ T.b_len (Ab (Aa 0) Ae) (BH (by first | exact Or.inr rfl | exact Or.inl (Or.inl rfl) | exact Or.inl (Or.inr (Or.inl rfl)) | exact Or.inl (Or.inr (Or.inr ⟨_,rfl,by first | assumption | rfl⟩))))) Af (BF wC)) Af BE) (decide_eq_false (by rw [List.length_map]; omega))) (λhk=>by cases hk) (λ_=>A8 ?_))
  have he:W.length%2=0:=by omega
  obtain ⟨l0,l1⟩:=NM W he
  have hw0:∀ w∈AH W 0,w.length<=6000:=λw h=>hw w (NN h)
  have hw1:∀ w∈AH W 1,w.length<=6000:=λw h=>hw w (NN h)
  have hG:C8 W ↔ (AH W 0).Nodup/\∀ v∈AH W 1,BG 60 v=true:=⟨λg=>g.2,λg=>⟨he,g⟩⟩
  have hB:ER W ↔ Rs (AH W 0) (AH W 1):=⟨λb=>(b.resolve_left wF).2,λb=>.inr ⟨he,b⟩⟩
  rw [hG] at hX hk
  rw [hB] at hk
  refine Ap (Ex.x_ (AA 1 (IM ?_) HN.nd))
  refine Ap (Jz (YC (P4 (Qa (Aa 0) (by first | exact Or.inl rfl | exact Or.inr (Or.inl rfl) | exact Or.inr (Or.inr ⟨_,rfl,by first | assumption | rfl⟩)) Ek (Cz Af) (Or.inl ⟨rfl,rfl⟩)) (Qa (Aa 0) (by first | exact Or.inl rfl | exact Or.inr (Or.inl rfl) | exact Or.inr (Or.inr ⟨_,rfl,by first | assumption | rfl⟩)) (Cz Af) (Cz Af) (Or.inr ⟨rfl,rfl⟩)) wB wB T.b_zip)) (λi ρ O'=>∃ v2 v3:Option D,ρ=[some (.lst (W.map D.str)),some (.ptr O.length),v2,v3]/\O'=O++[some (.dct (((AH W 0).take i).map Sum.inr) ((((AH W 1).take i).map Bx).map D.int))]/\((AH W 0).take i).Nodup/\∀ v∈(AH W 1).take i,BG 60 v=true) ⟨_,_,rfl,rfl,List.nodup_nil,λv hv=>by cases hv⟩ ?_ ?_)
  all_goals generalize hE:AH W 0=E at *
  all_goals generalize hV:AH W 1=V at *
  ·rintro i z ρ O' hz ⟨v2,v3,rfl,rfl,hnd,hfg⟩
   rw [List.getElem?_map] at hz
   obtain ⟨p,hp,rfl⟩:=Option.map_eq_some_iff.mp hz
   obtain ⟨x,v⟩:=p
   obtain ⟨hx,hv⟩:=List.getElem?_zip_eq_some.mp hp
   have hi:=(List.getElem?_eq_some_iff.mp hx).1
   have htl:(E.take i).length=((V.take i).map Bx).length:=by rw [List.length_map,List.length_take,List.length_take]; omega
   have hE1:E.take (i+1)=E.take i++[x]:=by rw [List.take_succ,hx]; rfl
   have hV1:V.take (i+1)=V.take i++[v]:=by rw [List.take_succ,hv]; rfl
   refine ⟨_,Gq (Dt (Bv 2 HN.nd) (Dt (Bv 3 HN.nd) Gp)),?_⟩
   by_cases hin:x∈E.take i
   ·refine Ap (A9 (Ax.cast (k':=true) (Au (Aa 2) (Aa 1) (IV (k:=.inr x) hr (Or.inr ⟨_,rfl,AL⟩))) (by rw [G0 htl,decide_eq_true hin])) (λ_=>?_) (λhk=>by cases hk))
    refine Ap (FH J_NoRow (hr.mono wE) (Ab Af Ae) (hX (λg=>?_) _) trivial)
    have:=g.1.sublist (List.take_sublist (i+1) E)
    rw [hE1] at this
    exact (List.nodup_append.mp this).2.2 x hin x (List.mem_singleton.mpr rfl) rfl
   refine Ap (A9 (Ax.cast (k':=false) (Au (Aa 2) (Aa 1) (IV (k:=.inr x) hr (Or.inr ⟨_,rfl,AL⟩))) (by rw [G0 htl,decide_eq_false hin])) (λhk=>by cases hk) (λ_=>A8 ?_))
   have hvl:=hw1 v (List.mem_of_getElem? hv)
   cases hf:BG 60 v with
   | true=>
    refine Ap (Ex.x_ (Hw (k:=.inr x) hr (Ev.evp (Cq jl.ok (hr.mono wE) (Ab (Aa 3) Ae) ⟨v,rfl,hvl,λ_=>⟨rfl,rfl⟩,λz=>absurd (hf.symm.trans z) wE⟩)) (Aa 1) AL (Aa 2) (by rw [sizeLine_eq,List.length_map,List.length_take]; omega) ?_))
    obtain ⟨p1,p2⟩:=HX (ws:=((V.take i).map Bx).map D.int) (w:=D.int (Bx v)) hin
    rw [p1,p2,CI]
    refine A8 ⟨_,_,rfl,by rw [hE1,hV1,List.map_append (l₁:=V.take i),List.map_append (l₁:=(V.take i).map Bx)]; rfl,?_,λy hy=>?_⟩
    ·rw [hE1]
     exact List.nodup_append.mpr ⟨hnd,List.nodup_cons.mpr ⟨List.not_mem_nil,List.nodup_nil⟩,λa ha b hb=>by rw [List.mem_singleton] at hb; subst hb; rintro rfl; exact hin ha⟩
    ·rw [hV1] at hy
     rcases List.mem_append.mp hy with hy | hy
     ·exact hfg y hy
     ·rw [List.mem_singleton.mp hy]; exact hf
   | false=>
    refine Ap (RI hr (Be jl (hr.mono wE) (Ab (Aa 3) Ae) ⟨v,rfl,hvl,λz=>absurd (hf.symm.trans z) wE,λ_=>hX (λg=>?_) _⟩) (Aa 1) (Aa 2))
    have:=g.2 v (List.mem_of_getElem? hv)
    rw [hf] at this
    cases this
  ·rintro ρ O' ⟨v2,v3,rfl,rfl,hnd,hfg⟩
   have hlen:((E.zip V).map λq:Str×Str=>D.tup [.str q.1,.str q.2]).length=E.length:=by rw [List.length_map,List.length_zip]; omega
   rw [hlen,List.take_length] at hnd
   rw [hlen,List.take_of_length_le (show V.length<=E.length by omega)] at hfg
   rw [hlen,List.take_length,List.take_of_length_le (show V.length<=E.length by omega)]
   rcases hk with ⟨_,hR⟩ | ⟨⟨k,x,v,hx,hv,hb⟩,_⟩
   ·refine Exs.x_ ?_
    refine Nn 1 rfl AL ?_
    rw [CI]
    exact Ah (AF (Ac.ev (Ac.cast (d':=.dct (E.map Sum.inr) ((V.map Bx).map D.int)) (Aa 1) (if_pos rfl)) (hR _)))
   ·exfalso
    rcases hb with hb | hb
    ·have hE1:E.take (k+1)=E.take k++[x]:=by rw [List.take_succ,hx]; rfl
     have:=hnd.sublist (List.take_sublist (k+1) E)
     rw [hE1] at this
     exact (List.nodup_append.mp this).2.2 x hb x (List.mem_singleton.mpr rfl) rfl
    ·have:=hfg v (List.mem_of_getElem? hv)
     rw [hb] at this
     cases this
theorem VW (Fn:AB K "tell_come" "Book.tell_come" KD f fd) (jn:Bu P w K mg base CK0 4 "come" (Gz CK0 CK2 CK7)) (jf:DF P w K mg base CK0 1 "ever" (HF CK0)):AI P w K mg base (Bk P w) 6 f fd ["self","name"] (BC K (Gv CK0 CK2 CK7)):=by
 refine B5 (k:=5) Fn TR (λds O R RX h=>?_) (λcdv A outer s H E ds O R RX hr h=>?_)
 ·rcases h with ⟨_,_,_,_,_,_,_,_,_,_,rfl,_⟩ | ⟨_,_,_,_,_,_,_,_,_,_,rfl,_⟩ | ⟨_,_,_,_,_,_,_,_,_,_,rfl,_⟩ <;> rfl
 ·rcases h with ⟨q,n,sc,t,b,u,c,ps,ws,x,rfl,hB,hx,hn,hz,hc,hR⟩ | ⟨q,n,sc,t,b,u,c,ps,ws,x,rfl,hB,hl,hbad,hX⟩ | ⟨q,n,sc,t,b,u,c,ps,ws,x,rfl,hB,hx,hin,hX⟩
  ·refine Ap (Bo (Cl jn (hr.mono wE) (Aa 0) hB.q (AW _ _ _ _ _ _ wD) (Ab (Aa 1) Ae) (.inl ⟨q,n,sc,t,b,u,c,ps,ws,x,rfl,hB,hx,hn,hz,?_⟩)))
   have hB2:=MS hB hn
   exact Exs.x_ (Ah (AF (Ac.ev (Cf T.b_str (Ab (Ev.evp (DZ jf (hr.mono wE) (Aa 0) hB2.q (AW _ _ _ _ _ _ wD) ⟨q,n,sc,t,b,u,_,_,_,rfl,hB2,rfl,rfl⟩)) Ae) (C3 ⟨by omega,by omega⟩)) hR)))
  ·exact Ap (Bo (Cl jn (hr.mono wE) (Aa 0) hB.q (AW _ _ _ _ _ _ wD) (Ab (Aa 1) Ae) (.inr (.inl ⟨q,n,sc,t,b,u,c,ps,ws,.s x,rfl,hB,hl,hbad,hX⟩))))
  ·exact Ap (Bo (Cl jn (hr.mono wE) (Aa 0) hB.q (AW _ _ _ _ _ _ wD) (Ab (Aa 1) Ae) (.inr (.inr ⟨q,n,sc,t,b,u,c,ps,ws,x,rfl,hB,hx,hin,hX⟩))))
theorem VV (Fn:AB K "tell_go" "Book.tell_go" KC f fd) (jq:Bu P w K mg base CK0 4 "go" (Gy CK0 CK2)) (jg:DF P w K mg base CK0 1 "there" (HC CK0)):AI P w K mg base (Bk P w) 6 f fd ["self","name"] (BC K (Gu CK0 CK2)):=by
 refine B5 (k:=5) Fn TQ (λds O R RX h=>?_) (λcdv A outer s H E ds O R RX hr h=>?_)
 ·rcases h with ⟨_,_,_,_,_,_,_,_,_,_,rfl,_⟩ | ⟨_,_,_,_,_,_,_,_,_,_,rfl,_⟩ <;> rfl
 ·rcases h with ⟨q,n,sc,t,b,u,c,ps,ws,x,rfl,hB,hx,hin,hz,hR⟩ | ⟨q,n,sc,t,b,u,c,ps,ws,x,rfl,hB,hx,hn,hX⟩
  ·refine Ap (Bo (Cl jq (hr.mono wE) (Aa 0) hB.q (AW _ _ _ _ _ _ wD) (Ab (Aa 1) Ae) (.inl ⟨q,n,sc,t,b,u,c,ps,ws,x,rfl,hB,hx,hin,?_⟩)))
   have hB2:=MR hB hin
   have hl:(ps.eraseIdx (ps.idxOf x)).length<=60:=Nat.le_trans (List.length_eraseIdx_le ..) hz
   have e:((((Bh Cd (ps.eraseIdx (ps.idxOf x))).map D.str).length:Nat):Int)=(((ps.eraseIdx (ps.idxOf x)).length:Nat):Int):=by rw [List.length_map,(Dv Cd _).length_eq]
   rw [<- e] at hR
   exact Exs.x_ (Ah (AF (Ac.ev (Cf T.b_str (Ab (AQ T.b_len (Ab (Ev.evp (DZ jg (hr.mono wE) (Aa 0) hB2.q (AW _ _ _ _ _ _ wD) ⟨q,n,sc,t,b,u,_,_,_,rfl,hB2,by omega,rfl,rfl⟩)) Ae) (BH (by first | exact Or.inr rfl | exact Or.inl (Or.inl rfl) | exact Or.inl (Or.inr (Or.inl rfl)) | exact Or.inl (Or.inr (Or.inr ⟨_,rfl,by first | assumption | rfl⟩))))) Ae) (C3 (by rw [e]; exact ⟨by omega,by omega⟩))) hR)))
  ·exact Ap (Bo (Cl jq (hr.mono wE) (Aa 0) hB.q (AW _ _ _ _ _ _ wD) (Ab (Aa 1) Ae) (.inr (.inr ⟨q,n,sc,t,b,u,c,ps,ws,x,rfl,hB,hx,hn,hX⟩))))
theorem VU (Fn:AB K "tell_so" "Book.tell_so" KB f fd) (je:Bu P w K mg base CK0 7 "charge_for" (GA CK0 CK2 CK5)) (ju:Bu P w K mg base CK0 9 "hear" (Gx CK0 CK2 CK5)):AI P w K mg base (Bk P w) 11 f fd ["self","said","so"] (BC K (Gs CK0 CK2 CK5)):=by
 refine B5 (k:=10) Fn HR (λds O R RX h=>?_) (λcdv A outer s H E ds O R RX hr h=>?_)
 ·rcases h with ⟨_,_,_,_,_,_,_,_,_,_,_,_,_,rfl,_⟩ | ⟨_,_,_,_,_,_,_,_,_,_,_,_,rfl,_⟩ | ⟨_,_,_,_,_,_,_,_,_,_,_,_,rfl,_⟩ <;> rfl
 ·rcases h with ⟨q,n,k,sc,t,b,u,c,so,ps,qs,ws,ys,rfl,hB,hf,hk,hwo,hs,hso,h60,hR⟩ | h
  ·have h0:CC ws:=λw hw=>(hwo.w w hw).1
   have hs1:=hf.s1
   have hs2:=hf.s2
   have hd:=Hl (Io (ws:=ws) hs wF hB.l h0) hso
   refine Ap (Dr 3 (Cl je (hr.mono wE) (Aa 0) hB.q (AW _ _ _ _ _ _ wD) (Ab (Aa 1) (Ab (Aa 2) Ae)) (.inl ⟨q,n,sc,t,b,u,c,so,ps,qs,ws,ys,rfl,hB,h0,hs,hso,?_⟩)) HR.nd)
   refine Ap (Bo (Cl ju (hr.mono wE) (Aa 0) hB.q (AW _ _ _ _ _ _ wD) (Ab (Aa 1) (Ab (Aa 2) Ae)) (.inl ⟨q,n,k,sc,t,b,u,c,so,ps,qs,ws,ys,rfl,hB,hf,hk,hwo,hs,hso,h60,?_⟩)))
   exact Exs.x_ (Ah (AF (Ac.ev (Cf T.b_str (Ab (Aa 3) Ae) (C3 ⟨by omega,by omega⟩)) hR)))
  ·have h':=h
   rcases h with ⟨q,n,sc,t,b,u,c,ps,qs,ws,vs,y,rfl,hB,hbad⟩ | ⟨q,n,sc,t,b,u,c,ps,qs,ws,ys,y,rfl,hB,hw,hs,hy,hX⟩
   ·exact Ap (Dr 3 (Cl je (hr.mono wE) (Aa 0) hB.q (AW _ _ _ _ _ _ wD) (Ab (Aa 1) (Ab (Aa 2) Ae)) (.inr h')) HR.nd)
   ·exact Ap (Dr 3 (Cl je (hr.mono wE) (Aa 0) hB.q (AW _ _ _ _ _ _ wD) (Ab (Aa 1) (Ab (Aa 2) Ae)) (.inr h')) HR.nd)
theorem VX (Fn:AB K "tell" "Book.tell" KG f fd) (jz:A1 P w K mg base 3 "words_of" (JH CK3)) (jl:A1 P w K mg base 3 "number_of" (HD CK3)) (jr:A1 P w K mg base 5 "said_of" (JL CK3)) (J_NoRow:EM P w K mg base CK3 1 "NoRow" "number") (kz:Bu P w K mg base CK0 6 "tell_come" (Gv CK0 CK2 CK7)) (gc:Bu P w K mg base CK0 6 "tell_go" (Gu CK0 CK2)) (jx:Bu P w K mg base CK0 11 "tell_so" (Gs CK0 CK2 CK5)) (jc:Bu P w K mg base CK0 5 "say" (FN CK0 CK2 CK5)):AI P w K mg base (Bk P w) 13 f fd ["self","row"] (BC K (FL ⟨CK0,CK3,CK2,CK5,CK7⟩)):=by
 refine B5 (k:=12) Fn JZ (λds O R RX h=>?_) (λcdv A outer s H E ds O R RX hr h=>?_)
 ·obtain ⟨_,_,_,_,_,_,_,_,_,_,_,rfl,_⟩:=h; rfl
 ·obtain ⟨q,n,sc,t,b,u,c,ps,ws,x,W,rfl,hB,hW,hsc,hk⟩:=h
  by_cases hem:("" : Str)∈W
  ·have hX:RX CK3 [("number",.int 0)] O:=by
    rcases hk with ⟨_,hX⟩ | ⟨y,rfl,hy,_⟩ | ⟨y,rfl,hy,_⟩ | ⟨W',rfl,hn,_⟩ | ⟨v,W',rfl,hn,_⟩
    ·have:=hX []
     rw [List.append_nil] at this
     exact this
    ·exfalso
     rcases List.mem_cons.mp hem with z | z
     ·exact absurd z wD
     ·exact hy (List.mem_singleton.mp z).symm
    ·exfalso
     rcases List.mem_cons.mp hem with z | z
     ·exact absurd z wD
     ·exact hy (List.mem_singleton.mp z).symm
    ·exact absurd hem hn
    ·exact absurd hem hn
   exact Ap (Dr 2 (Be jz (hr.mono wE) (Ab (Aa 1) Ae) ⟨x,W,rfl,hW,λz=>absurd hem z,λ_=>hX⟩) JZ.nd)
  refine Ap (Dr 2 (Be jz (hr.mono wE) (Ab (Aa 1) Ae) ⟨x,W,rfl,hW,λ_=>?_,λz=>absurd z hem⟩) JZ.nd)
  have hat:∀ (w:Str) (W':List Str),W=w::W'->Bg (W.map D.str) 0=some (.str w):=λw W' e=>C5 (j:=0) (by rw [e]; rfl)
  have ct:=hW.ct
  have hlw:∀ w∈W,w.length<=6000:=λw h=>(hW.ok w h).1
  rcases hk with ⟨hb | ⟨_,⟨W',rfl,hb⟩ | ⟨v,W',rfl,hb⟩ | ⟨w,W',rfl,n1,n2,n3,n4⟩⟩,hX⟩ | ⟨y,rfl,hy,hk⟩ | ⟨y,rfl,hy,hk⟩ | ⟨W',rfl,hn,hG,hk⟩ | ⟨v,W',rfl,hn,hG,hv,hk⟩
  ·exact absurd hb hem
  ·have h0:=hat _ _ rfl
   refine Ap (A9 (Ax.cast (k':=false) (AO.t (BP (Au (Az (Aa 2) (by first | exact Or.inl rfl | exact Or.inr (Or.inl rfl) | exact Or.inr (Or.inr ⟨_,rfl,by first | assumption | rfl⟩)) Af h0) Al Bs) (λhbb=>(B6 (Au (AQ T.b_len (Ab (Aa 2) Ae) (BH (by first | exact Or.inr rfl | exact Or.inl (Or.inl rfl) | exact Or.inl (Or.inr (Or.inl rfl)) | exact Or.inl (Or.inr (Or.inr ⟨_,rfl,by first | assumption | rfl⟩))))) Af BE))))) (by first | rfl | decide +kernel)) (λhk=>by cases hk) (λ_=>A8 ?_))
   refine Ap (A9 (Ax.cast (k':=false) (AO.t (BP (Au (Az (Aa 2) (by first | exact Or.inl rfl | exact Or.inr (Or.inl rfl) | exact Or.inr (Or.inr ⟨_,rfl,by first | assumption | rfl⟩)) Af h0) Al Bs) (λhbb=>(B6 (Au (AQ T.b_len (Ab (Aa 2) Ae) (BH (by first | exact Or.inr rfl | exact Or.inl (Or.inl rfl) | exact Or.inl (Or.inr (Or.inl rfl)) | exact Or.inl (Or.inr (Or.inr ⟨_,rfl,by first | assumption | rfl⟩))))) Af BE))))) (by first | rfl | decide +kernel)) (λhk=>by cases hk) (λ_=>A8 ?_))
   refine Ap (A9 (Ax.cast (k':=true) (Au (Az (Aa 2) (by first | exact Or.inl rfl | exact Or.inr (Or.inl rfl) | exact Or.inr (Or.inr ⟨_,rfl,by first | assumption | rfl⟩)) Af h0) Al Bs) (by first | rfl | decide +kernel)) (λ_=>?_) (λhk=>by cases hk))
   exact Ap (EU (Qj T.b_str (Ej (Hd jc (hr.mono wE) (Aa 0) hB.q (AW _ _ _ _ _ _ wD) (Ej (Be jr (hr.mono wE) (Ab (Ac.cast (d':=.lst (W'.map D.str)) (DY (Aa 2) (by first | exact Or.inl rfl | exact Or.inr (Or.inl rfl) | exact Or.inr (Or.inr ⟨_,rfl,by first | assumption | rfl⟩)) (Cz Af) Ek) (by rw [show (1:Int)=((1:Nat):Int) from rfl,Gb]; rfl)) Ae) ⟨W',rfl,λw h=>hlw w (List.mem_cons_of_mem _ h),by simp only [List.length_cons] at ct; omega,.inr ⟨hb,hX⟩⟩))))))
  ·have h0:=hat _ _ rfl
   have hct:W'.length<=100:=by simp only [List.length_cons] at ct; omega
   have hd2:D.lst ((CO (("so" : Str)::v::W') (some 2) none).map D.str)=.lst (W'.map D.str):=by rw [show (2:Int)=((2:Nat):Int) from rfl,Gb]; rfl
   have h1:Bg ((("so" : Str)::v::W').map D.str) 1=some (.str v):=C5 (j:=1) rfl
   refine Ap (A9 (Ax.cast (k':=false) (AO.t (BP (Au (Az (Aa 2) (by first | exact Or.inl rfl | exact Or.inr (Or.inl rfl) | exact Or.inr (Or.inr ⟨_,rfl,by first | assumption | rfl⟩)) Af h0) Al Bs) (λhbb=>(B6 (Au (AQ T.b_len (Ab (Aa 2) Ae) (BH (by first | exact Or.inr rfl | exact Or.inl (Or.inl rfl) | exact Or.inl (Or.inr (Or.inl rfl)) | exact Or.inl (Or.inr (Or.inr ⟨_,rfl,by first | assumption | rfl⟩))))) Af BE))))) (by first | rfl | decide +kernel)) (λhk=>by cases hk) (λ_=>A8 ?_))
   refine Ap (A9 (Ax.cast (k':=false) (AO.t (BP (Au (Az (Aa 2) (by first | exact Or.inl rfl | exact Or.inr (Or.inl rfl) | exact Or.inr (Or.inr ⟨_,rfl,by first | assumption | rfl⟩)) Af h0) Al Bs) (λhbb=>(B6 (Au (AQ T.b_len (Ab (Aa 2) Ae) (BH (by first | exact Or.inr rfl | exact Or.inl (Or.inl rfl) | exact Or.inl (Or.inr (Or.inl rfl)) | exact Or.inl (Or.inr (Or.inr ⟨_,rfl,by first | assumption | rfl⟩))))) Af BE))))) (by first | rfl | decide +kernel)) (λhk=>by cases hk) (λ_=>A8 ?_))
   refine Ap (A9 (Ax.cast (k':=false) (Au (Az (Aa 2) (by first | exact Or.inl rfl | exact Or.inr (Or.inl rfl) | exact Or.inr (Or.inr ⟨_,rfl,by first | assumption | rfl⟩)) Af h0) Al Bs) (by first | rfl | decide +kernel)) (λhk=>by cases hk) (λ_=>A8 ?_))
   refine Ap (A9 (Ax.cast (k':=true) (AO.t (BP (Au (Az (Aa 2) (by first | exact Or.inl rfl | exact Or.inr (Or.inl rfl) | exact Or.inr (Or.inr ⟨_,rfl,by first | assumption | rfl⟩)) Af h0) Al Bs) (λhbb=>(B6 (Au (AQ T.b_len (Ab (Aa 2) Ae) (BH (by first | exact Or.inr rfl | exact Or.inl (Or.inl rfl) | exact Or.inl (Or.inr (Or.inl rfl)) | exact Or.inl (Or.inr (Or.inr ⟨_,rfl,by first | assumption | rfl⟩))))) Af Fq))))) (by rw [List.length_map,List.length_cons,List.length_cons,decide_eq_true (show (1:Int)<((W'.length+1+1:Nat):Int) by omega)]; rfl)) (λ_=>?_) (λhk=>by cases hk))
   rcases hb with hb | ⟨hG,hv⟩
   ·exact Ap (EU (Hd jx (hr.mono wE) (Aa 0) hB.q (AW _ _ _ _ _ _ wD) (Ej (Be jr (hr.mono wE) (Ab (Ac.cast (DY (Aa 2) (by first | exact Or.inl rfl | exact Or.inr (Or.inl rfl) | exact Or.inr (Or.inr ⟨_,rfl,by first | assumption | rfl⟩)) (Cz Af) Ek) hd2) Ae) ⟨W',rfl,λw h=>hlw w (List.mem_cons_of_mem _ (List.mem_cons_of_mem _ h)),hct,.inr ⟨hb,hX⟩⟩))))
   ·refine Ap (EU (Hd jx (hr.mono wE) (Aa 0) hB.q (AW _ _ _ _ _ _ wD) (Ej (Be jr (hr.mono wE) (Ab (Ac.cast (DY (Aa 2) (by first | exact Or.inl rfl | exact Or.inr (Or.inl rfl) | exact Or.inr (Or.inr ⟨_,rfl,by first | assumption | rfl⟩)) (Cz Af) Ek) hd2) Ae) ⟨W',rfl,λw h=>hlw w (List.mem_cons_of_mem _ (List.mem_cons_of_mem _ h)),hct,.inl ⟨hG,λY=>?_⟩⟩))))
    exact Ej (Be jl (hr.mono wE) (Ab (Az (Aa 2) (by first | exact Or.inl rfl | exact Or.inr (Or.inl rfl) | exact Or.inr (Or.inr ⟨_,rfl,by first | assumption | rfl⟩)) Af h1) Ae) ⟨v,rfl,hlw v (List.mem_cons_of_mem _ List.mem_cons_self),λz=>absurd (hv.symm.trans z) wE,λ_=>hX Y⟩)
  ·have h0:=hat _ _ rfl
   have el:∀ k:Int,decide (((((w::W').map D.str).length:Nat):Int)=2)=decide (W'.length=1):=λk=>by rw [List.length_map,List.length_cons]; exact decide_eq_decide.mpr wF
   have el2:decide ((1:Int)<((((w::W').map D.str).length:Nat):Int))=decide (0<W'.length):=by rw [List.length_map,List.length_cons]; exact decide_eq_decide.mpr wF
   refine Ap (A9 (Ax.cast (k':=false) (AO.t (BP (Au (Az (Aa 2) (by first | exact Or.inl rfl | exact Or.inr (Or.inl rfl) | exact Or.inr (Or.inr ⟨_,rfl,by first | assumption | rfl⟩)) Af h0) Al Bs) (λhbb=>(B6 (Au (AQ T.b_len (Ab (Aa 2) Ae) (BH (by first | exact Or.inr rfl | exact Or.inl (Or.inl rfl) | exact Or.inl (Or.inr (Or.inl rfl)) | exact Or.inl (Or.inr (Or.inr ⟨_,rfl,by first | assumption | rfl⟩))))) Af BE))))) (by rw [el 0]; exact n1)) (λhk=>by cases hk) (λ_=>A8 ?_))
   refine Ap (A9 (Ax.cast (k':=false) (AO.t (BP (Au (Az (Aa 2) (by first | exact Or.inl rfl | exact Or.inr (Or.inl rfl) | exact Or.inr (Or.inr ⟨_,rfl,by first | assumption | rfl⟩)) Af h0) Al Bs) (λhbb=>(B6 (Au (AQ T.b_len (Ab (Aa 2) Ae) (BH (by first | exact Or.inr rfl | exact Or.inl (Or.inl rfl) | exact Or.inl (Or.inr (Or.inl rfl)) | exact Or.inl (Or.inr (Or.inr ⟨_,rfl,by first | assumption | rfl⟩))))) Af BE))))) (by rw [el 0]; exact n2)) (λhk=>by cases hk) (λ_=>A8 ?_))
   refine Ap (A9 (Ax.cast (k':=false) (Au (Az (Aa 2) (by first | exact Or.inl rfl | exact Or.inr (Or.inl rfl) | exact Or.inr (Or.inr ⟨_,rfl,by first | assumption | rfl⟩)) Af h0) Al Bs) n3) (λhk=>by cases hk) (λ_=>A8 ?_))
   refine Ap (A9 (Ax.cast (k':=false) (AO.t (BP (Au (Az (Aa 2) (by first | exact Or.inl rfl | exact Or.inr (Or.inl rfl) | exact Or.inr (Or.inr ⟨_,rfl,by first | assumption | rfl⟩)) Af h0) Al Bs) (λhbb=>(B6 (Au (AQ T.b_len (Ab (Aa 2) Ae) (BH (by first | exact Or.inr rfl | exact Or.inl (Or.inl rfl) | exact Or.inl (Or.inr (Or.inl rfl)) | exact Or.inl (Or.inr (Or.inr ⟨_,rfl,by first | assumption | rfl⟩))))) Af Fq))))) (by rw [el2]; exact n4)) (λhk=>by cases hk) (λ_=>A8 ?_))
   refine Ap (FH J_NoRow (hr.mono wE) (Ab Af Ae) ?_ trivial)
   have:=hX []
   rw [List.append_nil] at this
   exact this
  ·have h0:=hat _ _ rfl
   have h1:Bg (([("come" : Str),y]:List Str).map D.str) 1=some (.str y):=C5 (j:=1) rfl
   refine Ap (A9 (Ax.cast (k':=true) (AO.t (BP (Au (Az (Aa 2) (by first | exact Or.inl rfl | exact Or.inr (Or.inl rfl) | exact Or.inr (Or.inr ⟨_,rfl,by first | assumption | rfl⟩)) Af h0) Al Bs) (λhbb=>(B6 (Au (AQ T.b_len (Ab (Aa 2) Ae) (BH (by first | exact Or.inr rfl | exact Or.inl (Or.inl rfl) | exact Or.inl (Or.inr (Or.inl rfl)) | exact Or.inl (Or.inr (Or.inr ⟨_,rfl,by first | assumption | rfl⟩))))) Af BE))))) (by first | rfl | decide +kernel)) (λ_=>?_) (λhk=>by cases hk))
   exact Ap (EU (Cl kz (hr.mono wE) (Aa 0) hB.q (AW _ _ _ _ _ _ wD) (Ab (Az (Aa 2) (by first | exact Or.inl rfl | exact Or.inr (Or.inl rfl) | exact Or.inr (Or.inr ⟨_,rfl,by first | assumption | rfl⟩)) Af h1) Ae) hk))
  ·have h0:=hat _ _ rfl
   have h1:Bg (([("go" : Str),y]:List Str).map D.str) 1=some (.str y):=C5 (j:=1) rfl
   refine Ap (A9 (Ax.cast (k':=false) (AO.t (BP (Au (Az (Aa 2) (by first | exact Or.inl rfl | exact Or.inr (Or.inl rfl) | exact Or.inr (Or.inr ⟨_,rfl,by first | assumption | rfl⟩)) Af h0) Al Bs) (λhbb=>(B6 (Au (AQ T.b_len (Ab (Aa 2) Ae) (BH (by first | exact Or.inr rfl | exact Or.inl (Or.inl rfl) | exact Or.inl (Or.inr (Or.inl rfl)) | exact Or.inl (Or.inr (Or.inr ⟨_,rfl,by first | assumption | rfl⟩))))) Af BE))))) (by first | rfl | decide +kernel)) (λhk=>by cases hk) (λ_=>A8 ?_))
   refine Ap (A9 (Ax.cast (k':=true) (AO.t (BP (Au (Az (Aa 2) (by first | exact Or.inl rfl | exact Or.inr (Or.inl rfl) | exact Or.inr (Or.inr ⟨_,rfl,by first | assumption | rfl⟩)) Af h0) Al Bs) (λhbb=>(B6 (Au (AQ T.b_len (Ab (Aa 2) Ae) (BH (by first | exact Or.inr rfl | exact Or.inl (Or.inl rfl) | exact Or.inl (Or.inr (Or.inl rfl)) | exact Or.inl (Or.inr (Or.inr ⟨_,rfl,by first | assumption | rfl⟩))))) Af BE))))) (by first | rfl | decide +kernel)) (λ_=>?_) (λhk=>by cases hk))
   exact Ap (EU (Cl gc (hr.mono wE) (Aa 0) hB.q (AW _ _ _ _ _ _ wD) (Ab (Az (Aa 2) (by first | exact Or.inl rfl | exact Or.inr (Or.inl rfl) | exact Or.inr (Or.inr ⟨_,rfl,by first | assumption | rfl⟩)) Af h1) Ae) hk))
  ·have h0:=hat _ _ rfl
   have hct:W'.length<=100:=by simp only [List.length_cons] at ct; omega
   refine Ap (A9 (Ax.cast (k':=false) (AO.t (BP (Au (Az (Aa 2) (by first | exact Or.inl rfl | exact Or.inr (Or.inl rfl) | exact Or.inr (Or.inr ⟨_,rfl,by first | assumption | rfl⟩)) Af h0) Al Bs) (λhbb=>(B6 (Au (AQ T.b_len (Ab (Aa 2) Ae) (BH (by first | exact Or.inr rfl | exact Or.inl (Or.inl rfl) | exact Or.inl (Or.inr (Or.inl rfl)) | exact Or.inl (Or.inr (Or.inr ⟨_,rfl,by first | assumption | rfl⟩))))) Af BE))))) (by first | rfl | decide +kernel)) (λhk=>by cases hk) (λ_=>A8 ?_))
   refine Ap (A9 (Ax.cast (k':=false) (AO.t (BP (Au (Az (Aa 2) (by first | exact Or.inl rfl | exact Or.inr (Or.inl rfl) | exact Or.inr (Or.inr ⟨_,rfl,by first | assumption | rfl⟩)) Af h0) Al Bs) (λhbb=>(B6 (Au (AQ T.b_len (Ab (Aa 2) Ae) (BH (by first | exact Or.inr rfl | exact Or.inl (Or.inl rfl) | exact Or.inl (Or.inr (Or.inl rfl)) | exact Or.inl (Or.inr (Or.inr ⟨_,rfl,by first | assumption | rfl⟩))))) Af BE))))) (by first | rfl | decide +kernel)) (λhk=>by cases hk) (λ_=>A8 ?_))
   refine Ap (A9 (Ax.cast (k':=true) (Au (Az (Aa 2) (by first | exact Or.inl rfl | exact Or.inr (Or.inl rfl) | exact Or.inr (Or.inr ⟨_,rfl,by first | assumption | rfl⟩)) Af h0) Al Bs) (by first | rfl | decide +kernel)) (λ_=>?_) (λhk=>by cases hk))
   refine Ap (EU (Qj T.b_str (Ej (Hd jc (hr.mono wE) (Aa 0) hB.q (AW _ _ _ _ _ _ wD) (Ej (Be jr (hr.mono wE) (Ab (Ac.cast (d':=.lst (W'.map D.str)) (DY (Aa 2) (by first | exact Or.inl rfl | exact Or.inr (Or.inl rfl) | exact Or.inr (Or.inr ⟨_,rfl,by first | assumption | rfl⟩)) (Cz Af) Ek) (by rw [show (1:Int)=((1:Nat):Int) from rfl,Gb]; rfl)) Ae) ⟨W',rfl,λw h=>hlw w (List.mem_cons_of_mem _ h),hct,.inl ⟨hG,λY=>BB.ax Ae ?_⟩⟩))))))
   rcases hk with ⟨hw,hs,hR⟩ | hbad
   ·have hm:=Io (ws:=ws) hs wF hB.l hw
    exact .inl ⟨q,n,sc,t,b,u,c,ps,Cv W',ws,Ca W',rfl,hB.app Y,hw,hs,BB.ax Ae ⟨_,C3 ⟨by omega,by omega⟩,hR Y⟩⟩
   ·exact .inr ⟨q,n,sc,t,b,u,c,ps,Cv W',ws,(Ca W').map Ov.i,by rw [IA]; rfl,hB.app Y,hbad Y⟩
  ·have h0:=hat _ _ rfl
   have hct:W'.length<=100:=by simp only [List.length_cons] at ct; omega
   have hd2:D.lst ((CO (("so" : Str)::v::W') (some 2) none).map D.str)=.lst (W'.map D.str):=by rw [show (2:Int)=((2:Nat):Int) from rfl,Gb]; rfl
   have h1:Bg ((("so" : Str)::v::W').map D.str) 1=some (.str v):=C5 (j:=1) rfl
   refine Ap (A9 (Ax.cast (k':=false) (AO.t (BP (Au (Az (Aa 2) (by first | exact Or.inl rfl | exact Or.inr (Or.inl rfl) | exact Or.inr (Or.inr ⟨_,rfl,by first | assumption | rfl⟩)) Af h0) Al Bs) (λhbb=>(B6 (Au (AQ T.b_len (Ab (Aa 2) Ae) (BH (by first | exact Or.inr rfl | exact Or.inl (Or.inl rfl) | exact Or.inl (Or.inr (Or.inl rfl)) | exact Or.inl (Or.inr (Or.inr ⟨_,rfl,by first | assumption | rfl⟩))))) Af BE))))) (by first | rfl | decide +kernel)) (λhk=>by cases hk) (λ_=>A8 ?_))
   refine Ap (A9 (Ax.cast (k':=false) (AO.t (BP (Au (Az (Aa 2) (by first | exact Or.inl rfl | exact Or.inr (Or.inl rfl) | exact Or.inr (Or.inr ⟨_,rfl,by first | assumption | rfl⟩)) Af h0) Al Bs) (λhbb=>(B6 (Au (AQ T.b_len (Ab (Aa 2) Ae) (BH (by first | exact Or.inr rfl | exact Or.inl (Or.inl rfl) | exact Or.inl (Or.inr (Or.inl rfl)) | exact Or.inl (Or.inr (Or.inr ⟨_,rfl,by first | assumption | rfl⟩))))) Af BE))))) (by first | rfl | decide +kernel)) (λhk=>by cases hk) (λ_=>A8 ?_))
   refine Ap (A9 (Ax.cast (k':=false) (Au (Az (Aa 2) (by first | exact Or.inl rfl | exact Or.inr (Or.inl rfl) | exact Or.inr (Or.inr ⟨_,rfl,by first | assumption | rfl⟩)) Af h0) Al Bs) (by first | rfl | decide +kernel)) (λhk=>by cases hk) (λ_=>A8 ?_))
   refine Ap (A9 (Ax.cast (k':=true) (AO.t (BP (Au (Az (Aa 2) (by first | exact Or.inl rfl | exact Or.inr (Or.inl rfl) | exact Or.inr (Or.inr ⟨_,rfl,by first | assumption | rfl⟩)) Af h0) Al Bs) (λhbb=>(B6 (Au (AQ T.b_len (Ab (Aa 2) Ae) (BH (by first | exact Or.inr rfl | exact Or.inl (Or.inl rfl) | exact Or.inl (Or.inr (Or.inl rfl)) | exact Or.inl (Or.inr (Or.inr ⟨_,rfl,by first | assumption | rfl⟩))))) Af Fq))))) (by rw [List.length_map,List.length_cons,List.length_cons,decide_eq_true (show (1:Int)<((W'.length+1+1:Nat):Int) by omega)]; rfl)) (λ_=>?_) (λhk=>by cases hk))
   refine Ap (EU (Hd jx (hr.mono wE) (Aa 0) hB.q (AW _ _ _ _ _ _ wD) (Ej (Be jr (hr.mono wE) (Ab (Ac.cast (DY (Aa 2) (by first | exact Or.inl rfl | exact Or.inr (Or.inl rfl) | exact Or.inr (Or.inr ⟨_,rfl,by first | assumption | rfl⟩)) (Cz Af) Ek) hd2) Ae) ⟨W',rfl,λw h=>hlw w (List.mem_cons_of_mem _ (List.mem_cons_of_mem _ h)),hct,.inl ⟨hG,λY=>?_⟩⟩))))
   exact Ej (Be jl (hr.mono wE) (Ab (Az (Aa 2) (by first | exact Or.inl rfl | exact Or.inr (Or.inl rfl) | exact Or.inr (Or.inr ⟨_,rfl,by first | assumption | rfl⟩)) Af h1) Ae) ⟨v,rfl,hlw v (List.mem_cons_of_mem _ List.mem_cons_self),λ_=>BB.ax Ae (hk Y),λz=>absurd (hv.symm.trans z) wE⟩)
theorem Vv (Fn:AB K "_law_pairs" "_law_pairs" Ke f fd) (hm:mg "_law_pairs" = some (.ref f)) (hb:Binds K fd ["_law_said_here","_law_turned"] []):AE P w K mg base 1 "_law_pairs" N2:=by
 refine BT (k:=0) Fn FP hm hb (λds O R h=>?_) (λcdv A outer s H E ds O R hr h=>?_)
 ·obtain ⟨_,_,_,rfl,_⟩:=h; rfl
 ·obtain ⟨qs,ys,tn,rfl,hl,hnm,hy,hle,hR⟩:=h
  refine Ah (AA 2 (Ac.ev Al ?_) FP.nd)
  refine Ah (AA 3 (Ac.ev (Ya GR (λY=>QE) (Yg (Aa 0) (Or.inl rfl) T.b_list) (Or.inl rfl) wF T.b_sorted) ?_) FP.nd)
  refine Jw (λρ O'=>O'=O/\ρ=[some (.dct (qs.map Sum.inr) (ys.map D.int)),some (.bl tn),some (.str ""),some (.lst ((BS tn qs).map D.str)),none]) (AZ (BR (Aa 1)) (λhk=>?_) (λhk=>Ay ⟨rfl,by subst hk; rfl⟩)) ?_
  ·subst hk
   refine Ah (AA 3 (Ac.ev (Yc (Aa 3) (by first | exact Or.inl rfl | exact Or.inr (Or.inl rfl) | exact Or.inr (Or.inr ⟨_,rfl,by first | assumption | rfl⟩)) (Cz (Yf Af))) ?_) FP.nd)
   exact Ay ⟨rfl,by first | rfl | (rw [<- List.map_reverse]; rfl)⟩
  rintro ρ O' ⟨hO,rfl⟩
  subst hO
  have hp:=OR tn qs
  generalize BS tn qs=L at hp hR
  have hLl:L.length<=40:=by rw [hp.length_eq]; exact hle
  have hw11:∀ x∈L,0<=AG qs ys x/\AG qs ys x<=11:=λx hx=>by
   obtain ⟨w,h1,h2⟩:=DB hl (hp.mem_iff.mp hx)
   unfold AG
   rw [h1]; exact hy w h2
  have hLn:∀ x∈L,AN x:=λx hx=>hnm x (hp.mem_iff.mp hx)
  have e1:((" " : Str)).length=1:=by decide +kernel
  have hsz:=sizeLine_eq
  refine Ah (DH (Fj (Aa 3) wB) (λi ρ O2=>O2=O'/\∃ v4:Option D,ρ=[some (.dct (qs.map Sum.inr) (ys.map D.int)),some (.bl tn),some (.str (Ct (AG qs ys) (L.take i))),some (.lst (L.map D.str)),v4]) ⟨rfl,_,rfl⟩ ?_ ?_)
  ·rintro i z ρ O2 hz ⟨hO,v4,rfl⟩
   subst hO
   rw [List.getElem?_map] at hz
   obtain ⟨x,hx,rfl⟩:=Option.map_eq_some_iff.mp hz
   have hxL:=List.mem_of_getElem? hx
   obtain ⟨w,hw1,hw2⟩:=DB hl (hp.mem_iff.mp hxL)
   have ew:AG qs ys x=w:=by unfold AG; rw [hw1]; rfl
   have hw:=hw11 x hxL
   rw [ew] at hw
   have hx8:=(hLn x hxL).l2
   have hn2:=(EB hw).2.2.2.2.1
   have hpl:=HY (f:=AG qs ys) (L:=L.take i) (λy h=>hLn y (List.mem_of_mem_take h)) (λy h=>hw11 y (List.mem_of_mem_take h))
   have htl:(L.take i).length<=40:=by rw [List.length_take]; omega
   have hnx:Ct (AG qs ys) (L.take (i+1))=Ct (AG qs ys) (L.take i) ++ " " ++ x ++ " " ++ nS w:=by rw [List.take_succ,hx]; show Ct _ (L.take i++[x])=_; rw [Uw,ew]
   refine ⟨_,Bv 4 FP.nd,?_⟩
   refine Ah (AA 2 (Ac.ev (Ai (Ai (Ai (Ai (Aa 2) Al (Df wF)) (Aa 4) (Df (by rw [Str.length_append]; omega))) Al (Df (by rw [Str.length_append,Str.length_append]; omega))) (Cf T.b_str (Ab (Qi hr (Aa 0) (Or.inl rfl) (Aa 4) (Jb hw1)) Ae) (C3 ⟨by omega,by omega⟩)) (Df (by show _+(nS w).length<=_; rw [Str.length_append,Str.length_append,Str.length_append]; omega))) ?_) FP.nd)
   exact Ay ⟨rfl,_,by rw [hnx]; rfl⟩
  ·rintro ρ O2 ⟨hO,v4,rfl⟩
   subst hO
   rw [List.length_map,List.take_length]
   exact Ah (AF (Ac.ev (Aa 2) hR))
theorem Vy (Fn:AB K "_law_done" "_law_done" Kh f fd) (hm:mg "_law_done" = some (.ref f)) (hb:Binds K fd ["_law_book","_law_other","_law_deed","_law_turned"] []) (kc:AE P w K mg base 1 "_law_pairs" N2) (jn:Bu P w K mg base CK0 4 "come" (Gz CK0 CK2 CK7)) (jq:Bu P w K mg base CK0 4 "go" (Gy CK0 CK2)) (jc:Bu P w K mg base CK0 5 "say" (FN CK0 CK2 CK5)) (ju:Bu P w K mg base CK0 9 "hear" (Gx CK0 CK2 CK5)) (jg:DF P w K mg base CK0 1 "there" (HC CK0)) (jf:DF P w K mg base CK0 1 "ever" (HF CK0)) (jh:Bu P w K mg base CK0 13 "tell" (FL ⟨CK0,CK3,CK2,CK5,CK7⟩)):AE P w K mg base 16 "_law_done" (N8 CK0):=by
 refine BT (k:=15) Fn HQ hm hb (λds O R h=>?_) (λcdv A outer s H E ds O R hr h=>?_)
 ·obtain ⟨_,_,_,_,_,_,_,_,_,_,_,_,_,_,rfl,_⟩:=h; rfl
 ·obtain ⟨l,q1,n1,q2,n2,k,sc,t,b,u,s0,ws,d,tn,rfl,hT,hf,hk,hst,hd,hR⟩:=h
  have hs1:=hf.s1; have hs2:=hf.s2
  have hsc:1<=sc/\sc<=10:=⟨hs1,hs2⟩
  have hkq:=hT.lt
  obtain ⟨hB1,hB2,hqq,hnn,l1,l2,l3,l4,hwo⟩:=hT
  have hle:=hst.le
  have hev:=hst.ev
  have n1q2:n1≠q2:=MV hB1.n hB2.q (by intro z; cases z)
  have q1n2:q1≠n2:=MV hB1.q hB2.n (by intro z; cases z)
  have hsz:=sizeLine_eq
  cases d with
  | come x=>
   obtain ⟨hx,hn⟩:=hd
   have hx8:=hx.l2
   have hfr:=FX hx
   refine Ah (AZ (Ax.cast (k':=true) (Au (Cw (Aa 2) Af rfl) Al Bs) wD) (λ_=>?_) (λhk=>by cases hk))
   refine Ah (Jx (EG jn.ok (hr.mono wE) (Aa 0) hB1.q (AW _ _ _ _ _ _ wD) (Ab (Cw (Aa 2) Af rfl) Ae) (.inl ⟨q1,n1,sc,t,b,u,_,s0.1,ws,x,rfl,hB1,hx,hn,by omega,?_⟩)))
   have h1:=MS hB1 hn
   have h2:=(hB2.set (y:=some (.dct ((s0.1++[x]).map Sum.inr) ((ws++[u]).map D.int))) n1q2 hnn).set (y:=some (.ins CK0 (AM sc t b n1 u (((s0.2:Nat):Int)+1)))) hqq q1n2
   have k1:=(hkq.set (y:=some (.dct ((s0.1++[x]).map Sum.inr) ((ws++[u]).map D.int))) l3).set (y:=some (.ins CK0 (AM sc t b n1 u (((s0.2:Nat):Int)+1)))) l1
   generalize (O.set n1 (some (.dct ((s0.1++[x]).map Sum.inr) ((ws++[u]).map D.int)))).set q1 (some (.ins CK0 (AM sc t b n1 u (((s0.2:Nat):Int)+1))))=O1 at h1 h2 k1
   have h3:=MS h2 hn
   have h4:=(h1.set (y:=some (.dct ((s0.1++[x]).map Sum.inr) ((ws++[u]).map D.int))) (Ne.symm q1n2) (Ne.symm hnn)).set (y:=some (.ins CK0 (AM sc t b n2 u (((s0.2:Nat):Int)+1)))) (Ne.symm hqq) (Ne.symm n1q2)
   have k2:=(k1.set (y:=some (.dct ((s0.1++[x]).map Sum.inr) ((ws++[u]).map D.int))) l4).set (y:=some (.ins CK0 (AM sc t b n2 u (((s0.2:Nat):Int)+1)))) l2
   have el:(("come " : Str)).length=5:=by decide +kernel
   refine Ah (AF (Mt (Ra:=λdd O2=>dd=.str (nS (((s0.2:Nat):Int)+1))/\O2=(O1.set n2 (some (.dct ((s0.1++[x]).map Sum.inr) ((ws++[u]).map D.int)))).set q2 (some (.ins CK0 (AM sc t b n2 u (((s0.2:Nat):Int)+1))))) (EG jh.ok (hr.mono wE) (Aa 1) h2.q (AW _ _ _ _ _ _ wD) (Ab (Ai Al (Cw (Aa 2) Af rfl) (Df wF)) Ae) ⟨q2,n2,sc,t,b,u,_,s0.1,ws,_,[("come" : Str),x],rfl,h2,JA wD wD ⟨hfr.1,hfr.2.1⟩ wF,hsc,.inr (.inl ⟨x,rfl,hfr.2.2.1,.inl ⟨q2,n2,sc,t,b,u,_,s0.1,ws,x,rfl,h2,hx,hn,by omega,⟨by omega,by omega⟩,rfl,rfl⟩⟩)⟩) (λda O2 hh=>?_)))
   obtain ⟨rfl,rfl⟩:=hh
   refine Ac.ev (Cf T.b_str (Ab (Ev.evp (DZ jf (hr.mono wE) (Aa 0) h4.q (AW _ _ _ _ _ _ wD) ⟨q1,n1,sc,t,b,u,_,_,_,rfl,h4,rfl,rfl⟩)) Ae) (C3 ⟨by omega,by omega⟩)) ⟨_,Bs,?_⟩
   show R (.bl (nS (((s0.2:Nat):Int)+1)==nS (((s0.2:Nat):Int)+1))) _
   rw [beq_self_eq_true]
   exact hR _ n1 n2 (ws++[u]) u k2 ⟨h4,h3,hqq,hnn,l1,l2,l3,l4,Nr (RO hwo)⟩
  | go x=>
   obtain ⟨hx,hin⟩:=hd
   have hx8:=hx.l2
   have hfr:=FX hx
   refine Ah (AZ (Ax.cast (k':=false) (Au (Cw (Aa 2) Af rfl) Al Bs) wD) (λhk=>by cases hk) (λ_=>Ay ?_))
   refine Ah (AZ (Ax.cast (k':=true) (Au (Cw (Aa 2) Af rfl) Al Bs) wD) (λ_=>?_) (λhk=>by cases hk))
   refine Ah (Jx (EG jq.ok (hr.mono wE) (Aa 0) hB1.q (AW _ _ _ _ _ _ wD) (Ab (Cw (Aa 2) Af rfl) Ae) (.inl ⟨q1,n1,sc,t,b,u,_,s0.1,ws,x,rfl,hB1,hx,hin,?_⟩)))
   have h1:=MR hB1 hin
   have h2:=hB2.set (y:=some (.dct (Cj (s0.1.map Sum.inr) (.inr x)) (BZ (s0.1.map Sum.inr) (ws.map D.int) (.inr x)))) n1q2 hnn
   have k1:=hkq.set (y:=some (.dct (Cj (s0.1.map Sum.inr) (.inr x)) (BZ (s0.1.map Sum.inr) (ws.map D.int) (.inr x)))) l3
   generalize O.set n1 (some (.dct (Cj (s0.1.map Sum.inr) (.inr x)) (BZ (s0.1.map Sum.inr) (ws.map D.int) (.inr x))))=O1 at h1 h2 k1
   have h3:=MR h2 hin
   have h4:=h1.set (y:=some (.dct (Cj (s0.1.map Sum.inr) (.inr x)) (BZ (s0.1.map Sum.inr) (ws.map D.int) (.inr x)))) (Ne.symm q1n2) (Ne.symm hnn)
   have k2:=k1.set (y:=some (.dct (Cj (s0.1.map Sum.inr) (.inr x)) (BZ (s0.1.map Sum.inr) (ws.map D.int) (.inr x)))) l4
   have el:(("go " : Str)).length=3:=by decide +kernel
   have hel:(s0.1.eraseIdx (s0.1.idxOf x)).length<=60:=Nat.le_trans (List.length_eraseIdx_le ..) wF
   have e:((((Bh Cd (s0.1.eraseIdx (s0.1.idxOf x))).map D.str).length:Nat):Int)=(((s0.1.eraseIdx (s0.1.idxOf x)).length:Nat):Int):=by rw [List.length_map,(Dv Cd _).length_eq]
   refine Ah (AF (Mt (Ra:=λdd O2=>dd=.str (nS (((s0.1.eraseIdx (s0.1.idxOf x)).length:Nat):Int))/\O2=O1.set n2 (some (.dct (Cj (s0.1.map Sum.inr) (.inr x)) (BZ (s0.1.map Sum.inr) (ws.map D.int) (.inr x))))) (EG jh.ok (hr.mono wE) (Aa 1) h2.q (AW _ _ _ _ _ _ wD) (Ab (Ai Al (Cw (Aa 2) Af rfl) (Df wF)) Ae) ⟨q2,n2,sc,t,b,u,_,s0.1,ws,_,[("go" : Str),x],rfl,h2,JA wD wD ⟨hfr.1,hfr.2.1⟩ wF,hsc,.inr (.inr (.inl ⟨x,rfl,hfr.2.2.1,.inl ⟨q2,n2,sc,t,b,u,_,s0.1,ws,x,rfl,h2,hx,hin,by omega,rfl,rfl⟩⟩))⟩) (λda O2 hh=>?_)))
   obtain ⟨rfl,rfl⟩:=hh
   refine Ac.ev (Cf T.b_str (Ab (AQ T.b_len (Ab (Ev.evp (DZ jg (hr.mono wE) (Aa 0) h4.q (AW _ _ _ _ _ _ wD) ⟨q1,n1,sc,t,b,u,_,_,_,rfl,h4,by omega,rfl,rfl⟩)) Ae) (BH (by first | exact Or.inr rfl | exact Or.inl (Or.inl rfl) | exact Or.inl (Or.inr (Or.inl rfl)) | exact Or.inl (Or.inr (Or.inr ⟨_,rfl,by first | assumption | rfl⟩))))) Ae) (C3 (by rw [e]; exact ⟨by omega,by omega⟩))) ⟨_,Bs,?_⟩
   show R (.bl (nS (((s0.1.eraseIdx (s0.1.idxOf x)).length:Nat):Int)==nS ((((Bh Cd (s0.1.eraseIdx (s0.1.idxOf x))).map D.str).length:Nat):Int))) _
   rw [e,beq_self_eq_true]
   exact hR _ n1 n2 _ u k2 ⟨h4,h3,hqq,hnn,l1,l2,l3,l4,Nr (RN hwo)⟩
  | turn qs ys so=>
   obtain ⟨hD,hso⟩:=hd
   have hql:qs.length<=21:=Nat.le_trans (Ir hD.nd hD.sub) hle
   have hs:CD sc s0.1 qs ys:=⟨hD.l,hD.nd,hD.sub,hD.on,λx hx=>hst.nm x (hD.sub x hx),by omega⟩
   have hw0:CC ws:=λw hw=>(hwo.w w hw).1
   have hmo:=Io (ws:=ws) hs wF hB1.l hw0
   have hdd:=Hl hmo hso
   have hf11:∀ x,0<=AG qs ys x/\AG qs ys x<=11:=λx=>by have:=Nq hs wF x; omega
   have hy11:∀ y∈ys,0<=y/\y<=11:=λy hy=>by have:=hD.on y hy; omega
   have row:∀ tn,(∀ x∈BS tn qs,AN x)/\(BS tn qs).length<=40/\(Ct (AG qs ys) (BS tn qs)).length<=720/\C8 (BD (AG qs ys) (BS tn qs))/\Cv (BD (AG qs ys) (BS tn qs))=BS tn qs/\Ca (BD (AG qs ys) (BS tn qs))=(BS tn qs).map (AG qs ys)/\CD sc s0.1 (BS tn qs) ((BS tn qs).map (AG qs ys))/\AS s0.1 ws (BS tn qs) ((BS tn qs).map (AG qs ys))=AS s0.1 ws qs ys/\∀ own,Bz t b sc own so s0.1 ws (BS tn qs) ((BS tn qs).map (AG qs ys))=Bz t b sc own so s0.1 ws qs ys:=λtn=>by
    have hp:=OR tn qs
    generalize BS tn qs=L at hp
    have g1:∀ x∈L,AN x:=λx hx=>hs.nm x (hp.mem_iff.mp hx)
    have g2:L.length<=21:=by rw [hp.length_eq]; exact hql
    have g3:=HY (f:=AG qs ys) g1 (λx _=>hf11 x)
    obtain ⟨g4,g5,g6⟩:=XL (f:=AG qs ys) ((hp.nodup_iff).mpr hs.nd) (λx _=>hf11 x)
    exact ⟨g1,by omega,by omega,g4,g5,g6,T0 hs wF hp,WA hs hB1.l hw0 hp,λown=>Wh hs.l hp⟩
   refine Ah (AZ (Ax.cast (k':=false) (Au (Cw (Aa 2) Af rfl) Al Bs) wD) (λhk=>by cases hk) (λ_=>Ay ?_))
   refine Ah (AZ (Ax.cast (k':=false) (Au (Cw (Aa 2) Af rfl) Al Bs) wD) (λhk=>by cases hk) (λ_=>Ay ?_))
   refine Ah (AA 4 (Ac.ev (Ev.evp (EG jc.ok (hr.mono wE) (Aa 0) hB1.q (AW _ _ _ _ _ _ wD) (Ab (Cw (Aa 2) Af rfl) Ae) (.inl ⟨q1,n1,sc,t,b,u,_,s0.1,qs,ws,ys,rfl,hB1,hw0,hs,rfl,rfl⟩))) ?_) HQ.nd)
   have e3:(("say" : Str)).length=3:=by decide +kernel
   have e4:(("so " : Str)).length=3:=by decide +kernel
   obtain ⟨r1,r2,r3,r4,r5,r6,r7,r8,r9⟩:=row tn
   refine Ah (AA 5 (EG jh.ok (hr.mono wE) (Aa 1) hB2.q (AW _ _ _ _ _ _ wD) (Ab (Ai Al (Ev.evp (Cq kc (hr.mono wE) (Ab (Cw (Aa 2) Af rfl) (Ab (Aa 3) Ae)) ⟨qs,ys,tn,rfl,hs.l,hs.nm,hy11,by omega,rfl,rfl⟩)) (Df wF)) Ae) ⟨q2,n2,sc,t,b,u,_,s0.1,ws,_,_,rfl,hB2,RL r1 (λx _=>hf11 x) r2,hsc,.inr (.inr (.inr (.inl ⟨BD (AG qs ys) (BS tn qs),rfl,λz=>?_,r4,.inl ⟨hw0,by rw [r5,r6]; exact r7,λY=>?_⟩⟩)))⟩) HQ.nd)
   ·rcases List.mem_cons.mp z with z | z
    ·exact absurd z wD
    ·exact O8 r1 (λx _=>hf11 x) z
   rw [r5,r6,r8]
   have hB1a:=hB1.app Y
   have hB2a:=hB2.app Y
   have k1:=hkq.app (Y:=Y)
   generalize O++Y=O1 at hB1a hB2a k1
   refine Ah (AZ (Ax.cast (k':=false) (AO.t (Ce (CL (BR (AQ T.b_isinstance (Ab (Aa 5) (Ab (Di T.b_str) Ae)) (EJ rfl)))) (λhbb=>(Dh (Au (Aa 5) (Cf T.b_str (Ab (Aa 4) Ae) (C3 ⟨by omega,by omega⟩)) IT))))) (by show (!true||!(nS (AS s0.1 ws qs ys)==nS (AS s0.1 ws qs ys)))=false; rw [beq_self_eq_true]; rfl)) (λhk=>by cases hk) (λ_=>Ay ?_))
   refine Ah (Jx (EG ju.ok (hr.mono wE) (Aa 0) hB1a.q (AW _ _ _ _ _ _ wD) (Ab (Cw (Aa 2) Af rfl) (Ab (Cw (Aa 2) Af rfl) Ae)) (.inl ⟨q1,n1,k,sc,t,b,u,_,so,s0.1,qs,ws,ys,rfl,hB1a,hf,by omega,hwo,hs,hso,by omega,?_⟩)))
   have hnl:s0.1.length=(Bz t b sc (ab (AS s0.1 ws qs ys-so)) so s0.1 ws qs ys).length:=Wi hB1a.l
   have h1:=QL (u':=u*tS t b sc (ab (AS s0.1 ws qs ys-so))) hB1a hnl
   have h2:=((hB2a.set (y:=none) n1q2 hnn).set (y:=some (.ins CK0 (AM sc t b O1.length (u*tS t b sc (ab (AS s0.1 ws qs ys-so))) ((s0.2:Nat):Int)))) hqq q1n2).app [some (MO.dct (s0.1.map Sum.inr) ((Bz t b sc (ab (AS s0.1 ws qs ys-so)) so s0.1 ws qs ys).map D.int))]
   have k2:=((k1.set (y:=none) l3).set (y:=some (.ins CK0 (AM sc t b O1.length (u*tS t b sc (ab (AS s0.1 ws qs ys-so))) ((s0.2:Nat):Int)))) l1).app (Y:=[some (MO.dct (s0.1.map Sum.inr) ((Bz t b sc (ab (AS s0.1 ws qs ys-so)) so s0.1 ws qs ys).map D.int))])
   have n2l:n2<O1.length:=MW hB2a.n
   have q2l:q2<O1.length:=MW hB2a.q
   have hO1l:=k1.le
   have hO2l:((O1.set n1 none).set q1 (some (.ins CK0 (AM sc t b O1.length (u*tS t b sc (ab (AS s0.1 ws qs ys-so))) ((s0.2:Nat):Int))))++[some (MO.dct (s0.1.map Sum.inr) ((Bz t b sc (ab (AS s0.1 ws qs ys-so)) so s0.1 ws qs ys).map D.int))]).length=O1.length+1:=by rw [List.length_append,List.length_set,List.length_set]; rfl
   generalize (O1.set n1 none).set q1 (some (.ins CK0 (AM sc t b O1.length (u*tS t b sc (ab (AS s0.1 ws qs ys-so))) ((s0.2:Nat):Int))))++[some (MO.dct (s0.1.map Sum.inr) ((Bz t b sc (ab (AS s0.1 ws qs ys-so)) so s0.1 ws qs ys).map D.int))]=O2 at h1 h2 k2 hO2l
   obtain ⟨r1,r2,r3,r4,r5,r6,r7,r8,r9⟩:=row (!tn)
   have hns:=EB (i:=so) ⟨by omega,by omega⟩
   have hnsl:=hns.2.2.2.2.1
   refine Ah (AA 5 (EG jh.ok (hr.mono wE) (Aa 1) h2.q (AW _ _ _ _ _ _ wD) (Ab (Ai (Ai Al (Cf T.b_str (Ab (Cw (Aa 2) Af rfl) Ae) (C3 ⟨by omega,by omega⟩)) (Df (by show _+(nS so).length<=_; omega))) (Ev.evp (Cq kc (hr.mono wE) (Ab (Cw (Aa 2) Af rfl) (Ab (Qc (Aa 3)) Ae)) ⟨qs,ys,!tn,rfl,hs.l,hs.nm,hy11,by omega,rfl,rfl⟩)) (Df (by rw [Str.length_append]; show _+(nS so).length+_<=_; omega))) Ae) ⟨q2,n2,sc,t,b,u,_,s0.1,ws,_,_,rfl,h2,RK (so:=so) r1 (λx _=>hf11 x) ⟨by omega,by omega⟩ r2,hsc,.inr (.inr (.inr (.inr ⟨nS so,BD (AG qs ys) (BS (!tn) qs),rfl,λz=>?_,r4,hns.1,?_⟩)))⟩) HQ.nd)
   ·rcases List.mem_cons.mp z with z | z
    ·exact absurd z wD
    rcases List.mem_cons.mp z with z | z
    ·exact hns.2.2.2.2.2 z.symm
    ·exact O8 r1 (λx _=>hf11 x) z
   rw [r5,r6,hns.2.1]
   intro Y2
   refine .inl ⟨q2,n2,k,sc,t,b,u,_,so,s0.1,_,ws,_,rfl,h2.app Y2,hf,by omega,hwo,r7,hso,by omega,?_⟩
   unfold PB
   rw [r8,r9]
   have h3:=QL (u':=u*tS t b sc (ab (AS s0.1 ws qs ys-so))) (h2.app Y2) hnl
   have h4:=(((h1.app Y2).set (y:=none) (Ne.symm q1n2) wF).set (y:=some (.ins CK0 (AM sc t b (O2++Y2).length (u*tS t b sc (ab (AS s0.1 ws qs ys-so))) ((s0.2:Nat):Int)))) (Ne.symm hqq) wF).app [some (MO.dct (s0.1.map Sum.inr) ((Bz t b sc (ab (AS s0.1 ws qs ys-so)) so s0.1 ws qs ys).map D.int))]
   have k3:=(((k2.app (Y:=Y2)).set (y:=none) l4).set (y:=some (.ins CK0 (AM sc t b (O2++Y2).length (u*tS t b sc (ab (AS s0.1 ws qs ys-so))) ((s0.2:Nat):Int)))) l2).app (Y:=[some (MO.dct (s0.1.map Sum.inr) ((Bz t b sc (ab (AS s0.1 ws qs ys-so)) so s0.1 ws qs ys).map D.int))])
   have hO3l:O2.length<=(O2++Y2).length:=by rw [List.length_append]; omega
   have hab:(if AS s0.1 ws qs ys-so<0 then -(AS s0.1 ws qs ys-so) else AS s0.1 ws qs ys-so)=ab (AS s0.1 ws qs ys-so):=rfl
   refine Ah (AF (Ac.ev (Ac.cast (d':=.bl true) (IP (AQ T.b_isinstance (Ab (Aa 5) (Ab (Di T.b_str) Ae)) (EJ rfl)) (λhbb=>(IH (Ei (Aa 5) (Cf T.b_str (Ab (AQ T.b_abs (Ab (Ai (Aa 4) (Cw (Aa 2) Af rfl) Ig) Ae) QI) Ae) (C3 ⟨by omega,by omega⟩)) Bs)))) (by show D.bl (true&&(nS (ab (AS s0.1 ws qs ys-so))==nS (ab (AS s0.1 ws qs ys-so))))=_; rw [beq_self_eq_true]; rfl)) ?_))
   exact hR _ O1.length (O2++Y2).length _ _ k3 ⟨h4,h3,hqq,by omega,l1,l2,by omega,by omega,RM hf hwo hs hso hdd⟩
theorem Vw (Fn:AB K "_law_odd" "_law_odd" Kf f fd) (hm:mg "_law_odd" = some (.ref f)) (hb:Binds K fd ["_law_cell","_law_one","_law_away","_law_scale"] []):AE P w K mg base 1 "_law_odd" N4:=by
 refine BT (k:=0) Fn D8 hm hb (λds O R h=>?_) (λcdv A outer s H E ds O R hr h=>?_)
 ·obtain ⟨_,_,_,_,rfl,_⟩:=h; rfl
 ·obtain ⟨cc,sc,one,away,rfl,h1,h2,hsc,hR⟩:=h
  have hsz:=sizeLine_eq
  have l1:=(GX h1).2
  have l2:=(GX h2).2
  have l3:(Str.ofString (toString (sc+1))).cps.toList.length<=2:=(Ld hsc).2
  have r1:=Ey (x := "9") (n:=61)
  have r2:=Ey (x := "9") (n:=5000)
  have r3:=Ey (x := "9") (n:=60)
  have r4:=Ey (x := "0") (n:=59)
  refine Ah (AA 4 (Ac.ev (Ac.cast (d':=.lst ((EY one away sc).map D.str)) (BQ (Ab Al (Ab Al (Ab (Ai (Ai Al (Aa 2) oS) Al oS) (Ab Al (Ab (Ai (Ai (Ai Al (Aa 1) oS) Al oS) (Aa 1) oS) (Ab Al (Ab Al (Ab (Ai Al (Aa 1) oS) (Ab Al Ae)))))))))) rfl) ?_) D8.nd)
  refine Ah (AA 4 (Ac.ev (Ac.cast (d':=.lst ((EY one away sc++FO one away sc).map D.str)) (Ai (Aa 4) (BQ (Ab (Ai (Ai (Ai Al (Aa 1) oS) Al oS) (Aa 1) oS) (Ab (Ai (Ai Al (Aa 1) oS) Al oS) (Ab (Ai (Ai Al (Aa 1) oS) Al oS) (Ab (Ai (Ai Al (Aa 1) oS) Al oS) Ae))))) (Dz (by rw [List.length_map]; show 9+4<=sizeLine; omega))) (by rw [List.map_append]; rfl)) ?_) D8.nd)
  refine Ah (AA 4 (Ac.ev (Ac.cast (d':=.lst (((EY one away sc++FO one away sc)++GF one away sc).map D.str)) (Ai (Aa 4) (BQ (Ab (Ai (Ai (Ai (Ai Al (Aa 1) oS) Al oS) (Aa 1) oS) Al oS) (Ab Al (Ab Al (Ab (Ai Al (Aa 1) oS) Ae))))) (Dz (by rw [List.length_map]; show 13+4<=sizeLine; omega))) (by rw [List.map_append]; rfl)) ?_) D8.nd)
  refine Ah (AA 4 (Ac.ev (Ac.cast (d':=.lst ((((EY one away sc++FO one away sc)++GF one away sc)++HM one away sc).map D.str)) (Ai (Aa 4) (BQ (Ab (Ai (Ai Al (Aa 1) oS) Al oS) (Ab (Ai Al (Aa 1) oS) (Ab Al (Ab Al (Ab (Ai (Ai (Ai (Ai Al (Aa 2) oS) Al oS) (Aa 2) oS) Al oS) Ae)))))) (Dz (by rw [List.length_map]; show 17+5<=sizeLine; omega))) (by rw [List.map_append]; rfl)) ?_) D8.nd)
  refine Ah (AA 4 (Ac.ev (Ac.cast (d':=.lst (((((EY one away sc++FO one away sc)++GF one away sc)++HM one away sc)++JW one away sc).map D.str)) (Ai (Aa 4) (BQ (Ab (Ai (Ai (Ai Al (Aa 1) oS) Al oS) (Ai Al Af (GV wD wE)) oS) (Ab (Ai Al (Ai Al Af (GV wD wE)) oS) (Ab (Ai (Ai (Ai Al (Aa 1) oS) Al oS) (Ai Al Af (GV wD wE)) oS) Ae)))) (Dz (by rw [List.length_map]; show 22+3<=sizeLine; omega))) (by rw [List.map_append]; rfl)) ?_) D8.nd)
  refine Ah (AA 5 (Ac.ev (Ac.cast (d':=.lst ((JV one away sc).map D.str)) (BQ (Ab Al (Ab (Ai Al (Aa 2) oS) (Ab (Ai (Ai Al (Aa 2) oS) Al oS) (Ab (Ai (Ai (Ai (Ai Al (Cf T.b_str (Ab (Ai (Aa 3) Af BU) Ae) (C3 ⟨by omega,by omega⟩)) oS) Al oS) (Aa 2) oS) Al oS) (Ab Al Ae)))))) rfl) ?_) D8.nd)
  refine Ah (AA 6 (Hc (Ab (Ai (Ai (Ai Al (Aa 1) oS) Al oS) (Cf T.b_str (Ab (Ai (Aa 3) Af BU) Ae) (C3 ⟨by omega,by omega⟩)) oS) (Ab (Ai Al (Cf T.b_str (Ab (Ai (Aa 3) Af BU) Ae) (C3 ⟨by omega,by omega⟩)) oS) (Ab (Ai (Ai (Ai Al (Aa 1) oS) Al oS) (Ai Al Af (GV wD wE)) oS) Ae))) ?_) D8.nd)
  refine Ah (FG (Aa 6) AL (Ai (Ai (Ai Al (Aa 1) oS) Al oS) (Ai Al Af (GV wD wE)) oS) (by show 3<sizeLine; omega) ?_)
  rw [CI]
  obtain ⟨j,hj,hj34⟩:∃ j:Nat,cc%34=(j:Nat)/\j<34:=⟨(cc%34).toNat,by omega,by omega⟩
  refine Ah (AA 7 (Ac.ev (Az (BQ (Ab Al (Ab Al (Ab Al Ae)))) (by first | exact Or.inl rfl | exact Or.inr (Or.inl rfl) | exact Or.inr (Or.inr ⟨_,rfl,by first | assumption | rfl⟩)) (Ai (Cf T.b_int (Ab (Ei (Ai (Aa 0) Af (BF wC)) Af Fq) Ae) MN) (Cf T.b_int (Ab (Ei (Ai (Aa 0) Af (BF wC)) Af Fq) Ae) MN) BU) (YD hj hj34)) ?_) D8.nd)
  have hat:Bg (((((((EY one away sc++FO one away sc)++GF one away sc)++HM one away sc)++JW one away sc).map D.str)++((JV one away sc).map D.str))++((HL one away sc).map D.str++[D.str (("say " : Str)++one++(" " : Str)++(Bp "9" 60))])) (cc%34)=some (.str (GJ one away sc j)):=by
   rw [hj,<- T8 hj34]
   unfold Jc
   simp only [List.map_append]
   rfl
  have hl7:∀ x:D,(O++[some (MO.lst ((HL one away sc).map D.str++[x]))])[O.length]?=some (some (.lst ((HL one away sc).map D.str++[x]))):=λx=>AL
  refine Ah (AF (Ac.ev (Ha (Ab (Az (Ai (Ai (Aa 4) (Aa 5) (Dz (by show _<=_; simp only [List.length_map,List.length_append]; show 25+5<=sizeLine; omega))) (Aa 6) (V8 (hl7 _) (by simp only [List.length_map,List.length_append]; show 25+5+(3+1)<=sizeLine; omega))) (by first | exact Or.inl rfl | exact Or.inr (Or.inl rfl) | exact Or.inr (Or.inr ⟨_,rfl,by first | assumption | rfl⟩)) (Ai (Aa 0) Af (BF wC)) hat) (Ab (Aa 7) Ae))) ?_))
  exact hR j _ hj34
theorem Vr (Fn:AB K "_law_told" "_law_told" J9 f fd) (hm:mg "_law_told" = some (.ref f)) (hb:Binds K fd ["_law_book","_law_row"] []) (jh:Bu P w K mg base CK0 13 "tell" (FL ⟨CK0,CK3,CK2,CK5,CK7⟩)):AE P w K mg base 16 "_law_told" (NW ⟨CK0,CK3,CK2,CK5,CK7⟩):=by
 refine BT (k:=15) Fn Dw hm hb (λds O R h=>?_) (λcdv A outer s H E ds O R hr h=>?_)
 ·obtain ⟨_,_,_,_,_,_,_,_,_,_,_,_,_,rfl,_⟩:=h; rfl
 ·obtain ⟨q,n,sc,t,b,u,c,ps,ws,x,K,fs,nm,rfl,hB,hT,hK,hR⟩:=h
  refine FF ?_
  refine Ah (AA 2 (Ac.ev (BQ Ae) ?_) Dw.nd)
  refine Ah (RB 3 Dw.nd T.m_HeedError (RX:=λC' fs' ρ O'=>C'=K/\fs'=fs/\ρ=[some (.ptr q),some (.str x),some (.lst []),none]/\∃ Y,O'=O++Y) (λpn E=>?_) (λv C' fs' ρ' O' hx=>?_))
  ·exact Ap (Bo (Cl jh (hr.mono wE) (Aa 0) hB.q (AW _ _ _ _ _ _ wD) (Ab (Aa 1) Ae) (hT _ _ λY=>⟨rfl,rfl,rfl,Y,rfl⟩)))
  ·obtain ⟨rfl,rfl,rfl,Y,rfl⟩:=hx
   rcases hK with ⟨rfl,rfl,rfl⟩ | ⟨rfl,rfl,rfl⟩ | ⟨rfl,rfl,rfl⟩ | ⟨rfl,rfl,rfl⟩
   ·refine ⟨T.x_NoRow_HeedError,?_⟩
    refine Ah (AA 2 (Ac.ev (BQ (Ab (BK T.b_isinstance (Aa 3) AL T.t_NoRow T.m_NoRow T.i_NoRow_NoRow) (Ab (BK T.b_isinstance (Aa 3) AL T.t_NoRow T.m_NoName T.i_NoRow_NoName) (Ab (BK T.b_isinstance (Aa 3) AL T.t_NoRow T.m_NoTurn T.i_NoRow_NoTurn) (Ab (BK T.b_isinstance (Aa 3) AL T.t_NoRow T.m_Twice T.i_NoRow_Twice) Ae))))) ?_) Dw.nd)
    refine Ah (AA 2 (Ac.ev (Ai (Aa 2) (BQ (Ab (BK T.b_isinstance (Aa 3) AL T.t_NoRow T.m_NoRule T.i_NoRow_NoRule) (Ab (BK T.b_isinstance (Aa 3) AL T.t_NoRow T.m_NoWay T.i_NoRow_NoWay) Ae))) (Dz (Nat.le_of_ble_eq_true rfl))) ?_) Dw.nd)
    refine Ah (AZ (AO.t (BP (AO.t (Ce (k:=true) (l:=false) (BR (Az (Aa 2) (by first | exact Or.inl rfl | exact Or.inr (Or.inl rfl) | exact Or.inr (Or.inr ⟨_,rfl,by first | assumption | rfl⟩)) Af rfl)) (λhbb=>by cases hbb))) (λ_=>B6 (AO.t (Ce (Au (IL (Aa 3) AL T.t_NoRow T.n_NoRow_number rfl) Af Fp) (λ_=>Dh (BR (AQ T.b_isinstance (Ab (IL (Aa 3) AL T.t_NoRow T.n_NoRow_number rfl) (Ab (Di T.b_bool) Ae)) (ML rfl))))))))) (λhk=>by cases hk) (λhk=>Ay (Ay ?_)))
    refine Ah (AZ (Ax.cast (k':=false) (Au (IN (bs:=[true,false,false,false,false,false]) (Aa 2) (Or.inl rfl) Cy) Af Fp) rfl) (λhk=>by cases hk) (λ_=>Ay ?_))
    refine Ah (AF (Ac.ev (Az (BQ (Ab Al (Ab Al (Ab Al (Ab Al (Ab Al (Ab Al Ae))))))) (Or.inl rfl) (II (bs:=[true,false,false,false,false,false]) (Aa 2) (Or.inl rfl) Cy wE) rfl) ?_))
    exact ⟨⟨_,List.append_assoc ..⟩,rfl,hR⟩
   ·refine ⟨T.x_NoName_HeedError,?_⟩
    refine Ah (AA 2 (Ac.ev (BQ (Ab (BK T.b_isinstance (Aa 3) AL T.t_NoName T.m_NoRow T.i_NoName_NoRow) (Ab (BK T.b_isinstance (Aa 3) AL T.t_NoName T.m_NoName T.i_NoName_NoName) (Ab (BK T.b_isinstance (Aa 3) AL T.t_NoName T.m_NoTurn T.i_NoName_NoTurn) (Ab (BK T.b_isinstance (Aa 3) AL T.t_NoName T.m_Twice T.i_NoName_Twice) Ae))))) ?_) Dw.nd)
    refine Ah (AA 2 (Ac.ev (Ai (Aa 2) (BQ (Ab (BK T.b_isinstance (Aa 3) AL T.t_NoName T.m_NoRule T.i_NoName_NoRule) (Ab (BK T.b_isinstance (Aa 3) AL T.t_NoName T.m_NoWay T.i_NoName_NoWay) Ae))) (Dz (Nat.le_of_ble_eq_true rfl))) ?_) Dw.nd)
    refine Ah (AZ (AO.t (BP (k:=false) (l:=false) (AO.t (Ce (k:=false) (l:=false) (BR (Az (Aa 2) (by first | exact Or.inl rfl | exact Or.inr (Or.inl rfl) | exact Or.inr (Or.inr ⟨_,rfl,by first | assumption | rfl⟩)) Af rfl)) (λ_=>Dh (BR (Az (Aa 2) (by first | exact Or.inl rfl | exact Or.inr (Or.inl rfl) | exact Or.inr (Or.inr ⟨_,rfl,by first | assumption | rfl⟩)) Af rfl))))) (λhbb=>by cases hbb))) (λhk=>by cases hk) (λhk=>Ay (Ay ?_)))
    refine Ah (AZ (Ax.cast (k':=false) (Au (IN (bs:=[false,true,false,false,false,false]) (Aa 2) (Or.inl rfl) Cy) Af Fp) rfl) (λhk=>by cases hk) (λ_=>Ay ?_))
    refine Ah (AF (Ac.ev (Az (BQ (Ab Al (Ab Al (Ab Al (Ab Al (Ab Al (Ab Al Ae))))))) (Or.inl rfl) (II (bs:=[false,true,false,false,false,false]) (Aa 2) (Or.inl rfl) Cy wE) rfl) ?_))
    exact ⟨⟨_,List.append_assoc ..⟩,rfl,hR⟩
   ·refine ⟨T.x_NoTurn_HeedError,?_⟩
    refine Ah (AA 2 (Ac.ev (BQ (Ab (BK T.b_isinstance (Aa 3) AL T.t_NoTurn T.m_NoRow T.i_NoTurn_NoRow) (Ab (BK T.b_isinstance (Aa 3) AL T.t_NoTurn T.m_NoName T.i_NoTurn_NoName) (Ab (BK T.b_isinstance (Aa 3) AL T.t_NoTurn T.m_NoTurn T.i_NoTurn_NoTurn) (Ab (BK T.b_isinstance (Aa 3) AL T.t_NoTurn T.m_Twice T.i_NoTurn_Twice) Ae))))) ?_) Dw.nd)
    refine Ah (AA 2 (Ac.ev (Ai (Aa 2) (BQ (Ab (BK T.b_isinstance (Aa 3) AL T.t_NoTurn T.m_NoRule T.i_NoTurn_NoRule) (Ab (BK T.b_isinstance (Aa 3) AL T.t_NoTurn T.m_NoWay T.i_NoTurn_NoWay) Ae))) (Dz (Nat.le_of_ble_eq_true rfl))) ?_) Dw.nd)
    refine Ah (AZ (AO.t (BP (AO.t (Ce (k:=false) (l:=true) (BR (Az (Aa 2) (by first | exact Or.inl rfl | exact Or.inr (Or.inl rfl) | exact Or.inr (Or.inr ⟨_,rfl,by first | assumption | rfl⟩)) Af rfl)) (λ_=>Dh (BR (Az (Aa 2) (by first | exact Or.inl rfl | exact Or.inr (Or.inl rfl) | exact Or.inr (Or.inr ⟨_,rfl,by first | assumption | rfl⟩)) Af rfl))))) (λ_=>B6 (AO.t (Ce (Au (IL (Aa 3) AL T.t_NoTurn T.n_NoTurn_number rfl) Af Fp) (λ_=>Dh (BR (AQ T.b_isinstance (Ab (IL (Aa 3) AL T.t_NoTurn T.n_NoTurn_number rfl) (Ab (Di T.b_bool) Ae)) (ML rfl))))))))) (λhk=>by cases hk) (λhk=>Ay (Ay ?_)))
    refine Ah (AZ (Ax.cast (k':=false) (Au (IN (bs:=[false,false,true,false,false,false]) (Aa 2) (Or.inl rfl) Cy) Af Fp) rfl) (λhk=>by cases hk) (λ_=>Ay ?_))
    refine Ah (AF (Ac.ev (Az (BQ (Ab Al (Ab Al (Ab Al (Ab Al (Ab Al (Ab Al Ae))))))) (Or.inl rfl) (II (bs:=[false,false,true,false,false,false]) (Aa 2) (Or.inl rfl) Cy wE) rfl) ?_))
    exact ⟨⟨_,List.append_assoc ..⟩,rfl,hR⟩
   ·refine ⟨T.x_Twice_HeedError,?_⟩
    refine Ah (AA 2 (Ac.ev (BQ (Ab (BK T.b_isinstance (Aa 3) AL T.t_Twice T.m_NoRow T.i_Twice_NoRow) (Ab (BK T.b_isinstance (Aa 3) AL T.t_Twice T.m_NoName T.i_Twice_NoName) (Ab (BK T.b_isinstance (Aa 3) AL T.t_Twice T.m_NoTurn T.i_Twice_NoTurn) (Ab (BK T.b_isinstance (Aa 3) AL T.t_Twice T.m_Twice T.i_Twice_Twice) Ae))))) ?_) Dw.nd)
    refine Ah (AA 2 (Ac.ev (Ai (Aa 2) (BQ (Ab (BK T.b_isinstance (Aa 3) AL T.t_Twice T.m_NoRule T.i_Twice_NoRule) (Ab (BK T.b_isinstance (Aa 3) AL T.t_Twice T.m_NoWay T.i_Twice_NoWay) Ae))) (Dz (Nat.le_of_ble_eq_true rfl))) ?_) Dw.nd)
    refine Ah (AZ (AO.t (BP (k:=false) (l:=false) (AO.t (Ce (k:=false) (l:=false) (BR (Az (Aa 2) (by first | exact Or.inl rfl | exact Or.inr (Or.inl rfl) | exact Or.inr (Or.inr ⟨_,rfl,by first | assumption | rfl⟩)) Af rfl)) (λ_=>Dh (BR (Az (Aa 2) (by first | exact Or.inl rfl | exact Or.inr (Or.inl rfl) | exact Or.inr (Or.inr ⟨_,rfl,by first | assumption | rfl⟩)) Af rfl))))) (λhbb=>by cases hbb))) (λhk=>by cases hk) (λhk=>Ay (Ay ?_)))
    refine Ah (AZ (Ax.cast (k':=false) (Au (IN (bs:=[false,false,false,true,false,false]) (Aa 2) (Or.inl rfl) Cy) Af Fp) rfl) (λhk=>by cases hk) (λ_=>Ay ?_))
    refine Ah (AF (Ac.ev (Az (BQ (Ab Al (Ab Al (Ab Al (Ab Al (Ab Al (Ab Al Ae))))))) (Or.inl rfl) (II (bs:=[false,false,false,true,false,false]) (Aa 2) (Or.inl rfl) Cy wE) rfl) ?_))
    exact ⟨⟨_,List.append_assoc ..⟩,rfl,hR⟩
theorem VB (Fn:AB K "_law_cell_at" "_law_cell_at" Kk f fd) (hm:mg "_law_cell_at" = some (.ref f)) (hb:Binds K fd ["_law_script","_law_k"] []):AE P w K mg base 1 "_law_cell_at" (Bq HG):=by
 refine BT (k:=0) Fn Tr hm hb (λds O R h=>?_) (λcdv A outer s H E ds O R hr h=>?_)
 ·obtain ⟨_,⟨_,_,rfl,_⟩,_⟩:=h; rfl
 ·obtain ⟨d,⟨ns,k,rfl,hk0,rfl⟩,hR⟩:=h
  refine Ah (AZ (Au (Aa 1) (AQ T.b_len (Ab (Aa 0) Ae) (BH (by first | exact Or.inr rfl | exact Or.inl (Or.inl rfl) | exact Or.inl (Or.inr (Or.inl rfl)) | exact Or.inl (Or.inr (Or.inr ⟨_,rfl,by first | assumption | rfl⟩))))) MD) (λhk=>?_) (λhk=>?_))
  ·have hk:=of_decide_eq_true hk
   rw [List.length_map] at hk
   have hi:k.toNat<ns.length:=by omega
   have hz:Bg (ns.map D.int) k=some (.int ns[k.toNat]):=ZD hk0 (List.getElem?_eq_getElem hi)
   refine Ah (AF (Ac.ev (Az (Aa 0) (by first | exact Or.inl rfl | exact Or.inr (Or.inl rfl) | exact Or.inr (Or.inr ⟨_,rfl,by first | assumption | rfl⟩)) (Aa 1) hz) ?_))
   unfold EI at hR
   rw [List.getElem?_eq_getElem hi] at hR
   exact hR
  ·have hk:=of_decide_eq_false hk
   rw [List.length_map] at hk
   refine Ay ?_
   refine Ah (AF (Ac.ev Af ?_))
   unfold EI at hR
   rw [List.getElem?_eq_none wF] at hR
   exact hR
theorem Vs (Fn:AB K "_law_stream" "_law_stream" Ka f fd) (hm:mg "_law_stream" = some (.ref f)) (hb:Binds K fd ["_law_cell","_law_many"] []):AE P w K mg base 1 "_law_stream" (Bq JI):=by
 refine BT (k:=0) Fn GG hm hb (λds O R h=>?_) (λcdv A outer s H E ds O R hr h=>?_)
 ·obtain ⟨_,⟨_,_,rfl,_⟩,_⟩:=h; rfl
 ·obtain ⟨d,⟨c,n,rfl,hn,rfl⟩,hR⟩:=h
  refine FF ?_
  refine Ah (AA 2 (Hc Ae ?_) GG.nd)
  refine Ah (AA 3 (Ac.ev (Ai (Aa 0) Af (BF wC)) ?_) GG.nd)
  unfold Ch at hR
  have hx0:0<=c%2305843009213693951/\c%2305843009213693951<2305843009213693951:=by omega
  generalize c%2305843009213693951=x0 at hR hx0
  refine Ah (DH (F8 (Ai (Aa 1) Af BU) T.b_range wC wC) (λi ρ O'=>∃ (L:List Int) (y:Int) (u:Option D),ρ=[some (.int c),some (.int (n:Nat)),some (.ptr O.length),some (.int y),u]/\O'=O++[some (.lst (L.map D.int))]/\L.length=i/\(0<=y/\y<2305843009213693951)/\run 0 x0 (n+1)=L++run i y (n+1-i)) ⟨[],x0,_,rfl,rfl,rfl,hx0,rfl⟩ ?_ ?_)
  ·rintro i x ρ O' hx ⟨L,y,u,rfl,rfl,hL,hy,hrun⟩
   obtain ⟨hi,rfl⟩:=GP hx
   have hi':i<n+1:=by omega
   refine ⟨_,Bv 4 GG.nd,?_⟩
   have b61:(2305843009213693951:Int)<2 ^ 70:=by decide
   have m1:IntMulOk y y:=DQ (m:=70) (n:=70) hy.1 wF hy.1 wF
   have m2:IntMulOk 48271 y:=DQ (m:=20) (n:=70) wE wE hy.1 wF
   have m3:IntMulOk 7 (0+(i:Nat)):=DQ (m:=20) (n:=70) wE wE wF wF
   refine Ah (AA 3 (Ac.ev (Ai (Ai (Ai (Ai (Ai (Aa 3) (Aa 3) (CU m1)) (Ai Af (Aa 3) (CU m2)) BU) (Ai Af (Aa 4) (CU m3)) BU) Af BU) Af (BF wC)) ?_) GG.nd)
   have hst:(y*y+48271*y+7*(0+((i:Nat):Int))+3)%2305843009213693951=DI y i:=by unfold DI; rw [Int.zero_add]
   have hb:0<=DI y i/\DI y i<2305843009213693951:=by unfold DI; omega
   rw [hst]
   refine Ah (FG (Aa 2) AL (Aa 3) (by rw [sizeLine_eq,List.length_map]; omega) ?_)
   rw [CI]
   refine Ay ⟨L++[DI y i],_,_,rfl,by rw [List.map_append]; rfl,by rw [List.length_append,hL]; rfl,hb,?_⟩
   rw [hrun,show n+1-i=(n+1-(i+1))+1 by omega,List.append_assoc]
   rfl
  ·rintro ρ O' ⟨L,y,u,rfl,rfl,hL,hy,hrun⟩
   rw [Ea] at hrun
   have q0:(O++[some (MO.lst (L.map D.int))])[O.length]?=some (some (.lst (L.map D.int))):=AL
   refine Ah (AF (Ac.ev (DY (Aa 2) (by first | exact Or.inl rfl | exact Or.inr (Or.inl rfl) | exact Or.inr (Or.inr ⟨_,rfl,by first | assumption | rfl⟩)) (Cz Af) Ek) ?_))
   rw [show n+1-((n:Int)+1).toNat=0 by omega] at hrun
   have e:run 0 x0 (n+1)=L:=by rw [hrun]; exact List.append_nil _
   have e2:CO L (some 1) none=L.drop 1:=Gb L 1
   rw [e] at hR
   rw [e2]
   exact ⟨⟨_,rfl⟩,Lf _,hR⟩
theorem Vu (Fn:AB K "_law_rule" "_law_rule" Kc f fd) (hm:mg "_law_rule" = some (.ref f)) (hb:Binds K fd ["_law_script"] []) (ja:AE P w K mg base 1 "_law_cell_at" (Bq HG)):AE P w K mg base 2 "_law_rule" (HW OF Ow):=by
 refine BT (k:=1) Fn GH hm hb (λds O R h=>?_) (λcdv A outer s H E ds O R hr h=>?_)
 ·obtain ⟨⟨_,rfl⟩,_⟩:=h; rfl
 ·obtain ⟨⟨ns,rfl⟩,hR⟩:=h
  refine Ah (AA 1 (Ac.ev Af ?_) GH.nd)
  refine Jw (λρ O'=>O'=O/\∃ sc:Int,ρ=[some (.scr (ns.map D.int)),some (.int sc),none]/\1<=sc/\sc<=10) (AZ (Au (Ai (Bc ja (hr.mono wE) (Ab (Aa 0) (Ab Af Ae)) ⟨_,_,rfl,by first | decide | omega,rfl⟩) Af (BF wC)) Af BE) (λ_=>?_) (λ_=>Ay ⟨rfl,1,rfl,by decide,by decide⟩)) ?_
  ·refine Ah (AA 1 (Ac.ev (Ai Af (Ai (Ai (Bc ja (hr.mono wE) (Ab (Aa 0) (Ab Af Ae)) ⟨_,_,rfl,by first | decide | omega,rfl⟩) Af (Ed ⟨wC,wC⟩)) Af (BF wC)) BU) ?_) GH.nd)
   exact Ay ⟨rfl,_,rfl,by omega,by omega⟩
  rintro ρ O' ⟨hO,sc,rfl,h1,h2⟩
  subst hO
  refine Ah (AA 2 (Ac.ev (Ai Af (Ai (Bc ja (hr.mono wE) (Ab (Aa 0) (Ab Af Ae)) ⟨_,_,rfl,by first | decide | omega,rfl⟩) Af (BF wC)) BU) ?_) GH.nd)
  refine Jw (λρ O2=>O2=O'/\∃ b:Int,ρ=[some (.scr (ns.map D.int)),some (.int sc),some (.int b)]/\1<=b/\b<=100) (AZ (Au (Ai (Ai (Bc ja (hr.mono wE) (Ab (Aa 0) (Ab Af Ae)) ⟨_,_,rfl,by first | decide | omega,rfl⟩) Af (Ed ⟨wC,wC⟩)) Af (BF wC)) Af BE) (λ_=>?_) (λ_=>Ay ⟨rfl,_,rfl,by omega,by omega⟩)) ?_
  ·refine Ah (AA 2 (Ac.ev (Ai Af (Ai (Ai (Bc ja (hr.mono wE) (Ab (Aa 0) (Ab Af Ae)) ⟨_,_,rfl,by first | decide | omega,rfl⟩) Af (Ed ⟨wC,wC⟩)) Af (BF wC)) BU) ?_) GH.nd)
   exact Ay ⟨rfl,_,rfl,by omega,by omega⟩
  rintro ρ O2 ⟨hO,b,rfl,h3,h4⟩
  subst hO
  refine Ah (AF (Ac.ev (Ha (Ab (Aa 1) (Ab (Ai (Ai (Bc ja (hr.mono wE) (Ab (Aa 0) (Ab Af Ae)) ⟨_,_,rfl,by first | decide | omega,rfl⟩) Af (Ed ⟨wC,wC⟩)) (Aa 2) (BF wF)) (Ab (Aa 2) Ae)))) (hR _ ⟨sc,_,b,rfl,h1,h2,Int.emod_nonneg _ wF,Int.emod_lt_of_pos _ wF,h4⟩)))
theorem Vx (Fn:AB K "_law_names" "_law_names" Kg f fd) (hm:mg "_law_names" = some (.ref f)) (hb:Binds K fd ["_law_cell","_law_many"] []):AE P w K mg base 1 "_law_names" (HW OG KS):=by
 refine BT (k:=0) Fn DJ hm hb (λds O R h=>?_) (λcdv A outer s H E ds O R hr h=>?_)
 ·obtain ⟨⟨_,_,rfl,_⟩,_⟩:=h; rfl
 ·obtain ⟨⟨c,m,rfl,hm⟩,hR⟩:=h
  refine FF ?_
  refine Ah (AA 2 (Ac.ev Al ?_) DJ.nd)
  refine Ah (AA 3 (Ac.ev (Ai Af (Ai (Aa 0) Af (BF wC)) BU) ?_) DJ.nd)
  have hz:∃ z:Nat,1+c%8=(z:Nat)/\1<=z/\z<=8:=⟨(1+c%8).toNat,by omega,by omega,by omega⟩
  obtain ⟨z,ez,hz1,hz2⟩:=hz
  rw [ez]
  refine Ah (AA 4 (Ac.ev (Ai (Ai (Aa 0) Af (Ed ⟨wC,wC⟩)) (Aa 3) (BF wF)) ?_) DJ.nd)
  have hat0:∃ a0:Nat,c/8%((z:Nat):Int)=(a0:Nat)/\a0<z:=by
   have h1:=Int.emod_nonneg (c/8) (show ((z:Nat):Int)≠0 by omega)
   have h2:=Int.emod_lt_of_pos (c/8) (show (0:Int)<((z:Nat):Int) by omega)
   exact ⟨(c/8%((z:Nat):Int)).toNat,by omega,by omega⟩
  obtain ⟨a0,ea0,ha0⟩:=hat0
  rw [ea0]
  refine Ah (AA 5 (Hc Ae ?_) DJ.nd)
  refine Ah (DH (F8 (Aa 1) T.b_range wC wC) (λi ρ O'=>∃ (nm:List Str) (v6 v7 v8 v9:Option D),ρ=[some (.int c),some (.int (m:Nat)),some (.str "abcdefghijklmnopqrstuvwxyz"),some (.int (z:Nat)),some (.int (a0:Nat)),some (.ptr O.length),v6,v7,v8,v9]/\O'=O++[some (.lst (nm.map D.str))]/\nm.length=i/\(∀ x∈nm,AN x)/\∀ (k:Nat) (x:Str),nm[k]?=some x->x.cps[a0]?=Me ((c/(64+7*((a0:Nat):Int)*(a0:Nat))+(k:Nat))%26)) ⟨[],_,_,_,_,rfl,rfl,rfl,(λx hx=>by cases hx),λk x hx=>by cases hx⟩ ?_ ?_)
  ·rintro i y ρ O' hy ⟨nm,v6,v7,v8,v9,rfl,rfl,hnl,hnm,hnd⟩
   obtain ⟨hi,rfl⟩:=GP hy
   have hi:i<m:=by omega
   refine ⟨_,Bv 6 DJ.nd,?_⟩
   refine Ah (AA 7 (Ac.ev Al ?_) DJ.nd)
   refine Ah (DH (F8 (Aa 3) T.b_range wC wC) (λj ρ O2=>∃ (x:Str) (v8 v9:Option D),ρ=[some (.int c),some (.int (m:Nat)),some (.str "abcdefghijklmnopqrstuvwxyz"),some (.int (z:Nat)),some (.int (a0:Nat)),some (.ptr O.length),some (.int (0+(i:Nat))),some (.str x),v8,v9]/\O2=O++[some (.lst (nm.map D.str))]/\x.length=j/\(∀ ch∈x.cps.toList,ch∈ED)/\(a0<j->x.cps[a0]?=Me ((c/(64+7*((a0:Nat):Int)*(a0:Nat))+(i:Nat))%26))) ⟨"",_,_,rfl,rfl,by decide +kernel,by decide +kernel,λh=>absurd h (Nat.not_lt_zero _)⟩ ?_ ?_)
   ·rintro j y ρ O2 hy ⟨x,v8,v9,rfl,rfl,hxl,hxs,hxd⟩
    obtain ⟨hj,rfl⟩:=GP hy
    have hj:j<z:=by omega
    have m1:IntMulOk 7 (0+(j:Nat)):=DQ (m:=20) (n:=20) wE wE wF wF
    have m2:IntMulOk (7*(0+(j:Nat))) (0+(j:Nat)):=DQ (m:=20) (n:=20) wF wF wF wF
    have hp:0<=7*(0+((j:Nat):Int))*(0+(j:Nat)):=Int.mul_nonneg wF wF
    have hp2:7*(0+((j:Nat):Int))*(0+(j:Nat))<=49*7:=by
     refine Int.le_trans (Int.mul_le_mul_of_nonneg_right (show 7*(0+((j:Nat):Int))<=49 by omega) wF) (Int.mul_le_mul_of_nonneg_left wF wE)
    refine ⟨_,Bv 8 DJ.nd,?_⟩
    refine Ah (AA 9 (Ac.ev (Ai (Ai (Aa 0) (Ai Af (Ai (Ai Af (Aa 8) (CU m1)) (Aa 8) (CU m2)) BU) (Ed ⟨by omega,by omega⟩)) (Ai (Aa 6) (Cf T.b_int (Ab (Ei (Aa 8) (Aa 4) BE) Ae) MN) (CU (EQ.ok (Or.inl ⟨by omega,by omega⟩)))) BU) ?_) DJ.nd)
    generalize hst:c/(64+7*(0+((j:Nat):Int))*(0+(j:Nat)))+(0+((i:Nat):Int))*(if decide (0+((j:Nat):Int)=((a0:Nat):Int))=true then 1 else 0)=st
    have hK:∃ k:Nat,st%26=(k:Nat)/\k<26:=⟨(st%26).toNat,by omega,by omega⟩
    obtain ⟨k,ek,hk⟩:=hK
    obtain ⟨ch,hc1,hc2⟩:=WI k hk
    refine Ah (AA 7 (Ac.ev (Ai (Aa 7) (Ac.cast (d':=.str ⟨#[ch]⟩) (Qf (i:=k) (Aa 2) (Ac.cast (Ai (Aa 9) Af (BF wC)) (congrArg D.int ek)) hc1 (by rw [sizeLine_eq]; decide +kernel)) rfl) (Df (by rw [sizeLine_eq,hxl]; show j+1<=_; omega))) ?_) DJ.nd)
    refine Ay ⟨_,_,_,rfl,rfl,?_,λd hd=>?_,λhlt=>?_⟩
    ·show (x.cps++#[ch]).size=_
     rw [Array.size_append]
     show x.length+1=j+1
     rw [hxl]
    ·have hd:d∈(x.cps++#[ch]).toList:=hd
     rw [Array.toList_append,List.mem_append] at hd
     rcases hd with hd | hd
     ·exact hxs d hd
     ·cases List.mem_singleton.mp hd; exact hc2
    ·show (x.cps++#[ch])[a0]?=_
     have hsz:x.cps.size=j:=hxl
     by_cases h:a0<j
     ·rw [Array.getElem?_append_left wF]
      exact hxd h
     ·have e:a0=j:=by omega
      subst e
      rw [Array.getElem?_append_right wF,hsz,Nat.sub_self]
      rw [Int.zero_add,decide_eq_true rfl,if_pos rfl,Int.mul_one,Int.zero_add] at hst
      rw [hst,ek]
      show some ch=Jd.cps[((k:Nat):Int).toNat]?
      rw [Int.toNat_natCast]
      exact hc1.symm
   ·rintro ρ O2 ⟨x,v8,v9,rfl,rfl,hxl,hxs,hxd⟩
    rw [Ea,Int.toNat_natCast] at hxl hxd
    have hN:AN x:=⟨by omega,by omega,hxs⟩
    refine Ah (FG (Aa 5) AL (Aa 7) (by rw [sizeLine_eq,List.length_map]; omega) ?_)
    rw [CI]
    refine Ay ⟨nm++[_],_,_,_,_,rfl,by rw [List.map_append]; rfl,by rw [List.length_append,hnl]; rfl,λy hy=>?_,λk y hy2=>?_⟩
    ·rcases List.mem_append.mp hy with hy | hy
     ·exact hnm y hy
     ·cases List.mem_singleton.mp hy; exact hN
    ·by_cases h:k<nm.length
     ·rw [List.getElem?_append_left h] at hy2
      exact hnd k y hy2
     ·rw [List.getElem?_append_right wF] at hy2
      have e:k=i:=by
       have:=(List.getElem?_eq_some_iff.mp hy2).1
       have:k-nm.length<1:=this
       omega
      subst e
      rw [hnl,Nat.sub_self] at hy2
      cases hy2
      exact hxd wF
  ·rintro ρ O' ⟨nm,v6,v7,v8,v9,rfl,rfl,hnl,hnm,hnd⟩
   rw [Ea,Int.toNat_natCast] at hnl
   refine Ah (AF (Qh (Aa 5) AL ?_))
   rw [CI]
   refine ⟨⟨_,rfl⟩,Le (λ_=>rfl) _,hR _ ⟨nm,rfl,λc' m' e=>?_,hnm,λc' m' e k x hx=>?_⟩⟩
   ·injection e with _ e; injection e with e _; injection e with e
    omega
   ·injection e with e _; injection e with e
    subst e
    exact ⟨a0,by rw [ez]; exact ea0,hnd k x hx⟩
theorem VA (Fn:AB K "_law_cells" "_law_cells" Kj f fd) (hm:mg "_law_cells" = some (.ref f)) (hb:Binds K fd ["_law_script","_law_first"] []) (ja:AE P w K mg base 1 "_law_cell_at" (Bq HG)) (jv:AE P w K mg base 1 "_law_stream" (Bq JI)):AE P w K mg base 2 "_law_cells" (Bq Oc):=by
 refine BT (k:=1) Fn Oo hm hb (λds O R h=>?_) (λcdv A outer s H E ds O R hr h=>?_)
 ·obtain ⟨_,⟨_,_,rfl,_⟩,_⟩:=h; rfl
 ·obtain ⟨d,⟨ns,f,rfl,rfl⟩,hR⟩:=h
  unfold D2 at hR
  refine Ah (AA 2 (Ac.ev (Bc ja (hr.mono wE) (Ab (Aa 0) (Ab Af Ae)) ⟨_,_,rfl,by first | decide | omega,rfl⟩) ?_) Oo.nd)
  refine Ah (AZ (Au (Ai (Ai (Aa 2) Af (Ed ⟨wC,wC⟩)) Af (BF wC)) Af BE) (λhk=>?_) (λhk=>Ay ?_))
  ·rw [if_pos hk] at hR
   exact Ah (AF (Ac.ev (Bc jv (hr.mono wE) (Ab (Ai (Aa 2) Af (Ed ⟨wC,wC⟩)) (Ab Af Ae)) ⟨_,60,rfl,by decide,rfl⟩) hR))
  ·rw [if_neg (by rw [hk]; exact Bool.false_ne_true)] at hR
   exact Ah (AF (Ac.ev (DY (Aa 0) (by first | exact Or.inl rfl | exact Or.inr (Or.inl rfl) | exact Or.inr (Or.inr ⟨_,rfl,by first | assumption | rfl⟩)) (Cz (Aa 1)) (Cz Af)) hR))
theorem Vt (Fn:AB K "_law_said" "_law_said" Kb f fd) (hm:mg "_law_said" = some (.ref f)) (hb:Binds K fd ["_law_there","_law_numbers","_law_scale"] []):AE P w K mg base 3 "_law_said" N1:=by
 refine BT (k:=2) Fn JX hm hb (λds O R h=>?_) (λcdv A outer s H E ds O R hr h=>?_)
 ·obtain ⟨_,_,_,_,rfl,_⟩:=h; rfl
 ·obtain ⟨ths,nsL,sc,da,rfl,hL,hnd,hl,h60,hs1,hR⟩:=h
  have hlen:(ths.map D.str).length=ths.length:=List.length_map ..
  refine FF ?_
  refine Ah (AA 3 (IM ?_) JX.nd)
  refine Ah (DH (F8 (AQ T.b_len (Ab (Aa 0) Ae) (BH (Or.inl (Pj hL)))) T.b_range (by rw [hlen]; omega) (by rw [hlen]; omega)) (λi ρ O'=>∃ v4:Option D,ρ=[some da,some (.lst (nsL.map D.int)),some (.int sc),some (.ptr O.length),v4]/\O'=O++[some (.dct (((Ci sc ((ths.zip nsL).take i)).map (·.1)).map Sum.inr) (((Ci sc ((ths.zip nsL).take i)).map (·.2)).map D.int))]) ⟨_,rfl,rfl⟩ ?_ ?_)
  ·rintro i z ρ O' hz ⟨v4,rfl,rfl⟩
   obtain ⟨hi,rfl⟩:=GP hz
   have hi:i<ths.length:=by rw [hlen,Int.toNat_natCast] at hi; exact hi
   have a1:Bg (nsL.map D.int) (0+(i:Nat))=some (.int (nsL.getD i 0)):=by rw [Int.zero_add]; exact IZ wF
   have a2:Bg (ths.map D.str) (0+(i:Nat))=some (.str ths[i]):=by rw [Int.zero_add]; exact C5 (by rw [List.getElem?_map,List.getElem?_eq_getElem hi]; rfl)
   have hnot:ths[i]∉ths.take i:=λhm=>by
    obtain ⟨j,hj,e⟩:=List.mem_iff_getElem.mp hm
    rw [List.getElem_take] at e
    rw [List.length_take] at hj
    have:=(List.getElem?_inj (show j<ths.length by omega) hnd).mp (show ths[j]?=ths[i]? by rw [List.getElem?_eq_getElem wF,List.getElem?_eq_getElem hi,e])
    omega
   have hp:(ths.zip nsL)[i]?=some (ths[i],nsL.getD i 0):=List.getElem?_zip_eq_some.mpr ⟨List.getElem?_eq_getElem hi,by rw [List.getD_eq_getElem?_getD,List.getElem?_eq_getElem wF]; rfl⟩
   have htk:(ths.zip nsL).take (i+1)=(ths.zip nsL).take i++[(ths[i],nsL.getD i 0)]:=by rw [List.take_succ,hp]; rfl
   have hsb:=J0 sc ((ths.zip nsL).take i)
   rw [List.map_take,show (ths.zip nsL).map (·.1)=ths from List.map_fst_zip hl] at hsb
   have hkl:=hsb.length_le
   rw [List.length_take] at hkl
   refine ⟨_,Bv 4 JX.nd,?_⟩
   generalize nsL.getD i 0=nn at a1 htk
   refine Ah (AZ (Au (Ai (Az (Aa 1) (by first | exact Or.inl rfl | exact Or.inr (Or.inl rfl) | exact Or.inr (Or.inr ⟨_,rfl,by first | assumption | rfl⟩)) (Aa 4) a1) Af (BF wC)) Af Fq) (λhk=>?_) (λhk=>Ay (Ay ⟨_,rfl,by rw [htk,Op,if_neg (of_decide_eq_false hk),List.append_nil]⟩)))
   have hq:ths[i]∉(Ci sc ((ths.zip nsL).take i)).map (·.1):=λh=>hnot (hsb.subset h)
   generalize ths[i]=x at a2 hnot htk hq
   refine Ah (Hw (k:=.inr x) hr (Ai (Ai (Az (Aa 1) (by first | exact Or.inl rfl | exact Or.inr (Or.inl rfl) | exact Or.inr (Or.inr ⟨_,rfl,by first | assumption | rfl⟩)) (Aa 4) a1) Af (Ed ⟨wC,wC⟩)) (Ai (Aa 2) Af BU) (BF wF)) (Aa 3) AL (Az (Aa 0) (Pj hL) (Aa 4) a2) (by rw [sizeLine_eq,List.length_map]; omega) ?_)
   obtain ⟨p1,p2⟩:=HX (ws:=((Ci sc ((ths.zip nsL).take i)).map (·.2)).map D.int) (w:=D.int (nn/4%(sc+1))) hq
   rw [p1,p2,CI]
   exact Ay (Ay ⟨_,rfl,by rw [htk,Op,if_pos (of_decide_eq_true hk)]; simp only [List.map_append]; rfl⟩)
  ·rintro ρ O' ⟨v4,rfl,rfl⟩
   rw [Ea,hlen,Int.toNat_natCast,List.take_of_length_le (by rw [List.length_zip]; omega)]
   refine Nn 3 rfl AL ?_
   rw [CI]
   refine Ah (AF (Ac.ev (Ac.cast (d':=.dct (((Ci sc (ths.zip nsL)).map (·.1)).map Sum.inr) (((Ci sc (ths.zip nsL)).map (·.2)).map D.int)) (Aa 3) (if_pos rfl)) ?_))
   exact ⟨⟨_,rfl⟩,Lf _,hR⟩
theorem Vz (Fn:AB K "_law_deeds" "_law_deeds" Ki f fd) (hm:mg "_law_deeds" = some (.ref f)) (hb:Binds K fd ["_law_cells_here","_law_names_here","_law_scale"] []) (jv:AE P w K mg base 1 "_law_stream" (Bq JI)) (gd:AE P w K mg base 3 "_law_said" N1):AE P w K mg base 4 "_law_deeds" N9:=by
 refine BT (k:=3) Fn Ew hm hb (λds O R h=>?_) (λcdv A outer s H E ds O R hr h=>?_)
 ·obtain ⟨_,_,_,rfl,_⟩:=h; rfl
 ·obtain ⟨cs,nm,sc,rfl,hcl,hn6,hnm,hs1,hR⟩:=h
  refine FF ?_
  refine Ah (AA 3 (Hc Ae ?_) Ew.nd)
  refine Ah (AA 4 (Hc Ae ?_) Ew.nd)
  refine Ah (AA 5 (Ac.ev Af ?_) Ew.nd)
  rw [GD,List.append_assoc]
  refine Ah (DH (Fj (Aa 0) wB) (λi ρ O'=>∃ (L:List AU) (v6 v7 v8:Option D),L=EH sc nm (cs.take i)/\ρ=[some (.lst (cs.map D.int)),some (.lst (nm.map D.str)),some (.int sc),some (.ptr O.length),some (.ptr (O.length+1)),some (.int (((AT L).2:Nat):Int)),v6,v7,v8]/\O'=O++[some (.lst (L.map dD)),some (.lst ((AT L).1.map D.str))]) ⟨[],_,_,_,rfl,rfl,rfl⟩ ?_ ?_)
  ·rintro i z ρ O' hz ⟨L,v6,v7,v8,hL,rfl,rfl⟩
   rw [List.getElem?_map] at hz
   obtain ⟨c,hc,rfl⟩:=Option.map_eq_some_iff.mp hz
   have hi:=(List.getElem?_eq_some_iff.mp hc).1
   have hG:=PL (sc:=sc) hnm hn6 hs1 (cs.take i)
   have hnx:=YK (sc:=sc) (nm:=nm) hc
   rw [<- hL] at hG hnx
   have hLl:=hG.le
   rw [List.length_take] at hLl
   have hst:=hG.st
   refine ⟨_,Bv 6 Ew.nd,?_⟩
   refine Ah (AA 7 (Ac.ev (Bc jv (hr.mono wE) (Ab (Aa 6) (Ab Af Ae)) ⟨c,9,rfl,by decide,rfl⟩) ?_) Ew.nd)
   have hnl:=JG c 9
   obtain ⟨hx,hxm⟩:=Pc hn6 c
   unfold FI at hnx
   have hxn:=hnm _ hxm
   generalize nX nm c=x at hnx hx hxm hxn
   generalize Ch c 9=nn at hnl hnx hx
   have a0:Bg (nn.map D.int) 0=some (.int (nn.getD 0 0)):=IZ (k:=0) wF
   have a1:Bg (nn.map D.int) 1=some (.int (nn.getD 1 0)):=IZ (k:=1) wF
   have a8:Bg (nn.map D.int) 8=some (.int (nn.getD 8 0)):=IZ (k:=8) wF
   generalize nn.getD 0 0=n0 at a0 hnx
   generalize nn.getD 1 0=n1 at a1 hx
   generalize nn.getD 8 0=n8 at a8 hnx
   refine Ah (AA 8 (Ac.ev (Az (Aa 1) (by first | exact Or.inl rfl | exact Or.inr (Or.inl rfl) | exact Or.inr (Or.inr ⟨_,rfl,by first | assumption | rfl⟩)) (Ai (Az (Aa 7) (by first | exact Or.inl rfl | exact Or.inr (Or.inl rfl) | exact Or.inr (Or.inr ⟨_,rfl,by first | assumption | rfl⟩)) Af a1) Af (BF wC)) hx) ?_) Ew.nd)
   have q1:(O++[some (MO.lst (L.map dD)),some (.lst ((AT L).1.map D.str))])[O.length+1]?=some (some (.lst ((AT L).1.map D.str))):=Gr
   have hle:=hst.le
   have hl20:=hst.l20
   refine Ah (AZ (AO.t (BP (Au (Ai (Az (Aa 7) (by first | exact Or.inl rfl | exact Or.inr (Or.inl rfl) | exact Or.inr (Or.inr ⟨_,rfl,by first | assumption | rfl⟩)) Af a0) Af (BF wC)) Af MD) (λhbb=>(BP (Au (Aa 8) (Aa 4) (Y8 hr (Or.inl rfl) (show B0 (.str x)=true from Ij hxn) (K5 hst.nm) (Nat.le_trans (Nat.min_le_left _ _) (Nat.le_trans (Hg _) wE)) (Or.inr ⟨_,_,rfl,q1,rfl⟩))) (λhbb=>(B6 (Au (Aa 5) Af MD))))))) (λhk=>?_) (λhk=>?_))
   ·have hk:(decide (n0%8<3)&&(!(((AT L).1.map D.str).any λy=>CM y (.str x))&&decide ((((AT L).2:Nat):Int)<20)))=true:=hk
    rw [Hk,Bool.and_eq_true,Bool.and_eq_true,Bool.not_eq_true',decide_eq_false_iff_not,decide_eq_true_eq,decide_eq_true_eq] at hk
    rw [if_pos ⟨hk.1,hk.2.1,by omega⟩] at hnx
    refine Ah (FG (Aa 3) AL (Ha (Ab Al (Ab (Aa 8) Ae))) (by rw [sizeLine_eq,List.length_map]; omega) ?_)
    rw [CI]
    refine Ah (FG (Aa 4) Gr (Aa 8) (by rw [sizeLine_eq,List.length_map]; omega) ?_)
    refine Ah (AA 5 (Ac.ev (Ai (Aa 5) Af BU) ?_) Ew.nd)
    refine Ay (Ay ⟨L++[.come x],_,_,_,hnx.symm,by rw [Du]; rfl,?_⟩)
    rw [ss1,Du,List.map_append]
    show _=O++[_,some (.lst (((AT L).1++[x]).map D.str))]
    rw [List.map_append]
    rfl
   ·have hk:(decide (n0%8<3)&&(!(((AT L).1.map D.str).any λy=>CM y (.str x))&&decide ((((AT L).2:Nat):Int)<20)))=false:=hk
    rw [Hk] at hk
    rw [if_neg (λz=>by rw [decide_eq_true z.1,decide_eq_false z.2.1,decide_eq_true (show (((AT L).2:Nat):Int)<20 by omega)] at hk; cases hk)] at hnx
    refine Ah (AZ (AO.t (BP (Au (Ai (Az (Aa 7) (by first | exact Or.inl rfl | exact Or.inr (Or.inl rfl) | exact Or.inr (Or.inr ⟨_,rfl,by first | assumption | rfl⟩)) Af a0) Af (BF wC)) Af BE) (λhbb=>(B6 (Au (Aa 8) (Aa 4) (QD hr (Or.inl rfl) (show B0 (.str x)=true from Ij hxn) (K5 hst.nm) (Nat.le_trans (Nat.min_le_left _ _) (Nat.le_trans (Hg _) wE)) (Or.inr ⟨_,_,rfl,q1,rfl⟩))))))) (λhk2=>?_) (λhk2=>?_))
    ·have hk2:(decide (n0%8=3)&&(((AT L).1.map D.str).any λy=>CM y (.str x)))=true:=hk2
     rw [Hk,Bool.and_eq_true,decide_eq_true_eq,decide_eq_true_eq] at hk2
     rw [if_pos hk2] at hnx
     refine Ah (FG (Aa 3) AL (Ha (Ab Al (Ab (Aa 8) Ae))) (by rw [sizeLine_eq,List.length_map]; omega) ?_)
     rw [CI]
     refine Ah (RC (Aa 4) Gr (Aa 8) hk2.2 ?_)
     refine Ay (Ay (Ay ⟨L++[.go x],_,_,_,hnx.symm,by rw [Du]; rfl,?_⟩))
     rw [ss1,Du,List.map_append]
     rfl
    ·have hk2:(decide (n0%8=3)&&(((AT L).1.map D.str).any λy=>CM y (.str x)))=false:=hk2
     rw [Hk] at hk2
     rw [if_neg (λz=>by rw [decide_eq_true z.1,decide_eq_true z.2] at hk2; cases hk2)] at hnx
     have h6:(AT L).1.length<=6:=by rw [<- hn6]; exact Ir hst.nd hG.sub
     have q0:(O++[some (MO.lst (L.map dD)),some (.lst ((AT L).1.map D.str))])[O.length]?=some (some (.lst (L.map dD))):=AL
     have e7:CO nn (some 2) none=nn.drop 2:=by rw [show (2:Int)=((2:Nat):Int) from rfl,Gb]
     have h7:(CO nn (some 2) none).length=7:=by rw [e7,List.length_drop]; omega
     refine Ah (RH (Aa 3) (P9 (He (Ac.ev Al (He (Cq gd (hr.mono wE) (Ab (Aa 4) (Ab (DY (Aa 7) (by first | exact Or.inl rfl | exact Or.inr (Or.inl rfl) | exact Or.inr (Or.inr ⟨_,rfl,by first | assumption | rfl⟩)) (Cz Af) Ek) (Ab (Aa 2) Ae))) ⟨(AT L).1,_,sc,_,rfl,Or.inr (Or.inr ⟨_,rfl,q1⟩),hst.nd,by omega,by omega,hs1,BB.as (Ab (Ai (Az (Aa 7) (by first | exact Or.inl rfl | exact Or.inr (Or.inl rfl) | exact Or.inr (Or.inr ⟨_,rfl,by first | assumption | rfl⟩)) Af a8) (Ai (Aa 2) Af BU) (BF wF)) Ae) ⟨by rw [sizeLine_eq]; show 3<=16777216; decide,q0,?_⟩⟩))))) q0 (by rw [sizeLine_eq,List.length_map]; omega))
     rw [CI]
     refine Ay (Ay (Ay ⟨_,_,_,_,hnx.symm,by rw [Du]; rfl,?_⟩))
     rw [Du,List.map_append,e7]
     rfl
  ·rintro ρ O' ⟨L,v6,v7,v8,hL,rfl,rfl⟩
   rw [List.length_map,List.take_length] at hL
   subst hL
   refine Ah (AF (Qh (Aa 3) AL ?_))
   rw [CI]
   exact ⟨⟨_,rfl⟩,Le YU _,hR⟩
theorem Vq (Fn:AB K "law" "law" FQ f fd)  (ja:AE P w K mg base 1 "_law_cell_at" (Bq HG)) (gf:AE P w K mg base 2 "_law_rule" (HW OF Ow)) (ke:AE P w K mg base 1 "_law_names" (HW OG KS)) (gh:AE P w K mg base 2 "_law_cells" (Bq Oc)) (gj:AE P w K mg base 4 "_law_deeds" N9) (gk:AE P w K mg base 16 "_law_done" (N8 CK0)) (gm:AE P w K mg base 1 "_law_odd" N4) (kf:AE P w K mg base 16 "_law_told" (NW ⟨CK0,CK3,CK2,CK5,CK7⟩)) (kh:Jl P w K mg base CK0 5 "Book" (HE CK0 CK4)) (jg:DF P w K mg base CK0 1 "there" (HC CK0)) (jf:DF P w K mg base CK0 1 "ever" (HF CK0)) (ki:DF P w K mg base CK0 1 "weights" (NV CK0)):AI P w K mg base BM 21 f fd ["_law_script"] (Cc K Gw):=by
 refine GU (k:=20) Fn Db (λds O R h=>?_) (λcdv A outer s H E ds O R hr h=>?_)
 ·obtain ⟨_,rfl,_⟩:=h; rfl
 ·obtain ⟨ns,rfl,hl,hR⟩:=h
  refine FF ?_
  refine Ah (Jy (Cq gf (hr.mono wE) (Ab (Aa 0) Ae) ⟨⟨ns,rfl⟩,λd hd=>?_⟩))
  obtain ⟨sc,t,b,rfl,hf⟩:=hd
  have hs1:=hf.s1; have hs2:=hf.s2
  have hsc:1<=sc/\sc<=10:=⟨hs1,hs2⟩
  have hsz:=sizeLine_eq
  refine ⟨_,Gq (Dt (Bv 1 Db.nd) (Dt (Bv 2 Db.nd) (Dt (Bv 3 Db.nd) Gp))),?_⟩
  refine Ah (AA 4 (Yh (He (Qd kh.ok (hr.mono wE) (Ab (Aa 1) (Ab (Aa 2) (Ab (Aa 3) Ae))) ⟨O.length,.i sc,.i t,.i b,rfl,AL,λs' t' b' e1 e2 e3 _=>?_,λz=>absurd ((Pe hf).symm.trans z) wE⟩))) Db.nd)
  injection e1 with e1; injection e2 with e2; injection e3 with e3
  subst e1; subst e2; subst e3
  refine ⟨rfl,?_⟩
  rw [GD,List.append_assoc,show ([some (MO.ins CK0 [])]++[some (MO.dct [] [])]:Ad)=[some (MO.ins CK0 []),some (MO.dct [] [])] from rfl,CI]
  refine He (Qd kh.ok (hr.mono wE) (Ab (Aa 1) (Ab (Aa 2) (Ab (Aa 3) Ae))) ⟨(O++[some (MO.ins CK0 (AM sc t b (O.length+1) 1 0)),some (MO.dct [] [])]).length,.i sc,.i t,.i b,rfl,AL,λs' t' b' e1 e2 e3 _=>?_,λz=>absurd ((Pe hf).symm.trans z) wE⟩)
  injection e1 with e1; injection e2 with e2; injection e3 with e3
  subst e1; subst e2; subst e3
  refine ⟨rfl,?_⟩
  rw [GD,List.append_assoc,show ([some (MO.ins CK0 [])]++[some (MO.dct [] [])]:Ad)=[some (MO.ins CK0 []),some (MO.dct [] [])] from rfl,CI]
  refine BB.as Ae ⟨by show 2<=sizeLine; omega,?_⟩
  have hln:(O++[some (MO.ins CK0 (AM sc t b (O.length+1) 1 0)),some (MO.dct [] [])]).length=O.length+2:=by rw [List.length_append]; rfl
  have hTw:Tw CK0 ((O++[some (MO.ins CK0 (AM sc t b (O.length+1) 1 0)),some (MO.dct [] [])])++[some (MO.ins CK0 (AM sc t b ((O++[some (MO.ins CK0 (AM sc t b (O.length+1) 1 0)),some (MO.dct [] [])]).length+1) 1 0)),some (MO.dct [] [])]) O.length O.length (O.length+1) (O++[some (MO.ins CK0 (AM sc t b (O.length+1) 1 0)),some (MO.dct [] [])]).length ((O++[some (MO.ins CK0 (AM sc t b (O.length+1) 1 0)),some (MO.dct [] [])]).length+1) sc t b ([],0) [] 1 0:=
   ⟨⟨Cm AL,Cm Gr,rfl,List.nodup_nil⟩,⟨AL,Gr,rfl,List.nodup_nil⟩,by omega,by omega,by omega,by omega,by omega,by omega,⟨(λx hx=>by cases hx),by decide,by decide +kernel⟩⟩
  have hkq:Kq O.length O ((O++[some (MO.ins CK0 (AM sc t b (O.length+1) 1 0)),some (MO.dct [] [])])++[some (MO.ins CK0 (AM sc t b ((O++[some (MO.ins CK0 (AM sc t b (O.length+1) 1 0)),some (MO.dct [] [])]).length+1) 1 0)),some (MO.dct [] [])]):=Kq.app (Kq.app ⟨Nat.le_refl _,λ_ _=>rfl⟩)
  generalize (O++[some (MO.ins CK0 (AM sc t b (O.length+1) 1 0)),some (MO.dct [] [])])++[some (MO.ins CK0 (AM sc t b ((O++[some (MO.ins CK0 (AM sc t b (O.length+1) 1 0)),some (MO.dct [] [])]).length+1) 1 0)),some (MO.dct [] [])]=O2 at hTw hkq
  generalize (O++[some (MO.ins CK0 (AM sc t b (O.length+1) 1 0)),some (MO.dct [] [])]).length=q2 at hTw
  obtain ⟨q1,hq1⟩:∃ q1,q1=O.length:=⟨_,rfl⟩
  have hTw:Tw CK0 O2 O.length q1 (O.length+1) q2 (q2+1) sc t b ([],0) [] 1 0:=by rw [hq1]; exact hTw
  rw [show D.ptr O.length=D.ptr q1 by rw [hq1]]
  refine Ah (Jy (Cq ke (hr.mono wE) (Ab (Bc ja (hr.mono wE) (Ab (Aa 0) (Ab Af Ae)) ⟨_,_,rfl,by first | decide | omega,rfl⟩) (Ab Af Ae)) ⟨⟨_,6,rfl,by decide⟩,λd hd=>?_⟩))
  obtain ⟨nm,rfl,hl6,hnm,hsg⟩:=hd
  have hl6:=hl6 _ 6 rfl
  have hsg:=hsg _ _ rfl
  obtain ⟨x0,x1,x2,x3,x4,x5,rfl⟩:=Te hl6
  refine ⟨_,Bv 5 Db.nd,?_⟩
  refine Ah (AA 6 (Yj (Ra:=λd O'=>O'=O2/\KS [.int (EI ns 2),.int ((8:Nat):Int)] d) (Cq ke (hr.mono wE) (Ab (Bc ja (hr.mono wE) (Ab (Aa 0) (Ab Af Ae)) ⟨_,_,rfl,by first | decide | omega,rfl⟩) (Ab Af Ae)) ⟨⟨_,8,rfl,by decide⟩,λd hd=>⟨rfl,hd⟩⟩) (λda O' h=>?_)) Db.nd)
  obtain ⟨hO',nm8,rfl,hl8,hnm8,hsg8⟩:=h
  subst hO'
  have hl8:=hl8 _ 8 rfl
  have hsg8:=hsg8 _ _ rfl
  obtain ⟨aw,g7⟩:∃ x,nm8[7]?=some x:=⟨_,List.getElem?_eq_getElem wF⟩
  refine ⟨_,7,.str aw,rfl,Af,C5 (j:=7) (by rw [List.getElem?_map,g7]; rfl),?_⟩
  have haw:=hnm8 aw (List.mem_of_getElem? g7)
  have hawS:=hsg8 7 aw g7
  have hx0:=hnm x0 List.mem_cons_self
  have s0:=hsg 0 x0 rfl
  have s1:=hsg 1 x1 rfl
  have s2:=hsg 2 x2 rfl
  have s3:=hsg 3 x3 rfl
  have s4:=hsg 4 x4 rfl
  have s5:=hsg 5 x5 rfl
  have hmem:∀ y∈[x1,x2,x3,x4,x5,x1],∃ k:Nat,1<=k/\k<=5/\Sg (EI ns 2) k y:=λy hy=>by
   simp only [List.mem_cons,List.not_mem_nil,or_false] at hy
   rcases hy with rfl | rfl | rfl | rfl | rfl | rfl
   ·exact ⟨1,by decide,by decide,s1⟩
   ·exact ⟨2,by decide,by decide,s2⟩
   ·exact ⟨3,by decide,by decide,s3⟩
   ·exact ⟨4,by decide,by decide,s4⟩
   ·exact ⟨5,by decide,by decide,s5⟩
   ·exact ⟨1,by decide,by decide,s1⟩
  have hn0:x0∉[x1,x2,x3,x4,x5,x1]:=λz=>by
   obtain ⟨k,k1,k2,hk⟩:=hmem x0 z
   exact (s0.ne hk wE wF wF) rfl
  have hna:aw∉[x1,x2,x3,x4,x5,x1]:=λz=>by
   obtain ⟨k,k1,k2,hk⟩:=hmem aw z
   exact (hawS.ne hk wE wF wF) rfl
  have hna0:aw≠x0:=hawS.ne s0 wE wE wE
  have hnm':∀ x∈[x1,x2,x3,x4,x5,x1],AN x:=λx hx=>hnm x (by
   simp only [List.mem_cons,List.not_mem_nil,or_false] at hx ⊢
   rcases hx with rfl | rfl | rfl | rfl | rfl | rfl <;> simp)
  have hcl:(D2 ns 5).length<=63:=by rcases Zf 5 hl with h | h <;> omega
  have hG:=PL (sc:=sc) hnm' rfl hs1 (D2 ns 5)
  have hLl:=hG.le
  have h0:Bg (([x0,x1,x2,x3,x4,x5]:List Str).map D.str) 0=some (.str x0):=C5 (j:=0) rfl
  have ecut:CO [x0,x1,x2,x3,x4,x5] (some 1) none++CO [x0,x1,x2,x3,x4,x5] (some 1) (some 2)=[x1,x2,x3,x4,x5,x1]:=rfl
  clear hmem s0 s1 s2 s3 s4 s5 hsg hsg8 hawS hnm8 g7 hl8
  refine Ah (AA 7 (Ac.ev (Ac.cast (d':=.lst ((AU.come x0::EH sc [x1,x2,x3,x4,x5,x1] (D2 ns 5)).map dD)) (Ai (BQ (Ab (Ha (Ab Al (Ab (Az (Aa 5) (by first | exact Or.inl rfl | exact Or.inr (Or.inl rfl) | exact Or.inr (Or.inr ⟨_,rfl,by first | assumption | rfl⟩)) Af h0) Ae))) Ae)) (F7 (λd:AU=>dD d) ["_law_deed"] [] [] (Fj (Ev.evp (Cq gj (hr.mono wE) (Ab (Bc gh (hr.mono wE) (Ab (Aa 0) (Ab Af Ae)) ⟨_,_,rfl,rfl⟩) (Ab (Ai (DY (Aa 5) (by first | exact Or.inl rfl | exact Or.inr (Or.inl rfl) | exact Or.inr (Or.inr ⟨_,rfl,by first | assumption | rfl⟩)) (Cz Af) Ek) (DY (Aa 5) (by first | exact Or.inl rfl | exact Or.inr (Or.inl rfl) | exact Or.inr (Or.inr ⟨_,rfl,by first | assumption | rfl⟩)) (Cz Af) (Cz Af)) (V9 (f:=D.str) (by show 5+1<=sizeLine; omega))) (Ab (Aa 1) Ae))) ⟨D2 ns 5,[x1,x2,x3,x4,x5,x1],sc,by rw [ecut],hcl,rfl,hnm',hs1,rfl,rfl⟩)) wB) (by rw [sizeLine_eq]; omega) (by exact λq hq s H fp=>⟨[some _],rfl,(Bv 0 (show List.Nodup (["_law_deed"]:List Str) by decide +kernel)),⟨_,rfl,(Aa 0)⟩⟩)) (Dz (by rw [List.length_map]; show 1+_<=_; omega))) rfl) ?_) Db.nd)
  generalize EH sc [x1,x2,x3,x4,x5,x1] (D2 ns 5)=L at hG hLl
  have hll:(((AU.come x0::L).map dD).length:Nat)=L.length+1:=by rw [List.length_map]; rfl
  refine Ah (AA 8 (Ac.ev (Ai (Bc ja (hr.mono wE) (Ab (Aa 0) (Ab Af Ae)) ⟨_,_,rfl,by first | decide | omega,rfl⟩) (AQ T.b_len (Ab (Aa 7) Ae) (BH (by first | exact Or.inr rfl | exact Or.inl (Or.inl rfl) | exact Or.inl (Or.inr (Or.inl rfl)) | exact Or.inl (Or.inr (Or.inr ⟨_,rfl,by first | assumption | rfl⟩))))) (BF (by rw [hll]; omega))) ?_) Db.nd)
  generalize EI ns 3%((((AU.come x0::L).map dD).length:Nat):Int)=DI
  refine Ah (DH (F8 (AQ T.b_len (Ab (Aa 7) Ae) (BH (by first | exact Or.inr rfl | exact Or.inl (Or.inl rfl) | exact Or.inl (Or.inr (Or.inl rfl)) | exact Or.inl (Or.inr (Or.inr ⟨_,rfl,by first | assumption | rfl⟩))))) T.b_range (by rw [hll]; omega) (by rw [hll]; omega)) (λi ρ O'=>(∃ v9 v10 v11:Option D,ρ=[some (.scr (ns.map D.int)),some (.int sc),some (.int t),some (.int b),some (.lst [.ptr q1,.ptr q2]),some (.lst ([x0,x1,x2,x3,x4,x5].map D.str)),some (.str aw),some (.lst ((AU.come x0::L).map dD)),some (.int DI),v9,v10,v11])/\Kq O.length O O'/\∃ n1 n2 ws u,Tw CK0 O' O.length q1 n1 q2 n2 sc t b (sF x0 L i) ws u i) ⟨⟨_,_,_,rfl⟩,hkq,_,_,_,_,hTw⟩ ?_ ?_)
  ·clear hTw hkq
   rintro i z ρ O' hz ⟨⟨v9,v10,v11,rfl⟩,hkq,n1,n2,ws,u,hTw⟩
   obtain ⟨hi,rfl⟩:=GP hz
   rw [hll,Int.toNat_natCast] at hi
   obtain ⟨d,hd⟩:∃ d,(AU.come x0::L)[i]?=some d:=⟨_,List.getElem?_eq_getElem (show i<(AU.come x0::L).length by rw [List.length_cons]; exact hi)⟩
   have hat:Bg ((AU.come x0::L).map dD) (0+((i:Nat):Int))=some (dD d):=by rw [Int.zero_add]; exact C5 (by rw [List.getElem?_map,hd]; rfl)
   obtain ⟨hD,hnx⟩:=T3 hG hx0 hn0 hd
   have hst:=Oq hG hx0 hn0 i
   refine ⟨_,Bv 9 Db.nd,?_⟩
   refine Ah (RE (R:=λkk O3=>kk=false/\Kq O.length O O3/\∃ n1 n2 ws u,Tw CK0 O3 O.length q1 n1 q2 n2 sc t b (sF x0 L (i+1)) ws u (i+1))
    (Yq (Yr (Cq gk (hr.mono wE) (Ab (Az (Aa 4) (by first | exact Or.inl rfl | exact Or.inr (Or.inl rfl) | exact Or.inr (Or.inr ⟨_,rfl,by first | assumption | rfl⟩)) Af rfl) (Ab (Az (Aa 4) (by first | exact Or.inl rfl | exact Or.inr (Or.inl rfl) | exact Or.inr (Or.inr ⟨_,rfl,by first | assumption | rfl⟩)) Af rfl) (Ab (Az (Aa 7) (by first | exact Or.inl rfl | exact Or.inr (Or.inl rfl) | exact Or.inr (Or.inr ⟨_,rfl,by first | assumption | rfl⟩)) (Aa 9) hat) (Ab (Ei (Ai (Ai (Bc ja (hr.mono wE) (Ab (Aa 0) (Ab Af Ae)) ⟨_,_,rfl,by first | decide | omega,rfl⟩) (Aa 9) BU) Af (BF wC)) Af BE) Ae)))) ⟨O.length,q1,n1,q2,n2,i,sc,t,b,u,_,ws,d,_,rfl,hTw,hf,by omega,hst,hD,λO3 m1 m2 ws' u' kq tw=>⟨true,rfl,rfl,hkq.trans kq,m1,m2,ws',u',by rw [<- hnx]; exact tw⟩⟩)))
    (λkk O3 ⟨ek,kq,hh⟩=>⟨(λz=>by rw [ek] at z; cases z),λ_=>Ay ?_⟩))
   obtain ⟨n1,n2,ws,u,hTw⟩:=hh
   refine Ah (AZ (AO.t (Ce (Au (Aa 9) (Aa 8) BE) (λhbb=>(Dh (Au (Ai (Aa 9) Af BU) (AQ T.b_len (Ab (Aa 7) Ae) (BH (by first | exact Or.inr rfl | exact Or.inl (Or.inl rfl) | exact Or.inl (Or.inr (Or.inl rfl)) | exact Or.inl (Or.inr (Or.inr ⟨_,rfl,by first | assumption | rfl⟩))))) BE))))) (λ_=>?_) (λ_=>Ay (Ay ⟨⟨_,_,_,rfl⟩,kq,n1,n2,ws,u,hTw⟩)))
   refine Ah (Jy (Cq gm (hr.mono wE) (Ab (Bc ja (hr.mono wE) (Ab (Aa 0) (Ab Af Ae)) ⟨_,_,rfl,by first | decide | omega,rfl⟩) (Ab (Az (Aa 5) (by first | exact Or.inl rfl | exact Or.inr (Or.inl rfl) | exact Or.inr (Or.inr ⟨_,rfl,by first | assumption | rfl⟩)) Af h0) (Ab (Aa 6) (Ab (Aa 1) Ae)))) ⟨_,sc,x0,aw,rfl,hx0,haw,hsc,λj Y hj=>⟨_,Gq (Dt (Bv 10 Db.nd) (Dt (Bv 11 Db.nd) Gp)),?_⟩⟩))
   have hTw:=hTw.app (Y:=Y)
   have kq:=kq.app (Y:=Y)
   generalize O3++Y=O4 at hTw kq
   have h84:FE ⟨CK0,CK3,CK2,CK5,CK7⟩ O4 q2 n2 sc t b u _ (sF x0 L (i+1)).1 ws x0 aw:=⟨hTw.B2,hsc,λw hw=>(hTw.w.w w hw).1,hx0,List.mem_cons_self,haw,λz=>by
    rcases List.mem_cons.mp z with z | z
    ·exact hna0 z
    ·exact hna (EV hG i aw z)⟩
   have el:(("come " : Str)).length=5:=by decide +kernel
   have hx8:=hx0.l2
   refine Ah (AZ (Ax.cast (k':=false) (AO.t (Ce (Au (Ev.evp (Cq kf (hr.mono wE) (Ab (Az (Aa 4) (by first | exact Or.inl rfl | exact Or.inr (Or.inl rfl) | exact Or.inr (Or.inr ⟨_,rfl,by first | assumption | rfl⟩)) Af rfl) (Ab (Aa 10) Ae)) ⟨q2,n2,sc,t,b,u,_,_,ws,_,_,_,F9 j,rfl,hTw.B2,V6 h84 j hj,Yt _ j,rfl,rfl⟩)) (Aa 11) IT) (λhbb=>(Dh (Au (Ev.evp (Cq kf (hr.mono wE) (Ab (Az (Aa 4) (by first | exact Or.inl rfl | exact Or.inr (Or.inl rfl) | exact Or.inr (Or.inr ⟨_,rfl,by first | assumption | rfl⟩)) Af rfl) (Ab (Ai Al (Az (Aa 5) (by first | exact Or.inl rfl | exact Or.inr (Or.inl rfl) | exact Or.inr (Or.inr ⟨_,rfl,by first | assumption | rfl⟩)) Af h0) (Df wF)) Ae)) ⟨q2,n2,sc,t,b,u,_,_,ws,_,_,_,"twice",rfl,hTw.B2,Ys h84,.inr (.inr (.inr ⟨rfl,rfl,rfl⟩)),rfl,rfl⟩)) Al IT))))) (by rw [beq_self_eq_true,beq_self_eq_true]; rfl)) (λhk=>by cases hk) (λ_=>Ay ?_))
   exact Ay (Ay ⟨⟨_,_,_,rfl⟩,kq,n1,n2,ws,u,hTw⟩)
  ·clear hTw hkq
   rintro ρ O' ⟨⟨v9,v10,v11,rfl⟩,hkq,n1,n2,ws,u,hTw⟩
   have hst:=Oq hG hx0 hn0 (Eb 0 ((((AU.come x0::L).map dD).length:Nat):Int).toNat).length
   generalize (Eb 0 ((((AU.come x0::L).map dD).length:Nat):Int).toNat).length=m at hTw hst
   generalize sF x0 L m=s0 at hTw hst
   have hle:=hst.le
   have hPL:=SR hst.nm
   refine Ah (AZ (Ax.cast (k':=false) (AO.t (Ce (Au (Ev.evp (DZ jg (hr.mono wE) (Az (Aa 4) (by first | exact Or.inl rfl | exact Or.inr (Or.inl rfl) | exact Or.inr (Or.inr ⟨_,rfl,by first | assumption | rfl⟩)) Af rfl) hTw.B1.q (AW _ _ _ _ _ _ wD) ⟨q1,n1,sc,t,b,u,_,s0.1,ws,rfl,hTw.B1,by omega,rfl,rfl⟩)) (Ev.evp (DZ jg (hr.mono wE) (Az (Aa 4) (by first | exact Or.inl rfl | exact Or.inr (Or.inl rfl) | exact Or.inr (Or.inr ⟨_,rfl,by first | assumption | rfl⟩)) Af rfl) hTw.B2.q (AW _ _ _ _ _ _ wD) ⟨q2,n2,sc,t,b,u,_,s0.1,ws,rfl,hTw.B2,by omega,rfl,rfl⟩)) (Y9 hr (Or.inl rfl) (Or.inl rfl) hPL hPL (Nat.le_trans (Nat.min_le_left _ _) (Nat.le_trans (Nat.succ_le_succ (Hg _)) wE)))) (λhbb=>(Dh (Au (Ev.evp (DZ jf (hr.mono wE) (Az (Aa 4) (by first | exact Or.inl rfl | exact Or.inr (Or.inl rfl) | exact Or.inr (Or.inr ⟨_,rfl,by first | assumption | rfl⟩)) Af rfl) hTw.B1.q (AW _ _ _ _ _ _ wD) ⟨q1,n1,sc,t,b,u,_,s0.1,ws,rfl,hTw.B1,rfl,rfl⟩)) (Ev.evp (DZ jf (hr.mono wE) (Az (Aa 4) (by first | exact Or.inl rfl | exact Or.inr (Or.inl rfl) | exact Or.inr (Or.inr ⟨_,rfl,by first | assumption | rfl⟩)) Af rfl) hTw.B2.q (AW _ _ _ _ _ _ wD) ⟨q2,n2,sc,t,b,u,_,s0.1,ws,rfl,hTw.B2,rfl,rfl⟩)) Fp))))) (by rw [Yv,decide_eq_true rfl]; rfl)) (λhk=>by cases hk) (λ_=>Ay ?_))
   have hnd:(s0.1.map (Sum.inr:Str->Ak)).Nodup:=List.Pairwise.map _ (λa b h z=>h (Sum.inr.inj z)) hTw.B1.nd
   have hB2:=hTw.B2.app [some (MO.dct (s0.1.map Sum.inr) (ws.map D.int))]
   refine Ah (AF (Mt (Ra:=λd O1=>d=.tup [.ptr O'.length,.int u]/\O1=O'++[some (MO.dct (s0.1.map Sum.inr) (ws.map D.int))]) (DZ ki (hr.mono wE) (Az (Aa 4) (by first | exact Or.inl rfl | exact Or.inr (Or.inl rfl) | exact Or.inr (Or.inr ⟨_,rfl,by first | assumption | rfl⟩)) Af rfl) hTw.B1.q (AW _ _ _ _ _ _ wD) ⟨q1,n1,sc,t,b,u,_,s0.1,ws,rfl,hTw.B1,rfl,rfl⟩) (λda O1 h=>?_)))
   obtain ⟨rfl,rfl⟩:=h
   refine DZ ki (hr.mono wE) (Az (Aa 4) (by first | exact Or.inl rfl | exact Or.inr (Or.inl rfl) | exact Or.inr (Or.inr ⟨_,rfl,by first | assumption | rfl⟩)) Af rfl) hB2.q (AW _ _ _ _ _ _ wD) ⟨q2,n2,sc,t,b,u,_,s0.1,ws,rfl,hB2,_,Zb hr (.inl (Or.inr ⟨_,rfl,Cm AL⟩)) (.inl (Or.inr ⟨_,rfl,AL⟩)) hnd,?_⟩
   exact ⟨(hkq.app.app).up ⟨[],(List.append_nil _).symm⟩ (Nat.le_refl _),rfl,hR⟩
end
theorem FY {α:Type} {us:List α} (h:us.length=1):∃ x0,us=[x0]:=by
 match us,h with
 | [x0],_=>exact ⟨_,rfl⟩
theorem C0 {α:Type} {us:List α} (h:us.length=2):∃ x0 x1,us=[x0,x1]:=by
 match us,h with
 | [x0,x1],_=>exact ⟨_,_,rfl⟩
theorem Iu {α:Type} {us:List α} (h:us.length=3):∃ x0 x1 x2,us=[x0,x1,x2]:=by
 match us,h with
 | [x0,x1,x2],_=>exact ⟨_,_,_,rfl⟩
theorem Mg {α:Type} {us:List α} (h:us.length=4):∃ x0 x1 x2 x3,us=[x0,x1,x2,x3]:=by
 match us,h with
 | [x0,x1,x2,x3],_=>exact ⟨_,_,_,_,rfl⟩
def FD (K:PySem.W.Frag) (x:Str) (st:Stmt) (f:Addr):Prop:=PySem.W.nsIn K mainGlobals x=some (some (.ref f))/\∃ fd,AB K x x st f fd
def FM (K:PySem.W.Frag) (C:Addr) (x q:Str) (st:Stmt) (f:Addr):Prop:=PySem.W.findIn K (.ref C) x=some (some (.ref f))/\PySem.W.isFn K (.ref f)=true/\∃ fd,AB K x q st f fd
section
variable {K:PySem.W.Frag} {C:Addr} {x q:Str} {st:Stmt} {f:Addr} {oc:Value} {od an:Option Addr} {osl:Array (Option Value)} {kV doc pm cdv ct:Value}
theorem fd_mk (a:PySem.W.nsIn K mainGlobals x=some (some (.ref f))) (l:K.lookup f=some ⟨oc,od,.func (PySem.W.fnOf x x (D1 st) (CN st) (Av st) .none kV doc pm an cdv ct),osl⟩) (c:PySem.W.codeIn K cdv x=true) (k:PySem.W.keepIn K (.ref f)=true):FD K x st f:=⟨a,_,IE l c k⟩
theorem fm_mk (a:PySem.W.findIn K (.ref C) x=some (some (.ref f))) (i:PySem.W.isFn K (.ref f)=true) (l:K.lookup f=some ⟨oc,od,.func (PySem.W.fnOf x q (D1 st) (CN st) (Av st) .none kV doc pm an cdv ct),osl⟩) (c:PySem.W.codeIn K cdv q=true) (k:PySem.W.keepIn K (.ref f)=true):FM K C x q st f:=⟨a,i,_,IE l c k⟩
end
section
variable {P:Program} {w:World} {K:PySem.W.Frag} {mg:Str->Option Value} {base:Heap} {x q:Str} {st:Stmt} {f:Addr} {fd:FuncData} {ps:List Str} {k:Nat} {sp:A7}
theorem BI (E:AB K x q st f fd) (h:∀ (kV doc pm:Value) (an:Option Addr) (cdv ct:Value) (us:List Value),us.length=ps.length->bindArgs (PySem.W.fnOf x q (D1 st) (CN st) (Av st) .none kV doc pm an cdv ct) ⟨us,[]⟩=pure (ps.zip us):=by intro _ _ _ _ _ _ us hl; first | (obtain ⟨_,rfl⟩:=FY hl; rfl) | (obtain ⟨_,_,rfl⟩:=C0 hl; rfl) | (obtain ⟨_,_,_,rfl⟩:=Iu hl; rfl) | (obtain ⟨_,_,_,_,rfl⟩:=Mg hl; rfl)):L2.Binds K fd ps []:=E.binds h
theorem Lo {C:Addr} (W:AI P w K mg base BM k f fd ps (Cc K sp)) (a:PySem.W.findIn K (.ref C) x=some (some (.ref f))) (i:PySem.W.isFn K (.ref f)=true) (E:PySem.W.keepIn K (.ref f)=true) (b:L2.Binds K fd ps []) (c:CF K C):DF P w K mg base C k x sp:=⟨⟨_,_,_,W,⟨a,i,E⟩,b⟩,c⟩
end
def NZ (K:PySem.W.Frag) (x:Str):Prop:=PySem.W.nsIn K mainGlobals x=some none
def CB (K:PySem.W.Frag) (C:Addr):Prop:=PySem.W.plainGet K C Str.empty=true/\PySem.W.hasDictIn K C=true/\PySem.W.plainOver K C=true/\PySem.W.findIn K (.ref C) "__setattr__" = some (some (.builtin "object.__setattr__"))/\PySem.W.findIn K (.ref C) "__class__" = some (some (.builtin "object.__class__"))/\PySem.W.mroIn K C (.type "object")=some true
theorem CB.ty {K:PySem.W.Frag} {C:Addr} (h:CB K C) (gn:PySem.W.specialIn K (.builtin "object.__class__") "__get__" = some (some (.builtin "getset_descriptor.__get__"))) (gt:PySem.W.takesIn K (.builtin "object.__class__")=some true):Rq K C:=⟨⟨h.1,h.2.1,h.2.2.1,h.2.2.2.1⟩,h.2.2.2.2.1,gn,gt,h.2.2.2.2.2⟩
theorem all_mk {l:PySem.W.OpenLaw} {w:World} {K:PySem.W.Frag} {h:Heap} {mg:Str->Option Value} {fa:Addr} (X:K.In h) (G:h.Ns mainGlobals mg) (hfa:mg "law" = some (.ref fa)) {f2 f3 f4 f5 f6 f7 f8 f9 f10 f11 f12 f13 f14 f15 f16 f17 f18 f19 f20 f21 f22 f23 f24 f25 f26 f27 f28 f29 f30 f31 f32 f33 f34 f35 f36 f37 f38 f39 f40 f41 f42 f43 f44 f45 f46 f47:Addr} {f0 f1:Addr} {od0 an0 od1 an1:Option Addr} {sl0 GD:Array (Option Value)} {oc0 kV0 dc0 pm0 cd0 ct0 oc1 kV1 dc1 pm1 cd1 ct1:Value} {CK0 CK1 CK5 CK3 CK2 CK7 CK4 CK6:Addr} {tk0:Tok} {tk1:Tok} {tk2:Tok} {tk3:Tok} {tk4:Tok} {tk5:Tok} {nm_NoTurn qn_NoTurn:Str} {N_NoTurn:Addr} {bs_NoTurn sub_NoTurn:List Value} {sn_NoTurn:List Str} {ab_NoTurn:Bool} {col_NoTurn:Option Bool} {dd_NoTurn:Option Addr} {ka_NoTurn kb_NoTurn kc_NoTurn kd_NoTurn ke_NoTurn:Option Value} {nm_NoRow qn_NoRow:Str} {N_NoRow:Addr} {bs_NoRow sub_NoRow:List Value} {sn_NoRow:List Str} {ab_NoRow:Bool} {col_NoRow:Option Bool} {dd_NoRow:Option Addr} {ka_NoRow kb_NoRow kc_NoRow kd_NoRow ke_NoRow:Option Value}
  (aC0:PySem.W.nsIn K mainGlobals "Book" = some (some (.ref CK0)))
  (aE_HeedError:PySem.W.nsIn K mainGlobals "HeedError" = some (some (.ref CK1)))
  (aE_NoTurn:PySem.W.nsIn K mainGlobals "NoTurn" = some (some (.ref CK5)))
  (aE_NoRow:PySem.W.nsIn K mainGlobals "NoRow" = some (some (.ref CK3)))
  (aE_NoName:PySem.W.nsIn K mainGlobals "NoName" = some (some (.ref CK2)))
  (aE_Twice:PySem.W.nsIn K mainGlobals "Twice" = some (some (.ref CK7)))
  (aE_NoRule:PySem.W.nsIn K mainGlobals "NoRule" = some (some (.ref CK4)))
  (aE_NoWay:PySem.W.nsIn K mainGlobals "NoWay" = some (some (.ref CK6)))
  (a0:PySem.W.findIn K (.ref CK5) "__init__" = some (some (.ref f0)))
  (i0:PySem.W.isFn K (.ref f0)=true)
  (l0:K.lookup f0=some ⟨oc0,od0,.func (PySem.W.fnOf "__init__" "NoTurn.__init__" (D1 FR) (CN FR) (Av FR) .none kV0 dc0 pm0 an0 cd0 ct0),sl0⟩)
  (c0:PySem.W.codeIn K cd0 "NoTurn.__init__" = true)
  (k0:PySem.W.keepIn K (.ref f0)=true)
  (a1:PySem.W.findIn K (.ref CK3) "__init__" = some (some (.ref f1)))
  (i1:PySem.W.isFn K (.ref f1)=true)
  (l1:K.lookup f1=some ⟨oc1,od1,.func (PySem.W.fnOf "__init__" "NoRow.__init__" (D1 FS) (CN FS) (Av FS) .none kV1 dc1 pm1 an1 cd1 ct1),GD⟩)
  (c1:PySem.W.codeIn K cd1 "NoRow.__init__" = true)
  (k1:PySem.W.keepIn K (.ref f1)=true)
  (d2:FD K "is_whole" Kl f2)
  (d3:FD K "check_within" Kr f3)
  (d4:FD K "check_scale" Ku f4)
  (d5:FD K "check_fraction" Kx f5)
  (d6:FD K "is_on_scale" Km f6)
  (d7:FD K "is_name" Kn f7)
  (d8:FD K "check_name" Kw f8)
  (d9:FD K "check_there" Ks f9)
  (d10:FD K "check_speakers" Kt f10)
  (d11:FD K "check_numbers" Kv f11)
  (d12:FD K "counted" Kp f12)
  (d13:FD K "middle" J8 f13)
  (d14:FD K "power" J6 f14)
  (d15:FD K "charge" Ky f15)
  (d16:FD K "times_awake" J2 f16)
  (d17:FD K "times_asleep" J3 f17)
  (d18:FD K "times" J4 f18)
  (d19:FM K CK0 "__init__" "Book.__init__" KN f19)
  (d20:FM K CK0 "come" "Book.come" KL f20)
  (d21:FM K CK0 "go" "Book.go" KJ f21)
  (d22:FM K CK0 "there" "Book.there" KA f22)
  (d23:FM K CK0 "ever" "Book.ever" KK f23)
  (d24:FM K CK0 "weights" "Book.weights" Kz f24)
  (d25:FM K CK0 "say" "Book.say" KH f25)
  (d26:FM K CK0 "charge_for" "Book.charge_for" KM f26)
  (d27:FM K CK0 "hear" "Book.hear" KI f27)
  (d28:FD K "is_in_figures" Ko f28)
  (d29:FD K "words_of" J1 f29)
  (d30:FD K "number_of" J7 f30)
  (d31:FD K "said_of" J5 f31)
  (d32:FM K CK0 "tell_come" "Book.tell_come" KD f32)
  (d33:FM K CK0 "tell_go" "Book.tell_go" KC f33)
  (d34:FM K CK0 "tell_so" "Book.tell_so" KB f34)
  (d35:FM K CK0 "tell" "Book.tell" KG f35)
  (d36:FD K "_law_pairs" Ke f36)
  (d37:FD K "_law_done" Kh f37)
  (d38:FD K "_law_odd" Kf f38)
  (d39:FD K "_law_told" J9 f39)
  (d40:FD K "_law_cell_at" Kk f40)
  (d41:FD K "_law_stream" Ka f41)
  (d42:FD K "_law_rule" Kc f42)
  (d43:FD K "_law_names" Kg f43)
  (d44:FD K "_law_cells" Kj f44)
  (d45:FD K "_law_said" Kb f45)
  (d46:FD K "_law_deeds" Ki f46)
  (d47:FD K "law" FQ f47)
  (cb0:CB K CK0)
  (n0_scale:B8 K CK0 "scale")
  (n0_top:B8 K CK0 "top")
  (n0_bottom:B8 K CK0 "bottom")
  (n0_tops:B8 K CK0 "tops")
  (n0_under:B8 K CK0 "under")
  (n0_came:B8 K CK0 "came")
  (mk0:PySem.W.makesIn K CK0=true)
  (kc0:PySem.W.keepIn K (.ref CK0)=true)
  (Tga_NoTurn:PySem.W.findIn K (.ref CK5) "__getattribute__" = some (some (.builtin "BaseException.__getattribute__")))
  (Thk_NoTurn:PySem.W.findIn K (.ref CK5) "__getattr__" = some none)
  (Tmb_NoTurn:PySem.W.mroIn K CK5 (.type "BaseException")=some true)
  (Tmo_NoTurn:PySem.W.mroIn K CK5 (.type "object")=some true)
  (Tca_NoTurn:PySem.W.findIn K (.ref CK5) "__class__" = some (some (.builtin "object.__class__")))
  (Thd_NoTurn:PySem.W.hasDictIn K CK5=true)
  (Ll_NoTurn:K.lookup CK5=some (excClassObj nm_NoTurn qn_NoTurn CK5 N_NoTurn bs_NoTurn (.ref CK1::B7) true sn_NoTurn sub_NoTurn ab_NoTurn col_NoTurn dd_NoTurn ka_NoTurn kb_NoTurn kc_NoTurn kd_NoTurn ke_NoTurn "ValueError.__new__"))
  (Tsa_NoTurn:PySem.W.findIn K (.ref CK5) "__setattr__" = some (some (.builtin "object.__setattr__")))
  (Tkp_NoTurn:PySem.W.keepIn K (.ref CK5)=true)
  (Tga_NoRow:PySem.W.findIn K (.ref CK3) "__getattribute__" = some (some (.builtin "BaseException.__getattribute__")))
  (Thk_NoRow:PySem.W.findIn K (.ref CK3) "__getattr__" = some none)
  (Tmb_NoRow:PySem.W.mroIn K CK3 (.type "BaseException")=some true)
  (Tmo_NoRow:PySem.W.mroIn K CK3 (.type "object")=some true)
  (Tca_NoRow:PySem.W.findIn K (.ref CK3) "__class__" = some (some (.builtin "object.__class__")))
  (Thd_NoRow:PySem.W.hasDictIn K CK3=true)
  (Ll_NoRow:K.lookup CK3=some (excClassObj nm_NoRow qn_NoRow CK3 N_NoRow bs_NoRow (.ref CK1::B7) true sn_NoRow sub_NoRow ab_NoRow col_NoRow dd_NoRow ka_NoRow kb_NoRow kc_NoRow kd_NoRow ke_NoRow "ValueError.__new__"))
  (Tsa_NoRow:PySem.W.findIn K (.ref CK3) "__setattr__" = some (some (.builtin "object.__setattr__")))
  (Tkp_NoRow:PySem.W.keepIn K (.ref CK3)=true)
  (Tga_NoName:PySem.W.findIn K (.ref CK2) "__getattribute__" = some (some (.builtin "BaseException.__getattribute__")))
  (Thk_NoName:PySem.W.findIn K (.ref CK2) "__getattr__" = some none)
  (Tmb_NoName:PySem.W.mroIn K CK2 (.type "BaseException")=some true)
  (Tmo_NoName:PySem.W.mroIn K CK2 (.type "object")=some true)
  (Tca_NoName:PySem.W.findIn K (.ref CK2) "__class__" = some (some (.builtin "object.__class__")))
  (Thd_NoName:PySem.W.hasDictIn K CK2=true)
  (Tga_Twice:PySem.W.findIn K (.ref CK7) "__getattribute__" = some (some (.builtin "BaseException.__getattribute__")))
  (Thk_Twice:PySem.W.findIn K (.ref CK7) "__getattr__" = some none)
  (Tmb_Twice:PySem.W.mroIn K CK7 (.type "BaseException")=some true)
  (Tmo_Twice:PySem.W.mroIn K CK7 (.type "object")=some true)
  (Tca_Twice:PySem.W.findIn K (.ref CK7) "__class__" = some (some (.builtin "object.__class__")))
  (Thd_Twice:PySem.W.hasDictIn K CK7=true)
  (Tga_NoRule:PySem.W.findIn K (.ref CK4) "__getattribute__" = some (some (.builtin "BaseException.__getattribute__")))
  (Thk_NoRule:PySem.W.findIn K (.ref CK4) "__getattr__" = some none)
  (Tmb_NoRule:PySem.W.mroIn K CK4 (.type "BaseException")=some true)
  (Tmo_NoRule:PySem.W.mroIn K CK4 (.type "object")=some true)
  (Tca_NoRule:PySem.W.findIn K (.ref CK4) "__class__" = some (some (.builtin "object.__class__")))
  (Thd_NoRule:PySem.W.hasDictIn K CK4=true)
  (Ee_HeedError:PySem.W.excIn K CK1 B7 "ValueError.__new__" = true)
  (En_NoTurn_number:PySem.W.findIn K (.ref CK5) "number" = some none)
  (Ex_NoTurn_HeedError:PySem.W.exmOne K (.ref CK5) (.ref CK1)=some true)
  (Ei_NoTurn_NoRow:PySem.W.kitOne K (.ref CK5) (.ref CK3)=some false)
  (Ei_NoTurn_NoName:PySem.W.kitOne K (.ref CK5) (.ref CK2)=some false)
  (Ei_NoTurn_NoTurn:PySem.W.kitOne K (.ref CK5) (.ref CK5)=some true)
  (Ei_NoTurn_Twice:PySem.W.kitOne K (.ref CK5) (.ref CK7)=some false)
  (Ei_NoTurn_NoRule:PySem.W.kitOne K (.ref CK5) (.ref CK4)=some false)
  (Ei_NoTurn_NoWay:PySem.W.kitOne K (.ref CK5) (.ref CK6)=some false)
  (En_NoRow_number:PySem.W.findIn K (.ref CK3) "number" = some none)
  (Ex_NoRow_HeedError:PySem.W.exmOne K (.ref CK3) (.ref CK1)=some true)
  (Ei_NoRow_NoRow:PySem.W.kitOne K (.ref CK3) (.ref CK3)=some true)
  (Ei_NoRow_NoName:PySem.W.kitOne K (.ref CK3) (.ref CK2)=some false)
  (Ei_NoRow_NoTurn:PySem.W.kitOne K (.ref CK3) (.ref CK5)=some false)
  (Ei_NoRow_Twice:PySem.W.kitOne K (.ref CK3) (.ref CK7)=some false)
  (Ei_NoRow_NoRule:PySem.W.kitOne K (.ref CK3) (.ref CK4)=some false)
  (Ei_NoRow_NoWay:PySem.W.kitOne K (.ref CK3) (.ref CK6)=some false)
  (Ee_NoName:PySem.W.excIn K CK2 B7 "ValueError.__new__" = true)
  (Ex_NoName_HeedError:PySem.W.exmOne K (.ref CK2) (.ref CK1)=some true)
  (Ei_NoName_NoRow:PySem.W.kitOne K (.ref CK2) (.ref CK3)=some false)
  (Ei_NoName_NoName:PySem.W.kitOne K (.ref CK2) (.ref CK2)=some true)
  (Ei_NoName_NoTurn:PySem.W.kitOne K (.ref CK2) (.ref CK5)=some false)
  (Ei_NoName_Twice:PySem.W.kitOne K (.ref CK2) (.ref CK7)=some false)
  (Ei_NoName_NoRule:PySem.W.kitOne K (.ref CK2) (.ref CK4)=some false)
  (Ei_NoName_NoWay:PySem.W.kitOne K (.ref CK2) (.ref CK6)=some false)
  (Ee_Twice:PySem.W.excIn K CK7 B7 "ValueError.__new__" = true)
  (Ex_Twice_HeedError:PySem.W.exmOne K (.ref CK7) (.ref CK1)=some true)
  (Ei_Twice_NoRow:PySem.W.kitOne K (.ref CK7) (.ref CK3)=some false)
  (Ei_Twice_NoName:PySem.W.kitOne K (.ref CK7) (.ref CK2)=some false)
  (Ei_Twice_NoTurn:PySem.W.kitOne K (.ref CK7) (.ref CK5)=some false)
  (Ei_Twice_Twice:PySem.W.kitOne K (.ref CK7) (.ref CK7)=some true)
  (Ei_Twice_NoRule:PySem.W.kitOne K (.ref CK7) (.ref CK4)=some false)
  (Ei_Twice_NoWay:PySem.W.kitOne K (.ref CK7) (.ref CK6)=some false)
  (Ee_NoRule:PySem.W.excIn K CK4 B7 "ValueError.__new__" = true)
  (gn:PySem.W.specialIn K (.builtin "object.__class__") "__get__" = some (some (.builtin "getset_descriptor.__get__")))
  (gt:PySem.W.takesIn K (.builtin "object.__class__")=some true)
  (z0:NZ K "len")
  (z1:NZ K "tuple")
  (z2:NZ K "list")
  (z3:NZ K "sum")
  (z4:NZ K "zip")
  (z5:NZ K "sorted")
  (z6:NZ K "range")
  (z7:NZ K "isinstance")
  (z8:NZ K "int")
  (z9:NZ K "bool")
  (z10:NZ K "str")
  (z11:NZ K "dict")
  (z12:NZ K "all")
  (z13:NZ K "abs")
  (y0:PySem.W.nsIn K mainGlobals "MOST_SCALE" = some (some (.int 10 tk0)))
  (y1:PySem.W.nsIn K mainGlobals "MOST_BOTTOM" = some (some (.int 100 tk1)))
  (y2:PySem.W.nsIn K mainGlobals "LETTERS" = some (some (.str "abcdefghijklmnopqrstuvwxyz" tk2)))
  (y3:PySem.W.nsIn K mainGlobals "MOST_LETTERS" = some (some (.int 8 tk3)))
  (y4:PySem.W.nsIn K mainGlobals "FIGURES" = some (some (.str "0123456789" tk4)))
  (y5:PySem.W.nsIn K mainGlobals "MOST_FIGURES" = some (some (.int 60 tk5))) :
  ∃ fd:FuncData,(∀ (s:Shared) (v:Value),BindsTo s fd ⟨[v],[]⟩ [("_law_script",v)])/\∀ base:Heap,K.In base->base.Ns mainGlobals mg->AI l.prog w K mg base BM 21 fa fd ["_law_script"] (Cc K Gw):=by
 obtain ⟨a47,_,E47⟩:=d47
 have e:=hfa.symm.trans (PySem.W.mg_of X G a47)
 cases e
 have T:Cr K mg CK0 CK1 CK5 CK3 CK2 CK7 CK4 CK6:=⟨PySem.W.mg_none_of X G z0,PySem.W.mg_none_of X G z1,PySem.W.mg_none_of X G z2,PySem.W.mg_none_of X G z3,PySem.W.mg_none_of X G z4,PySem.W.mg_none_of X G z5,PySem.W.mg_none_of X G z6,PySem.W.mg_none_of X G z7,PySem.W.mg_none_of X G z8,PySem.W.mg_none_of X G z9,PySem.W.mg_none_of X G z10,PySem.W.mg_none_of X G z11,PySem.W.mg_none_of X G z12,PySem.W.mg_none_of X G z13,⟨_,PySem.W.mg_of X G y0⟩,⟨_,PySem.W.mg_of X G y1⟩,⟨_,PySem.W.mg_of X G y2⟩,⟨_,PySem.W.mg_of X G y3⟩,⟨_,PySem.W.mg_of X G y4⟩,⟨_,PySem.W.mg_of X G y5⟩,cb0.ty gn gt,PySem.W.mg_of X G aC0,n0_scale,n0_top,n0_bottom,n0_tops,n0_under,n0_came,PySem.W.mg_of X G aE_HeedError,Ee_HeedError,PySem.W.mg_of X G aE_NoTurn,⟨Tga_NoTurn,Thk_NoTurn,Tmb_NoTurn,Tmo_NoTurn,Tca_NoTurn,gn,gt,Thd_NoTurn⟩,En_NoTurn_number,Ex_NoTurn_HeedError,Ei_NoTurn_NoRow,Ei_NoTurn_NoName,Ei_NoTurn_NoTurn,Ei_NoTurn_Twice,Ei_NoTurn_NoRule,Ei_NoTurn_NoWay,PySem.W.mg_of X G aE_NoRow,⟨Tga_NoRow,Thk_NoRow,Tmb_NoRow,Tmo_NoRow,Tca_NoRow,gn,gt,Thd_NoRow⟩,En_NoRow_number,Ex_NoRow_HeedError,Ei_NoRow_NoRow,Ei_NoRow_NoName,Ei_NoRow_NoTurn,Ei_NoRow_Twice,Ei_NoRow_NoRule,Ei_NoRow_NoWay,PySem.W.mg_of X G aE_NoName,Ee_NoName,⟨Tga_NoName,Thk_NoName,Tmb_NoName,Tmo_NoName,Tca_NoName,gn,gt,Thd_NoName⟩,Ex_NoName_HeedError,Ei_NoName_NoRow,Ei_NoName_NoName,Ei_NoName_NoTurn,Ei_NoName_Twice,Ei_NoName_NoRule,Ei_NoName_NoWay,PySem.W.mg_of X G aE_Twice,Ee_Twice,⟨Tga_Twice,Thk_Twice,Tmb_Twice,Tmo_Twice,Tca_Twice,gn,gt,Thd_Twice⟩,Ex_Twice_HeedError,Ei_Twice_NoRow,Ei_Twice_NoName,Ei_Twice_NoTurn,Ei_Twice_Twice,Ei_Twice_NoRule,Ei_Twice_NoWay,PySem.W.mg_of X G aE_NoRule,Ee_NoRule,⟨Tga_NoRule,Thk_NoRule,Tmb_NoRule,Tmo_NoRule,Tca_NoRule,gn,gt,Thd_NoRule⟩,PySem.W.mg_of X G aE_NoWay⟩
 have E0:=IE (st:=FR) l0 c0 k0
 have b0:=E0.binds (ps:=["self","number"]) λ_ _ _ _ _ _ us hl=>by obtain ⟨_,_,rfl⟩:=C0 hl; rfl
 have E1:=IE (st:=FS) l1 c1 k1
 have b1:=E1.binds (ps:=["self","number"]) λ_ _ _ _ _ _ us hl=>by obtain ⟨_,_,rfl⟩:=C0 hl; rfl
 obtain ⟨a2,_,E2⟩:=d2
 obtain ⟨a3,_,E3⟩:=d3
 have b3:=E3.binds (ps:=["what","value","least","most"]) λ_ _ _ _ _ _ us hl=>by obtain ⟨_,_,_,_,rfl⟩:=Mg hl; rfl
 obtain ⟨a4,_,E4⟩:=d4
 have b4:=E4.binds (ps:=["scale"]) λ_ _ _ _ _ _ us hl=>by obtain ⟨_,rfl⟩:=FY hl; rfl
 obtain ⟨a5,_,E5⟩:=d5
 have b5:=E5.binds (ps:=["top","bottom"]) λ_ _ _ _ _ _ us hl=>by obtain ⟨_,_,rfl⟩:=C0 hl; rfl
 obtain ⟨a6,_,E6⟩:=d6
 obtain ⟨a7,_,E7⟩:=d7
 obtain ⟨a8,_,E8⟩:=d8
 have b8:=E8.binds (ps:=["name"]) λ_ _ _ _ _ _ us hl=>by obtain ⟨_,rfl⟩:=FY hl; rfl
 obtain ⟨a9,_,E9⟩:=d9
 have b9:=E9.binds (ps:=["tops","name"]) λ_ _ _ _ _ _ us hl=>by obtain ⟨_,_,rfl⟩:=C0 hl; rfl
 obtain ⟨a10,_,E10⟩:=d10
 have b10:=E10.binds (ps:=["tops","said"]) λ_ _ _ _ _ _ us hl=>by obtain ⟨_,_,rfl⟩:=C0 hl; rfl
 obtain ⟨a11,_,E11⟩:=d11
 have b11:=E11.binds (ps:=["scale","numbers"]) λ_ _ _ _ _ _ us hl=>by obtain ⟨_,_,rfl⟩:=C0 hl; rfl
 obtain ⟨a12,_,E12⟩:=d12
 obtain ⟨a13,_,E13⟩:=d13
 obtain ⟨a14,_,E14⟩:=d14
 obtain ⟨a15,_,E15⟩:=d15
 obtain ⟨a16,_,E16⟩:=d16
 obtain ⟨a17,_,E17⟩:=d17
 obtain ⟨a18,_,E18⟩:=d18
 obtain ⟨a19,i19,_,E19⟩:=d19
 have b19:=E19.binds (ps:=["self","scale","top","bottom"]) λ_ _ _ _ _ _ us hl=>by obtain ⟨_,_,_,_,rfl⟩:=Mg hl; rfl
 obtain ⟨a20,i20,_,E20⟩:=d20
 have b20:=E20.binds (ps:=["self","name"]) λ_ _ _ _ _ _ us hl=>by obtain ⟨_,_,rfl⟩:=C0 hl; rfl
 obtain ⟨a21,i21,_,E21⟩:=d21
 have b21:=E21.binds (ps:=["self","name"]) λ_ _ _ _ _ _ us hl=>by obtain ⟨_,_,rfl⟩:=C0 hl; rfl
 obtain ⟨a22,i22,_,E22⟩:=d22
 obtain ⟨a23,i23,_,E23⟩:=d23
 obtain ⟨a24,i24,_,E24⟩:=d24
 obtain ⟨a25,i25,_,E25⟩:=d25
 have b25:=E25.binds (ps:=["self","said"]) λ_ _ _ _ _ _ us hl=>by obtain ⟨_,_,rfl⟩:=C0 hl; rfl
 obtain ⟨a26,i26,_,E26⟩:=d26
 have b26:=E26.binds (ps:=["self","said","so"]) λ_ _ _ _ _ _ us hl=>by obtain ⟨_,_,_,rfl⟩:=Iu hl; rfl
 obtain ⟨a27,i27,_,E27⟩:=d27
 have b27:=E27.binds (ps:=["self","said","so"]) λ_ _ _ _ _ _ us hl=>by obtain ⟨_,_,_,rfl⟩:=Iu hl; rfl
 obtain ⟨a28,_,E28⟩:=d28
 obtain ⟨a29,_,E29⟩:=d29
 have b29:=E29.binds (ps:=["row"]) λ_ _ _ _ _ _ us hl=>by obtain ⟨_,rfl⟩:=FY hl; rfl
 obtain ⟨a30,_,E30⟩:=d30
 have b30:=E30.binds (ps:=["word"]) λ_ _ _ _ _ _ us hl=>by obtain ⟨_,rfl⟩:=FY hl; rfl
 obtain ⟨a31,_,E31⟩:=d31
 have b31:=E31.binds (ps:=["words"]) λ_ _ _ _ _ _ us hl=>by obtain ⟨_,rfl⟩:=FY hl; rfl
 obtain ⟨a32,i32,_,E32⟩:=d32
 have b32:=E32.binds (ps:=["self","name"]) λ_ _ _ _ _ _ us hl=>by obtain ⟨_,_,rfl⟩:=C0 hl; rfl
 obtain ⟨a33,i33,_,E33⟩:=d33
 have b33:=E33.binds (ps:=["self","name"]) λ_ _ _ _ _ _ us hl=>by obtain ⟨_,_,rfl⟩:=C0 hl; rfl
 obtain ⟨a34,i34,_,E34⟩:=d34
 have b34:=E34.binds (ps:=["self","said","so"]) λ_ _ _ _ _ _ us hl=>by obtain ⟨_,_,_,rfl⟩:=Iu hl; rfl
 obtain ⟨a35,i35,_,E35⟩:=d35
 have b35:=E35.binds (ps:=["self","row"]) λ_ _ _ _ _ _ us hl=>by obtain ⟨_,_,rfl⟩:=C0 hl; rfl
 obtain ⟨a36,_,E36⟩:=d36
 obtain ⟨a37,_,E37⟩:=d37
 obtain ⟨a38,_,E38⟩:=d38
 obtain ⟨a39,_,E39⟩:=d39
 obtain ⟨a40,_,E40⟩:=d40
 obtain ⟨a41,_,E41⟩:=d41
 obtain ⟨a42,_,E42⟩:=d42
 obtain ⟨a43,_,E43⟩:=d43
 obtain ⟨a44,_,E44⟩:=d44
 obtain ⟨a45,_,E45⟩:=d45
 obtain ⟨a46,_,E46⟩:=d46
 obtain ⟨_,_,kV,dc,pm,an,cd,ct,_,rfl,_,_⟩:=E47.ex
 refine ⟨PySem.W.fnOf "law" "law" (D1 FQ) (CN FQ) (Av FQ) .none kV dc pm an cd ct,λs v=>.of_eq rfl,λbase _ _=>?_⟩
 have Z_NoTurn:EN K CK5 f0 "number" :=⟨⟨_,_,_,_,_,_,_,_,_,_,_,_,_,_,_,Ll_NoTurn,λh X=>NC X Ee_HeedError⟩,a0,beq_iff_eq.mp i0,Tsa_NoTurn,En_NoTurn_number,Tkp_NoTurn⟩
 have gp:AI l.prog w K mg base BM 1 f0 _ ["self","number"] (EW CK5 "number"):=VQ T E0 Z_NoTurn
 have Z_NoRow:EN K CK3 f1 "number" :=⟨⟨_,_,_,_,_,_,_,_,_,_,_,_,_,_,_,Ll_NoRow,λh X=>NC X Ee_HeedError⟩,a1,beq_iff_eq.mp i1,Tsa_NoRow,En_NoRow_number,Tkp_NoRow⟩
 have gq:AI l.prog w K mg base BM 1 f1 _ ["self","number"] (EW CK3 "number"):=VR T E1 Z_NoRow
 have ji:=VC (P:=l.prog) (w:=w) (base:=base) T E2 (PySem.W.mg_of X G a2) (BI E2)
 have jo:A1 l.prog w K mg base 2 "check_within" (HB CK4):=VH T E3 (PySem.W.mg_of X G a3) b3 ji
 have kt:A1 l.prog w K mg base 3 "check_scale" (JK CK4):=VL T E4 (PySem.W.mg_of X G a4) b4 jo
 have ku:A1 l.prog w K mg base 3 "check_fraction" (JO CK4):=VO T E5 (PySem.W.mg_of X G a5) b5 jo
 have kl:=VD T E6 (PySem.W.mg_of X G a6) (BI E6) ji
 have kj:=VE (P:=l.prog) (w:=w) (base:=base) T E7 (PySem.W.mg_of X G a7) (BI E7)
 have jb:A1 l.prog w K mg base 2 "check_name" (GB CK2):=VN T E8 (PySem.W.mg_of X G a8) b8 kj
 have jp:A1 l.prog w K mg base 1 "check_there" (HH CK2):=VI T E9 (PySem.W.mg_of X G a9) b9
 have jw:A1 l.prog w K mg base 3 "check_speakers" (JJ CK2):=VJ T E10 (PySem.W.mg_of X G a10) b10 jb jp
 have J_NoTurn:EM l.prog w K mg base CK5 1 "NoTurn" "number" :=⟨⟨_,_,_,gp,Z_NoTurn,b0⟩,T.t_NoTurn,T.m_NoTurn⟩
 have jk:A1 l.prog w K mg base 3 "check_numbers" (HI CK5):=VM T E11 (PySem.W.mg_of X G a11) b11 kl J_NoTurn
 have km:=VG (P:=l.prog) (w:=w) (base:=base) T E12 (PySem.W.mg_of X G a12) (BI E12)
 have kx:=Vp T E13 (PySem.W.mg_of X G a13) (BI E13) km
 have jd:=Vn (P:=l.prog) (w:=w) (base:=base) T E14 (PySem.W.mg_of X G a14) (BI E14)
 have jt:=VP (P:=l.prog) (w:=w) (base:=base) T E15 (PySem.W.mg_of X G a15) (BI E15)
 have ko:=Vj T E16 (PySem.W.mg_of X G a16) (BI E16) jd
 have kn:=Vk T E17 (PySem.W.mg_of X G a17) (BI E17) jd
 have jy:=Vl T E18 (PySem.W.mg_of X G a18) (BI E18) jt kn ko
 have gr:AI l.prog w K mg base (Bk l.prog w) 5 f19 _ ["self","scale","top","bottom"] (BC K (HE CK0 CK4)):=V4 T E19 kt ku
 have gu:AI l.prog w K mg base (Bk l.prog w) 4 f20 _ ["self","name"] (BC K (Gz CK0 CK2 CK7)):=V2 T E20 jb
 have gv:AI l.prog w K mg base (Bk l.prog w) 4 f21 _ ["self","name"] (BC K (Gy CK0 CK2)):=V0 T E21 jb jp
 have gw:=VT (P:=l.prog) (w:=w) (base:=base) T E22
 have gx:=V1 (P:=l.prog) (w:=w) (base:=base) T E23
 have gy:=VS (P:=l.prog) (w:=w) (base:=base) T E24
 have gz:AI l.prog w K mg base (Bk l.prog w) 5 f25 _ ["self","said"] (BC K (FN CK0 CK2 CK5)):=VY T E25 jw jk kx
 have jc:Bu l.prog w K mg base CK0 5 "say" (FN CK0 CK2 CK5):=⟨⟨_,_,_,gz,⟨a25,i25,E25.kp⟩,b25⟩,T.c_Book.cls⟩
 have za:AI l.prog w K mg base (Bk l.prog w) 7 f26 _ ["self","said","so"] (BC K (GA CK0 CK2 CK5)):=V3 T E26 jt jk jc
 have je:Bu l.prog w K mg base CK0 7 "charge_for" (GA CK0 CK2 CK5):=⟨⟨_,_,_,za,⟨a26,i26,E26.kp⟩,b26⟩,T.c_Book.cls⟩
 have zb:AI l.prog w K mg base (Bk l.prog w) 9 f27 _ ["self","said","so"] (BC K (Gx CK0 CK2 CK5)):=VZ T E27 jy je
 have ky:=VF (P:=l.prog) (w:=w) (base:=base) T E28 (PySem.W.mg_of X G a28) (BI E28)
 have J_NoRow:EM l.prog w K mg base CK3 1 "NoRow" "number" :=⟨⟨_,_,_,gq,Z_NoRow,b1⟩,T.t_NoRow,T.m_NoRow⟩
 have jz:A1 l.prog w K mg base 3 "words_of" (JH CK3):=Vi T E29 (PySem.W.mg_of X G a29) b29 J_NoRow
 have jl:A1 l.prog w K mg base 3 "number_of" (HD CK3):=Vo T E30 (PySem.W.mg_of X G a30) b30 ky J_NoRow
 have jr:A1 l.prog w K mg base 5 "said_of" (JL CK3):=Vm T E31 (PySem.W.mg_of X G a31) b31 jl J_NoRow
 have jn:Bu l.prog w K mg base CK0 4 "come" (Gz CK0 CK2 CK7):=⟨⟨_,_,_,gu,⟨a20,i20,E20.kp⟩,b20⟩,T.c_Book.cls⟩
 have jf:=Lo gx a23 i23 E23.kp (BI E23) T.c_Book.cls
 have zc:AI l.prog w K mg base (Bk l.prog w) 6 f32 _ ["self","name"] (BC K (Gv CK0 CK2 CK7)):=VW T E32 jn jf
 have jq:Bu l.prog w K mg base CK0 4 "go" (Gy CK0 CK2):=⟨⟨_,_,_,gv,⟨a21,i21,E21.kp⟩,b21⟩,T.c_Book.cls⟩
 have jg:=Lo gw a22 i22 E22.kp (BI E22) T.c_Book.cls
 have zd:AI l.prog w K mg base (Bk l.prog w) 6 f33 _ ["self","name"] (BC K (Gu CK0 CK2)):=VV T E33 jq jg
 have ju:Bu l.prog w K mg base CK0 9 "hear" (Gx CK0 CK2 CK5):=⟨⟨_,_,_,zb,⟨a27,i27,E27.kp⟩,b27⟩,T.c_Book.cls⟩
 have ze:AI l.prog w K mg base (Bk l.prog w) 11 f34 _ ["self","said","so"] (BC K (Gs CK0 CK2 CK5)):=VU T E34 je ju
 have kz:Bu l.prog w K mg base CK0 6 "tell_come" (Gv CK0 CK2 CK7):=⟨⟨_,_,_,zc,⟨a32,i32,E32.kp⟩,b32⟩,T.c_Book.cls⟩
 have gc:Bu l.prog w K mg base CK0 6 "tell_go" (Gu CK0 CK2):=⟨⟨_,_,_,zd,⟨a33,i33,E33.kp⟩,b33⟩,T.c_Book.cls⟩
 have jx:Bu l.prog w K mg base CK0 11 "tell_so" (Gs CK0 CK2 CK5):=⟨⟨_,_,_,ze,⟨a34,i34,E34.kp⟩,b34⟩,T.c_Book.cls⟩
 have zg:AI l.prog w K mg base (Bk l.prog w) 13 f35 _ ["self","row"] (BC K (FL ⟨CK0,CK3,CK2,CK5,CK7⟩)):=VX T E35 jz jl jr J_NoRow kz gc jx jc
 have kc:=Vv (P:=l.prog) (w:=w) (base:=base) T E36 (PySem.W.mg_of X G a36) (BI E36)
 have jh:Bu l.prog w K mg base CK0 13 "tell" (FL ⟨CK0,CK3,CK2,CK5,CK7⟩):=⟨⟨_,_,_,zg,⟨a35,i35,E35.kp⟩,b35⟩,T.c_Book.cls⟩
 have gk:=Vy T E37 (PySem.W.mg_of X G a37) (BI E37) kc jn jq jc ju jg jf jh
 have gm:=Vw (P:=l.prog) (w:=w) (base:=base) T E38 (PySem.W.mg_of X G a38) (BI E38)
 have kf:=Vr T E39 (PySem.W.mg_of X G a39) (BI E39) jh
 have ja:=VB (P:=l.prog) (w:=w) (base:=base) T E40 (PySem.W.mg_of X G a40) (BI E40)
 have jv:=Vs (P:=l.prog) (w:=w) (base:=base) T E41 (PySem.W.mg_of X G a41) (BI E41)
 have gf:=Vu T E42 (PySem.W.mg_of X G a42) (BI E42) ja
 have ke:=Vx (P:=l.prog) (w:=w) (base:=base) T E43 (PySem.W.mg_of X G a43) (BI E43)
 have gh:=VA T E44 (PySem.W.mg_of X G a44) (BI E44) ja jv
 have gd:=Vt (P:=l.prog) (w:=w) (base:=base) T E45 (PySem.W.mg_of X G a45) (BI E45)
 have gj:=Vz T E46 (PySem.W.mg_of X G a46) (BI E46) jv gd
 have kh:Jl l.prog w K mg base CK0 5 "Book" (HE CK0 CK4):=⟨⟨_,_,_,gr,⟨mk0,a19,i19,kc0⟩,b19⟩,T.m_Book⟩
 have ki:=Lo gy a24 i24 E24.kp (BI E24) T.c_Book.cls
 exact Vq T E47 ja gf ke gh gj gk gm kf kh jg jf ki
theorem walk {l:PySem.W.OpenLaw} {q:Program} {loose:List Str} {XP:(Str->Option Value)->Heap->Prop} {YP:World->Heap->Prop} {d:DefRec} {K:Params->PySem.W.Frag} (hn:l.most=some 63) (hdf:d.params.defaults=[])
  (hY:∀ (w:World) (h:Heap),YP w h->(K w.params).In h)
  (F:∀ (w:World) (mg:Str->Option Value) (fa:Addr) (h:Heap),(K w.params).In h->h.Ns mainGlobals mg->mg d.name=some (.ref fa)->
   ∃ fd:FuncData,(∀ (s:Shared) (u:Value),BindsTo s fd ⟨[u],[]⟩ [("_law_script",u)])/\∀ base:Heap,(K w.params).In base->base.Ns mainGlobals mg->AI l.prog w (K w.params) mg base BM 21 fa fd ["_law_script"] (Cc (K w.params) Gw)) :
  PySem.W.WalkO q loose XP YP l.row.toRowW d [] (λf vs=>PySem.call f vs):=
 L2.walk_of (n:=63) (k:=21) (x := "_law_script") (CX:=λ_=>BM) (sp:=λw=>Cc (K w.params) Gw) hn wE hdf ⟨rfl,by decide,by decide⟩ hY F (λ_ _ a ns hl _ hS=>WJ hl hS) λ_ _ _ _ _ z=>z
end My
open PySem PySem.W PyProof.Rows
theorem My.walkZ {q:Program} {loose:List Str} {XP:(Str->Option Value)->Heap->Prop} {K:Params->PySem.W.Frag} {as:List Addr} {n t:Nat} {r:RowW} {d:DefRec} {kwd:List (Str×Expr)} {run:Value->List Value->Sem Value} (e:∀ P,as=(K P).map (·.1))
  (h:WalkO q loose XP (λw h=>(K w.params).In h) r d kwd run):WalkX q loose XP (X.obsZ as) (X.valZ K n t) r d kwd run:=λw s₀ s₁ mg mb G y a o pm cd doc dV kV ho hd hcd hD hmg hg args vals as' L hpre hlay hrd hwl hlo=>
 h w s₀ s₁ mg mb G (λb o' e'=>L.keeps _ _ ((X.z_facts e y).2.1 b o' e')) a o pm cd doc dV kV ho hd hcd hD hmg hg args vals as' hpre hlay hrd hwl hlo
def PySem.W.Fast.tw10691775473021728260 : Nat := 0
def PySem.W.Fast.tw13235072925619073020 : Nat := 0
def PySem.W.Fast.tw6073387520636370768 : Nat := 0
def PySem.W.Fast.tw3482353901534300546 : Nat := 0
def PySem.W.Fast.tw4236858854547411926 : Nat := 0
def PySem.W.Fast.tw4489997987278743606 : Nat := 0
def PySem.W.Fast.tw16094714486580600493 : Nat := 0
def PySem.W.Fast.tw687703052600008175 : Nat := 0
def PySem.W.Fast.tw9084231993987094647 : Nat := 0
def PySem.W.Fast.tw17333599890975146564 : Nat := 0
def PySem.W.Fast.tw8954647388286594685 : Nat := 0
def PySem.W.Fast.tw11790836533188378212 : Nat := 0
def PySem.W.Fast.tw14078323454063228291 : Nat := 0
def PySem.W.Fast.tw2497026847943849661 : Nat := 0
def PySem.W.Fast.tw255814612332674882 : Nat := 0
def PySem.W.Fast.tw4585049734137427820 : Nat := 0
def PySem.W.Fast.tw13428020072364750704 : Nat := 0
def PySem.W.Fast.tw17684463991264108735 : Nat := 0
def PySem.W.Fast.tw1860675126365873110 : Nat := 0
def PySem.W.Fast.tw17583295796966912951 : Nat := 0
def PySem.W.Fast.tw15569015597846796185 : Nat := 0
def PySem.W.Fast.tw5513759630051499065 : Nat := 0
def PySem.W.Fast.tw170282582004712389 : Nat := 0
def PySem.W.Fast.tw5343446399474835596 : Nat := 0
def PySem.W.Fast.tw12362813464648295545 : Nat := 0
def PySem.W.Fast.tw4142953631444576196 : Nat := 0
def PySem.W.Fast.tw17329628633223229203 : Nat := 0
def PySem.W.Fast.tw6511079022619464926 : Nat := 0
def PySem.W.Fast.tw6102325670445856183 : Nat := 0
def PySem.W.Fast.tw602026131567844314 : Nat := 0
def PySem.W.Fast.tw10371143766959229188 : Nat := 0
def PySem.W.Fast.tw11738865876761991306 : Nat := 0
def PySem.W.Fast.tw2782073820964544998 : Nat := 0
def PySem.W.Fast.tw5224573231906117804 : Nat := 0
def PySem.W.Fast.tw8660952957792014396 : Nat := 0
def PySem.W.Fast.tw11554674180874855165 : Nat := 0
def PySem.W.Fast.tw17622405613769329218 : Nat := 0
def PySem.W.Fast.tw11840766031512143367 : Nat := 0
def PySem.W.Fast.tw3494085636816312834 : Nat := 0
def PySem.W.Fast.tw17318751620139800837 : Nat := 0
def PySem.W.Fast.tw13548221163065037806 : Nat := 0
def PySem.W.Fast.tw4000357490455609209 : Nat := 0
def PySem.W.Fast.tw2966162622979780251 : Nat := 0
def PySem.W.Fast.tw14295217711565378826 : Nat := 0
def PySem.W.Fast.tw1981974125788727802 : Nat := 0
def PySem.W.Fast.tw15520620391349578254 : Nat := 0
def PySem.W.Fast.tw14945364217425487273 : Nat := 0
def PySem.W.Fast.tw13317275238603399037 : Nat := 0
def PySem.W.Fast.tw10849934799882304273 : Nat := 0
def PySem.W.Fast.tw6299266646957376488 : Nat := 0
def PySem.W.Fast.tw6063555909877498720 : Nat := 0
def PySem.W.Fast.tw8083925482956038823 : Nat := 0
def PySem.W.Fast.tw6319968208227926644 : Nat := 0
def PySem.W.Fast.tw967992155917364757 : Nat := 0
def PySem.W.Fast.tw13665481738938606906 : Nat := 0
def PySem.W.Fast.tw8686633776511976623 : Nat := 0
def PySem.W.Fast.tw4845986341144916217 : Nat := 0
def PySem.W.Fast.tw8744403066596218055 : Nat := 0
def PySem.W.Fast.tw5662329753766746686 : Nat := 0
def PySem.W.Fast.tw1061101819062178726 : Nat := 0
def PySem.W.Fast.tw14399105033740576509 : Nat := 0
def PySem.W.Fast.tw13719199006563953247 : Nat := 0
def PySem.W.Fast.tw13051522239374963169 : Nat := 0
def PySem.W.Fast.tw13947239948706602725 : Nat := 0
def PySem.W.Fast.tw7062395324377420693 : Nat := 0
def PySem.W.Fast.tw5706386612897180047 : Nat := 0
def PySem.W.Fast.tw17360493330510247292 : Nat := 0
def PySem.W.Fast.tw10982337652882099052 : Nat := 0
def PySem.W.Fast.tw3797253956116371701 : Nat := 0
def PySem.W.Fast.tw13123897747132302726 : Nat := 0
def PySem.W.Fast.tw17193107392360779834 : Nat := 0
def PySem.W.Fast.tw5581852054282217795 : Nat := 0
def PySem.W.Fast.tw14384366672880160298 : Nat := 0
def PySem.W.Fast.tw9777527801736732014 : Nat := 0
def PySem.W.Fast.tw12232974470676622882 : Nat := 0
def PySem.W.Fast.tw9844074746465640100 : Nat := 0
def PySem.W.Fast.tw5885540669654610446 : Nat := 0
def PySem.W.Fast.tw14452177175994335914 : Nat := 0
def PySem.W.Fast.tw5113972659127357276 : Nat := 0
def PySem.W.Fast.tw17777214997260760163 : Nat := 0
def PySem.W.Fast.tw13447437344916170409 : Nat := 0
def PySem.W.Fast.tw5609462732539315545 : Nat := 0
def PySem.W.Fast.tw15218781887427309525 : Nat := 0
def PySem.W.Fast.tw9929888499581082351 : Nat := 0
def PySem.W.Fast.tw13803704984512580612 : Nat := 0
def PySem.W.Fast.tw6236017907181347710 : Nat := 0
def PySem.W.Fast.tw11207482293738240322 : Nat := 0
def PySem.W.Fast.tw8978243500427944566 : Nat := 0
def PySem.W.Fast.tw9765907382360036849 : Nat := 0
def PySem.W.Fast.tw12819592343859826368 : Nat := 0
def PySem.W.Fast.tw6557424109991747349 : Nat := 0
def PySem.W.Fast.tw4761333614288292303 : Nat := 0
def PySem.W.Fast.tw3019393664522261702 : Nat := 0
def PySem.W.Fast.tw3144938777379245088 : Nat := 0
def PySem.W.Fast.tw13059828205816970500 : Nat := 0
def PySem.W.Fast.tw2978690580704818575 : Nat := 0
def PySem.W.Fast.tw2558353770010258894 : Nat := 0
def PySem.W.Fast.tw6543037908223682364 : Nat := 0
def PySem.W.Fast.tw14002950013624154830 : Nat := 0
def PySem.W.Fast.tw16406865142052517967 : Nat := 0
def PySem.W.Fast.tw12781715277577241415 : Nat := 0
def PySem.W.Fast.tw11740782982304667648 : Nat := 0
def PySem.W.Fast.tw10816089951868099046 : Nat := 0
def PySem.W.Fast.tw12525172554182248337 : Nat := 0
def PySem.W.Fast.tw4266266004177345701 : Nat := 0
def PySem.W.Fast.tw15216197383881057676 : Nat := 0
def PySem.W.Fast.tw11411051350564535411 : Nat := 0
def PySem.W.Fast.tw4051069024451338525 : Nat := 0
def PySem.W.Fast.tw10614093031205802544 : Nat := 0
def PySem.W.Fast.tw2723685230927286506 : Nat := 0
def PySem.W.Fast.tw7793642241611027977 : Nat := 0
def PySem.W.Fast.tw13021392322780690093 : Nat := 0
def PySem.W.Fast.tw13439005892959534386 : Nat := 0
def PySem.W.Fast.tw13948309696162227769 : Nat := 0
def PySem.W.Fast.tw5816498801670489555 : Nat := 0
def PySem.W.Fast.tw15786290212688937611 : Nat := 0
def PySem.W.Fast.tw8489730186128504585 : Nat := 0
open PySem PySem.W PyProof.Rows
set_option maxRecDepth 100000 in
set_option maxHeartbeats 0 in
theorem PySem.Challenge.cw_heedwise_k84_rows_told_holds : PySem.Challenge.rw_heedwise_k84_rows_told.Holds := by
 w_on; o_law; z_head; (case hw=>w_witness2)
 k_fill
 refine My.walkZ (λP=>rfl) ?_
 refine My.walk (l:=PySem.Challenge.rw_heedwise_k84_rows_told) rfl rfl (λw h Y=>Y) ?F
 case F=>
  intro w mg fa h KX G hmg
  refine' My.all_mk KX G hmg ?aC0 ?aE_HeedError ?aE_NoTurn ?aE_NoRow ?aE_NoName ?aE_Twice ?aE_NoRule ?aE_NoWay ?a0 ?i0 ?l0 ?c0 ?k0 ?a1 ?i1 ?l1 ?c1 ?k1 ?d2 ?d3 ?d4 ?d5 ?d6 ?d7 ?d8 ?d9 ?d10 ?d11 ?d12 ?d13 ?d14 ?d15 ?d16 ?d17 ?d18 ?d19 ?d20 ?d21 ?d22 ?d23 ?d24 ?d25 ?d26 ?d27 ?d28 ?d29 ?d30 ?d31 ?d32 ?d33 ?d34 ?d35 ?d36 ?d37 ?d38 ?d39 ?d40 ?d41 ?d42 ?d43 ?d44 ?d45 ?d46 ?d47 ?cb0 ?n0_scale ?n0_top ?n0_bottom ?n0_tops ?n0_under ?n0_came ?mk0 ?kc0 ?Tga_NoTurn ?Thk_NoTurn ?Tmb_NoTurn ?Tmo_NoTurn ?Tca_NoTurn ?Thd_NoTurn ?Ll_NoTurn ?Tsa_NoTurn ?Tkp_NoTurn ?Tga_NoRow ?Thk_NoRow ?Tmb_NoRow ?Tmo_NoRow ?Tca_NoRow ?Thd_NoRow ?Ll_NoRow ?Tsa_NoRow ?Tkp_NoRow ?Tga_NoName ?Thk_NoName ?Tmb_NoName ?Tmo_NoName ?Tca_NoName ?Thd_NoName ?Tga_Twice ?Thk_Twice ?Tmb_Twice ?Tmo_Twice ?Tca_Twice ?Thd_Twice ?Tga_NoRule ?Thk_NoRule ?Tmb_NoRule ?Tmo_NoRule ?Tca_NoRule ?Thd_NoRule ?Ee_HeedError ?En_NoTurn_number ?Ex_NoTurn_HeedError ?Ei_NoTurn_NoRow ?Ei_NoTurn_NoName ?Ei_NoTurn_NoTurn ?Ei_NoTurn_Twice ?Ei_NoTurn_NoRule ?Ei_NoTurn_NoWay ?En_NoRow_number ?Ex_NoRow_HeedError ?Ei_NoRow_NoRow ?Ei_NoRow_NoName ?Ei_NoRow_NoTurn ?Ei_NoRow_Twice ?Ei_NoRow_NoRule ?Ei_NoRow_NoWay ?Ee_NoName ?Ex_NoName_HeedError ?Ei_NoName_NoRow ?Ei_NoName_NoName ?Ei_NoName_NoTurn ?Ei_NoName_Twice ?Ei_NoName_NoRule ?Ei_NoName_NoWay ?Ee_Twice ?Ex_Twice_HeedError ?Ei_Twice_NoRow ?Ei_Twice_NoName ?Ei_Twice_NoTurn ?Ei_Twice_Twice ?Ei_Twice_NoRule ?Ei_Twice_NoWay ?Ee_NoRule ?gn ?gt ?z0 ?z1 ?z2 ?z3 ?z4 ?z5 ?z6 ?z7 ?z8 ?z9 ?z10 ?z11 ?z12 ?z13 ?y0 ?y1 ?y2 ?y3 ?y4 ?y5
  case aC0|aE_HeedError|aE_NoTurn|aE_NoRow|aE_NoName|aE_Twice|aE_NoRule|aE_NoWay=>
   k_is
  case d2|d3|d4|d5|d6|d7|d8|d9|d10|d11|d12|d13|d14|d15|d16|d17|d18|d28|d29|d30|d31|d36|d37|d38|d39|d40|d41|d42|d43|d44|d45|d46|d47=>
   refine' My.fd_mk ?a ?l ?c ?k
   case a|l|c|k=>k_is
  case d19|d20|d21|d22|d23|d24|d25|d26|d27|d32|d33|d34|d35=>
   refine' My.fm_mk ?a ?i ?l ?c ?k
   case a|i|l|c|k=>k_is
  case cb0=>
   refine ⟨?_,?_,?_,?_,?_,?_⟩ <;> k_is
  case a0|i0|l0|c0|k0|a1|i1|l1|c1|k1|mk0|kc0|Tga_NoTurn|Thk_NoTurn|Tmb_NoTurn|Tmo_NoTurn|Tca_NoTurn|Thd_NoTurn|Ll_NoTurn|Tsa_NoTurn|Tkp_NoTurn|Tga_NoRow|Thk_NoRow|Tmb_NoRow|Tmo_NoRow|Tca_NoRow|Thd_NoRow|Ll_NoRow|Tsa_NoRow|Tkp_NoRow|Tga_NoName|Thk_NoName|Tmb_NoName|Tmo_NoName|Tca_NoName|Thd_NoName|Tga_Twice|Thk_Twice|Tmb_Twice|Tmo_Twice|Tca_Twice|Thd_Twice|Tga_NoRule|Thk_NoRule|Tmb_NoRule|Tmo_NoRule|Tca_NoRule|Thd_NoRule|En_NoTurn_number|En_NoRow_number|gn|gt|y0|y1|y2|y3|y4|y5=>
   k_is
  case n0_scale|n0_top|n0_bottom|n0_tops|n0_under|n0_came|z0|z1|z2|z3|z4|z5|z6|z7|z8|z9|z10|z11|z12|z13=>
   (show _=_; k_is)
  case Ei_NoTurn_NoRow|Ei_NoTurn_NoName|Ei_NoTurn_NoTurn|Ei_NoTurn_Twice|Ei_NoTurn_NoRule|Ei_NoTurn_NoWay|Ei_NoRow_NoRow|Ei_NoRow_NoName|Ei_NoRow_NoTurn|Ei_NoRow_Twice|Ei_NoRow_NoRule|Ei_NoRow_NoWay|Ei_NoName_NoRow|Ei_NoName_NoName|Ei_NoName_NoTurn|Ei_NoName_Twice|Ei_NoName_NoRule|Ei_NoName_NoWay|Ei_Twice_NoRow|Ei_Twice_NoName|Ei_Twice_NoTurn|Ei_Twice_Twice|Ei_Twice_NoRule|Ei_Twice_NoWay=>
   kit_is
  case Ee_HeedError|Ee_NoName|Ee_Twice|Ee_NoRule=>
   k_exc
  case Ex_NoTurn_HeedError|Ex_NoRow_HeedError|Ex_NoName_HeedError|Ex_Twice_HeedError=>
   exact Eq.refl _
